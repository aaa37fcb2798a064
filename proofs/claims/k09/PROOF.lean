import PyProof.Rows.All
import Wide.All
import OpenK.AllK
import Wide.FinOn
import HandS.ForMost
import HandS.AnyAll
import HandS.GenList
import HandS.Lambda
import HandS.EndTab
import HandS.ForExc
import HandS.IsInst
import HandS.TupAny
import HandS.Wide
import HandS.Conv
import HandS.Style
import HandS.TupMul
import HandS.SetFor
import HandS.EndBits
import HandS.HotCalls
import HandS.ExcIs
import HandS.DictTup
import HandS.DictEq
import HandS.DictComp
import HandS.TupLen
import HandS.SortOrd
import HandS.TupSets
import KE.KDictDisplayH
import KE.KDictCopyH
import KE.KDictWalk
import KE.KDictList
import HandS.Keys
import HandS.SortRule
import HandS.TupLe
import KE.KSortTup
import PyProof.Rows.SortKeyStr
import HandS.Walk
import KE.LtData
import HandS.Iter
import HandS.DictSubView
import KE.KEqDict
import HandS.ListEq
import HandS.Deep
import HandS.Defaults
import KE.KNestM
import PySem.Challenge.RW_laidtrees_k09_whole_views
set_option Elab.async false
set_option linter.all false
set_option maxRecDepth 100000
set_option maxHeartbeats 4000000
/-! all(elt for x in iter), any(..): the element may call defs, allocate, and let tables of code objects grow. -/
namespace GA
open PySem PySem.Spec PyProof.Rows L2 GenW

/-- the context of the generator's own frame, resumed within A -/
abbrev gcx (X : Cx) (A : Around) (s : Shared) (H : Hp) (ge : Env) (N : List Str) (fp : List Addr) (pn : List (Addr × Obj)) : Cx :=
  { X with
    A := A, N := N, s_0 := s, H_0 := H, env := ge, outer := X.stack, stack := ge :: X.stack,
    ex := fp, fn := fun _ => false, calm := true, pn := pn, xe := fun _ _ => False }

/-- the names of the generator's frame: those of the def (N0), pad more slots, its own name x at slot j -/
structure GN (N0 : List Str) (sc scope : Scope) (x : Str) (N : List Str) (pad j : Nat) : Prop where
  kind : scope.kind = .function
  co : scope.isCoroutine = false
  cell : ∀ y ∈ scope.names, y.2 ≠ .cell
  dot : scope.names.lookup (".0" : Str) = some NameKind.local
  loc : scope.names.lookup x = some .local
  only : ∀ y ∈ scope.names, y.2 = .local → y.1 = x ∨ y.1 ∉ N
  free : ∀ y ∈ scope.names, y.2 = .free → sc.names.lookup y.1 = some .cell ∨ sc.names.lookup y.1 = some .free
  nd : N.Nodup
  jx : N[j]? = some x
  len : N.length = N0.length + pad
  pre : N.take N0.length = N0

/-- the slots of the generator's frame -/
abbrev gsl (σ : L2.St) (pad j : Nat) (v : Option V) : L2.St := (σ ++ List.replicate pad none).set j v

section
variable {X : Cx} {pins : List (Addr × Obj)} {σ : L2.St} {H : Hp} {s : Shared}

theorem gfree {N : List Str} {scope : Scope} {x : Str} {pad j : Nat} (I : Inv X pins σ H s) (G : GN X.N X.env.scope scope x N pad j) :
    ∀ y ∈ scope.names, y.2 = .free → ∃ c, X.env.cells.lookup y.1 = some c := by
  intro y hy e
  rcases G.free y hy e with h | h
  · exact I.ok.has _ (Or.inl h)
  · exact I.ok.has _ (Or.inr h)

/-- the frame has just been made -/
theorem gstart {N : List Str} {scope : Scope} {x : Str} {pad j : Nat} {A : Around} {fp : List Addr} {code itv : Value} {h5 : Heap} {gs : Array GenState} {tk : Nat} {a : Addr} {go : Obj}
    (I : Inv X pins σ H s) (G : GN X.N X.env.scope scope x N pad j) (hA : A.handled = none)
    (hfr : A.frames = some (genEnv scope (cloFrom X.env.cells scope.names []) s.heap.objs.size code builtinsNs X.env :: X.stack))
    (hfp : ∀ b ∈ fp, FpOk X pins H b ∧ b < s.heap.objs.size)
    (kp : ∀ b o, s.heap.get? b = some o → h5.get? b = some o)
    (hn : h5.Ns s.heap.objs.size (fun y => if y = ".0" then some itv else none)) (hb : AllBare gs)
    (ha : h5.get? a = some go) (hlt : s.heap.objs.size < a) (hgo : ∀ v, go.data ≠ .cell v) :
    Inv (gcx X A s H (genEnv scope (cloFrom X.env.cells scope.names []) s.heap.objs.size code builtinsNs X.env) N fp [(a, go)]) []
      (gsl σ pad j none) H { s with gens := gs, toks := tk, heap := h5 } := by
  have cm : ∀ {y c}, (y, c) ∈ cloFrom X.env.cells scope.names [] → X.env.cells.lookup y = some c ∧ (y, NameKind.free) ∈ scope.names := by
    intro y c hm
    rcases cloFrom_mem hm with h | ⟨h1, rfl⟩
    · cases h
    · obtain ⟨c, hc⟩ := gfree I G _ h1 rfl
      rw [hc]
      exact ⟨rfl, h1⟩
  have cl : ∀ {y c}, (cloFrom X.env.cells scope.names []).lookup y = some c → X.env.cells.lookup y = some c :=
    fun e => (cm (PySem.mem_of_lookup e)).1
  have clt : ∀ {y c}, X.env.cells.lookup y = some c → c < s.heap.objs.size := by
    intro y c e
    obtain ⟨v, z⟩ := I.cell _ _ e
    exact z.lt
  have frC : H s.heap.objs.size = none := I.hok.fresh (Nat.le_refl _)
  have okg : (gcx X A s H (genEnv scope (cloFrom X.env.cells scope.names []) s.heap.objs.size code builtinsNs X.env) N fp [(a, go)]).Ok := by
    constructor
    case mod => exact I.ok.mod
    case kind => exact G.kind
    case glob => exact I.ok.glob
    case blt => rfl
    case above => exact Nat.le_refl _
    case inj => exact fun y z c e1 e2 => I.ok.inj y z c (cl e1) (cl e2)
    case has =>
      intro y hy
      have hy : scope.names.lookup y = some .cell ∨ scope.names.lookup y = some .free := hy
      rcases hy with hy | hy
      · exact absurd rfl (G.cell _ (PySem.mem_of_lookup hy))
      · exact mem_lookup (cloFrom_has (cells := X.env.cells) (acc := []) (PySem.mem_of_lookup hy))
    case cab => exact fun y c z _ => nomatch z
    case hd => exact fun _ => hA
    case frames => exact hfr
    case stk => exact .inr ⟨rfl, rfl⟩
    case exf =>
      intro b hb
      obtain ⟨⟨_, _, _, _, f5, _⟩, f7⟩ := hfp b hb
      exact ⟨Nat.ne_of_lt f7, fun y c e => f5 y c (cl e)⟩
    case bs => exact I.bs
    case bsz => exact Nat.le_trans I.ok.bsz I.sz
    case noex =>
      intro b o e hb
      obtain ⟨⟨_, _, _, f4, _, _⟩, _⟩ := hfp b hb
      rcases f4 with z | z
      · exact I.ok.noex b o e z
      · have h1 := Heap.lt_size e
        exact absurd (Nat.lt_of_lt_of_le (Nat.lt_of_lt_of_le h1 I.ok.bsz) z) (Nat.lt_irrefl _)
    case exfs =>
      intro b hb z
      obtain ⟨⟨_, f2, f3, _, _, _⟩, _⟩ := hfp b hb
      rcases List.mem_cons.mp (I.stkSub b z) with y | y
      · exact f2 y
      · exact f3 y
    case funs => exact I.stack
    case frf => exact I.stkFree
  refine ⟨okg, rfl, hb, Un.kept kp, ⟨_, hn, ?_⟩, ?_, frC, ?_, ?_, I.hok.kept kp, ?_⟩
  · intro i y v h1 h2 h3
    have hij : i ≠ j := by
      intro e
      subst e
      have h2 : (gsl σ pad i none)[i]? = some (some v) := h2
      rw [List.getElem?_set] at h2
      split at h2
      · split at h2 <;> cases h2
      · rename_i z; exact z rfl
    have h2' : (σ ++ List.replicate pad none)[i]? = some (some v) := by
      have h2 : (gsl σ pad j none)[i]? = some (some v) := h2
      rw [List.getElem?_set_ne (Ne.symm hij)] at h2
      exact h2
    have hi : i < σ.length := by
      rcases Nat.lt_or_ge i σ.length with z | z
      · exact z
      · rw [List.getElem?_append_right z, List.getElem?_replicate] at h2'
        split at h2' <;> cases h2'
    rw [List.getElem?_append_left hi] at h2'
    have hN : X.N[i]? = some y := by
      have e : (N.take X.N.length)[i]? = some y := by
        rw [List.getElem?_take_of_lt (by rw [← I.len]; exact hi)]
        exact h1
      rw [G.pre] at e
      exact e
    have hyx : y ≠ x := by
      intro e
      subst e
      exact hij (nodup_ix G.nd h1 G.jx)
    have h3 : scope.names.lookup y = some .local ∨ scope.names.lookup y = some .cell ∨ scope.names.lookup y = some .free := h3
    rcases h3 with z | z | z
    · rcases G.only _ (PySem.mem_of_lookup z) rfl with q | q
      · exact absurd q hyx
      · exact absurd (List.mem_of_getElem? h1) q
    · exact absurd rfl (G.cell _ (PySem.mem_of_lookup z))
    · have hv : X.env.scope.names.lookup y = some .cell ∨ X.env.scope.names.lookup y = some .free := G.free _ (PySem.mem_of_lookup z) rfl
      obtain ⟨m, hm, hl⟩ := I.loc
      obtain ⟨u, r, lk⟩ := hl i y v hN h2' (.inr hv)
      refine ⟨u, r, .inr ⟨.inr z, ?_⟩⟩
      obtain ⟨c', e'⟩ := mem_lookup (cloFrom_has (cells := X.env.cells) (acc := []) (PySem.mem_of_lookup z))
      refine ⟨c', e', ?_⟩
      rcases lk with ⟨k, _⟩ | ⟨_, c, e, ic⟩
      · have k : X.env.scope.names.lookup y = some .local := k
        rcases hv with q | q <;> (rw [q] at k; cases k)
      · have e2 := cl e'
        rw [e2] at e
        cases e
        obtain ⟨ob, ho, hd⟩ := ic
        exact ⟨ob, kp _ _ ho, hd⟩
  · intro y c e
    obtain ⟨v, ob, ho, hd⟩ := I.cell y c (cl e)
    exact ⟨v, ob, kp _ _ ho, hd⟩
  · exact fun y c e => I.freeC y c (cl e)
  · intro p hp
    have hp : p ∈ [(a, go)] ++ ([] : List (Addr × Obj)) := hp
    rw [List.append_nil] at hp
    rw [List.mem_singleton.mp hp]
    have hle := Nat.le_of_lt hlt
    refine ⟨ha, I.hok.fresh hle, Ne.symm (Nat.ne_of_lt hlt), ?_, hgo⟩
    intro z
    rcases List.mem_cons.mp (I.stkSub a z) with y | y
    · rw [y] at hlt
      exact absurd (Nat.lt_trans hlt I.lt) (Nat.lt_irrefl _)
    · exact I.nofs hle y
  · show ((σ ++ List.replicate pad none).set j none).length = N.length
    rw [List.length_set, List.length_append, List.length_replicate, I.len, G.len]
end

/-! ### the turns -/
/-- the end of the run, an item on its way -/
def gEnd (Xg : Cx) (Qe : Hp → Prop) : GenEnd := fun _ _ r s1 =>
  ((r = .ok (.ret .none) ∨ r = .ok .next) ∧ ∃ σ' H', Inv Xg [] σ' H' s1 ∧ Qe H') ∨ ∃ e : Value, r = .error e ∧ False
/-- go: the truth that lets the walk go on; Qb: what is wanted of the other one -/
def gItem (Xg : Cx) (go : Bool) (Qb : Hp → Prop) : Protocol := fun _ _ v s1 kap =>
  ∃ b H', v = Value.bool b ∧ (∃ pns σ', Inv Xg pns σ' H' s1) ∧ (b ≠ go → Qb H') ∧
    (b = go → ∀ s', s'.heap = s1.heap → s'.os = s1.os → AllBare s'.gens → kap (.send .none) s')

section
variable {X : Cx} {elt iter : Expr} {x : Str} {px gpos : Pos} {scope : Scope}
theorem gen_seg {A : Around} {s4 : Shared} {H4 : Hp} {ge : Env} {N : List Str} {fp : List Addr} {pn : List (Addr × Obj)} {it : Addr} {J : It} {tn : Nat → Heap → Prop} {te : TE} {σ0 : L2.St} {j : Nat} {go : Bool} {Qe Qb : Hp → Prop}
    (T : Turn X.prog X.w X.K (.Name x px) J fp it tn) (hnd : N.Nodup) (hj : N[j]? = some x) (hloc : ge.scope.names.lookup x = some .local) (hco : ge.scope.isCoroutine = false)
    (hpnf : ∀ p ∈ pn, p.1 ∉ fp)
    (pe : PE (gcx X ((A.over (.compLoop (.GeneratorExp elt [⟨.Name x px, iter, [], 0⟩] scope gpos) 0 (.ref it) .none ge) [])) s4 H4 ge N fp pn) elt te)
    (W : Nat → Nat → Hp → Prop) (h0 : σ0[j]? = some none)
    (turn : ∀ i m H, W i m H → (J.stop i H ∧ Qe H) ∨ (J.go i H ∧ ∀ y H', J.yld i H y H' → te (σ0.set j (some y)) H' fun v H3 => ∃ b, v = .bl b ∧ (b ≠ go → Qb H3) ∧ (b = go → ∃ m', m' < m ∧ W (i + 1) m' H3))) :
    ∀ (n i m : Nat) (H : Hp) (s0 s : Shared), m < n → W i m H → Inv (gcx X ((A.over (.compLoop (.GeneratorExp elt [⟨.Name x px, iter, [], 0⟩] scope gpos) 0 (.ref it) .none ge) [])) s4 H4 ge N fp pn) [] σ0 H s →
      tn i s.heap → (∀ b ∈ fp, H b = none) →
      Seg (model X.prog X.w) A (gEnd (gcx X ((A.over (.compLoop (.GeneratorExp elt [⟨.Name x px, iter, [], 0⟩] scope gpos) 0 (.ref it) .none ge) [])) s4 H4 ge N fp pn) Qe)
        (gItem (gcx X ((A.over (.compLoop (.GeneratorExp elt [⟨.Name x px, iter, [], 0⟩] scope gpos) 0 (.ref it) .none ge) [])) s4 H4 ge N fp pn) go Qb) n s0
        (.compLoop (.GeneratorExp elt [⟨.Name x px, iter, [], 0⟩] scope gpos) 0 (.ref it) .none ge)
        ((model X.prog X.w).den (.compLoop (.GeneratorExp elt [⟨.Name x px, iter, [], 0⟩] scope gpos) 0 (.ref it) .none ge)) [] s := by
  generalize hAg : (A.over (.compLoop (.GeneratorExp elt [⟨.Name x px, iter, [], 0⟩] scope gpos) 0 (.ref it) .none ge) []) = Ag at pe ⊢
  have stat : ∀ {ps : List (Addr × Obj)} {σ' : L2.St} {H' : Hp} {s' : Shared}, (∀ p ∈ ps, p.1 ∉ fp) → Inv (gcx X Ag s4 H4 ge N fp pn) ps σ' H' s' → (∀ b ∈ fp, H' b = none) → ∀ b ∈ fp, FpOk (gcx X Ag s4 H4 ge N fp pn) ps H' b := by
    intro ps σ' H' s' hps I' hn b hb
    refine ⟨hn b hb, (I'.ok.exf b hb).1, I'.ok.exfs b hb, .inl hb, fun x c e => (I'.ok.exf b hb).2 x c e, fun p hp z => ?_⟩
    rcases List.mem_append.mp hp with q | q
    · exact hpnf p q (z ▸ hb)
    · exact hps p q (z ▸ hb)
  have nop : ∀ p ∈ ([] : List (Addr × Obj)), p.1 ∉ fp := fun p hp => by simp at hp
  intro n
  induction n with
  | zero => intro i m H s0 s hm; omega
  | succ n ih =>
    intro i m H s0 s hm hw I st nf
    show Seg _ A _ _ _ s0 _ ((compTurn (.GeneratorExp elt [⟨.Name x px, iter, [], 0⟩] scope gpos) 0 (.ref it) .none ge).onRaise (leaving ge)) [] s
    rw [compTurn_gen, Sem.onRaise_eq_wrap]
    refine seg_bind_wrap (wpAny_standAt ?_)
    rcases turn i m H hw with ⟨stop, qq⟩ | ⟨goes, step⟩
    · refine seg_bind_wrap ?_
      rw [hAg]
      refine thnF (T.done (gcx X Ag s4 H4 ge N fp pn) rfl rfl rfl rfl i [] s σ0 H (fun _ _ => False) I (stat nop I nf) st stop) fun r s6 hr6 => ?_
      obtain ⟨hr, I6⟩ := hr6
      subst hr
      exact seg_end (.ok .next) (.inl ⟨.inr rfl, σ0, H, I6, qq⟩)
    · refine seg_bind_wrap ?_
      rw [hAg]
      refine thnF (T.item (gcx X Ag s4 H4 ge N fp pn) rfl rfl rfl rfl i [] s σ0 H (fun _ _ => False) I (stat nop I nf) st goes) fun r s6 hr6 => ?_
      obtain ⟨u, hr, h6⟩ := hr6
      subst hr
      refine seg_bind_wrap ?_
      rw [hAg]
      refine thnF h6 fun _ s7 hs7 => ?_
      obtain ⟨y, H7, I7, r7, y7, st7, n7⟩ := hs7
      have I7' := I7.pinned (stat nop I7 n7) (T.obj _ _ st7)
      refine seg_bind_wrap ?_
      rw [hAg]
      refine wpAny_assign_Name (store_ok (i := j) (v := y) I7' hnd hj (.inl hloc) r7 (fun s8 I8 => ?_) (.inr hloc))
      refine seg_bind_wrap ?_
      simp only [List.forIn_nil]
      refine wpAny_pure ?_
      simp only [if_true]
      have hy : ∀ v, yieldOut ge v = yieldValue v := fun v => by simp only [yieldOut, hco, Bool.false_eq_true, if_false]
      simp only [hy]
      rw [Sem.bind_eq_wrap', Sem.bind_eq_wrap', Sem.wrap_wrap, Sem.wrap_wrap]
      refine seg_wrap ?_
      rw [hAg]
      refine thnF (pe.run _ s8 _ H7 _ I8 (step y H7 y7)) fun z s9 hz => ?_
      obtain ⟨v, H9, I9, r9, b, rfl, hno, hgo⟩ := hz
      obtain rfl : z = Value.bool b := r9
      refine seg_at (seg_yield rfl rfl rfl ⟨b, H9, rfl, ⟨_, _, I9⟩, hno, fun e s'' hh hos hb => ?_⟩)
      obtain ⟨m', hlt, w'⟩ := hgo e
      have I10 : Inv (gcx X Ag s4 H4 ge N fp pn) ([] ++ pinsAt fp s7.heap) (σ0.set j (some y)) H9 s'' :=
        I9.call' (ch := []) hos (by rw [hh]; exact Un.refl) (by rw [hh]; exact I9.hok) hb (fun b hb => by simp at hb)
      have pin' : ∀ b ∈ fp, ∀ o, s7.heap.get? b = some o → s''.heap.get? b = some o ∧ H9 b = none := fun b hb o e =>
        let z := I10.pin (b, o) (List.mem_append_right _ (List.mem_append_right _ (mem_pinsAt hb e)))
        ⟨z.1, z.2.1⟩
      refine seg_again rfl (ih (i + 1) m' H9 s'' s'' (by omega) w' ((I10.unpinned (pins := [])).weak (by rw [List.length_set]) fun k v e2 => ?_) (T.keep _ _ _ st7 fun b hb o e => (pin' b hb o e).1) fun b hb => ?_)
      · have hk : k ≠ j := fun q => by
          rw [q, h0] at e2
          cases e2
        rw [List.getElem?_set_ne (Ne.symm hk)]
        exact e2
      · obtain ⟨o, e2, _⟩ := T.obj _ _ st7 b hb
        exact (pin' b hb o e2).2
end

/-! ### the consumer -/
section
variable {P : Program} {w : World}
/-- what the consumer's loop makes of an item: «all» goes on by True, «any» by False -/
theorem loop_all {Xg : Cx} {A : Around} {R : Result → Shared → Prop} {a : Addr} {g : Nat} {Qe Qb : Hp → Prop} (hh : A.handled = none) (hd : A.depth < recursionLimit)
    (gen : ∀ pns σ' H' s', Inv Xg pns σ' H' s' → s'.heap.IsGen a g)
    (hend : ∀ (b : Bool) pns σ' H' s1, Inv Xg pns σ' H' s1 → (if b = true then Qe H' else Qb H') → ∀ s', s'.os = s1.os → AllBare s'.gens → (∀ c o, s1.heap.get? c = some o → s'.heap.get? c = some o) → R (.ok (.ret (.bool b))) s') :
    ∀ (n : Nat) (s : Shared), s.heap.IsGen a g → s.heap.NoLimit →
      (∃ gs, s.gens[g]? = some gs ∧ gs.Goes (model P w) A.in1.in1 (gEnd Xg Qe) (gItem Xg true Qb) n (.send .none) (s.setGen g .running)) →
      codeAny (model P w) A (.builtin "all.loop" ⟨[.ref a], []⟩) R s := by
  intro n
  induction n with
  | zero =>
    intro s hg hl hgo
    obtain ⟨gs, hgs, hgo⟩ := hgo
    refine codeAny_builtin F.entry_all_loop ?_
    rw [Around.under_plainId F.plain_all_loop _]
    show wpAny _ A.in1 (pyNext (.ref a) >>= _) _ _ s
    refine wpAny_bind (next_genG (A := A.in1) (Er := fun _ _ => False) hh hl hd hg hgs hgo (fun v s₁ gs' hbare hv => ?_) (fun s₁ hp h' hk => ?_) fun e s₁ he => he.elim)
    · obtain ⟨b, H', rfl, ⟨pns, σ', J⟩, hno, hgo⟩ := hv
      cases b with
      | true => exact (hgo rfl s₁ rfl rfl J.bare).elim
      | false =>
        refine wpAny_bind (wpAny_holding (wpAny_truthy_bool ?_))
        refine wpAny_bind (wpAny_letGo ?_)
        simp only [Bool.false_eq_true, if_false]
        refine wpAny_bind (wpAny_rule (wpAny_pure ?_))
        exact hend false pns σ' H' s₁ J (hno (by decide)) _ rfl (allBare_setGen J.bare hbare) fun _ _ e => e
    · obtain ⟨σ', H', J, q⟩ := hp
      refine wpAny_bind (wpAny_rule (wpAny_pure ?_))
      exact hend true [] σ' H' s₁ J q _ rfl (allBare_setGen J.bare rfl) hk
  | succ n ih =>
    intro s hg hl hgo
    obtain ⟨gs, hgs, hgo⟩ := hgo
    have hgl : g < s.gens.size := (Array.getElem?_eq_some_iff.mp hgs).1
    refine codeAny_builtin F.entry_all_loop ?_
    rw [Around.under_plainId F.plain_all_loop _]
    show wpAny _ A.in1 (pyNext (.ref a) >>= _) _ _ s
    refine wpAny_bind (wpAny_gsz (n := g + 1) hgl (next_genG (A := A.in1) (Er := fun _ _ => False) hh hl hd hg hgs hgo (fun v s₁ gs' hbare hv => ?_) (fun s₁ hp h' hk => ?_) fun e s₁ he => he.elim))
    · intro hsz
      obtain ⟨b, H', rfl, ⟨pns, σ', J⟩, hno, hgo⟩ := hv
      refine wpAny_bind (wpAny_holding (wpAny_truthy_bool ?_))
      refine wpAny_bind (wpAny_letGo ?_)
      cases b with
      | true =>
        simp only [if_true]
        have hsz1 : g < s₁.gens.size := by
          have q : (s₁.setGen g gs').gens.size = s₁.gens.size := setGen_size _ _ _
          have hsz' : g + 1 ≤ (s₁.setGen g gs').gens.size := hsz
          omega
        refine wpAny_pure ⟨plainId_quiet F.plain_all_loop _, ih (s₁.setGen g gs') (show s₁.heap.IsGen a g from gen _ _ _ _ J) (show s₁.heap.NoLimit from J.nolimit) ⟨gs', setGen_at hsz1, ?_⟩⟩
        exact hgo rfl ((s₁.setGen g gs').setGen g .running) rfl rfl (allBare_setGen (allBare_setGen J.bare hbare) rfl)
      | false =>
        simp only [Bool.false_eq_true, if_false]
        refine wpAny_bind (wpAny_rule (wpAny_pure ?_))
        exact hend false pns σ' H' s₁ J (hno (by decide)) _ rfl (allBare_setGen J.bare hbare) fun _ _ e => e
    · intro _
      obtain ⟨σ', H', J, q⟩ := hp
      refine wpAny_bind (wpAny_rule (wpAny_pure ?_))
      exact hend true [] σ' H' s₁ J q _ rfl (allBare_setGen J.bare rfl) hk

theorem loop_any {Xg : Cx} {A : Around} {R : Result → Shared → Prop} {a : Addr} {g : Nat} {Qe Qb : Hp → Prop} (hh : A.handled = none) (hd : A.depth < recursionLimit)
    (gen : ∀ pns σ' H' s', Inv Xg pns σ' H' s' → s'.heap.IsGen a g)
    (hend : ∀ (b : Bool) pns σ' H' s1, Inv Xg pns σ' H' s1 → (if b = true then Qb H' else Qe H') → ∀ s', s'.os = s1.os → AllBare s'.gens → (∀ c o, s1.heap.get? c = some o → s'.heap.get? c = some o) → R (.ok (.ret (.bool b))) s') :
    ∀ (n : Nat) (s : Shared), s.heap.IsGen a g → s.heap.NoLimit →
      (∃ gs, s.gens[g]? = some gs ∧ gs.Goes (model P w) A.in1.in1 (gEnd Xg Qe) (gItem Xg false Qb) n (.send .none) (s.setGen g .running)) →
      codeAny (model P w) A (.builtin "any.loop" ⟨[.ref a], []⟩) R s := by
  intro n
  induction n with
  | zero =>
    intro s hg hl hgo
    obtain ⟨gs, hgs, hgo⟩ := hgo
    refine codeAny_builtin F.entry_any_loop ?_
    rw [Around.under_plainId F.plain_any_loop _]
    show wpAny _ A.in1 (pyNext (.ref a) >>= _) _ _ s
    refine wpAny_bind (next_genG (A := A.in1) (Er := fun _ _ => False) hh hl hd hg hgs hgo (fun v s₁ gs' hbare hv => ?_) (fun s₁ hp h' hk => ?_) fun e s₁ he => he.elim)
    · obtain ⟨b, H', rfl, ⟨pns, σ', J⟩, hno, hgo⟩ := hv
      cases b with
      | false => exact (hgo rfl s₁ rfl rfl J.bare).elim
      | true =>
        refine wpAny_bind (wpAny_holding (wpAny_truthy_bool ?_))
        refine wpAny_bind (wpAny_letGo ?_)
        simp only [if_true]
        refine wpAny_bind (wpAny_rule (wpAny_pure ?_))
        exact hend true pns σ' H' s₁ J (hno (by decide)) _ rfl (allBare_setGen J.bare hbare) fun _ _ e => e
    · obtain ⟨σ', H', J, q⟩ := hp
      refine wpAny_bind (wpAny_rule (wpAny_pure ?_))
      exact hend false [] σ' H' s₁ J q _ rfl (allBare_setGen J.bare rfl) hk
  | succ n ih =>
    intro s hg hl hgo
    obtain ⟨gs, hgs, hgo⟩ := hgo
    have hgl : g < s.gens.size := (Array.getElem?_eq_some_iff.mp hgs).1
    refine codeAny_builtin F.entry_any_loop ?_
    rw [Around.under_plainId F.plain_any_loop _]
    show wpAny _ A.in1 (pyNext (.ref a) >>= _) _ _ s
    refine wpAny_bind (wpAny_gsz (n := g + 1) hgl (next_genG (A := A.in1) (Er := fun _ _ => False) hh hl hd hg hgs hgo (fun v s₁ gs' hbare hv => ?_) (fun s₁ hp h' hk => ?_) fun e s₁ he => he.elim))
    · intro hsz
      obtain ⟨b, H', rfl, ⟨pns, σ', J⟩, hno, hgo⟩ := hv
      refine wpAny_bind (wpAny_holding (wpAny_truthy_bool ?_))
      refine wpAny_bind (wpAny_letGo ?_)
      cases b with
      | false =>
        simp only [Bool.false_eq_true, if_false]
        have hsz1 : g < s₁.gens.size := by
          have q : (s₁.setGen g gs').gens.size = s₁.gens.size := setGen_size _ _ _
          have hsz' : g + 1 ≤ (s₁.setGen g gs').gens.size := hsz
          omega
        refine wpAny_pure ⟨plainId_quiet F.plain_any_loop _, ih (s₁.setGen g gs') (show s₁.heap.IsGen a g from gen _ _ _ _ J) (show s₁.heap.NoLimit from J.nolimit) ⟨gs', setGen_at hsz1, ?_⟩⟩
        exact hgo rfl ((s₁.setGen g gs').setGen g .running) rfl rfl (allBare_setGen (allBare_setGen J.bare hbare) rfl)
      | true =>
        simp only [if_true]
        refine wpAny_bind (wpAny_rule (wpAny_pure ?_))
        exact hend true pns σ' H' s₁ J (hno (by decide)) _ rfl (allBare_setGen J.bare hbare) fun _ _ e => e
    · intro _
      obtain ⟨σ', H', J, q⟩ := hp
      refine wpAny_bind (wpAny_rule (wpAny_pure ?_))
      exact hend false [] σ' H' s₁ J q _ rfl (allBare_setGen J.bare rfl) hk
end

/-! ### the expression -/
/-- some table stands at P -/
def TabG (H : Hp) (P : Addr) : Prop := ∃ ps : Array Value, H P = some (.tbl ps) ∧ TriplesOk ps.toList
/-- H' is H but for the table at P -/
def Tabd (P : Addr) (H H' : Hp) : Prop := TabG H' P ∧ ∀ b, b ≠ P → H' b = H b
/-- what a walk by a generator asks: go is the item's truth that lets it go on -/
def GW (J : It) (te : TE) (σ0 : L2.St) (j : Nat) (go : Bool) (Q : Bool → Hp → Prop) (H : Hp) : Prop :=
  ∃ W : Nat → Nat → Hp → Prop, (∃ m, W 0 m H) ∧ ∀ i m H, W i m H →
    (J.stop i H ∧ Q go H) ∨ (J.go i H ∧ ∀ y H', J.yld i H y H' → te (σ0.set j (some y)) H' fun v H3 => ∃ b, v = .bl b ∧ (b ≠ go → Q (!go) H3) ∧ (b = go → ∃ m', m' < m ∧ W (i + 1) m' H3))
/-- the reading -/
def tGen (P : Addr) (go : Bool) (wi : TI) (te : TE) (pad j : Nat) : TE := fun σ H Q => wi σ H fun J H1 => TabG H1 P ∧
  ∀ H2, Tabd P H1 H2 → GW J te (gsl σ pad j none) j go (fun b H3 => Q (.bl b) H3) H2

section
variable {X : Cx} {c P : Addr} {elt iter : Expr} {x : Str} {px p pos gpos : Pos} {scope : Scope} {wi : TI} {te : TE} {k pad j : Nat} {N : List Str}

theorem room_gen {A : Around} {gx : Expr} {it : Value} {ge : Env} (hr : Room (k + 1) A) (hf : Code.isFrame (.compLoop gx 0 it .none ge) = true := by rfl) :
    Room k (A.in1.in1.over (.compLoop gx 0 it .none ge) []) := by
  have h1 := hr.dp
  have h2 := hr.un
  have e1 : (Code.compLoop gx 0 it .none ge).weight ≤ 1 := by
    show Code.frames _ + _ + _ + _ ≤ 1
    have : (Code.compLoop gx 0 it .none ge).frames ≤ 1 := by
      show (if Code.isFrame (.compLoop gx 0 it .none ge) = true then 1 else 0) ≤ 1
      split <;> omega
    simpa [Code.isCreation, Code.isGuard, Code.isCaller] using this
  have e2 : (Code.compLoop gx 0 it .none ge).cUnits ≤ 3 := by
    show 3 * (Code.compLoop gx 0 it .none ge).frames ≤ 3
    have : (Code.compLoop gx 0 it .none ge).frames ≤ 1 := by
      show (if Code.isFrame (.compLoop gx 0 it .none ge) = true then 1 else 0) ≤ 1
      split <;> omega
    omega
  refine ⟨hr.hd, ?_, ?_⟩
  · show A.depth + 0 + (Code.compLoop gx 0 it .none ge).weight + 3 * k + 5 < recursionLimit
    omega
  · show A.units + 1 + 1 + 0 + (Code.compLoop gx 0 it .none ge).cUnits + 16 * k + 200 < cLine
    omega

theorem gen_core {Q : Bool → Hp → Prop} {Q' : Value → Shared → Prop} {pins : List (Addr × Obj)} {σ : L2.St} {H : Hp} {s : Shared} {go : Bool} (hr : Room (k + 1) X.A) (hc : X.calm = true) (TB : LamX.TabB X.base X.mg c P) (hcode : X.env.code = .ref c)
    (G : GN X.N X.env.scope scope x N pad j) (hi : PI X (.Name x px) iter wi)
    (hel : ∀ (A : Around) (s : Shared) (H : Hp) (cl : List (Str × Addr)) (C : Addr) (code : Value) (fp : List Addr) (pn : List (Addr × Obj)), Room k A → PE (gcx X A s H (genEnv scope cl C code builtinsNs X.env) N fp pn) elt te)
    (hs : ∀ v, genFold iter X.env v = pure v) (I : Inv X pins σ H s)
    (h : wi σ H fun J H1 => TabG H1 P ∧ ∀ H2, Tabd P H1 H2 → GW J te (gsl σ pad j none) j go Q H2)
    (hQ : ∀ (Xg : Cx) (a : Addr) (g n : Nat) (s5 : Shared),
      (∀ pns σ' H' s', Inv Xg pns σ' H' s' → s'.heap.IsGen a g) →
      (∀ pns σ' H' s1, Inv Xg pns σ' H' s1 → ∀ s', s'.os = s1.os → AllBare s'.gens → (∀ b o, s1.heap.get? b = some o → s'.heap.get? b = some o) → Inv X pins σ H' s') →
      s5.heap.IsGen a g → s5.heap.NoLimit →
      (∃ gs, s5.gens[g]? = some gs ∧ gs.Goes (model X.prog X.w) X.A.in1.in1 (gEnd Xg (Q go)) (gItem Xg go (Q (!go))) n (.send .none) (s5.setGen g .running)) →
      Q' (.ref a) s5) :
    wpAny (model X.prog X.w) X.A (eval (.GeneratorExp elt [⟨.Name x px, iter, [], 0⟩] scope gpos) X.env) Q' X.xe s := by
  refine wpAny_GeneratorExp_make G.co (closure_ok (gfree I G)) G.cell G.dot G.kind hr.depth ?_ hs
  refine thn (hi.run pins s σ H _ I h) fun xv s0 h0 => thn h0 fun itv s1 h1 => ?_
  obtain ⟨it, fp, tn, J, H1, rfl, I1, T, st1, f1, ⟨ps, hP, ht⟩, q1⟩ := h1
  refine ⟨I1.nolimit, ?_⟩
  have hPs : s1.heap.get? P = some { cls := .none, data := .fields ps } := I1.hok P _ hP
  have nPf : ∀ b ∈ fp, b ≠ P := fun b hb z => by
    have e := (f1 b hb).1
    rw [z, hP] at e
    cases e
  have lt1 : ∀ b ∈ fp, b < s1.heap.objs.size := fun b hb => by
    obtain ⟨o, e, _⟩ := T.obj _ _ st1 b hb
    exact Heap.lt_size e
  have cd : PySem.W.CodeHd s1.heap c P := TB.code.keeps fun b u e => I1.bk b u e
  -- behind the code object's making
  have cont : ∀ (code : Value) (s4 : Shared) (H4 : Hp), Inv X pins σ H4 s4 → Tabd P H1 H4 → (∀ b o, b ≠ P → s1.heap.get? b = some o → s4.heap.get? b = some o) →
      wpAny (model X.prog X.w) X.A (builtinsFor X.env.globals X.env.builtins) (fun bi s₄ =>
        ∀ h', h'.Ns s₄.heap.objs.size (fun y => if y = ".0" then some (.ref it) else none) → Heap.SameBut s₄.heap.objs.size (s₄.heap.push { cls := .type "frame", data := .dict #[] }) h' →
          Q' (.ref h'.objs.size) { s₄ with
            gens := s₄.gens.push (.fresh (.compStart (.GeneratorExp elt [⟨.Name x px, iter, [], 0⟩] scope gpos) 0 (.ref it) .none (genEnv scope (cloFrom X.env.cells scope.names []) s₄.heap.objs.size code bi X.env))),
            toks := s₄.toks + 1 + 1 + 1,
            heap := h'.push { cls := .type "generator", data := .fields #[.int s₄.gens.size 0, .str "<genexpr>" (s₄.toks + 1), .str (X.env.qual ++ "<genexpr>") (s₄.toks + 1 + 1)] } }) X.xe s4 := by
    intro code s4 H4 I4 hT k4
    obtain ⟨bm, ob, e1, e2, e3, e4, e5, e6, e7, e8⟩ := TB.bm
    refine wpAny_builtinsFor (m := X.mg) (by rw [I4.ok.glob]; exact I4.mod.glob.keeps I4.bk) e1 e2 (I4.bk _ _ e5) e6 e7 e8 ?_
    intro h' hn hsb
    have sz' : h'.objs.size = s4.heap.objs.size + 1 := by rw [hsb.1, Heap.size_push]
    have kp' : ∀ b o, s4.heap.get? b = some o → h'.get? b = some o := fun b o e =>
      hsb.extBut b o (Nat.ne_of_lt (Heap.lt_size e)) (Heap.get?_push_of_some _ e)
    generalize hgo : ({ cls := .type "generator", data := .fields #[.int s4.gens.size 0, .str "<genexpr>" (s4.toks + 1), .str (X.env.qual ++ "<genexpr>") (s4.toks + 1 + 1)] } : Obj) = gob
    have hgc : ∀ v, gob.data ≠ .cell v := fun v z => by rw [← hgo] at z; cases z
    have hga : (h'.push gob).get? h'.objs.size = some gob := Heap.get?_push_size _ (by rw [← hgo]; rfl)
    have kp5 : ∀ b o, s4.heap.get? b = some o → (h'.push gob).get? b = some o := fun b o e => Heap.get?_push_of_some _ (kp' b o e)
    have gfpn : ∀ b ∈ fp, H4 b = none := fun b hb => by rw [hT.2 b (nPf b hb)]; exact (f1 b hb).1
    have st4 : tn 0 s4.heap := T.keep _ _ _ st1 fun b hb o e => k4 b o (nPf b hb) e
    have lt4 : ∀ b ∈ fp, b < s4.heap.objs.size := fun b hb => by
      obtain ⟨o, e, _⟩ := T.obj _ _ st4 b hb
      exact Heap.lt_size e
    have f4 : ∀ b ∈ fp, FpOk X pins H4 b ∧ b < s4.heap.objs.size := fun b hb => ⟨⟨gfpn b hb, (f1 b hb).2⟩, lt4 b hb⟩
    generalize hge : genEnv scope (cloFrom X.env.cells scope.names []) s4.heap.objs.size code builtinsNs X.env = ge
    have hAg : Room k (X.A.in1.in1.over (.compLoop (.GeneratorExp elt [⟨.Name x px, iter, [], 0⟩] scope gpos) 0 (.ref it) .none ge) []) := room_gen hr
    have hfr : (X.A.in1.in1.over (.compLoop (.GeneratorExp elt [⟨.Name x px, iter, [], 0⟩] scope gpos) 0 (.ref it) .none ge) []).frames = some (ge :: X.stack) := by
      show (X.A.frames).map _ = _
      rw [I4.ok.frames]
      rfl
    have hbg : AllBare (s4.gens.push (.fresh (.compStart (.GeneratorExp elt [⟨.Name x px, iter, [], 0⟩] scope gpos) 0 (.ref it) .none ge))) := I4.bare.push rfl
    generalize hs5 : ({ s4 with
      gens := s4.gens.push (.fresh (.compStart (.GeneratorExp elt [⟨.Name x px, iter, [], 0⟩] scope gpos) 0 (.ref it) .none ge)),
      toks := s4.toks + 1 + 1 + 1, heap := h'.push gob } : Shared) = s5
    have I5 : ∀ gs : Array GenState, AllBare gs → Inv (gcx X (X.A.in1.in1.over (.compLoop (.GeneratorExp elt [⟨.Name x px, iter, [], 0⟩] scope gpos) 0 (.ref it) .none ge) []) s4 H4 ge N fp [(h'.objs.size, gob)]) []
        (gsl σ pad j none) H4 { s4 with gens := gs, toks := s4.toks + 1 + 1 + 1, heap := h'.push gob } := by
      intro gs hb
      subst hge
      exact gstart I4 G hAg.hd hfr f4 kp5 (hn.push _) hb hga (by rw [sz']; exact Nat.lt_succ_self _) hgc
    have isg : ∀ h : Heap, h.get? h'.objs.size = some gob → h.IsGen h'.objs.size s4.gens.size := fun h e => by
      subst hgo
      exact ⟨_, _, _, e, rfl, rfl, rfl⟩
    obtain ⟨W, ⟨m0, w0⟩, turn⟩ := q1 H4 hT
    have pe := hel _ s4 H4 (cloFrom X.env.cells scope.names []) s4.heap.objs.size code fp [(h'.objs.size, gob)] hAg
    rw [hge] at pe
    have hloc : ge.scope.names.lookup x = some .local := by subst hge; exact G.loc
    have hco : ge.scope.isCoroutine = false := by subst hge; exact G.co
    have hpnf : ∀ p ∈ [(h'.objs.size, gob)], p.1 ∉ fp := fun p hp hm => by
      rw [List.mem_singleton.mp hp] at hm
      have := lt4 _ hm
      rw [sz'] at this
      exact absurd (Nat.lt_trans this (Nat.lt_succ_self _)) (Nat.lt_irrefl _)
    have hjl : (gsl σ pad j none)[j]? = some none := by
      have hl : j < (σ ++ List.replicate pad none).length := by
        rw [List.length_append, List.length_replicate, I4.len, ← G.len]
        exact (List.getElem?_eq_some_iff.mp G.jx).1
      show ((σ ++ List.replicate pad none).set j none)[j]? = some none
      rw [List.getElem?_set_self hl]
    refine hQ (gcx X (X.A.in1.in1.over (.compLoop (.GeneratorExp elt [⟨.Name x px, iter, [], 0⟩] scope gpos) 0 (.ref it) .none ge) []) s4 H4 ge N fp [(h'.objs.size, gob)]) h'.objs.size s4.gens.size (m0 + 1) s5 ?_ ?_ ?_ ?_ ?_
    · intro pns σ' H' s' J'
      exact isg _ (J'.pin (h'.objs.size, gob) (List.mem_append_left _ (List.mem_singleton.mpr rfl))).1
    · intro pns σ' H' s1' J' s' hos hbare hk
      exact I4.call' (ch := fp) (hos.trans J'.os) (J'.base.trans (Un.kept hk)) (J'.hok.kept hk) hbare fun b hb =>
        ⟨(f4 b hb).1.2.2.2.1, (f4 b hb).1.2.1, (f4 b hb).1.2.2.2.2.1, (f4 b hb).1.2.2.2.2.2⟩
    · subst hs5; exact isg _ hga
    · subst hs5; exact I4.nolimit.keeps kp5
    · refine ⟨.fresh (.compStart (.GeneratorExp elt [⟨.Name x px, iter, [], 0⟩] scope gpos) 0 (.ref it) .none ge), by subst hs5; exact Array.getElem?_push_size .., rfl, ?_⟩
      have hb5 : AllBare (s5.setGen s4.gens.size .running).gens := by
        subst hs5
        exact allBare_setGen hbg rfl
      have loop := gen_seg (A := X.A.in1.in1) (gpos := gpos) (go := go) (Qe := Q go) (Qb := Q (!go)) T G.nd G.jx hloc hco hpnf pe W hjl turn (m0 + 1) 0 m0 H4 (s5.setGen s4.gens.size .running) (s5.setGen s4.gens.size .running) (Nat.lt_succ_self _) w0
        (by subst hs5; exact I5 _ hb5) (by subst hs5; exact T.keep _ _ _ st4 fun b _ o e => kp5 b o e) gfpn
      show Seg _ X.A.in1.in1 _ _ _ _ _ ((compStart (.GeneratorExp elt [⟨.Name x px, iter, [], 0⟩] scope gpos) 0 (.ref it) .none ge).onRaise (leaving ge)) [] _
      unfold compStart
      rw [Sem.onRaise_eq_wrap]
      show Seg _ X.A.in1.in1 _ _ _ _ _ ((ask >>= _).wrap _ _ _ _) [] _
      refine seg_bind_wrap (wpAny_askSetting ?_)
      split
      · exact seg_again rfl loop
      · have self : ∀ (A' : Around) (R' : Value → Shared → Prop) (E' : Value → Shared → Prop), R' (.ref it) (s5.setGen s4.gens.size .running) → wpAny (model X.prog X.w) A' (pyIter (.ref it)) R' E' (s5.setGen s4.gens.size .running) :=
          fun A' R' E' hR => T.self A' 0 _ _ _ (by subst hs5; exact T.keep _ _ _ st4 fun b _ o e => kp5 b o e) hR
        first
          | exact seg_bind_wrap (wpAny_rule (seg_bind_wrap (wpAny_standAt (seg_bind_wrap (self _ _ _ (seg_again rfl loop))))))
          | (refine seg_bind_wrap (wpAny_rule ?_); show Seg _ X.A.in1.in1 _ _ _ _ _ ((standAt iter.pos >>= _).wrap _ _ _ _) [] _; exact seg_bind_wrap (wpAny_standAt (seg_bind_wrap (self _ _ _ (seg_again rfl loop)))))
  cases hf : codeAmong gpos ps.toList with
  | none =>
    refine wpAny_genexprCodeX hcode (cd.code hPs ht) (cd.tab hPs) hf fun c' h' tk hx hge hlt hco' _ htab' _ => ?_
    obtain ⟨o1, vs, f9, tf, fl, tg, inF, tx, tt, op, _, _, _, _, _, _, _, _, _, htr, _⟩ := hco'
    have hP3 := htab'.2
    refine cont _ _ (upd H1 P (.tbl (ps ++ #[rawInt gpos.line, rawInt gpos.col, .ref c']))) (GxR.inv_tab (g' := s1.gens) (d' := s1.drawn) I1 hP (fun b o hb e => hx b o hb e) hP3 I1.bare) ⟨⟨_, upd_same, htr⟩, fun b hb => upd_ne hb⟩ fun b o hb e => hx b o hb e
  | some cv =>
    refine wpAny_genexprCode_hit hcode (cd.code hPs ht) hf ?_
    exact cont cv s1 H1 I1 ⟨⟨ps, hP, ht⟩, fun _ _ => rfl⟩ fun b o _ e => e
/-- all(elt for x in iter) -/
theorem pe_all (hr : Room (k + 1) X.A) (hc : X.calm = true) (hg : Gl X "all") (hm : X.mg "all" = none) (TB : LamX.TabB X.base X.mg c P) (hcode : X.env.code = .ref c)
    (G : GN X.N X.env.scope scope x N pad j) (hi : PI X (.Name x px) iter wi)
    (hel : ∀ (A : Around) (s : Shared) (H : Hp) (cl : List (Str × Addr)) (C : Addr) (code : Value) (fp : List Addr) (pn : List (Addr × Obj)), Room k A → PE (gcx X A s H (genEnv scope cl C code builtinsNs X.env) N fp pn) elt te)
    (hs : ∀ v, genFold iter X.env v = pure v := by intro _; rfl)
    (he : starEach [.GeneratorExp elt [⟨.Name x px, iter, [], 0⟩] scope gpos] X.env = (false, eval (.GeneratorExp elt [⟨.Name x px, iter, [], 0⟩] scope gpos) X.env) :: starEach [] X.env := by rfl) :
    PE X (.Call (.Name "all" p) [.GeneratorExp elt [⟨.Name x px, iter, [], 0⟩] scope gpos] [] pos) (tGen P true wi te pad j) := by
  constructor
  intro pins s σ H Q I h
  refine wpAny_Call_Name_kw (ld_blt I hg hm boot_all ?_)
  refine PyProof.Rows.callWith_builtin1 ?_ he (by rfl)
  rw [he]
  show wpAny _ _ (spliced ((false, eval (.GeneratorExp elt [⟨.Name x px, iter, [], 0⟩] scope gpos) X.env) :: backTo pos (starEach [] X.env))) _ _ s
  refine Calls.spliced_cons (gen_core (Q := fun b H3 => Q (.bl b) H3) (go := true) hr hc TB hcode G hi hel hs I h fun Xg a g n s5 g1 g2 g3 g4 g5 => ?_)
  refine Calls.spliced_nil ?_
  refine call_function_tree F.kind_all F.plain_all F.entry_all (F.args_all1 _) ?_
  unfold Builtin.«all»
  refine wpAny_bind (m := oneArg "all" _) (wpAny_pure ?_)
  refine wpAny_bind (wpAny_pyIter_gen g3 ?_)
  refine wpAny_pure ⟨plainId_quiet F.plain_all_loop _, loop_all hr.hd hr.depth g1 (fun b pns σ' H' s1 J q s' h1 h2 h3 => ?_) n s5 g3 g4 g5⟩
  refine ⟨.bl b, H', g2 pns σ' H' s1 J s' h1 h2 h3, rfl, ?_⟩
  cases b <;> exact q
/-- any(elt for x in iter) -/
theorem pe_any (hr : Room (k + 1) X.A) (hc : X.calm = true) (hg : Gl X "any") (hm : X.mg "any" = none) (TB : LamX.TabB X.base X.mg c P) (hcode : X.env.code = .ref c)
    (G : GN X.N X.env.scope scope x N pad j) (hi : PI X (.Name x px) iter wi)
    (hel : ∀ (A : Around) (s : Shared) (H : Hp) (cl : List (Str × Addr)) (C : Addr) (code : Value) (fp : List Addr) (pn : List (Addr × Obj)), Room k A → PE (gcx X A s H (genEnv scope cl C code builtinsNs X.env) N fp pn) elt te)
    (hs : ∀ v, genFold iter X.env v = pure v := by intro _; rfl)
    (he : starEach [.GeneratorExp elt [⟨.Name x px, iter, [], 0⟩] scope gpos] X.env = (false, eval (.GeneratorExp elt [⟨.Name x px, iter, [], 0⟩] scope gpos) X.env) :: starEach [] X.env := by rfl) :
    PE X (.Call (.Name "any" p) [.GeneratorExp elt [⟨.Name x px, iter, [], 0⟩] scope gpos] [] pos) (tGen P false wi te pad j) := by
  constructor
  intro pins s σ H Q I h
  refine wpAny_Call_Name_kw (ld_blt I hg hm boot_any ?_)
  refine PyProof.Rows.callWith_builtin1 ?_ he (by rfl)
  rw [he]
  show wpAny _ _ (spliced ((false, eval (.GeneratorExp elt [⟨.Name x px, iter, [], 0⟩] scope gpos) X.env) :: backTo pos (starEach [] X.env))) _ _ s
  refine Calls.spliced_cons (gen_core (Q := fun b H3 => Q (.bl b) H3) (go := false) hr hc TB hcode G hi hel hs I h fun Xg a g n s5 g1 g2 g3 g4 g5 => ?_)
  refine Calls.spliced_nil ?_
  refine call_function_tree F.kind_any F.plain_any F.entry_any (F.args_any1 _) ?_
  unfold Builtin.«any»
  refine wpAny_bind (m := oneArg "any" _) (wpAny_pure ?_)
  refine wpAny_bind (wpAny_pyIter_gen g3 ?_)
  refine wpAny_pure ⟨plainId_quiet F.plain_any_loop _, loop_any hr.hd hr.depth g1 (fun b pns σ' H' s1 J q s' h1 h2 h3 => ?_) n s5 g3 g4 g5⟩
  refine ⟨.bl b, H', g2 pns σ' H' s1 J s' h1 h2 h3, rfl, ?_⟩
  cases b <;> exact q
end
end GA

/-! What all proofs of this program lean on. -/
namespace LT
open PySem PySem.Spec PyProof.Rows L2 GA

/-! ### what stays -/
/-- nothing that was tracked is gone or changed; tables of code objects may have grown -/
structure Ex (H H' : Hp) : Prop where
  keep : ∀ b o, H b = some o → (∀ ps, o ≠ .tbl ps) → H' b = some o
  tab : ∀ b, TabG H b → TabG H' b
  free : ∀ b, H' b = none → H b = none
theorem Ex.refl (H : Hp) : Ex H H := ⟨fun _ _ h _ => h, fun _ h => h, fun _ h => h⟩
theorem Ex.trans {H H1 H2 : Hp} (a : Ex H H1) (b : Ex H1 H2) : Ex H H2 :=
  ⟨fun c o h n => b.keep c o (a.keep c o h n) n, fun c h => b.tab c (a.tab c h), fun c h => a.free c (b.free c h)⟩
theorem Ex.new {H : Hp} {p : Addr} {o : HO} (h : H p = none) : Ex H (upd H p o) := by
  constructor
  · intro b u e _
    rw [upd_ne (ne_of_none e h)]
    exact e
  · rintro b ⟨ps, e, t⟩
    exact ⟨ps, by rw [upd_ne (ne_of_none e h)]; exact e, t⟩
  · intro b e
    by_cases hb : b = p
    · rw [hb]; exact h
    · rw [upd_ne hb] at e; exact e
theorem Ex.tabd {P : Addr} {H H' : Hp} (h : Tabd P H H') (hP : TabG H P) : Ex H H' := by
  obtain ⟨⟨ps, e, t⟩, hk⟩ := h
  constructor
  · intro b o e1 n
    have hb : b ≠ P := fun z => by
      obtain ⟨qs, e2, _⟩ := hP
      rw [z, e2] at e1
      cases e1
      exact n qs rfl
    rw [hk b hb]
    exact e1
  · intro b hb
    by_cases z : b = P
    · rw [z]; exact ⟨ps, e, t⟩
    · obtain ⟨qs, e2, t2⟩ := hb
      exact ⟨qs, by rw [hk b z]; exact e2, t2⟩
  · intro b hb
    by_cases z : b = P
    · rw [z, e] at hb; cases hb
    · rw [hk b z] at hb; exact hb
theorem Ex.rd {H H' : Hp} {a : Addr} {u : HO} (x : Ex H H') (h : Rd H a u) (n : ∀ ps, u ≠ .tbl ps) : Rd H' a u := by
  rcases h with h | ⟨o, h⟩
  · exact Or.inl (x.keep _ _ h n)
  · exact Or.inr ⟨o, x.keep _ _ h (fun ps z => by cases z)⟩
theorem Ex.tup {K : PySem.W.Frag} {H H' : Hp} {a : Addr} {xs : List V} (x : Ex H H') (h : SqT K H a xs) : SqT K H' a xs := by
  rcases h with h | h
  · exact Or.inl (x.rd h (fun ps z => by cases z))
  · exact Or.inr h
theorem Ex.lst {K : PySem.W.Frag} {H H' : Hp} {a : Addr} {xs : List V} (x : Ex H H') (h : SqL K H a xs) : SqL K H' a xs := by
  rcases h with h | h
  · exact Or.inl (x.rd h (fun ps z => by cases z))
  · exact Or.inr h

/-! ### kinds of things -/
inductive Kn (K : PySem.W.Frag) (H : Hp) : V → String → Prop
  | non : Kn K H .non "NoneType"
  | bl (b : Bool) : Kn K H (.bl b) "bool"
  | int (i : Int) : Kn K H (.int i) "int"
  | str (z : Str) : Kn K H (.str z) "str"
  | lst {a : Addr} {xs : List V} (e : SqL K H a xs) : Kn K H (.ref a) "list"
  | tup {a : Addr} {xs : List V} (e : SqT K H a xs) : Kn K H (.ref a) "tuple"
  | dK {a : Addr} {kvs : List (Key × V)} (e : H a = some (.dK kvs)) : Kn K H (.ref a) "dict"
  | dT {a : Addr} {kvs : List (List Key × V)} (e : H a = some (.dT kvs)) : Kn K H (.ref a) "dict"
  | dX {a : Addr} {f : Heap → Prop} (e : H a = some (.ext f)) (c : ∀ h, f h → ∃ o, h.get? a = some o ∧ o.cls = .type "dict") : Kn K H (.ref a) "dict"
theorem Kn.ex {K : PySem.W.Frag} {H H' : Hp} {v : V} {n : String} (x : Ex H H') (h : Kn K H v n) : Kn K H' v n := by
  cases h with
  | non => exact .non
  | bl b => exact .bl b
  | int i => exact .int i
  | str z => exact .str z
  | lst e => exact .lst (x.lst e)
  | tup e => exact .tup (x.tup e)
  | dK e => exact .dK (x.keep _ _ e (fun ps z => by cases z))
  | dT e => exact .dT (x.keep _ _ e (fun ps z => by cases z))
  | dX e c => exact .dX (x.keep _ _ e (fun ps z => by cases z)) c
def isB (n m : String) : Bool := n == m || (n == "bool" && m == "int")
def okT (m : String) : Bool := ["str", "tuple", "int", "bool", "dict", "list"].contains m
def rIs (K : PySem.W.Frag) : List V → Hp → VK → Prop := fun xs H Q => ∃ (x : V) (n m : String), xs = [x, .ty m] ∧ Kn K H x n ∧ okT m = true ∧ Q (.bl (isB n m)) H
theorem okT_cases {m : String} (h : okT m = true) : m = "str" ∨ m = "tuple" ∨ m = "int" ∨ m = "bool" ∨ m = "dict" ∨ m = "list" := by
  have h2 : m ∈ ["str", "tuple", "int", "bool", "dict", "list"] := List.contains_iff_mem.mp h
  simpa using h2
theorem Kn.isStr {K : PySem.W.Frag} {H : Hp} {v : V} (h : Kn K H v "str") : ∃ z, v = .str z := by
  generalize e : "str" = n at h
  cases h with
  | str z => exact ⟨z, rfl⟩
  | _ => exact absurd e (by decide)
theorem Kn.isTup {K : PySem.W.Frag} {H : Hp} {v : V} (h : Kn K H v "tuple") : ∃ a xs, v = .ref a ∧ SqT K H a xs := by
  generalize e : "tuple" = n at h
  cases h with
  | tup k => exact ⟨_, _, rfl, k⟩
  | _ => exact absurd e (by decide)
theorem Kn.is {K : PySem.W.Frag} {H : Hp} {v : V} {n m : String} (h : Kn K H v n) (hn : n ≠ m) (hb : n = "bool" → m ≠ "int") : isB n m = false := by
  unfold isB
  rw [beq_false_of_ne hn, Bool.false_or]
  cases e : n == "bool" with
  | false => rfl
  | true => rw [beq_false_of_ne (hb (beq_iff_eq.mp e))]; rfl
theorem Kn.notStr {K : PySem.W.Frag} {H : Hp} {v : V} {n : String} (h : Kn K H v n) (hn : n ≠ "str") : isB n "str" = false := h.is hn (fun _ => by decide)
theorem Kn.notTup {K : PySem.W.Frag} {H : Hp} {v : V} {n : String} (h : Kn K H v n) (hn : n ≠ "tuple") : isB n "tuple" = false := h.is hn (fun _ => by decide)
section
variable {X : Cx}
theorem call_is : CallR X (.builtin "isinstance") (rIs X.K) := by
  intro pins s σ H xs us Q I r h
  obtain ⟨x, n, m, rfl, kn, hm, q⟩ := h
  obtain ⟨u1, u2, rfl, r1, r2⟩ := vals2 r
  obtain rfl : u2 = Value.type m := r2
  have fin : ∀ tk, EP X pins σ Q (.bool (isB n m)) { s with toks := tk } := fun tk => ⟨.bl _, H, I.tok tk, rfl, q⟩
  have go : ∀ (t : String) (P : Heap → Prop), PySem.W.KitX X.K u1 (.type t) P → P s.heap → u1 ≠ .builtin "__main__.__loader__#opaque" → kitB t m = some (isB n m) →
      wpAny (model X.prog X.w) X.A (call (.builtin "isinstance") [u1, .type m]) (EP X pins σ Q) X.xe s :=
    fun t P Z p hx e => PySem.W.kia_one Z I.kIn p (kit_ty e) hx fin
  have base : ∀ t, TyX X.K H x (.type t) → kitB t m = some (isB n m) → wpAny (model X.prog X.w) X.A (call (.builtin "isinstance") [u1, .type m]) (EP X pins σ Q) X.xe s := fun t ty e => by
    obtain ⟨P, Z, p, hx⟩ := kit_of I r1 ty
    exact PySem.W.kia_one Z I.kIn p (kit_ty e) hx fin
  have seqT : ∀ {a : Addr} {ys : List V}, SqT X.K H a ys → TyX X.K H (.ref a) (.type "tuple") := fun {a ys} e => by
    rcases e with (e | ⟨o, e⟩) | ⟨o, its, k, e, c, _⟩
    · exact .base (.tup e)
    · exact .fTuple e
    · exact .kTuple e c
  have seqL : ∀ {a : Addr} {ys : List V}, SqL X.K H a ys → TyX X.K H (.ref a) (.type "list") := fun {a ys} e => by
    rcases e with (e | ⟨o, e⟩) | ⟨o, its, k, e, c, _⟩
    · exact .base (.lst e)
    · exact .base (.frz e)
    · exact .kList e c
  rcases okT_cases hm with rfl | rfl | rfl | rfl | rfl | rfl <;> cases kn
  all_goals first
    | exact base _ (.base .non) (by decide +kernel)
    | exact base _ (.base (.bl _)) (by decide +kernel)
    | exact base _ (.base (.int _)) (by decide +kernel)
    | exact base _ (.base (.str _)) (by decide +kernel)
    | exact base _ (seqL (by assumption)) (by decide +kernel)
    | exact base _ (seqT (by assumption)) (by decide +kernel)
    | exact base _ (.base (.dK (by assumption))) (by decide +kernel)
    | exact base _ (.base (.dT (by assumption))) (by decide +kernel)
    | (rename_i a f e c
       cases (show u1 = Value.ref a from r1)
       exact go "dict" _ PySem.W.kitx_dict (c _ (I.hok a _ e).1) (fun z => nomatch z) (by decide +kernel))
end

/-! ### a def whose code object's table is told -/
structure FunC (K : PySem.W.Frag) (x qual : Str) (st : Stmt) (f : Addr) (fd : FuncData) (c : Addr) : Prop where
  ex : ∃ (oc : Value) (od : Option Addr) (kV doc pm : Value) (an : Option Addr) (ct : Value) (osl : Array (Option Value)),
    fd = PySem.W.fnOf x qual (defArgs st) (defBody st) (defScope st) .none kV doc pm an (.ref c) ct ∧ K.lookup f = some ⟨oc, od, .func fd, osl⟩ ∧ PySem.W.codeIn K (.ref c) qual = true
  kp : PySem.W.keepIn K (.ref f) = true
theorem FunC.fn {K : PySem.W.Frag} {x qual : Str} {st : Stmt} {f c : Addr} {fd : FuncData} (F : FunC K x qual st f fd c) : Fun K x qual st f fd := by
  obtain ⟨oc, od, kV, doc, pm, an, ct, osl, e, l, h⟩ := F.ex
  exact ⟨⟨oc, od, kV, doc, pm, an, _, ct, osl, e, l, h⟩, F.kp⟩
section
variable {P : Program} {w : World} {K : PySem.W.Frag} {mg : Str → Option Value} {base : Heap}
theorem FunC.ok {x qual : Str} {st : Stmt} {f c : Addr} {fd : FuncData} {N ps : List Str} {k : Nat} {sp : Sp} (F : FunC K x qual st f fd c) (S : FnScope N ps (defScope st)) (len : ∀ vs H Q E, sp vs H Q E → vs.length = ps.length)
    (hbody : ∀ (A : Around) (outer : List Env) (s : Shared) (H : Hp) (vs : List V) (Q : VK) (E : XK), Room k (A.deeper (envOfC qual (defScope st) s.heap.objs.size f (.ref c))) → sp vs H Q E →
      ∃ t, PSs (cxOf CX0 P w K mg base N qual (defScope st) f (.ref c) A outer s H E).nox (defBody st) t ∧ t { nx := fun _ H' => Q .non H', rt := Q } (start N vs) H) :
    FnOk P w K mg base CX0 (k + 1) f fd ps sp := by
  obtain ⟨oc, od, kV, doc, pm, an, ct, osl, rfl, lk, hcd⟩ := F.ex
  refine fn_of lk hcd S len ?_
  intro A outer s H vs Q E hr hsp
  obtain ⟨t, h, q⟩ := hbody A outer s H vs Q E hr hsp
  exact ⟨t, h.nox, q⟩
end

/-! ### more operators -/
section
variable {X : Cx}
/-- xs[i], by values -/
theorem get_list : PGet X (rIxL X.K) := by
  intro pins s σ H x y v u Q I rx ry h
  obtain ⟨p, xs, i, z, rfl, rfl, hq, he, q⟩ := h
  cases rx
  obtain ⟨t, rfl⟩ := ry
  obtain ⟨its, r, pl, hz⟩ := I.list hq
  obtain ⟨j, h1, h2, h3, h4, h5⟩ := atI_get he
  obtain ⟨w, ew, rw'⟩ := r.get h2
  have hl := r.length
  have hn := line63
  have fin : EP X pins σ Q w s := ⟨z, H, I, rw', q⟩
  by_cases h0 : 0 ≤ i
  · have hj : i.toNat = j := by
      rw [seqIndex_of h0 h5] at h1
      exact Option.some.inj h1
    exact wpAny_getItem_list pl.isList h0 (by omega) (by rw [hj]; simpa using ew) fin
  · have hj : (i + (its.toArray.size : Int)).toNat = j := by
      rw [seqIndex_neg (by omega) h4] at h1
      rw [List.size_toArray, ← hl]
      exact Option.some.inj h1
    exact wpAny_getItem_list_neg pl.isList (by omega) (by rw [List.size_toArray] <;> omega) (by omega) (by rw [hj]; simpa using ew) fin
/-- a text times a number -/
theorem op_repS : OpR X (binaryOp .Mult) (fun x y H Q => ∃ (z : Str) (n : Int), x = .str z ∧ y = .int n ∧ MulOk z n ∧ Q (.str (Txt.mul z n)) H) := by
  intro pins s σ H x y v u Q I rx ry h
  obtain ⟨z, n, rfl, rfl, hm, q⟩ := h
  obtain ⟨t, rfl⟩ := rx
  obtain ⟨t', rfl⟩ := ry
  exact SB.mul hm fun t' k => ⟨.str _, H, I.tok _, ⟨_, rfl⟩, q⟩
end

/-! ### a generator's names, by computation -/
def gnB (N0 N : List Str) (sc scope : Scope) (x : Str) (pad j : Nat) : Bool :=
  (match scope.kind with | .function => true | _ => false) && (!scope.isCoroutine) && (scope.names.all fun y => !(y.2 == .cell)) &&
    decide (scope.names.lookup (".0" : Str) = some NameKind.local) && decide (scope.names.lookup x = some .local) &&
    (scope.names.all fun y => !(y.2 == .local) || decide (y.1 = x) || decide (y.1 ∉ N)) &&
    (scope.names.all fun y => !(y.2 == .free) || decide (sc.names.lookup y.1 = some .cell) || decide (sc.names.lookup y.1 = some .free)) &&
    decide N.Nodup && decide (N[j]? = some x) && decide (N.length = N0.length + pad) && decide (N.take N0.length = N0)
theorem gn_by {N0 N : List Str} {sc scope : Scope} {x : Str} {pad j : Nat} (h : gnB N0 N sc scope x pad j = true) : GN N0 sc scope x N pad j := by
  unfold gnB at h
  simp only [Bool.and_eq_true, decide_eq_true_eq, List.all_eq_true, Bool.or_eq_true, Bool.not_eq_true'] at h
  obtain ⟨⟨⟨⟨⟨⟨⟨⟨⟨⟨h1, h2⟩, h3⟩, h4⟩, h5⟩, h6⟩, h7⟩, h8⟩, h9⟩, h10⟩, h11⟩ := h
  refine ⟨?_, h2, ?_, h4, h5, ?_, ?_, h8, h9, h10, h11⟩
  · cases e : scope.kind <;> rw [e] at h1 <;> first | rfl | cases h1
  · intro y hy e
    have := h3 y hy
    rw [e] at this
    exact absurd this (by decide)
  · intro y hy e
    rcases h6 y hy with (z | z) | z
    · rw [e] at z
      exact absurd z (by decide)
    · exact Or.inl z
    · exact Or.inr z
  · intro y hy e
    rcases h7 y hy with (z | z) | z
    · rw [e] at z
      exact absurd z (by decide)
    · exact Or.inl z
    · exact Or.inr z

/-! ### names, paths, texts -/
def lettersS : Str := "abcdefghijklmnopqrstuvwxyz"
def signsS : Str := "abcdefghijklmnopqrstuvwxyz "
def allIn (z a : Str) : Bool := z.cps.toList.all fun c => decide (c ∈ a.cps.toList)
def nameB (z : Str) : Bool := decide (1 ≤ z.length) && decide (z.length ≤ 4) && allIn z lettersS
def textB (z : Str) : Bool := decide (z.length ≤ 40) && allIn z signsS
def isNameV : V → Bool
  | .str z => nameB z
  | _ => false
def isTextV : V → Bool
  | .str z => textB z
  | _ => false
/-- a thing that may be asked: of a known kind, a text not too long -/
def Asked (K : PySem.W.Frag) (H : Hp) (v : V) : Prop := ∃ n, Kn K H v n ∧ ∀ z, v = .str z → z.length ≤ sizeLine
theorem Asked.ex {K : PySem.W.Frag} {H H' : Hp} {v : V} (x : Ex H H') (h : Asked K H v) : Asked K H' v := by
  obtain ⟨n, k, z⟩ := h
  exact ⟨n, k.ex x, z⟩
theorem Kn.noName {K : PySem.W.Frag} {H : Hp} {v : V} {n : String} (h : Kn K H v n) (hn : n ≠ "str") : isNameV v = false := by
  cases h with
  | str z => exact absurd rfl hn
  | _ => rfl
theorem Kn.noText {K : PySem.W.Frag} {H : Hp} {v : V} {n : String} (h : Kn K H v n) (hn : n ≠ "str") : isTextV v = false := by
  cases h with
  | str z => exact absurd rfl hn
  | _ => rfl
/-- is the thing a path? -/
inductive PathB (K : PySem.W.Frag) (H : Hp) : V → Bool → Prop
  | tup {a : Addr} {xs : List V} (e : SqT K H a xs) (k : ∀ x ∈ xs, Asked K H x) : PathB K H (.ref a) (decide (xs.length ≤ 5) && xs.all isNameV)
  | oth {v : V} {n : String} (k : Kn K H v n) (h : n ≠ "tuple") : PathB K H v false
theorem PathB.ex {K : PySem.W.Frag} {H H' : Hp} {v : V} {b : Bool} (x : Ex H H') (h : PathB K H v b) : PathB K H' v b := by
  cases h with
  | tup e k => exact .tup (x.tup e) fun y hy => (k y hy).ex x
  | oth k h => exact .oth (k.ex x) h
/-- a path stands at a -/
def PathAt (K : PySem.W.Frag) (H : Hp) (a : Addr) (p : List Str) : Prop := SqT K H a (p.map V.str)
def goodPath (p : List Str) : Bool := decide (p.length ≤ 5) && p.all nameB
theorem nameB_small {z : Str} (h : nameB z = true) : z.length ≤ 4 := by
  unfold nameB at h
  simp only [Bool.and_eq_true, decide_eq_true_eq] at h
  exact h.1.2
theorem PathAt.b {K : PySem.W.Frag} {H : Hp} {a : Addr} {p : List Str} (h : PathAt K H a p) (hz : ∀ z ∈ p, z.length ≤ sizeLine) : PathB K H (.ref a) (goodPath p) := by
  have e : goodPath p = (decide ((p.map V.str).length ≤ 5) && (p.map V.str).all isNameV) := by
    unfold goodPath
    rw [List.length_map, List.all_map]
    rfl
  rw [e]
  refine .tup h fun x hx => ?_
  obtain ⟨z, hm, rfl⟩ := List.mem_map.mp hx
  exact ⟨"str", .str z, fun y e => by cases e; exact hz z hm⟩

def begs (p : List Str) : List (List Str) := (List.range (p.length + 1)).map fun i => p.take i
/-- a list of paths stands at l -/
def PathsAt (K : PySem.W.Frag) (H : Hp) (l : Addr) (ps : List (List Str)) : Prop := ∃ rs : List Addr, H l = some (.lst (rs.map V.ref)) ∧ Paired (fun r p => PathAt K H r p) rs ps
/-! ### walks by a generator -/
section
variable {J : It} {te : TE} {σ0 : L2.St} {j : Nat} {Q : Bool → Hp → Prop} {H0 : Hp}
/-- all of n answers f i; the heap may grow at each -/
theorem gw_all {n : Nat} (f : Nat → Bool) (st : ∀ H, Ex H0 H → J.stop n H) (gg : ∀ i H, i < n → Ex H0 H → J.go i H)
    (step : ∀ i H y H', i < n → Ex H0 H → J.yld i H y H' → ∀ R : VK, (∀ H3, Ex H0 H3 → R (.bl (f i)) H3) → te (σ0.set j (some y)) H' R)
    (fin : ∀ H, Ex H0 H → Q ((List.range n).all f) H) : GW J te σ0 j true Q H0 := by
  refine ⟨fun i m H => i ≤ n ∧ m = n - i ∧ Ex H0 H ∧ ∀ k, k < i → f k = true, ⟨n, Nat.zero_le _, rfl, Ex.refl _, fun k hk => absurd hk (Nat.not_lt_zero _)⟩, ?_⟩
  rintro i m H ⟨hi, rfl, x, hf⟩
  rcases Nat.lt_or_ge i n with h | h
  · refine Or.inr ⟨gg i H h x, fun y H' hy => step i H y H' h x hy _ fun H3 x3 => ⟨f i, rfl, fun e => ?_, fun e => ⟨n - (i + 1), by omega, h, rfl, x3, fun k hk => ?_⟩⟩⟩
    · have e2 : f i = false := by cases q : f i <;> simp_all
      have := fin H3 x3
      rwa [show (List.range n).all f = false from List.all_eq_false.mpr ⟨i, List.mem_range.mpr h, by rw [e2]; decide⟩] at this
    · by_cases hk2 : k = i
      · rw [hk2]; exact e
      · exact hf k (by omega)
  · have hin : i = n := by omega
    subst hin
    refine Or.inl ⟨st H x, ?_⟩
    have := fin H x
    rwa [show (List.range i).all f = true from List.all_eq_true.mpr fun k hk => hf k (List.mem_range.mp hk)] at this
theorem gw_any {n : Nat} (f : Nat → Bool) (st : ∀ H, Ex H0 H → J.stop n H) (gg : ∀ i H, i < n → Ex H0 H → J.go i H)
    (step : ∀ i H y H', i < n → Ex H0 H → J.yld i H y H' → ∀ R : VK, (∀ H3, Ex H0 H3 → R (.bl (f i)) H3) → te (σ0.set j (some y)) H' R)
    (fin : ∀ H, Ex H0 H → Q ((List.range n).any f) H) : GW J te σ0 j false Q H0 := by
  refine ⟨fun i m H => i ≤ n ∧ m = n - i ∧ Ex H0 H ∧ ∀ k, k < i → f k = false, ⟨n, Nat.zero_le _, rfl, Ex.refl _, fun k hk => absurd hk (Nat.not_lt_zero _)⟩, ?_⟩
  rintro i m H ⟨hi, rfl, x, hf⟩
  rcases Nat.lt_or_ge i n with h | h
  · refine Or.inr ⟨gg i H h x, fun y H' hy => step i H y H' h x hy _ fun H3 x3 => ⟨f i, rfl, fun e => ?_, fun e => ⟨n - (i + 1), by omega, h, rfl, x3, fun k hk => ?_⟩⟩⟩
    · have e2 : f i = true := by cases q : f i <;> simp_all
      have := fin H3 x3
      rwa [show (List.range n).any f = true from List.any_eq_true.mpr ⟨i, List.mem_range.mpr h, e2⟩] at this
    · by_cases hk2 : k = i
      · rw [hk2]; exact e
      · exact hf k (by omega)
  · have hin : i = n := by omega
    subst hin
    refine Or.inl ⟨st H x, ?_⟩
    have := fin H x
    rwa [show (List.range i).any f = false from List.any_eq_false.mpr fun k hk => by rw [hf k (List.mem_range.mp hk)]; decide] at this
theorem all_of_range {α : Type} (g : α → Bool) (l : List α) (f : Nat → Bool) (h : ∀ (i : Nat) x, l[i]? = some x → f i = g x) : (List.range l.length).all f = l.all g := by
  rw [Bool.eq_iff_iff, List.all_eq_true, List.all_eq_true]
  constructor
  · intro a x hx
    obtain ⟨i, hi, e⟩ := List.getElem_of_mem hx
    have e2 : l[i]? = some x := by rw [List.getElem?_eq_getElem hi, e]
    rw [← h i x e2]
    exact a i (List.mem_range.mpr hi)
  · intro a i hi
    have hl := List.mem_range.mp hi
    rw [h i l[i] (List.getElem?_eq_getElem hl)]
    exact a _ (List.getElem_mem hl)
theorem any_of_range {α : Type} (g : α → Bool) (l : List α) (f : Nat → Bool) (h : ∀ (i : Nat) x, l[i]? = some x → f i = g x) : (List.range l.length).any f = l.any g := by
  rw [Bool.eq_iff_iff, List.any_eq_true, List.any_eq_true]
  constructor
  · rintro ⟨i, hi, a⟩
    have hl := List.mem_range.mp hi
    exact ⟨l[i], List.getElem_mem hl, by rw [← h i l[i] (List.getElem?_eq_getElem hl)]; exact a⟩
  · rintro ⟨x, hx, a⟩
    obtain ⟨i, hi, e⟩ := List.getElem_of_mem hx
    exact ⟨i, List.mem_range.mpr hi, by rw [h i x (by rw [List.getElem?_eq_getElem hi, e])]; exact a⟩
/-- the signs of a text -/
theorem gw_str {z : Str} (g : Nat → Bool) (step : ∀ c H, Ex H0 H → ∀ R : VK, R (.bl (g c)) H → te (σ0.set j (some (.str ⟨#[c]⟩))) H R)
    (fin : ∀ H, Ex H0 H → Q (z.cps.toList.all g) H) : GW (Its z) te σ0 j true Q H0 := by
  refine gw_all (n := z.cps.size) (fun i => g (z.cps.toList.getD i 0)) (fun H _ => Nat.le_refl _) (fun i H h _ => h) ?_ ?_
  · rintro i H y H' h x ⟨rfl, c, hc, rfl⟩ R hR
    have e : z.cps.toList.getD i 0 = c := by
      rw [List.getD_eq_getElem?_getD, Array.getElem?_toList, hc]
      rfl
    exact step c H' x R (by have := hR H' x; rwa [e] at this)
  · intro H x
    have := fin H x
    rw [← all_of_range g z.cps.toList (fun i => g (z.cps.toList.getD i 0)) (fun i c e => by rw [List.getD_eq_getElem?_getD, e]; rfl)] at this
    simpa using this
/-- the items of a tuple -/
theorem gw_tup {K : PySem.W.Frag} {a : Addr} {xs : List V} (g : V → Bool) (ha : SqT K H0 a xs)
    (step : ∀ y H, y ∈ xs → Ex H0 H → ∀ R : VK, (∀ H3, Ex H0 H3 → R (.bl (g y)) H3) → te (σ0.set j (some y)) H R)
    (fin : ∀ H, Ex H0 H → Q (xs.all g) H) : GW (Itt K a) te σ0 j true Q H0 := by
  refine gw_all (n := xs.length) (fun i => (xs[i]?.map g).getD true) (fun H x => ⟨xs, x.tup ha, Nat.le_refl _⟩) (fun i H h x => ⟨xs, xs[i], x.tup ha, List.getElem?_eq_getElem h⟩) ?_ ?_
  · rintro i H y H' h x ⟨rfl, hy⟩ R hR
    have e : xs[i]? = some y := hy xs (x.tup ha)
    refine step y H' (List.mem_of_getElem? e) x R fun H3 x3 => ?_
    have := hR H3 x3
    rw [e] at this
    exact this
  · intro H x
    have := fin H x
    rwa [← all_of_range g xs (fun i => (xs[i]?.map g).getD true) (fun i c e => by rw [e]; rfl)] at this
end

/-! ### paths as data -/
theorem letters_ok : ∀ c ∈ lettersS.cps.toList, 32 ≤ c ∧ c < 127 := by decide +kernel
theorem signs_ok : ∀ c ∈ signsS.cps.toList, 32 ≤ c ∧ c < 127 := by decide +kernel
theorem str_ok {z : Str} (h : ∀ c ∈ z.cps.toList, 32 ≤ c ∧ c < 127) : PyData.strOk z = true := by
  unfold PyData.strOk
  rw [← Array.all_toList, List.all_eq_true]
  intro c hc
  exact decide_eq_true (Nat.lt_trans (h c hc).2 (by decide))
def pathD (p : List Str) : PyData := .tuple (p.map .str)
theorem eqvAll_strs : ∀ p q : List Str, PyData.eqvAll (p.map .str) (q.map .str) = decide (p = q)
  | [], [] => by simp [PyData.eqvAll]
  | [], y :: q => by simp [PyData.eqvAll]
  | x :: p, [] => by simp [PyData.eqvAll]
  | x :: p, y :: q => by
    simp only [List.map_cons, PyData.eqvAll, PyData.eqv, eqvAll_strs p q]
    by_cases h : x = y
    · subst h
      by_cases h2 : p = q <;> simp [h2]
    · rw [beq_false_of_ne h, Bool.false_and]
      exact (decide_eq_false fun e => h (List.cons.inj e).1).symm
theorem eqv_path (p q : List Str) : PyData.eqv (pathD p) (pathD q) = decide (p = q) := by
  show PyData.eqvAll _ _ = _
  exact eqvAll_strs p q
theorem name_ok {z : Str} (h : nameB z = true) : PyData.strOk z = true := by
  unfold nameB allIn at h
  simp only [Bool.and_eq_true, List.all_eq_true, decide_eq_true_eq] at h
  exact str_ok fun c hc => letters_ok c (h.2 c hc)
theorem canLay_strs : ∀ {p : List Str}, (∀ z ∈ p, PyData.strOk z = true) → PyData.canLayAll0 (p.map .str) = true
  | [], _ => by simp [PyData.canLayAll0]
  | x :: p, h => by
    simp only [List.map_cons, PyData.canLayAll0, PyData.canLay0, Bool.and_eq_true]
    exact ⟨h x (List.mem_cons_self ..), canLay_strs fun z hz => h z (List.mem_cons_of_mem _ hz)⟩
theorem depth_strs : ∀ p : List Str, PyData.depthAll (p.map .str) = 0
  | [] => by simp [PyData.depthAll]
  | x :: p => by
    simp only [List.map_cons, PyData.depthAll, PyData.depth, depth_strs p]
    rfl
theorem shaped_path {p : List Str} (h : ∀ z ∈ p, PyData.strOk z = true) : SeqAt.shaped (pathD p) = true := by
  unfold SeqAt.shaped pathD
  rw [Bool.and_eq_true]
  refine ⟨by simp only [PyData.canLay0]; exact canLay_strs h, ?_⟩
  simp only [PyData.depth, depth_strs]
  decide
theorem dpAll_strs {K : PySem.W.Frag} {H : Hp} : ∀ p : List Str, DpAll K H (p.map V.str) (p.map .str)
  | [] => .nil
  | x :: p => .cons (.str x) (dpAll_strs p)
theorem PathAt.dp {K : PySem.W.Frag} {H : Hp} {a : Addr} {p : List Str} (h : PathAt K H a p) : Dp K H (.ref a) (pathD p) := .tup h (dpAll_strs p)
theorem PathAt.ex {K : PySem.W.Frag} {H H' : Hp} {a : Addr} {p : List Str} (x : Ex H H') (h : PathAt K H a p) : PathAt K H' a p := Ex.tup x h
theorem goodPath_names {p : List Str} (h : goodPath p = true) : p.length ≤ 5 ∧ ∀ z ∈ p, nameB z = true := by
  unfold goodPath at h
  simp only [Bool.and_eq_true, decide_eq_true_eq, List.all_eq_true] at h
  exact h
theorem goodPath_ok {p : List Str} (h : goodPath p = true) : ∀ z ∈ p, PyData.strOk z = true := fun z hz => name_ok ((goodPath_names h).2 z hz)
theorem goodPath_small {p : List Str} (h : goodPath p = true) : ∀ z ∈ p, z.length ≤ sizeLine := fun z hz => Nat.le_trans (nameB_small ((goodPath_names h).2 z hz)) (by decide)
theorem goodPath_of {p q : List Str} (h : goodPath p = true) (hl : q.length ≤ p.length) (hm : ∀ z ∈ q, z ∈ p) : goodPath q = true := by
  obtain ⟨h1, h2⟩ := goodPath_names h
  unfold goodPath
  rw [Bool.and_eq_true, decide_eq_true_eq, List.all_eq_true]
  exact ⟨Nat.le_trans hl h1, fun z hz => h2 z (hm z hz)⟩
theorem goodPath_take {p : List Str} (h : goodPath p = true) (n : Nat) : goodPath (p.take n) = true :=
  goodPath_of h (by rw [List.length_take]; omega) fun z hz => List.mem_of_mem_take hz
theorem goodPath_drop {p : List Str} (h : goodPath p = true) (n : Nat) : goodPath (p.drop n) = true :=
  goodPath_of h (by rw [List.length_drop]; omega) fun z hz => List.mem_of_mem_drop hz

/-! ### a list of ours that grows -/
theorem Ex.put {H0 H : Hp} {D : Addr} {o : HO} (x : Ex H0 H) (h : H0 D = none) : Ex H0 (upd H D o) := by
  constructor
  · intro b u e n
    rw [upd_ne (ne_of_none e h)]
    exact x.keep b u e n
  · rintro b ⟨ps, e, t⟩
    obtain ⟨qs, e2, t2⟩ := x.tab b ⟨ps, e, t⟩
    exact ⟨qs, by rw [upd_ne (ne_of_none e h)]; exact e2, t2⟩
  · intro b e
    by_cases hb : b = D
    · rw [hb]; exact h
    · rw [upd_ne hb] at e
      exact x.free b e
theorem sqT_put {K : PySem.W.Frag} {H : Hp} {a D : Addr} {o : HO} {xs ys : List V} (h : SqT K H a xs) (hD : H D = some (.lst ys)) : SqT K (upd H D o) a xs := by
  rcases h with (h | ⟨u, h⟩) | h
  · refine Or.inl (Or.inl ?_)
    rw [upd_ne (ne_of h hD (fun z => by cases z))]
    exact h
  · refine Or.inl (Or.inr ⟨u, ?_⟩)
    rw [upd_ne (ne_of h hD (fun z => by cases z))]
    exact h
  · exact Or.inr h
theorem pairImp {α β : Type} {F G : α → β → Prop} (f : ∀ a b, F a b → G a b) : ∀ {l : List α} {m : List β}, Paired F l m → Paired G l m
  | _, _, .nil => .nil
  | _, _, .cons h t => .cons (f _ _ h) (pairImp f t)
theorem pairSnoc {α β : Type} {F : α → β → Prop} {a : α} {b : β} (h : F a b) : ∀ {l : List α} {m : List β}, Paired F l m → Paired F (l ++ [a]) (m ++ [b])
  | _, _, .nil => .cons h .nil
  | _, _, .cons x t => .cons x (pairSnoc h t)
theorem cutV_to {xs : List V} (n : Nat) : cutV xs none (some (n : Int)) = xs.take n := by
  unfold cutV
  rw [HT.sIx_none, HT.sIx_nat, List.drop_zero, Nat.sub_zero]
  rcases Nat.le_total n xs.length with h | h
  · rw [Nat.min_eq_left h]
  · rw [Nat.min_eq_right h, List.take_length, List.take_of_length_le h]
theorem sIx_last (n : Nat) : HT.sIx n n (some (-1)) = n - 1 := by
  show (if (-1 : Int) < 0 then ((-1 : Int) + (n : Int)).toNat else min (-1 : Int).toNat n) = n - 1
  rw [if_pos (show (-1 : Int) < 0 by decide)]
  omega
theorem cutV_last {xs : List V} : cutV xs none (some (-1)) = xs.dropLast := by
  unfold cutV
  rw [HT.sIx_none, List.drop_zero, Nat.sub_zero, List.dropLast_eq_take, sIx_last]
theorem cutV_from {xs : List V} (n : Nat) : cutV xs (some (n : Int)) none = xs.drop n := by
  unfold cutV
  rw [HT.sIx_none, HT.sIx_nat]
  rcases Nat.le_total n xs.length with h | h
  · rw [Nat.min_eq_left h]
    exact List.take_of_length_le (by rw [List.length_drop]; omega)
  · rw [Nat.min_eq_right h, List.drop_length, List.drop_of_length_le h, List.take_nil]

/-! ### the law's town: a list of two numbers that each draw changes -/
def Town (tw : Addr) (H : Hp) : Prop := ∃ t0 t1 : Int, 0 ≤ t0 ∧ H tw = some (.lst [.int t0, .int t1])
/-- as Ex, but for the town -/
structure Ev (tw : Addr) (H H' : Hp) : Prop where
  keep : ∀ b o, b ≠ tw → H b = some o → (∀ ps, o ≠ .tbl ps) → H' b = some o
  tab : ∀ b, TabG H b → TabG H' b
  free : ∀ b, H' b = none → H b = none
  town : Town tw H'
theorem Ev.refl {tw : Addr} {H : Hp} (h : Town tw H) : Ev tw H H := ⟨fun _ _ _ h _ => h, fun _ h => h, fun _ h => h, h⟩
theorem Ev.trans {tw : Addr} {H H1 H2 : Hp} (a : Ev tw H H1) (b : Ev tw H1 H2) : Ev tw H H2 :=
  ⟨fun c o z h n => b.keep c o z (a.keep c o z h n) n, fun c h => b.tab c (a.tab c h), fun c h => a.free c (b.free c h), b.town⟩
theorem Town.ex {tw : Addr} {H H' : Hp} (h : Town tw H) (x : Ex H H') : Town tw H' := by
  obtain ⟨t0, t1, h0, e⟩ := h
  exact ⟨t0, t1, h0, x.keep _ _ e (fun ps z => by cases z)⟩
theorem Ex.ev {tw : Addr} {H H' : Hp} (x : Ex H H') (h : Town tw H) : Ev tw H H' := ⟨fun b o _ e n => x.keep b o e n, x.tab, x.free, h.ex x⟩
/-- the town is written -/
theorem Ev.write {tw : Addr} {H : Hp} {t0 t1 : Int} (h : Town tw H) (h0 : 0 ≤ t0) : Ev tw H (upd H tw (.lst [.int t0, .int t1])) := by
  obtain ⟨u0, u1, _, e⟩ := h
  constructor
  · intro b o hb e2 _
    rw [upd_ne hb]; exact e2
  · rintro b ⟨ps, e2, t⟩
    exact ⟨ps, by rw [upd_ne (ne_of e2 e (fun z => by cases z))]; exact e2, t⟩
  · intro b e2
    by_cases hb : b = tw
    · rw [hb, upd_same] at e2; cases e2
    · rw [upd_ne hb] at e2; exact e2
  · exact ⟨t0, t1, h0, upd_same⟩
theorem Ev.rd {tw : Addr} {H H' : Hp} {a : Addr} {u : HO} (x : Ev tw H H') (ha : a ≠ tw) (h : Rd H a u) (n : ∀ ps, u ≠ .tbl ps) : Rd H' a u := by
  rcases h with h | ⟨o, h⟩
  · exact Or.inl (x.keep _ _ ha h n)
  · exact Or.inr ⟨o, x.keep _ _ ha h (fun ps z => by cases z)⟩
theorem Ev.lst {K : PySem.W.Frag} {tw : Addr} {H H' : Hp} {a : Addr} {xs : List V} (x : Ev tw H H') (ha : a ≠ tw) (h : SqL K H a xs) : SqL K H' a xs := by
  rcases h with h | h
  · exact Or.inl (x.rd ha h (fun ps z => by cases z))
  · exact Or.inr h
/-- a tuple that stands is not the town -/
theorem Ev.tup {K : PySem.W.Frag} {tw : Addr} {H H' : Hp} {a : Addr} {xs : List V} (ht : Town tw H) (x : Ev tw H H') (h : SqT K H a xs) : SqT K H' a xs := by
  obtain ⟨u0, u1, _, e⟩ := ht
  rcases h with (h | ⟨o, h⟩) | h
  · exact Or.inl (Or.inl (x.keep _ _ (ne_of h e (fun z => by cases z)) h (fun ps z => by cases z)))
  · exact Or.inl (Or.inr ⟨o, x.keep _ _ (ne_of h e (fun z => by cases z)) h (fun ps z => by cases z)⟩)
  · exact Or.inr h
/-- the script and the town -/
structure Lw (K : PySem.W.Frag) (H : Hp) (sc tw : Addr) (ns : List Int) : Prop where
  at_ : (Rd H sc (.lst (ns.map V.int)) ∧ sc ≠ tw) ∨ ∀ G : Hp, SqL K G sc (ns.map V.int)
  town : Town tw H
  len : ns.length ≤ 63
theorem Lw.sq {K : PySem.W.Frag} {H : Hp} {sc tw : Addr} {ns : List Int} (h : Lw K H sc tw ns) : SqL K H sc (ns.map V.int) := by
  rcases h.at_ with q | q
  · exact Or.inl q.1
  · exact q H
theorem Lw.ev {K : PySem.W.Frag} {H H' : Hp} {sc tw : Addr} {ns : List Int} (h : Lw K H sc tw ns) (x : Ev tw H H') : Lw K H' sc tw ns := by
  refine ⟨?_, x.town, h.len⟩
  rcases h.at_ with q | q
  · exact Or.inl ⟨x.rd q.2 q.1 (fun ps z => by cases z), q.2⟩
  · exact Or.inr q
theorem Lw.ex {K : PySem.W.Frag} {H H' : Hp} {sc tw : Addr} {ns : List Int} (h : Lw K H sc tw ns) (x : Ex H H') : Lw K H' sc tw ns := h.ev (x.ev h.town)
/-- the town is made -/
theorem Lw.make {K : PySem.W.Frag} {H : Hp} {sc tw : Addr} {ns : List Int} (h : SqL K H sc (ns.map V.int)) (hl : ns.length ≤ 63) (ht : H tw = none) :
    Lw K (upd H tw (.lst [.int 0, .int 0])) sc tw ns := by
  refine ⟨?_, ⟨0, 0, Int.le_refl 0, upd_same⟩, hl⟩
  rcases h with e | e
  · have hne : sc ≠ tw := by
      rcases e with e | ⟨o, e⟩
      · exact ne_of_none e ht
      · exact ne_of_none e ht
    exact Or.inl ⟨(Ex.new ht).rd e (fun ps z => by cases z), hne⟩
  · exact Or.inr fun G => Or.inr e
theorem dpAll_ints {K : PySem.W.Frag} {H : Hp} : ∀ p : List Int, DpAll K H (p.map V.int) (p.map .int)
  | [] => .nil
  | x :: p => .cons (.int x) (dpAll_ints p)
theorem canLay_ints : ∀ p : List Int, PyData.canLayAll0 (p.map .int) = true
  | [] => by simp [PyData.canLayAll0]
  | x :: p => by simp only [List.map_cons, PyData.canLayAll0, PyData.canLay0, canLay_ints p, Bool.and_self]
theorem depth_ints : ∀ p : List Int, PyData.depthAll (p.map .int) = 0
  | [] => by simp [PyData.depthAll]
  | x :: p => by
    simp only [List.map_cons, PyData.depthAll, PyData.depth, depth_ints p]
    rfl
theorem shaped_ints (p : List Int) : SeqAt.shaped (.list (p.map .int)) = true := by
  unfold SeqAt.shaped
  rw [Bool.and_eq_true]
  refine ⟨by simp only [PyData.canLay0]; exact canLay_ints p, ?_⟩
  simp only [PyData.depth, depth_ints]
  decide
theorem shaped_nil : SeqAt.shaped (.list []) = true := shaped_ints []
theorem eqv_nil (p : List Int) : PyData.eqv (.list (p.map .int)) (.list []) = decide (p = []) := by
  cases p with
  | nil => simp [PyData.eqv, PyData.eqvAll]
  | cons x p => simp [PyData.eqv, PyData.eqvAll]

theorem Town.ne {tw D : Addr} {H : Hp} (h : Town tw H) (hD : H D = none) : D ≠ tw := by
  obtain ⟨u0, u1, _, e⟩ := h
  intro z
  rw [z, e] at hD
  cases hD
theorem Ev.put {tw D : Addr} {H0 H : Hp} {o : HO} (h0 : Town tw H0) (x : Ev tw H0 H) (h : H0 D = none) : Ev tw H0 (upd H D o) := by
  constructor
  · intro b u hb e n
    rw [upd_ne (ne_of_none e h)]
    exact x.keep b u hb e n
  · rintro b ⟨ps, e, t⟩
    obtain ⟨qs, e2, t2⟩ := x.tab b ⟨ps, e, t⟩
    exact ⟨qs, by rw [upd_ne (ne_of_none e h)]; exact e2, t2⟩
  · intro b e
    by_cases hb : b = D
    · rw [hb]; exact h
    · rw [upd_ne hb] at e
      exact x.free b e
  · obtain ⟨t0, t1, q, e⟩ := x.town
    exact ⟨t0, t1, q, by rw [upd_ne (Ne.symm (h0.ne h))]; exact e⟩

theorem PathAt.yes {K : PySem.W.Frag} {H : Hp} {a : Addr} {p : List Str} (h : PathAt K H a p) (g : goodPath p = true) : PathB K H (.ref a) true := by
  have := h.b (goodPath_small g)
  rwa [g] at this
theorem PathAt.ev {K : PySem.W.Frag} {tw : Addr} {H H' : Hp} {a : Addr} {p : List Str} (h : PathAt K H a p) (ht : Town tw H) (x : Ev tw H H') : PathAt K H' a p := Ev.tup ht x h
/-- lists of paths as data -/
theorem dpAll_paths {K : PySem.W.Frag} {H : Hp} : ∀ {rs : List Addr} {ps : List (List Str)}, Paired (fun r p => PathAt K H r p) rs ps → DpAll K H (rs.map V.ref) (ps.map pathD)
  | _, _, .nil => .nil
  | _, _, .cons h t => .cons h.dp (dpAll_paths t)
theorem PathsAt.dp {K : PySem.W.Frag} {H : Hp} {l : Addr} {ps : List (List Str)} (h : PathsAt K H l ps) : Dp K H (.ref l) (.list (ps.map pathD)) := by
  obtain ⟨rs, e, q⟩ := h
  exact .lst (SqL.of e) (dpAll_paths q)
theorem pairEx {K : PySem.W.Frag} {H H' : Hp} (x : Ex H H') {rs : List Addr} {ps : List (List Str)} (h : Paired (fun r p => PathAt K H r p) rs ps) : Paired (fun r p => PathAt K H' r p) rs ps := pairImp (fun _ _ q => q.ex x) h
theorem PathsAt.ex {K : PySem.W.Frag} {H H' : Hp} {l : Addr} {ps : List (List Str)} (x : Ex H H') (h : PathsAt K H l ps) : PathsAt K H' l ps := by
  obtain ⟨rs, e, q⟩ := h
  exact ⟨rs, x.keep _ _ e (fun ps z => by cases z), pairEx x q⟩
theorem canLay_paths : ∀ {ps : List (List Str)}, (∀ p ∈ ps, ∀ z ∈ p, PyData.strOk z = true) → PyData.canLayAll0 (ps.map pathD) = true
  | [], _ => by simp [PyData.canLayAll0]
  | x :: p, h => by
    simp only [List.map_cons, PyData.canLayAll0, PyData.canLay0, pathD, Bool.and_eq_true]
    exact ⟨canLay_strs (h x (List.mem_cons_self ..)), canLay_paths fun z hz => h z (List.mem_cons_of_mem _ hz)⟩
theorem depth_paths : ∀ ps : List (List Str), PyData.depthAll (ps.map pathD) ≤ 1
  | [] => by simp [PyData.depthAll]
  | x :: p => by
    have := depth_paths p
    have e : PyData.depth (pathD x) = 1 := by
      simp only [pathD, PyData.depth, depth_strs]
    rw [List.map_cons, PyData.depthAll, e]
    omega
theorem shaped_paths {ps : List (List Str)} (h : ∀ p ∈ ps, goodPath p = true) : SeqAt.shaped (.list (ps.map pathD)) = true := by
  unfold SeqAt.shaped
  rw [Bool.and_eq_true]
  refine ⟨by simp only [PyData.canLay0]; exact canLay_paths fun p hp => goodPath_ok (h p hp), ?_⟩
  have := depth_paths ps
  simp only [PyData.depth]
  exact decide_eq_true (by omega)
theorem eqv_same (d : PyData) (h : SeqAt.shaped d = true) : PyData.eqv d d = true := by
  unfold SeqAt.shaped at h
  exact SeqAt.eqv_refl d (Bool.and_eq_true _ _ ▸ h).1
theorem begs_good {p : List Str} (g : goodPath p = true) : ∀ q ∈ begs p, goodPath q = true := by
  intro q hq
  obtain ⟨i, _, rfl⟩ := List.mem_map.mp hq
  exact goodPath_take g i

/-- lists of texts as data -/
theorem shaped_strs {p : List Str} (h : ∀ z ∈ p, PyData.strOk z = true) : SeqAt.shaped (.list (p.map .str)) = true := by
  unfold SeqAt.shaped
  rw [Bool.and_eq_true]
  refine ⟨by simp only [PyData.canLay0]; exact canLay_strs h, ?_⟩
  simp only [PyData.depth, depth_strs]
  decide
theorem eqv_strs (p q : List Str) : PyData.eqv (.list (p.map .str)) (.list (q.map .str)) = decide (p = q) := by
  show PyData.eqvAll _ _ = _
  exact eqvAll_strs p q
theorem within_eq (p q : List Str) : (decide (p ≠ q) && decide (p.take q.length = q)) = (decide (q.length < p.length) && decide (p.take q.length = q)) := by
  by_cases h : p.take q.length = q
  · rw [decide_eq_true h, Bool.and_true, Bool.and_true]
    have hl : q.length ≤ p.length := by
      have := congrArg List.length h
      rw [List.length_take] at this
      omega
    by_cases e : p = q
    · subst e
      simp
    · rw [decide_eq_true (p := p ≠ q) e, decide_eq_true]
      refine Nat.lt_of_le_of_ne hl fun z => e ?_
      rw [← h, z, List.take_length]
  · rw [decide_eq_false h, Bool.and_false, Bool.and_false]

/-- both ways of a conditional expression come to the same -/
theorem tIf_both {ta tb : TE} {σ : L2.St} {H : Hp} {R : VK} {c : Bool} (S : V → Hp → Prop) (h1 : c = true → ∀ R' : VK, (∀ u G, S u G → R' u G) → ta σ H R') (h2 : c = false → ∀ R' : VK, (∀ u G, S u G → R' u G) → tb σ H R')
    (h : ∀ u G, S u G → R u G) : if c = true then ta σ H R else tb σ H R := by
  cases c with
  | true => rw [if_pos rfl]; exact h1 rfl R h
  | false => rw [if_neg Bool.false_ne_true]; exact h2 rfl R h

mutual
theorem Dp_ex {K : PySem.W.Frag} {H H' : Hp} (x : Ex H H') : ∀ {d : PyData} {v : V}, Dp K H v d → Dp K H' v d
  | _, _, .non => .non
  | _, _, .bl b => .bl b
  | _, _, .int i => .int i
  | _, _, .str z => .str z
  | _, _, .lst h k => .lst (x.lst h) (DpAll_ex x k)
  | _, _, .tup h k => .tup (x.tup h) (DpAll_ex x k)
theorem DpAll_ex {K : PySem.W.Frag} {H H' : Hp} (x : Ex H H') : ∀ {ds : List PyData} {vs : List V}, DpAll K H vs ds → DpAll K H' vs ds
  | _, _, .nil => .nil
  | _, _, .cons h k => .cons (Dp_ex x h) (DpAll_ex x k)
end

theorem Kn.ev {K : PySem.W.Frag} {tw : Addr} {H H' : Hp} {v : V} {n : String} (ht : Town tw H) (x : Ev tw H H') (hv : v ≠ .ref tw) (h : Kn K H v n) : Kn K H' v n := by
  have hne : ∀ a, v = .ref a → a ≠ tw := fun a e z => hv (by rw [e, z])
  cases h with
  | non => exact .non
  | bl b => exact .bl b
  | int i => exact .int i
  | str z => exact .str z
  | lst e => exact .lst (x.lst (hne _ rfl) e)
  | tup e => exact .tup (x.tup ht e)
  | dK e => exact .dK (x.keep _ _ (hne _ rfl) e (fun ps z => by cases z))
  | dT e => exact .dT (x.keep _ _ (hne _ rfl) e (fun ps z => by cases z))
  | dX e c => exact .dX (x.keep _ _ (hne _ rfl) e (fun ps z => by cases z)) c
theorem Asked.ev {K : PySem.W.Frag} {tw : Addr} {H H' : Hp} {v : V} (ht : Town tw H) (x : Ev tw H H') (hv : v ≠ .ref tw) (h : Asked K H v) : Asked K H' v := by
  obtain ⟨n, k, z⟩ := h
  exact ⟨n, k.ev ht x hv, z⟩
/-- a small number of small texts in a row -/
theorem blanks_ok : ∀ j : Nat, j < 21 → MulOk "x " (j : Int) ∧ textB (Txt.mul "x " (j : Int)) = true := by
  simp only [MulOk]
  decide +kernel

/-! ### the end: where code objects have tables -/
/-- what the head tells of the tables -/
def TabsOf (q : Program) (K : PySem.W.Frag) (h : Heap) : Prop := ∀ (x : Str) (d : DefRec) (c P : Addr), (recsOf q).find? (fun e => e.name == x) = some d → PySem.W.tabIn K x = some (c, P) →
  PySem.W.CodeHd h c P ∧ h.get? P = some (PySem.W.tabObj #[])
theorem noTab {K : PySem.W.Frag} {h : Heap} {P : Addr} (X : K.In h) (nt : PySem.W.noTabs K = true) (hP : h.get? P = some (PySem.W.tabObj #[])) : K.lookup P = none := by
  cases e : K.lookup P with
  | none => rfl
  | some o =>
    have e2 := X P o e
    rw [hP] at e2
    cases e2
    have h2 := List.all_eq_true.mp nt (P, _) (PySem.W.mem_of_lookupK e)
    exact absurd (show false = true from h2) Bool.false_ne_true
theorem walk_tabs {l : PySem.W.OpenLaw} {n k : Nat} {q : Program} {loose : List Str} {XP : (Str → Option Value) → Heap → Prop} {YP : World → Heap → Prop} {d : DefRec} {K : Params → PySem.W.Frag} {CX : World → CXT} {x : Str}
    (hn : l.most = some n) (hn2 : n ≤ sizeLine) (hdf : d.params.defaults = []) (hr : Room k callerA) (hY : ∀ (w : World) (h : Heap), YP w h → (K w.params).In h)
    (F : ∀ (w : World) (mg : Str → Option Value) (fa : Addr) (h : Heap), (K w.params).In h → h.Ns mainGlobals mg → mg d.name = some (.ref fa) → TabsOf q (K w.params) h → LamX.LawAtS l w (K w.params) (CX w) k n x mg fa h)
    (hCX : ∀ (w : World) (H : Hp) (s : Shared) (e : Value) (s' : Shared), CX w [] H s (fun _ _ _ => False) e s' → False) :
    PySem.W.WalkO q loose XP YP l.row.toRowW d [] (fun f vs => PySem.call f vs) := by
  refine Att.attach_callB hn hdf ?_
  intro w s₀ s₁ mg mb fa o pm cd doc a vs ns G Y ho hd hcd hmg hobj hints hlen hbits hg
  have KX := hY w _ Y
  have tabs : TabsOf q (K w.params) s₁.heap := fun x d c P h1 h2 => PySem.W.tab_of G.T KX h1 h2
  obtain ⟨fd, cs, sp, hT, nT, C, hb, hsp, hF⟩ := F w mg fa _ KX G.T.g hmg tabs
  refine LamX.law_callTs KX G.T.g G.T.b G.T.builtins G.T.nolimit hg hT nT C G.T.bmain hobj hints (Nat.le_trans hlen hn2) hr hF hb ?_ ?_
  · intro H hH hS
    exact hsp H a ns hlen hbits hH hS
  · intro H e s'
    exact hCX w H s₁ e s'

theorem tab_in {K : PySem.W.Frag} {x : Str} {f c P : Addr} {oc e : Value} {od dd : Option Addr} {fd : FuncData} {sl s2 : Array (Option Value)} {vs : Array Value} (a : PySem.W.nsIn K mainGlobals x = some (some (.ref f)))
    (l : K.lookup f = some ⟨oc, od, .func fd, sl⟩) (u : K.lookup c = some ⟨e, dd, .fields vs, s2⟩) (i : (vs[11]? : Option Value) = some (.ref P)) (hc : fd.code = .ref c := by rfl) : PySem.W.tabIn K x = some (c, P) := by
  unfold PySem.W.tabIn
  rw [a]
  simp only
  rw [l]
  simp only
  rw [hc]
  simp only
  rw [u]
  simp only
  rw [i]
end LT

/-! A def that the suite of an except clause calls, and that is handed the exception. -/
namespace LE
open PySem PySem.Spec PyProof.Rows L2 L2H

/-- the exception at a, of class cls -/
structure Caught (a : Addr) (oe : Obj) (cls : Value) (d : Option Addr) : Prop where
  z : Zc cls d oe
  f : ∃ vs, oe.data = .fields vs
abbrev SpE := Addr → Value → Option Addr → Sp
/-- what such a def promises -/
structure FnE (P : Program) (w : World) (K : PySem.W.Frag) (mg : Str → Option Value) (base : Heap)
    (CX : CXT) (k : Nat) (f : Addr) (fd : FuncData) (ps : List Str) (sp : SpE) : Prop where
  len : ∀ a c d vs H Q E, sp a c d vs H Q E → vs.length = ps.length
  run : ∀ (A : Around) (outer : List Env) (s : Shared) (H : Hp) (args : Args) (us : List Value) (vs : List V)
    (Q : VK) (E : XK) (a : Addr) (oe : Obj) (c : Value) (d : Option Addr), RoomH k A → Caught a oe c d → PinOk outer H s (a, oe) →
    Env0 P w K mg base A outer s H → BindsTo s fd args (ps.zip us) → Vals vs us → sp a c d vs H Q E →
    codeAny (model P w) A (.call (.ref f) args) (CR CX outer P w H s Q E) s

section
variable {CX : CXT} {P : Program} {w : World} {K : PySem.W.Frag} {mg : Str → Option Value} {base : Heap}
theorem fn_ofE {k : Nat} {f : Addr} {name qual : Str} {params : Arguments} {body : List Stmt} {scope : Scope}
    {dV kV doc pm cdv ct oc : Value} {an od : Option Addr} {osl : Array (Option Value)} {N ps : List Str} {sp : SpE}
    (lk : K.lookup f = some ⟨oc, od, .func (PySem.W.fnOf name qual params body scope dV kV doc pm an cdv ct), osl⟩)
    (hcd : PySem.W.codeIn K cdv qual = true) (S : FnScope N ps scope) (len : ∀ a c d vs H Q E, sp a c d vs H Q E → vs.length = ps.length)
    (hbody : ∀ (A : Around) (outer : List Env) (s : Shared) (H : Hp) (vs : List V) (Q : VK) (E : XK) (a : Addr) (oe : Obj) (c : Value) (d : Option Addr),
      Caught a oe c d → RoomH k (A.deeper (envOfC qual scope s.heap.objs.size f cdv)) → sp a c d vs H Q E →
      ∃ t, PSs (cxH CX P w K mg base N qual scope f cdv A outer s H E (a, oe)) body t ∧ t { nx := fun _ G => Q .non G, rt := Q } (L2.start N vs) H) :
    FnE P w K mg base CX (k + 1) f (PySem.W.fnOf name qual params body scope dV kV doc pm an cdv ct) ps sp := by
  refine ⟨len, ?_⟩
  intro A outer s H args us vs Q E a oe c d hr hc hpin e0 hb r hsp
  have hl := len _ _ _ _ _ _ _ hsp
  have KX : K.In s.heap := e0.mod.kin.keeps fun b o e => (e0.bs b o e).1
  have lim := e0.mod.nolimit.keeps fun b o e => (e0.bs b o e).1
  have hkind : ∀ y ∈ ps.zip us, scope.names.lookup y.1 = some .local ∨
      (scope.names.lookup y.1 = some .cell ∧ ((cellsFrom (s.heap.objs.size + 1) scope.names []).lookup y.1).isSome = true) := by
    rintro ⟨n, v⟩ hy
    rcases S.par n (List.of_mem_zip hy).1 with q | q
    · exact Or.inl q
    · exact Or.inr ⟨q, PySem.W.cellsFrom_some _ _ _ (Or.inl q)⟩
  refine codeAny_call_function hr.depth (KX _ _ lk) rfl S.co S.gen rfl (PySem.W.codeRec_of KX hcd) ?_
  refine hb _ _ _ _ ?_
  refine wpAny_newFunctionEnv_cells S.kind hkind ?_
  intro env he s1 x
  subst he
  refine ⟨lim.keeps x.toInCall.keep, ?_⟩
  refine codeAny_func ?_
  obtain ⟨t, ht, hq⟩ := hbody A outer s H vs Q E a oe c d hc (hr.deeper _) hsp
  have I := inv_startH (CX := CX) (P := P) (w := w) (K := K) (mg := mg) (base := base) (N := N) (E := E) S hpin e0 hl r x
  have fin : ∀ {τ : L2.St} {G : Hp} {y : V} {u : Value} {s' : Shared}, Inv (cxH CX P w K mg base N qual scope f cdv A outer s H E (a, oe)) [] τ G s' →
      RelV y u → Q y G → CE outer P w H s Q u s' := by
    intro τ G y u s' J rv q
    exact ⟨y, G, J.os, J.bare, J.base, J.hok, rv, q⟩
  refine wpAny_mono (ht.run [] s1 (L2.start N vs) H _ I hq) ?_ (fun _ _ z => z)
  intro fl s' hs
  cases fl with
  | next =>
    obtain ⟨τ, G, J, q⟩ := hs
    exact fin (y := V.non) (u := Value.none) J rfl q
  | ret u =>
    obtain ⟨y, τ, G, J, rv, q⟩ := hs
    exact fin J rv q
  | brk =>
    obtain ⟨_, _, _, q⟩ := hs
    exact q.elim
  | cont =>
    obtain ⟨_, _, _, q⟩ := hs
    exact q.elim
theorem okE {x qual : Str} {st : Stmt} {f : Addr} {fd : FuncData} {N ps : List Str} {k : Nat} {sp : SpE} (F : Fun K x qual st f fd) (S : FnScope N ps (defScope st))
    (len : ∀ a c d vs H Q E, sp a c d vs H Q E → vs.length = ps.length)
    (hbody : ∀ (cdv : Value) (A : Around) (outer : List Env) (s : Shared) (H : Hp) (vs : List V) (Q : VK) (E : XK) (a : Addr) (oe : Obj) (c : Value) (d : Option Addr),
      Caught a oe c d → RoomH k (A.deeper (envOfC qual (defScope st) s.heap.objs.size f cdv)) → sp a c d vs H Q E →
      ∃ t, PSs (cxH CX P w K mg base N qual (defScope st) f cdv A outer s H E (a, oe)) (defBody st) t ∧ t { nx := fun _ G => Q .non G, rt := Q } (L2.start N vs) H) :
    FnE P w K mg base CX (k + 1) f fd ps sp := by
  obtain ⟨⟨oc, od, kV, doc, pm, an, cdv, ct, osl, rfl, lk, hcd⟩, _⟩ := F
  exact fn_ofE lk hcd S len fun A outer s H vs Q E a oe c d => hbody cdv A outer s H vs Q E a oe c d
end

section
variable {X : Cx} {CX : CXT} {k : Nat} {f : Addr} {fd : FuncData} {ps : List Str} {sp : SpE} {E : L2.St → XK} {x : Str} {q pos : Pos} {e : Expr} {es : List Expr} {t : TA}
  {a : Addr} {oe : Obj} {c : Value} {d : Option Addr}
theorem pe_callE (F : FnE X.prog X.w X.K X.mg X.base CX k f fd ps sp) (hr : RoomH k X.A) (hc : Caught a oe c d) (hp : (a, oe) ∈ X.pn) (hg : Gl X x)
    (hm : X.mg x = some (.ref f)) (hk : PySem.W.keepIn X.K (.ref f) = true) (hb : Binds X.K fd ps []) (hx : ∀ σ, PassesAt CX X σ (E σ)) (ha : PA X (e :: es) t)
    (hdb : (x == ("__debug__" : Str)) = false := by decide) (he : starEach (e :: es) X.env = (false, eval e X.env) :: starEach es X.env := by rfl)
    (hpl : (backTo pos (starEach es X.env)).any (·.1) = false := by rfl) : PE X (.Call (.Name x q) (e :: es) [] pos) (tCallS (sp a c d) E t) := by
  constructor
  intro pins s σ H Q I h
  refine wpAny_Call_Name_kw (ld_glob I hg hm ?_ hdb)
  refine PySem.W.callWith_K (h₀ := X.base) I.ok.mod.kin hk (thn (ha.run pos pins s σ H _ I h) ?_) he hpl
  rintro us s1 ⟨vs, H1, J, r, g⟩
  refine ⟨J.kIn, ?_⟩
  have hl : us.length = ps.length := by
    rw [← r.length]
    exact F.len _ _ _ _ _ _ _ g
  have b := hb s1 us J.kIn (by rw [List.append_nil]; exact hl)
  rw [List.append_nil] at b
  have pin := J.pin (a, oe) (List.mem_append_left _ hp)
  have hpin : PinOk X.stack H1 s1 (a, oe) := by
    refine ⟨pin.1, pin.2.1, fun hm => ?_, pin.2.2.2.2⟩
    exact (List.mem_cons.mp (J.stkSub a hm)).elim pin.2.2.1 pin.2.2.2.1
  refine wpAny_call (codeAny_mono (F.run X.A X.stack s1 H1 ⟨us, []⟩ us vs Q (E σ) a oe c d hr hc hpin J.env0 b r g) ?_)
  intro z s' hq
  cases z with
  | error u => exact hx σ pins H1 s1 u s' J hq
  | ok fl =>
    cases fl with
    | ret u => exact J.after hq
    | next => exact hq.elim
    | brk => exact hq.elim
    | cont => exact hq.elim
/-- isinstance of the exception that is pinned -/
theorem call_isP {D : Addr} (C : ExcC X.K D) (hc : Caught a oe (.ref D) none) (hp : (a, oe) ∈ X.pn) : CallR X (.builtin "isinstance") (rIsE X.K D a) := by
  rintro pins s σ H xs us Q I r ⟨y, yv, b, rfl, hy, e, g⟩
  obtain ⟨u1, u2, rfl, r1, r2⟩ := vals2 r
  obtain rfl : u1 = Value.ref a := r1
  obtain rfl := hy _ r2
  have pin := I.pin (a, oe) (List.mem_append_left _ hp)
  have J : PySem.W.InstAt s.heap a oe D none := by
    obtain ⟨⟨h1, h2⟩, vs, hv⟩ := hc
    have h0 := pin.1
    cases oe with
    | mk oc od oda osl =>
      dsimp only at h1 h2 hv
      subst h1 h2 hv
      exact ⟨h0, rfl, rfl, trivial⟩
  refine PySem.W.kia_one (PySem.W.handS_kitx_exc C.hg C.hk C.hs C.hd C.ha C.hn C.ht C.hm) I.kIn J e (fun z => nomatch z) ?_
  intro tk
  exact ⟨.bl b, H, I.tok tk, rfl, g⟩
end

/-! ### how often a flat thing stands in a list of flat things -/
def rCntF (K : PySem.W.Frag) : V → List V → Hp → VK → Prop := fun x xs H Q => ∃ (p : Addr) (ys : List V) (y : V), x = .ref p ∧ xs = [y] ∧
  SqL K H p ys ∧ flatV y = true ∧ ys.all flatV = true ∧ Q (.int (ys.countP fun z => eqV z y : Nat)) H
theorem countF {y : V} : ∀ {ys : List V} {us : List Value}, Vals ys us → ys.all flatV = true → us.countP (eqU y) = ys.countP fun z => eqV z y
  | [], [], _, _ => rfl
  | x :: ys, u :: us, h, f => by
    cases h with
    | cons r t =>
      rw [List.all_cons, Bool.and_eq_true] at f
      rw [List.countP_cons, List.countP_cons, eqU_of r f.1, countF t f.2]
theorem mt_countF {X : Cx} : MtR X "list.count" (rCntF X.K) := by
  rintro pins s σ H x xs v us Q I rx rxs ⟨p, ys, y, rfl, rfl, hs, fy, fys, g⟩
  cases rx
  obtain ⟨u, rfl, ru⟩ := rxs.one
  obtain ⟨its, rv, ⟨⟨cls, dd, data, sl⟩, n, ho, hc, hdn, hd⟩, _⟩ := I.list hs
  simp only at hc hd
  subst hc hd
  refine call_meets PySem.F.slot_list_count ⟨_, ho, rfl⟩ PySem.F.entry_list_count (PySem.F.args_list_count_2 _ _) (SeqAt.list_countAt p its.toArray n dd sl u (eqU y)) ?_
  refine ⟨ho, fun z hz => mem_eqAt ru fy rv fys z (by simpa using hz), ?_⟩
  refine ⟨.int (ys.countP fun z => eqV z y : Nat), H, I.tok _, ⟨s.toks, ?_⟩, g⟩
  show Value.int ((its.toArray.toList.countP (eqU y) : Nat) : Int) s.toks = _
  rw [show its.toArray.toList = its from rfl, countF rv fys]

/-! ### a call of what stands at a place: xs[i](...) -/
/-- what may stand there -/
structure HeldX (X : Cx) (CX : CXT) (k : Nat) (f : Addr) (sp : Sp) : Prop where
  ex : ∃ (fd : FuncData) (ps : List Str), FnOk X.prog X.w X.K X.mg X.base CX k f fd ps sp ∧ PySem.W.keepIn X.K (.ref f) = true ∧ Binds X.K fd ps []
def tCallC (S : Addr → Sp → Prop) (tc : TE) (E : L2.St → XK) (t : TA) : TE := fun σ H Q => tc σ H fun x H1 => ∃ f sp, x = .ref f ∧ S f sp ∧ t σ H1 fun vs H2 => sp vs H2 Q (E σ)
section
variable {X : Cx} {CX : CXT} {k : Nat} {S : Addr → Sp → Prop} {E : L2.St → XK} {p pos : Pos} {o i e : Expr} {es : List Expr} {tc : TE} {t : TA}
theorem pe_callC (A : ∀ f sp, S f sp → HeldX X CX k f sp) (hr : Room k X.A) (hc : PE X (.Subscript o i p) tc) (hx : ∀ σ, PassesAt CX X σ (E σ)) (ha : PA X (e :: es) t)
    (he : starEach (e :: es) X.env = (false, eval e X.env) :: starEach es X.env := by rfl) (hpl : (backTo pos (starEach es X.env)).any (·.1) = false := by rfl) :
    PE X (.Call (.Subscript o i p) (e :: es) [] pos) (tCallC S tc E t) := by
  constructor
  intro pins s σ H Q I h
  have ev : eval (.Call (.Subscript o i p) (e :: es) [] pos) X.env = (do
      let f ← eval (.Subscript o i p) X.env
      callWith pos f [] (backTo pos (starEach (e :: es) X.env)) (backToKw pos (keywordEach [] X.env))) := rfl
  rw [ev]
  refine wpAny_bind (thn (hc.run pins s σ H _ I h) ?_)
  rintro u s1 ⟨x, H1, J, r, f, sp, rfl, hs, ht⟩
  cases r
  obtain ⟨fd, ps, F, hk, hb⟩ := (A f sp hs).ex
  refine PySem.W.callWith_K (h₀ := X.base) J.ok.mod.kin hk (thn (ha.run pos pins s1 σ H1 _ J ht) ?_) he hpl
  rintro us s2 ⟨vs, H2, J2, r2, g⟩
  exact ⟨J2.kIn, run_fnS F hr hb (hx σ) J2 r2 g⟩
end
end LE

/-! Dicts whose keys are tuples: displays, copies, values, sorts, equality. -/
namespace LD
open PySem PySem.Spec PyProof.Rows L2 LT

/-! ### displays -/
/-- one store behind the other -/
def mergeT (kvs more : List (List L2.Key × V)) : List (List L2.Key × V) := more.foldl (fun acc kv => putK acc kv.1 kv.2) kvs
theorem mergeT_len : ∀ (more kvs : List (List L2.Key × V)), (mergeT kvs more).length ≤ kvs.length + more.length
  | [], kvs => Nat.le_refl _
  | p :: r, kvs => by
    have h1 := mergeT_len r (putK kvs p.1 p.2)
    have h2 := length_putK kvs p.1 p.2
    show (mergeT (putK kvs p.1 p.2) r).length ≤ _
    simp only [List.length_cons]
    omega
theorem KT_merge {H : Hp} : ∀ {more : List (List L2.Key × V)} {ps : List (List L2.Key × Addr × Value)} {kvs : List (List L2.Key × V)} {xs : List (List L2.Key × Addr × Value)},
    KT H more ps → KT H kvs xs → KT H (mergeT kvs more) (storedAllH xs ps)
  | [], _, _, _, .nil, q => q
  | p :: more, _, kvs, xs, .cons (b := y) h t, q => by
    have e : KT H (putK kvs p.1 p.2) (storedH xs y.1 y.2.1 y.2.2) := by
      have := q.put p.1 h.2.1 h.2.2
      rw [← h.1]
      exact this
    show KT H (mergeT (putK kvs p.1 p.2) more) (storedAllH (storedH xs y.1 y.2.1 y.2.2) _)
    exact KT_merge t e
/-- what the pairs of a display come to -/
def PairsT (H : Hp) : List (V × V) → List (List L2.Key × V) → Prop := Paired fun q kv => (∃ b, q.1 = .ref b ∧ H b = some (.tup (kv.1.map kV))) ∧ q.2 = kv.2
theorem carriesT {P : Program} {w : World} {H : Hp} {h : Heap} (ok : HOk P w H h) : ∀ {qs : List (V × V)} {kvs : List (List L2.Key × V)} {ws : List (Value × Value)},
    PairsT H qs kvs → VV qs ws → ∃ ps, CarriesH (tupleKind (mixKind P w)) h ws ps ∧ KT H kvs ps
  | _, _, _, .nil, r => by
    cases r
    exact ⟨[], trivial, .nil⟩
  | q :: qs, kv :: kvs, _, .cons a t, r => by
    cases r with
    | cons a' t' =>
      rename_i u us
      obtain ⟨⟨b, e1, e2⟩, e3⟩ := a
      obtain ⟨ps, c, k⟩ := carriesT ok t t'
      obtain ⟨r1, r2⟩ := a'
      rw [e1] at r1
      rw [e3] at r2
      refine ⟨(kv.1, b, u.2) :: ps, ⟨r1, rfl, key_of ok e2, c⟩, .cons ⟨rfl, e2, r2⟩ k⟩
/-- {k: v, ..}, each key a tuple; the new dict stands empty while the pairs are made -/
def tDispT (trs : List (TE × TE)) : TE := fun σ H Q => ∀ p, H p = none → tPairs trs σ (upd H p (.dT [])) fun qs G => G p = some (.dT []) ∧
  ∃ kvs : List (List L2.Key × V), PairsT G qs kvs ∧ kvs.length ≤ 15 ∧ Q (.ref p) (upd G p (.dT (mergeT [] kvs)))
section
variable {X : Cx} {pos : Pos} {keys : List (Option Expr)} {values : List Expr} {trs : List (TE × TE)}
theorem pe_dispT (hu : X.A.units + 1 < cLine) (h : PPs X pos keys values trs) (hall : keys.all (·.isSome) = true) (hl : keys.length = values.length) (h0 : keys ≠ []) (h15 : keys.length ≤ 15) :
    PE X (.Dict keys values pos) (tDispT trs) := by
  constructor
  intro pins s σ H Q I q
  have hn := I.hok.fresh (Nat.le_refl s.heap.objs.size)
  have I1 := I.laid (a := s.heap.objs.size) (o := .dT []) (h' := s.heap.push { cls := .type "dict", data := .dict #[] }) (t' := s.toks) (fun _ _ q => Heap.get?_push_of_some _ q) (Nat.le_refl _) (dt_empty s.heap I.big)
  have hpl := pairTrees_length keys values X.env pos hall hl
  have hne : pairTrees keys values X.env pos ≠ [] := by
    intro he
    rw [he] at hpl
    exact h0 (List.length_eq_zero_iff.mp hpl.symm)
  rw [arm_eval_Dict, zip_pairTrees keys values X.env pos hall hl, dictDisplay_pairs _ hne (by omega)]
  refine wpAny_bind (wpAny_standAt (wpAny_bind (wpAny_subDictH (knd := tupleKind (mixKind X.prog X.w)) (Q := fun d s' => wpAny (model X.prog X.w) X.A (pure (Value.ref d)) (EP X pins σ Q) X.xe s') (show X.A.units < cLine from Nat.lt_of_succ_lt hu) (by omega) ?_)))
  refine thn (h.run pins _ σ _ _ I1 (q _ hn)) ?_
  rintro ws s2 ⟨qs, H2, I2, rel, e, kvs, pt, lk, q2⟩
  obtain ⟨ps, c, k⟩ := carriesT I2.hok pt rel
  obtain ⟨z, hd, xs0, r0, dd⟩ := dt_of I2.hok e
  cases r0
  refine ⟨ps, c, dd, fun h' tk dd' hs => wpAny_pure ⟨.ref s.heap.objs.size, _, ?_, rfl, q2⟩⟩
  have hz : (mergeT [] kvs).length ≤ sizeLine := by
    have h1 := mergeT_len kvs []
    rw [List.length_nil] at h1
    rw [sizeLine_eq]; omega
  obtain ⟨o, es, ep, ho, h2, h3, h4, _, h5⟩ := dd'
  refine d_write I2 (by rw [e]; exact True.intro) hs ⟨o, ho⟩ ⟨hz, hd, _, (KT_merge k .nil).keeps fun c ys ec => ?_, o, es, ep, ho, h2, h3, h4, h5⟩
  rw [upd_ne (ne_of ec e (fun z => nomatch z))]
  exact ec
end

/-! ### d.setdefault(k, x), keys numbers or texts -/
def rSetDef : V → List V → Hp → VK → Prop := fun x xs H Q => ∃ (a : Addr) (kvs : List (L2.Key × V)) (k : L2.Key) (y : V), x = .ref a ∧ xs = [kV k, y] ∧ H a = some (.dK kvs) ∧ kvs.length < sizeLine ∧
  (∀ v, valV kvs k = some v → Q v H) ∧ (valV kvs k = none → Q y (upd H a (.dK (putK kvs k y))))
theorem mt_setDef {X : Cx} : MtR X "dict.setdefault" rSetDef := by
  rintro pins s σ H x xs v us Q I rx rxs ⟨a, kvs, k, y, rfl, rfl, ha, hl, q1, q2⟩
  cases rx
  obtain ⟨u1, u2, rfl, r1, r2⟩ := vals2 rxs
  obtain ⟨z, hd, vs, rel, dd⟩ := dk_of I.hok ha
  have hz : vs.length ≤ sizeLine := by rw [← rel.length]; exact z
  refine call_meetsIn PySem.F.slot_dict_setdefault dd.typeIs PySem.F.entry_dict_setdefault (PySem.F.args_dict_setdefault_3 _ _ _) (kt_meets_setdefault (mixKind X.prog X.w) a (kV_is r1) hd u2) ⟨vs, dd, hz, fun w hw => ?_, fun hn h' dd' hs => ?_⟩
  · have rl := rel.val k
    rw [hw] at rl
    cases hv : valV kvs k with
    | none =>
      rw [hv] at rl
      exact rl.elim
    | some y' =>
      rw [hv] at rl
      exact ⟨y', H, I.tok _, rl, q1 y' hv⟩
  · have rl := rel.val k
    rw [hn] at rl
    have hv : valV kvs k = none := by
      cases hv : valV kvs k with
      | none => rfl
      | some y' =>
        rw [hv] at rl
        exact rl.elim
    have hl2 : (putK kvs k y).length ≤ sizeLine := by
      have := length_putK kvs k y
      omega
    have he : ∃ q, h'.get? a = some q := let ⟨q, _, _, hq, _⟩ := dd'; ⟨q, hq⟩
    exact ⟨y, _, d_write I (by rw [ha]; exact True.intro) hs he (dk_new hl2 hd (rel.put k r2) dd'), r2, q2 hv⟩

/-! ### list(d.values()), keys tuples -/
/-- a view of the values of the dict at a -/
def valsO (p a : Addr) : HO := .ext fun h => h.IsValuesView p a
def tVals (to : TE) : TE := fun σ H Q => to σ H fun x H1 => ∃ (a : Addr) (kvs : List (List L2.Key × V)), x = .ref a ∧ Rd H1 a (.dT kvs) ∧ ∀ p, H1 p = none → Q (.ref p) (upd H1 p (valsO p a))
theorem pe_vals {X : Cx} {o : Expr} {to : TE} {apos cpos : Pos} (ho : PE X o to) (hbase : attributeBase o "values" X.env (eval o X.env) = eval o X.env := by rfl) (hline : (apos.endLine == cpos.line) = true := by rfl) :
    PE X (.Call (.Attribute o "values" apos) [] [] cpos) (tVals to) := by
  constructor
  intro pins s σ H Q I h
  refine wpAny_Call_method0_late hbase hline (thn (ho.run pins s σ H _ I h) ?_)
  rintro v s1 ⟨x, H1, I1, r1, a, kvs, rfl, hd, q⟩
  cases r1
  obtain ⟨hz, hs, xs, rel, ob, es, ep, hob, hx, hdt, he, _, _⟩ := dt_rd I1.hok hd
  refine ⟨"dict", "dict.values", PySem.F.plainAttrs_dict, PySem.F.slot_dict_values, PySem.F.type_dict_values, ⟨ob, hob, hx.1⟩, ?_, Calls.callWith_builtin rfl (PySem.evalArgs_none ?_)⟩
  · intro b e
    cases e
    exact ⟨ob, hob, hx.2.1⟩
  · refine call_meetsIn PySem.F.slot_dict_values ⟨ob, hob, hx.1⟩ PySem.F.entry_dict_values (PySem.F.args_dict_values_1 _) (meets_dict_values_raw a hs) ⟨⟨es, ep, ob, hob, hx, hdt⟩, ?_⟩
    refine ⟨.ref s1.heap.objs.size, _, I1.laid (a := s1.heap.objs.size) (o := valsO s1.heap.objs.size a) (t' := s1.toks) (fun _ _ e => Heap.get?_push_of_some _ e) (Nat.le_refl _) ?_, rfl, q _ (I1.hok.fresh (Nat.le_refl _))⟩
    refine ⟨⟨_, Heap.get?_push_size _ rfl, rfl, rfl⟩, ⟨_, Heap.get?_push_size _ rfl⟩, fun h1 h2 v k => ?_⟩
    obtain ⟨o', e1, e2⟩ := v
    exact ⟨o', k _ e1, e2⟩
def rListVals : List V → Hp → VK → Prop := fun xs H Q => ∃ (p a : Addr) (kvs : List (List L2.Key × V)), xs = [.ref p] ∧ H p = some (valsO p a) ∧ Rd H a (.dT kvs) ∧ ∀ l, H l = none → Q (.ref l) (upd H l (.lst (kvs.map (·.2))))
theorem KT_vals {H : Hp} : ∀ {kvs : List (List L2.Key × V)} {xs : List (List L2.Key × Addr × Value)}, KT H kvs xs → Vals (kvs.map (·.2)) (xs.map (·.2.2))
  | _, _, .nil => .nil
  | _, _, .cons a t => .cons a.2.2 (KT_vals t)
theorem call_listVals {X : Cx} (hc : X.calm = true) : CallR X (.type "list") rListVals := by
  rintro pins s σ H xs us Q I r ⟨p, a, kvs, rfl, hp, hd, q⟩
  obtain ⟨u, rfl, ru⟩ := vals1 r
  obtain rfl : u = Value.ref p := ru
  obtain ⟨hz, hs, ks, rel, ob, es, ep, hob, hx, hdt, he, _, _⟩ := dt_rd I.hok hd
  have l1 : es.size = ks.length := size_of_entries he
  have l2 : kvs.length = ks.length := Paired.length rel
  have view : s.heap.IsValuesView p a := (show ObjOk X.prog X.w H s.heap p (valsO p a) from I.hok p _ hp).1
  refine PySem.W.kdl_call (KdlSrc.rawValues (es := es) (ep := ep)) (I.ok.hd hc) ⟨view, ob, hob, hx, hdt⟩ (by omega) ?_
  intro h' tk acc c kp e it
  have ea : acc.toList = ks.map (·.2.2) := by
    apply List.ext_getElem?
    intro j
    rw [List.getElem?_map]
    by_cases hj : j < es.size
    · have hja : j < acc.size := by rw [it.1]; exact hj
      obtain ⟨hi, hv⟩ := it.2 j acc[j] (Array.getElem?_eq_getElem hja)
      rw [Array.getElem?_toList, Array.getElem?_eq_getElem hja, hv]
      have qe := entry_at he j
      rw [Array.getElem?_eq_getElem hi] at qe
      cases hb : ks[j]? with
      | none =>
        rw [hb] at qe
        exact nomatch (show some es[j] = none from qe)
      | some b =>
        rw [hb] at qe
        rw [show es[j] = entryOfKey (tupleKind (mixKind X.prog X.w)) b from Option.some.inj qe]
        rfl
    · rw [List.getElem?_eq_none (by rw [Array.length_toList, it.1]; omega), List.getElem?_eq_none (by omega)]
      rfl
  have rv : Vals (kvs.map (·.2)) acc.toList := by
    rw [ea]
    exact KT_vals rel
  refine ⟨.ref s.heap.objs.size, _, I.laid (t' := tk) (o := .lst (kvs.map (·.2))) kp (Nat.le_refl _) ⟨by rw [List.length_map]; exact hz, acc.toList, c, rv, by rw [Array.toArray_toList]; exact e⟩, rfl, q _ (I.hok.fresh (Nat.le_refl _))⟩

/-! ### len(d), isinstance(d, dict), the dict locked or not -/
def rLenR : List V → Hp → VK → Prop := fun xs H Q => ∃ (p : Addr) (kvs : List (List L2.Key × V)), xs = [.ref p] ∧ Rd H p (.dT kvs) ∧ Q (.int ((kvs.length : Nat) : Int)) H
theorem call_lenR {X : Cx} : CallR X (.builtin "len") rLenR := by
  rintro pins s σ H xs us Q I r ⟨p, kvs, rfl, hd, q⟩
  obtain ⟨u, rfl, ru⟩ := vals1 r
  obtain rfl : u = Value.ref p := ru
  obtain ⟨hz, hs, ks, rel, dd⟩ := dt_rd I.hok hd
  have l2 : kvs.length = ks.length := Paired.length rel
  have h63 := line63
  refine call_len_dictH hs dd (by omega) ?_
  rw [← l2]
  exact ⟨.int ((kvs.length : Nat) : Int), H, I.tok _, ⟨_, rfl⟩, q⟩
def rIsD : List V → Hp → VK → Prop := fun xs H Q => ∃ (d : Addr) (kvs : List (List L2.Key × V)), xs = [.ref d, .ty "dict"] ∧ Rd H d (.dT kvs) ∧ Q (.bl true) H
theorem call_isD {X : Cx} : CallR X (.builtin "isinstance") rIsD := by
  rintro pins s σ H xs us Q I r ⟨d, kvs, rfl, hd, q⟩
  obtain ⟨u1, u2, rfl, r1, r2⟩ := vals2 r
  obtain rfl : u1 = Value.ref d := r1
  obtain rfl : u2 = Value.type "dict" := r2
  obtain ⟨hz, hs, xs, rel, ob, es, ep, hob, hx, _⟩ := dt_rd I.hok hd
  exact PySem.W.kia_one PySem.W.kitx_dict I.kIn ⟨ob, hob, hx.1⟩ (kit_ty (show kitB "dict" "dict" = some true by decide +kernel)) (fun z => nomatch z) fun tk => ⟨.bl true, H, I.tok tk, rfl, q⟩
theorem call_isR {X : Cx} : CallR X (.builtin "isinstance") (fun xs H Q => rIs X.K xs H Q ∨ rIsD xs H Q) := by
  intro pins s σ H xs us Q I r h
  rcases h with h | h
  · exact call_is pins s σ H xs us Q I r h
  · exact call_isD pins s σ H xs us Q I r h
end LD

/-! sorted(..) of paths: tuples of texts, one of them perhaps empty. -/
namespace LS
open PySem PyProof.Rows SrtO

def rk (p : List Str) : List (List Nat) := p.map fun z => z.cps.toList
def ltP (p q : List Str) : Bool := decide (rk p < rk q)
theorem rk_cons {x : Str} {p : List Str} : rk (x :: p) = x.cps.toList :: rk p := rfl
theorem cps_inj {x y : Str} (h : x.cps.toList = y.cps.toList) : x = y := by
  cases x with
  | mk a =>
    cases y with
    | mk b =>
      obtain ⟨a⟩ := a
      obtain ⟨b⟩ := b
      simp only at h
      rw [h]
theorem rk_inj : ∀ {p q : List Str}, rk p = rk q → p = q
  | [], [], _ => rfl
  | [], _ :: _, h => by simp [rk] at h
  | _ :: _, [], h => by simp [rk] at h
  | x :: p, y :: q, h => by
    rw [rk_cons, rk_cons] at h
    injection h with h1 h2
    rw [cps_inj h1, rk_inj h2]
theorem ltP_cons {x y : Str} {p q : List Str} : ltP (x :: p) (y :: q) = if x = y then ltP p q else decide (x.cps.toList < y.cps.toList) := by
  unfold ltP
  rw [rk_cons, rk_cons]
  by_cases e : x = y
  · subst e
    rw [if_pos rfl]
    refine decide_eq_decide.mpr ?_
    rw [List.cons_lt_cons_iff]
    constructor
    · rintro (h | ⟨_, h⟩)
      · exact absurd h (List.lt_irrefl _)
      · exact h
    · exact fun h => Or.inr ⟨rfl, h⟩
  · rw [if_neg e]
    refine decide_eq_decide.mpr ?_
    rw [List.cons_lt_cons_iff]
    constructor
    · rintro (h | ⟨h, _⟩)
      · exact h
      · exact absurd (cps_inj h) e
    · exact Or.inl
theorem ltP_nil {p : List Str} : ltP p [] = false := by
  unfold ltP
  refine decide_eq_false ?_
  exact List.not_lt_nil _
theorem ltP_nil_cons {x : Str} {p : List Str} : ltP [] (x :: p) = true := by
  unfold ltP
  rw [rk_cons]
  refine decide_eq_true ?_
  exact List.nil_lt_cons _ _
theorem rk_asym {a b : List (List Nat)} (h : a < b) : ¬ b < a := List.lt_asymm h
theorem rk_tr {a b c : List (List Nat)} (h1 : ¬ b < a) (h2 : ¬ c < b) : ¬ c < a := by
  have h1' : a ≤ b := h1
  have h2' : b ≤ c := h2
  exact (List.le_trans h1' h2' : a ≤ c)
theorem swoP (k : Value → List Str) : Swo fun u v => ltP (k u) (k v) := by
  constructor
  · intro x y h
    exact decide_eq_false (rk_asym (of_decide_eq_true h))
  · intro x y z h1 h2
    exact decide_eq_false (rk_tr (of_decide_eq_false h1) (of_decide_eq_false h2))
theorem ltP_anti {p q : List Str} (h1 : ltP p q = false) (h2 : ltP q p = false) : p = q := by
  have a : ¬ rk p < rk q := of_decide_eq_false h1
  have b : ¬ rk q < rk p := of_decide_eq_false h2
  exact rk_inj (List.le_antisymm (b : rk p ≤ rk q) (a : rk q ≤ rk p))

/-! ### tuples of texts, compared -/
def TupS (h : Heap) (v : Value) (p : List Str) : Prop := ∃ (a : Addr) (xs : Array Value), v = .ref a ∧ h.IsTuple a xs ∧ StrsAre xs.toList p
theorem TupS.keeps {h h' : Heap} {v : Value} {p : List Str} (x : TupS h v p) (k : ∀ b o, h.get? b = some o → o.cls = .type "tuple" → h'.get? b = some o) : TupS h' v p := by
  obtain ⟨a, xs, e, ⟨o, ho, hc, hd⟩, i⟩ := x
  exact ⟨a, xs, e, ⟨o, k _ _ ho hc, hc, hd⟩, i⟩
theorem strs_at : ∀ {vs : List Value} {p : List Str}, StrsAre vs p → vs.length = p.length ∧ ∀ j (h : j < vs.length), ∃ t, vs[j] = .str (p.getD j "") t
  | _, _, .nil => ⟨rfl, fun j h => absurd h (Nat.not_lt_zero _)⟩
  | _, _, .cons y t r => by
    obtain ⟨h1, h2⟩ := strs_at r
    refine ⟨by rw [List.length_cons, List.length_cons, h1], fun j h => ?_⟩
    cases j with
    | zero => exact ⟨t, rfl⟩
    | succ j => exact h2 j (Nat.lt_of_succ_lt_succ h)
theorem lexAt_ltP : ∀ (p q : List Str) (e r : Nat → Bool) (i : Nat), (∀ j, j < min p.length q.length → e (i + j) = decide (p.getD j "" = q.getD j "")) →
    (∀ j, j < min p.length q.length → r (i + j) = decide ((p.getD j "").cps.toList < (q.getD j "").cps.toList)) →
    Ob.lexAt e r (decide (p.length < q.length)) i (min p.length q.length) = ltP p q
  | [], [], e, r, i, _, _ => by rw [ltP_nil]; rfl
  | [], y :: q, e, r, i, _, _ => by
    rw [ltP_nil_cons, List.length_nil, Nat.zero_min]
    exact decide_eq_true (by rw [List.length_cons]; omega)
  | x :: p, [], e, r, i, _, _ => by
    rw [ltP_nil, List.length_nil, Nat.min_zero]
    exact decide_eq_false (Nat.not_lt_zero _)
  | x :: p, y :: q, e, r, i, he, hr => by
    have hm : min (x :: p).length (y :: q).length = min p.length q.length + 1 := by
      rw [List.length_cons, List.length_cons]
      omega
    have e0 : e i = decide (x = y) := by
      have := he 0 (by rw [hm]; omega)
      exact this
    have r0 : r i = decide (x.cps.toList < y.cps.toList) := by
      have := hr 0 (by rw [hm]; omega)
      exact this
    rw [hm, Ob.lexAt_succ, e0, r0, ltP_cons]
    by_cases h : x = y
    · rw [decide_eq_true h, if_pos rfl, if_pos h]
      have hz : decide ((x :: p).length < (y :: q).length) = decide (p.length < q.length) := decide_eq_decide.mpr (by rw [List.length_cons, List.length_cons]; omega)
      rw [hz]
      refine lexAt_ltP p q e r (i + 1) (fun j hj => ?_) (fun j hj => ?_)
      · have := he (j + 1) (by rw [hm]; omega)
        rw [Nat.add_assoc, Nat.add_comm 1 j]
        exact this
      · have := hr (j + 1) (by rw [hm]; omega)
        rw [Nat.add_assoc, Nat.add_comm 1 j]
        exact this
    · rw [decide_eq_false h, if_neg Bool.false_ne_true, if_neg h]
section
variable {prog : Program} {w : World} {A : Around} {E : Value → Shared → Prop} {s : Shared} {u v : Value} {p q : List Str}
theorem eq_str {x y : Str} {t t' : Tok} {A : Around} : SeqAt.EqAt A s (.str x t) (.str y t') (decide (x = y)) := fun _ _ _ _ h => wpAny_eqBool_str h
theorem lt_str_rc {x y : Str} {t t' : Tok} {A : Around} : Ob.RcOp .Lt A s (.str x t) (.str y t') (decide (x.cps.toList < y.cps.toList)) := fun _ _ _ _ h => PyProof.Rows.lt_str h
/-- t < u of two tuples of texts -/
theorem rc_ltP (hu : A.units < cLine) (h1 : TupS s.heap u p) (h2 : TupS s.heap v q) : Ob.RcOp .Lt A s u v (ltP p q) := by
  obtain ⟨a, xs, rfl, t1, i1⟩ := h1
  obtain ⟨b, ys, rfl, t2, i2⟩ := h2
  obtain ⟨l1, g1⟩ := strs_at i1
  obtain ⟨l2, g2⟩ := strs_at i2
  rw [Array.length_toList] at l1 l2
  have R := Ob.RcOp.tuples_lt (A := A) (s := s) (e := fun j => decide (p.getD j "" = q.getD j "")) (r := fun j => decide ((p.getD j "").cps.toList < (q.getD j "").cps.toList)) t1 t2 hu
    (fun j h1 h2 => by
      obtain ⟨t, e1⟩ := g1 j (by rw [Array.length_toList]; exact h1)
      obtain ⟨t', e2⟩ := g2 j (by rw [Array.length_toList]; exact h2)
      rw [Array.getElem_toList] at e1 e2
      rw [e1, e2]
      exact eq_str)
    (fun j h1 h2 _ => by
      obtain ⟨t, e1⟩ := g1 j (by rw [Array.length_toList]; exact h1)
      obtain ⟨t', e2⟩ := g2 j (by rw [Array.length_toList]; exact h2)
      rw [Array.getElem_toList] at e1 e2
      rw [e1, e2]
      exact lt_str_rc)
  rw [l1, l2] at R
  rw [lexAt_ltP p q _ _ 0 (fun j _ => by rw [Nat.zero_add]) (fun j _ => by rw [Nat.zero_add])] at R
  exact R
/-- the same, by the slot of tuples -/
theorem slot_ltP {Q : Bool → Shared → Prop} (hu : A.units + 1 < cLine) (h1 : TupS s.heap u p) (h2 : TupS s.heap v q) (h : Q (ltP p q) s) : wpAny (model prog w) A (oneLt' true u v) Q E s := by
  obtain ⟨a, xs, rfl, t1, i1⟩ := h1
  obtain ⟨b, ys, rfl, t2, i2⟩ := h2
  obtain ⟨l1, g1⟩ := strs_at i1
  obtain ⟨l2, g2⟩ := strs_at i2
  rw [Array.length_toList] at l1 l2
  rw [oneLt'_eq]
  simp only [if_true]
  refine wpAny_bind (wpAny_cRoomFor (Nat.lt_of_succ_lt hu) ?_)
  obtain ⟨⟨cls, dd, data, sl⟩, ho, hc, n, hd⟩ := id t1
  obtain ⟨⟨cls2, dd2, data2, sl2⟩, ho2, hc2, n2, hd2⟩ := id t2
  simp only at hc hd hc2 hd2
  subst hc hd hc2 hd2
  refine wpAny_bind (wpAny_callSpecialIfBound?_slot (T := "tuple") ⟨_, ho, rfl⟩ PySem.F.slot_tuple_lt ?_)
  refine call_meets PySem.F.slot_tuple_lt ⟨_, ho, rfl⟩ PySem.F.entry_tuple_lt (PySem.F.args_tuple_lt_2 _ _)
    (Ob.tuple_ltAt a b xs ys n n2 dd dd2 sl sl2 (fun j => decide (p.getD j "" = q.getD j "")) (fun j => decide ((p.getD j "").cps.toList < (q.getD j "").cps.toList))) ⟨ho, ho2, ?_, ?_, ?_⟩
  · intro j h1 h2
    obtain ⟨t, e1⟩ := g1 j (by rw [Array.length_toList]; exact h1)
    obtain ⟨t', e2⟩ := g2 j (by rw [Array.length_toList]; exact h2)
    rw [Array.getElem_toList] at e1 e2
    rw [e1, e2]
    exact eq_str
  · intro j h1 h2 _
    obtain ⟨t, e1⟩ := g1 j (by rw [Array.length_toList]; exact h1)
    obtain ⟨t', e2⟩ := g2 j (by rw [Array.length_toList]; exact h2)
    rw [Array.getElem_toList] at e1 e2
    rw [e1, e2]
    exact lt_str_rc
  · rw [l1, l2, lexAt_ltP p q _ _ 0 (fun j _ => by rw [Nat.zero_add]) (fun j _ => by rw [Nat.zero_add])]
    exact wpAny_truthy_bool h
end

/-! ### the three ways in which a sort may compare them -/
section
variable {prog : Program} {w : World} {A : Around} {E : Value → Shared → Prop} {s : Shared} {vs : List Value} {k : Value → List Str}
theorem lex_kat {b fin : Bool} {Q : Bool → Shared → Prop} : ∀ {xs ys : List Value} {p q : List Str} (i : Nat), StrsAre xs p → StrsAre ys q → (fin = decide (p.length < q.length)) → Q (ltP p q) s →
    PySem.W.KatLex prog w A b fin Q (xs.zip ys) i s
  | _, _, _, _, i, .nil, .nil, hf, h => by
    rw [ltP_nil] at h
    refine PySem.W.kat_nil ?_
    rw [hf]
    exact h
  | _, _, _, _, i, .nil, .cons y t r, hf, h => by
    rw [ltP_nil_cons] at h
    refine PySem.W.kat_nil ?_
    rw [hf, decide_eq_true (by rw [List.length_cons, List.length_nil]; omega)]
    exact h
  | _, _, _, _, i, .cons x t r, .nil, hf, h => by
    rw [ltP_nil] at h
    refine PySem.W.kat_nil ?_
    rw [hf, decide_eq_false (show ¬ (x :: _).length < ([] : List Str).length from Nat.not_lt_zero _)]
    exact h
  | _, _, _, _, i, .cons (ys := p) x t r, .cons (ys := q) y t' r', hf, h => by
    rw [ltP_cons] at h
    refine PySem.W.kat_cons (wpAny_eqBool_str ?_)
    refine PySem.W.kat_go (fun e => ?_) (fun e => ?_)
    · rw [if_pos (of_decide_eq_true e)] at h
      refine PySem.W.kat_yes (lex_kat (i + 1) r r' ?_ h)
      rw [hf]
      exact decide_eq_decide.mpr (by rw [List.length_cons, List.length_cons]; omega)
    · rw [if_neg (of_decide_eq_false e)] at h
      refine PySem.W.kat_no ?_
      cases hb : (b && i == 0) with
      | true => exact oneLt_str h
      | false => exact PySem.W.kat_one _ _ (PyProof.Rows.lt_str (Q := PySem.W.BoolBack Q) h)
theorem cmp_tuples (hp : ∀ v ∈ vs, TupS s.heap v (k v)) : Cmp prog w A s (tuples' true) (fun p => p.1 ∈ vs) (lt2 fun u v => ltP (k u) (k v)) := by
  intro p q hm hm'
  obtain ⟨a, xs, e1, ⟨o, ho, hc, n, hd⟩, i1⟩ := hp _ hm
  obtain ⟨b, ys, e2, ⟨o2, ho2, hc2, n2, hd2⟩, i2⟩ := hp _ hm'
  show wpAny (model prog w) A (keyLt' (tuples' true) p.1 q.1) (fun r s' => s' = s ∧ r = ltP (k p.1) (k q.1)) (fun _ _ => False) s
  generalize k p.1 = P at i1 ⊢
  generalize k q.1 = R at i2 ⊢
  rw [e1, e2]
  have l1 := (strs_at i1).1
  have l2 := (strs_at i2).1
  rw [Array.length_toList] at l1 l2
  refine PySem.W.kat_lt ho hd ho2 hd2 (lex_kat 0 i1 i2 ?_ ⟨rfl, rfl⟩)
  rw [l1, l2]
theorem cmp_general (hu : A.units < cLine) (hp : ∀ v ∈ vs, TupS s.heap v (k v)) : Cmp prog w A s general' (fun p => p.1 ∈ vs) (lt2 fun u v => ltP (k u) (k v)) := by
  intro p q hm hm'
  show wpAny (model prog w) A (oneLt' false p.1 q.1) (fun r s' => s' = s ∧ r = ltP (k p.1) (k q.1)) (fun _ _ => False) s
  refine PySem.W.kat_one _ _ ?_
  exact rc_ltP hu (hp _ hm) (hp _ hm') prog w _ _ ⟨rfl, rfl⟩
theorem cmp_one (hu : A.units + 1 < cLine) (hp : ∀ v ∈ vs, TupS s.heap v (k v)) : Cmp prog w A s oneType' (fun p => p.1 ∈ vs) (lt2 fun u v => ltP (k u) (k v)) := by
  intro p q hm hm'
  show wpAny (model prog w) A (oneLt' true p.1 q.1) (fun r s' => s' = s ∧ r = ltP (k p.1) (k q.1)) (fun _ _ => False) s
  exact slot_ltP hu (hp _ hm) (hp _ hm') ⟨rfl, rfl⟩

/-! ### which way it is -/
theorem firsts_any : ∀ {vs : List Value} {Q : List (Option Value) → Shared → Prop}, (∀ v ∈ vs, TupS s.heap v (k v)) →
    (∀ fs : List (Option Value), fs.length = vs.length → (fs.map Option.isSome = vs.map fun v => !(k v).isEmpty) → (∀ f ∈ fs, ∀ x, f = some x → ∃ z t, x = Value.str z t) → Q fs s) → wpAny (model prog w) A (vs.mapM firstOfTuple') Q E s
  | [], Q, _, h => by
    rw [List.mapM_nil]
    exact wpAny_pure (h [] rfl rfl fun f hf => nomatch hf)
  | v :: vs, Q, hp, h => by
    obtain ⟨a, xs, e1, ⟨o, ho, hc, n, hd⟩, i1⟩ := hp v (List.mem_cons_self ..)
    rw [List.mapM_cons, e1]
    refine wpAny_bind ?_
    rw [PySem.W.kas_first_eq]
    refine wpAny_bind (PySem.W.Looks.here (show PySem.W.Looks (model prog w) s.heap (typeOf (.ref a)) o.cls from (PySem.W.Looks.ld ho).andThen .now) ?_)
    rw [hc, if_neg (by first | decide | simp)]
    refine wpAny_bind (listItems_at ho hd (wpAny_pure ?_))
    refine wpAny_bind (firsts_any (fun u hu => hp u (List.mem_cons_of_mem _ hu)) fun fs hl hs hf => wpAny_pure (h _ (by rw [List.length_cons, List.length_cons, hl]) ?_ fun f hm x e => ?_))
    · rw [List.map_cons, List.map_cons, hs]
      have l1 := (strs_at i1).1
      rw [Array.length_toList] at l1
      have e2 : (xs[0]?).isSome = !(k v).isEmpty := by
        cases hk : k v with
        | nil =>
          rw [hk, List.length_nil] at l1
          rw [Array.getElem?_eq_none (by omega)]
          rfl
        | cons z r =>
          rw [hk, List.length_cons] at l1
          rw [Array.getElem?_eq_getElem (by omega)]
          rfl
      rw [e2]
    rcases List.mem_cons.mp hm with rfl | hm
    · obtain ⟨l1, g1⟩ := strs_at i1
      have hx : xs.toList[0]? = some x := by rw [Array.getElem?_toList]; exact e
      obtain ⟨h0, e0⟩ := List.getElem?_eq_some_iff.mp hx
      obtain ⟨t, et⟩ := g1 0 h0
      exact ⟨_, t, e0.symm.trans et⟩
    · exact hf f hm x e
theorem one_type {T : Value} {gs : List Value} {Q : Option Value → Shared → Prop} (hne : gs ≠ []) (hT : ∀ v ∈ gs, PySem.W.Looks (model prog w) s.heap (typeOf v) T) (hTT : (T == T) = true) (h : Q (some T) s) :
    wpAny (model prog w) A (oneTypeOnly' gs.toArray) Q E s := by
  obtain ⟨g, gr, rfl⟩ : ∃ g gr, gs = g :: gr := by
    cases gs with
    | nil => exact absurd rfl hne
    | cons g gr => exact ⟨g, gr, rfl⟩
  rw [oneTypeOnly'_eq, List.mapM_toArray, map_eq_pure_bind]
  refine wpAny_bind (wpAny_bind (PySem.W.kas_mapM (r := T) _ (fun v hv Q' hq => (hT v hv).here hq) (wpAny_pure ?_)))
  have hall : ((List.map (fun _ => T) (g :: gr)).toArray.all fun x => x == T) = true := by
    simp only [List.all_toArray, List.all_map, List.all_eq_true]
    intro _ _
    exact hTT
  have h0 : (List.map (fun _ => T) (g :: gr)).toArray[0]? = some T := by simp
  rw [h0]
  simp only [hall, if_true]
  exact wpAny_pure h
/-- which of the three it is -/
def wayOf (k : Value → List Str) (vs : List Value) : SortKind := if (vs.all fun v => !(k v).isEmpty) = true then tuples' true else if ((vs.map fun v => !(k v).isEmpty)[0]? = some true) then general' else oneType'
theorem kind_any (h2 : 2 ≤ vs.length) (hp : ∀ v ∈ vs, TupS s.heap v (k v)) {Q : SortKind → Shared → Prop} (q : Q (wayOf k vs) s) :
    wpAny (model prog w) A (keyKind' vs.toArray) Q E s := by
  rw [kat_kind_eq, List.mapM_toArray, map_eq_pure_bind]
  refine wpAny_bind (wpAny_bind (firsts_any hp fun fs hl hs hf => wpAny_pure ?_))
  have hav : (fs.toArray.all fun x => x.isSome) = vs.all fun v => !(k v).isEmpty := by
    have e1 : (fs.toArray.all fun x => x.isSome) = (fs.map Option.isSome).all id := by
      rw [List.all_map, List.all_toArray]
      rfl
    rw [e1, hs, List.all_map]
    rfl
  have h0v : (fs.toArray[0]?.bind id).isSome = true ↔ (vs.map fun v => !(k v).isEmpty)[0]? = some true := by
    rw [← hs]
    cases fs with
    | nil => simp
    | cons f fr => cases f <;> simp
  unfold wayOf at q
  rw [← hav] at q
  by_cases hall : (fs.toArray.all fun x => x.isSome) = true
  · rw [if_pos hall] at q ⊢
    refine wpAny_bind (wpAny_rule ?_)
    have hfm : Array.filterMap id fs.toArray = (fs.filterMap id).toArray := by simp
    rw [hfm]
    have hgs : ∀ g ∈ fs.filterMap id, ∃ z t, g = Value.str z t := by
      intro g hg
      obtain ⟨f, hm, e⟩ := List.mem_filterMap.mp hg
      exact hf f hm g e
    have hne : fs.filterMap id ≠ [] := by
      intro e
      cases fs with
      | nil =>
        rw [List.length_nil] at hl
        omega
      | cons f fr =>
        cases f with
        | none => simp at hall
        | some x => simp at e
    refine wpAny_bind (one_type (T := .type "str") hne (fun v hv => ?_) (by rfl) (wpAny_pure ?_))
    · obtain ⟨z, t, rfl⟩ := hgs v hv
      exact PySem.W.Looks.of_pure rfl
    · have e : (Option.any (fun x => x != Value.type "tuple") (some (Value.type "str"))) = true := by first | decide +kernel | rfl
      rw [e]
      exact q
  · rw [if_neg hall] at q ⊢
    refine wpAny_ite_split (fun h => ?_) (fun h => ?_)
    · rw [if_pos (h0v.mp h)] at q
      exact wpAny_pure q
    rw [if_neg (fun z => h (h0v.mpr z))] at q
    have hne : vs ≠ [] := by
      intro e
      rw [e, List.length_nil] at h2
      omega
    refine wpAny_bind (one_type (T := .type "tuple") hne (fun v hv => ?_) (by rfl) (wpAny_pure q))
    obtain ⟨a, xs, rfl, ⟨o, ho, hc, n, hd⟩, i1⟩ := hp v hv
    rw [← hc]
    exact (PySem.W.Looks.ld ho).andThen .now
/-- paths can be sorted, whatever the way -/
theorem sortable {a : Addr} (hu : A.units + 1 < cLine) (h2 : 2 ≤ vs.length) (hp : ∀ v ∈ vs, TupS s.heap v (k v)) (ha : ∀ o, s.heap.get? a = some o → o.cls ≠ .type "tuple") :
    SortableO prog w A s a vs fun u v => ltP (k u) (k v) := by
  intro h' keep
  have hp' : ∀ v ∈ vs, TupS h' v (k v) := fun v hm => (hp v hm).keeps fun b o e c => keep b o (fun z => by subst z; exact ha o e c) e
  refine ⟨wayOf k vs, fun Q E hq => kind_any h2 hp' hq, ?_⟩
  unfold wayOf
  split
  · exact cmp_tuples hp'
  · split
    · exact cmp_general (Nat.lt_of_succ_lt hu) hp'
    · exact cmp_one hu hp'
end

/-! ### sorted(x), x anything that can be walked -/
section
variable {prog : Program} {w : World} {A : Around} {E : Value → Shared → Prop} {s : Shared} {T : String} {r d : Addr} {n : Nat} {P : Nat → Value → Prop} {OK : Heap → Prop}
theorem collect_src {R : List Value → Shared → Prop} (K : PySem.W.KdlSrc prog w T r d n P OK) (hh : A.handled = none) (hok : OK s.heap) (hn : n ≤ sizeLine)
    (h : ∀ (h' : Heap) (tk : Nat) (acc : Array Value), (∀ b o, s.heap.get? b = some o → h'.get? b = some o) → s.heap.objs.size < h'.objs.size → ItemsOf P acc n → R acc.toList { s with heap := h', toks := tk }) :
    wpAny (model prog w) A (collect (.ref r)) R E s := by
  have hlt := K.there _ hok
  have hS : (s.heap.push { cls := .type "list", data := .seq ([] : List Value).toArray }).get? s.heap.objs.size = some { cls := .type "list", data := .seq #[] } := Heap.get?_push_size _ rfl
  have key := PySem.W.kdl_extend (A := A) (s := { s with heap := s.heap.push { cls := .type "list", data := .seq ([] : List Value).toArray } })
    (R := fun (q : Result) (s' : Shared) => ∃ (h' : Heap) (tk : Nat) (acc : Array Value) (c : Nat), q = .ok (.ret (.ref s.heap.objs.size)) ∧ s' = { s with heap := h', toks := tk } ∧ (∀ b o, s.heap.get? b = some o → h'.get? b = some o) ∧
      h'.get? s.heap.objs.size = some { cls := .type "list", dict := none, data := .seq acc c, slots := #[] } ∧ ItemsOf P acc n)
    K hh (K.keep _ _ hok fun b _ o e => Heap.get?_push_of_some _ e) s.heap.objs.size (Nat.ne_of_gt hlt.1) (Nat.ne_of_gt hlt.2) (.ref s.heap.objs.size) 0 hS
    (fun h' tk acc c kp at_ it => ⟨h', tk, acc, c, rfl, rfl, fun b o e => kp b o (Nat.ne_of_lt (Heap.lt_size e)) (Heap.get?_push_of_some _ e), at_, it⟩) hn
  have fin : ∀ {s' : Shared} {h' : Heap} {tk : Nat} {acc : Array Value} {c : Nat}, s' = { s with heap := h', toks := tk } → (∀ b o, s.heap.get? b = some o → h'.get? b = some o) →
      h'.get? s.heap.objs.size = some { cls := .type "list", dict := none, data := .seq acc c, slots := #[] } → ItemsOf P acc n →
      wpAny (model prog w) A (load s.heap.objs.size >>= fun o => match o.data with
        | .seq xs _ => pure xs.toList
        | _ => unsupported "internal:collect") R E s' := by
    intro s' h' tk acc c e kp at_ it
    subst e
    refine wpAny_bind (wpAny_load at_ ?_)
    exact wpAny_pure (h h' tk acc kp (Heap.lt_size at_) it)
  unfold collect
  refine wpAny_bind (wpAny_runValue (codeAny_builtin entry_proto_collect' ?_))
  rw [Around.under_plainId PySem.F.plain_proto_collect _]
  refine wpAny_bind (m := newList []) (wpAny_newObj_type (wpAny_pure ⟨plainId_quiet PySem.F.plain_list_iadd _, codeAny_builtin entry_list_iadd' ?_⟩))
  rw [Around.under_plainId PySem.F.plain_list_iadd _]
  refine wpAny_mono key ?_ ?_
  · intro fl s' x
    cases fl with
    | again c₁ =>
      obtain ⟨x1, x2⟩ := x
      refine ⟨x1, codeAny_mono x2 ?_⟩
      rintro q s₂ ⟨h', tk, acc, c, rfl, e, kp, at_, it⟩
      exact fin e kp at_ it
    | done f =>
      obtain ⟨h', tk, acc, c, eq, e, kp, at_, it⟩ := x
      cases eq
      exact fin e kp at_ it
  · intro e s' x
    obtain ⟨_, _, _, _, e', _⟩ := x
    cases e'
/-- what a sort leaves -/
def Leaves (s : Shared) (ltv : Value → Value → Bool) (vs : List Value) (tk : Nat) (Q : Value → Shared → Prop) : Prop := ∀ (h2 : Heap) (l : Addr) (out : List Value), Srtd ltv out → Stb ltv out vs →
  (∀ b o, s.heap.get? b = some o → h2.get? b = some o) → s.heap.objs.size ≤ l → (∃ c, h2.get? l = some (seqObj "list" out.toArray c)) → Q (.ref l) { s with heap := h2, toks := tk }
theorem sorted_src {ltv : List Value → Value → Value → Bool} {Q : Value → Shared → Prop} (O : ∀ vs, Swo (ltv vs)) (K : PySem.W.KdlSrc prog w T r d n P OK) (hh : A.handled = none) (hok : OK s.heap) (hn : n ≤ sizeLine)
    (hS : ∀ (acc : Array Value) (tk : Nat), ItemsOf P acc n → 2 ≤ acc.size → ∀ (h₁ : Heap) (a : Addr), h₁.get? a = some (seqObj "list" acc 0) → (∀ b o, s.heap.get? b = some o → b ≠ a ∧ h₁.get? b = some o) →
      SortableO prog w A.in1.in1 { s with heap := h₁, toks := tk } a acc.toList (ltv acc.toList))
    (h : ∀ (acc : Array Value) (tk : Nat), ItemsOf P acc n → Leaves s (ltv acc.toList) acc.toList tk Q) :
    wpAny (model prog w) A (call (.builtin "sorted") [.ref r]) Q E s := by
  refine Calls.call_function_entry kind_sorted plain_sorted entry_sorted (args_sorted1 _) ?_
  unfold Builtin.«sorted»
  refine wpAny_bind (m := checkCount "sorted" 1 1 _) (wpAny_pure (wpAny_bind (collect_src (A := A.in1) K hh hok hn fun h' tk acc kp hlt it => ?_)))
  have hz : acc.toList.length ≤ sizeLine := by
    rw [Array.length_toList, it.1]
    exact hn
  refine wpAny_bind (wpAny_newList ?_ hz)
  have hL : (h'.push (seqObj "list" acc.toList.toArray 0)).get? h'.objs.size = some (seqObj "list" acc.toList.toArray 0) := Heap.get?_push_size _ rfl
  have keep : ∀ b o, s.heap.get? b = some o → b ≠ h'.objs.size ∧ (h'.push (seqObj "list" acc.toList.toArray 0)).get? b = some o := fun b o q =>
    ⟨Nat.ne_of_lt (Heap.lt_size (kp b o q)), Heap.get?_push_of_some _ (kp b o q)⟩
  show wpAny _ _ _ _ _ { s with heap := h'.push (seqObj "list" acc.toList.toArray 0), toks := tk }
  refine wpAny_bind (wpAny_holding (wpAny_call_entry slot_list_sort ⟨_, hL, rfl⟩ entry_list_sort (list_sort_ord (O acc.toList) hL hz (fun h2 => ?_) fun out hs hb => ⟨_, rfl, ?_⟩) (args_list_sort _)))
  · exact hS acc tk it (by rw [← Array.length_toList]; exact h2) _ _ hL keep
  · refine wpAny_pure ⟨_, rfl, h acc tk it _ h'.objs.size out hs hb (fun b o e => ?_) (Nat.le_of_lt hlt) ?_⟩
    · exact (PyProof.Rows.sortedHeap_old (keep b o e).1 (Heap.lt_size (keep b o e).2)).trans (keep b o e).2
    · obtain ⟨c, hc⟩ := PyProof.Rows.sortedHeap_at (n := 0) (vs := acc.toList) (out := out.toArray) hL
      exact ⟨c, hc⟩
end
end LS

namespace LS
open PySem PySem.Spec PyProof.Rows SrtO L2 LT
/-- the texts of a tuple, read off the heap -/
def strsOf (h : Heap) : Value → List Str
  | .ref a => match h.get? a with
    | some o => match o.data with
      | .seq xs _ => xs.toList.map fun v => match v with | .str z _ => z | _ => ""
      | _ => []
    | none => []
  | _ => []
theorem strs_back : ∀ {vs : List Value} {p : List Str}, StrsAre vs p → vs.map (fun v => match v with | .str z _ => z | _ => "") = p
  | _, _, .nil => rfl
  | _, _, .cons y t r => by
    rw [List.map_cons, strs_back r]
theorem TupS.of {h : Heap} {v : Value} {p : List Str} (x : TupS h v p) : strsOf h v = p := by
  obtain ⟨a, xs, rfl, ⟨o, ho, hc, n, hd⟩, i⟩ := x
  unfold strsOf
  simp only [ho, hd]
  exact strs_back i
theorem strs_of_vals : ∀ {p : List Str} {us : List Value}, Vals (p.map V.str) us → StrsAre us p
  | [], _, r => by
    cases r
    exact .nil
  | z :: p, _, r => by
    cases r with
    | cons r1 r2 =>
      obtain ⟨t, rfl⟩ := r1
      exact .cons z t (strs_of_vals r2)
theorem tupS_of {X : Cx} {pins : List (Addr × Obj)} {σ : L2.St} {H : Hp} {s : Shared} {a : Addr} {p : List Str} (I : Inv X pins σ H s) (h : PathAt X.K H a p) : TupS s.heap (.ref a) p := by
  obtain ⟨its, r, t, _⟩ := I.tuple h
  exact ⟨a, its.toArray, rfl, t, by simpa using strs_of_vals r⟩
abbrev Zs := List (Addr × List Str)
def addrs (zs : Zs) : List V := zs.map fun z => V.ref z.1
def Rising (zs : Zs) : Prop := zs.Pairwise fun x y => ltP y.2 x.2 = false
theorem addrs_back : ∀ {zs : Zs} {us : List Value}, Vals (addrs zs) us → us = zs.map fun z => Value.ref z.1
  | [], _, r => by
    cases r
    rfl
  | z :: zs, _, r => by
    cases r with
    | cons r1 r2 =>
      cases r1
      rw [addrs_back r2]
      rfl
theorem addrs_vals : ∀ zs : Zs, Vals (addrs zs) (zs.map fun z => Value.ref z.1)
  | [] => .nil
  | z :: zs => .cons rfl (addrs_vals zs)
/-- sorted(xs), xs a list of paths -/
def rSortL (K : PySem.W.Frag) : List V → Hp → VK → Prop := fun vs H Q => ∃ (a : Addr) (zs : Zs), vs = [V.ref a] ∧ SqL K H a (addrs zs) ∧ (∀ z ∈ zs, PathAt K H z.1 z.2) ∧
  ∀ l ys, ys.Perm zs → Rising ys → H l = none → Q (.ref l) (upd H l (.lst (addrs ys)))
section
variable {X : Cx}
theorem sort_end {pins : List (Addr × Obj)} {σ : L2.St} {H : Hp} {s : Shared} {Q : VK} {zs : Zs} {tk : Nat} {vs : List Value} (I : Inv X pins σ H s) (hz : zs.length ≤ sizeLine) (hp : ∀ z ∈ zs, PathAt X.K H z.1 z.2) (e : vs = zs.map fun z => Value.ref z.1)
    (q : ∀ l ys, ys.Perm zs → Rising ys → H l = none → Q (.ref l) (upd H l (.lst (addrs ys)))) : Leaves s (fun u v => ltP (strsOf s.heap u) (strsOf s.heap v)) vs tk (EP X pins σ Q) := by
  intro h2 l out hs hb kp hl hc
  subst e
  obtain ⟨ys, py, ey⟩ := L2.perm_lift (fun z : Addr × List Str => Value.ref z.1) hb.perm zs rfl
  have hlen : ys.length ≤ sizeLine := by rw [py.length_eq]; exact hz
  obtain ⟨c, hc⟩ := hc
  refine ⟨.ref l, upd H l (.lst (addrs ys)), I.laid (t' := tk) kp hl ⟨by unfold addrs; rw [List.length_map]; exact hlen, out, c, ?_, hc⟩, rfl, q l ys py ?_ (I.hok.fresh hl)⟩
  · rw [← ey]
    exact addrs_vals ys
  · rw [← ey] at hs
    have hs2 := List.pairwise_map.mp hs
    refine List.Pairwise.imp_of_mem (fun {x y} hx hy h => ?_) hs2
    have e1 := (tupS_of I (hp x (py.mem_iff.mp hx))).of
    have e2 := (tupS_of I (hp y (py.mem_iff.mp hy))).of
    have h' : ltP (strsOf s.heap (.ref y.1)) (strsOf s.heap (.ref x.1)) = false := h
    rw [e1, e2] at h'
    exact h'
theorem sort_able {pins : List (Addr × Obj)} {σ : L2.St} {H : Hp} {s : Shared} {zs : Zs} {tk : Nat} {vs : List Value} {A : Around} (I : Inv X pins σ H s) (hu : A.units + 1 < cLine) (hp : ∀ z ∈ zs, PathAt X.K H z.1 z.2) (e : vs = zs.map fun z => Value.ref z.1) (h2 : 2 ≤ vs.length)
    {h₁ : Heap} {a : Addr} (ha : h₁.get? a = some (seqObj "list" vs.toArray 0)) (kk : ∀ b o, s.heap.get? b = some o → b ≠ a ∧ h₁.get? b = some o) :
    SortableO X.prog X.w A { s with heap := h₁, toks := tk } a vs (fun u v => ltP (strsOf s.heap u) (strsOf s.heap v)) := by
  refine sortable (s := { s with heap := h₁, toks := tk }) hu h2 (fun v hv => ?_) fun o e1 => ?_
  · rw [e] at hv
    obtain ⟨z, hz, rfl⟩ := List.mem_map.mp hv
    have t := tupS_of I (hp z hz)
    rw [t.of]
    exact t.keeps fun b o e _ => (kk b o e).2
  · have e' : some o = some (seqObj "list" vs.toArray 0) := e1.symm.trans ha
    cases e'
    intro c
    exact absurd (Value.type.inj c) (by decide)
theorem cr_sortL (hu : X.A.units + 3 < cLine) : CallR X (.builtin "sorted") (rSortL X.K) := by
  rintro pins s σ H vs us Q I r ⟨a, zs, rfl, hs, hp, q⟩
  obtain ⟨its, rv, hl, hz⟩ := I.list hs
  obtain ⟨u, rfl, ru⟩ := vals1 r
  obtain rfl : u = Value.ref a := ru
  have e := addrs_back rv
  have hzs : zs.length ≤ sizeLine := by
    have := hz
    unfold addrs at this
    rw [List.length_map] at this
    exact this
  have L := sort_end (tk := s.toks) I hzs hp e q
  refine sorted_ord (swoP (strsOf s.heap)) hl.isList (by rw [← rv.length]; exact hz) (fun h2 h₁ a ha kk => ?_) fun out h1 h2 => ?_
  · exact sort_able (tk := s.toks) I (show X.A.units + 1 + 1 + 1 < cLine by omega) hp e h2 ha kk
  · exact L _ _ out h1 h2 (fun b o e => sortedAll_old e) (Nat.le_succ _) (sortedAll_at s.heap its out.toArray)
/-- the keys of a dict, each a path -/
def KeysP (kvs : List (List L2.Key × V)) (ps : List (List Str)) : Prop := kvs.map (·.1) = ps.map fun p => p.map Sum.inr
theorem kV_strs (p : List Str) : (p.map (Sum.inr : Str → L2.Key)).map kV = p.map V.str := by
  rw [List.map_map]
  rfl
theorem zs_of {H : Hp} : ∀ {kvs : List (List L2.Key × V)} {xs : List (List L2.Key × Addr × Value)} {ps : List (List Str)}, KT H kvs xs → KeysP kvs ps →
    ∃ zs : Zs, zs.map (·.2) = ps ∧ zs.map (fun z => Value.ref z.1) = xs.map (fun x => Value.ref x.2.1) ∧ ∀ z ∈ zs, H z.1 = some (.tup (z.2.map V.str))
  | [], _, ps, .nil, h => by
    have e : ps = [] := by
      cases ps with
      | nil => rfl
      | cons p ps => exact absurd h (by simp [KeysP])
    subst e
    exact ⟨[], rfl, rfl, fun z hz => nomatch hz⟩
  | kv :: kvs, _, ps, .cons (b := x) a t, h => by
    cases ps with
    | nil => exact absurd h (by simp [KeysP])
    | cons p ps =>
      unfold KeysP at h
      rw [List.map_cons, List.map_cons] at h
      injection h with h1 h2
      obtain ⟨zs, e1, e2, e3⟩ := zs_of t h2
      obtain ⟨a1, a2, a3⟩ := a
      refine ⟨(x.2.1, p) :: zs, by rw [List.map_cons, e1], by rw [List.map_cons, List.map_cons, e2], fun z hz => ?_⟩
      rcases List.mem_cons.mp hz with rfl | hz
      · rw [h1, kV_strs] at a2
        exact a2
      · exact e3 z hz
/-- sorted(d), d a dict whose keys are paths -/
def rSortD : List V → Hp → VK → Prop := fun vs H Q => ∃ (d : Addr) (kvs : List (List L2.Key × V)) (ps : List (List Str)), vs = [V.ref d] ∧ Rd H d (.dT kvs) ∧ KeysP kvs ps ∧
  ∀ l ys, (ys.map (·.2)).Perm ps → Rising ys → (∀ z ∈ ys, H z.1 = some (.tup (z.2.map V.str))) → H l = none → Q (.ref l) (upd H l (.lst (addrs ys)))
theorem cr_sortD (hc : X.calm = true) (hu : X.A.units + 3 < cLine) : CallR X (.builtin "sorted") rSortD := by
  rintro pins s σ H vs us Q I r ⟨d, kvs, ps, rfl, hd, hk, q⟩
  obtain ⟨u, rfl, ru⟩ := vals1 r
  obtain rfl : u = Value.ref d := ru
  obtain ⟨hz, hs, xs, rel, o, es, ep, ho, hx, hdt, he, _, _⟩ := dt_rd I.hok hd
  obtain ⟨zs, z1, z2, z3⟩ := zs_of rel hk
  have l1 : es.size = xs.length := size_of_entries he
  have l2 : kvs.length = xs.length := Paired.length rel
  have l3 : zs.length = xs.length := by
    have := congrArg List.length z2
    rw [List.length_map, List.length_map] at this
    exact this
  have hp : ∀ z ∈ zs, PathAt X.K H z.1 z.2 := fun z hz => SqT.of (z3 z hz)
  have ea : ∀ acc : Array Value, ItemsOf (fun i v => ∃ hi : i < es.size, v = es[i].key) acc es.size → acc.toList = zs.map fun z => Value.ref z.1 := by
    intro acc it
    rw [z2]
    apply List.ext_getElem?
    intro j
    rw [List.getElem?_map]
    by_cases hj : j < es.size
    · have hja : j < acc.size := by rw [it.1]; exact hj
      obtain ⟨hi, hv⟩ := it.2 j acc[j] (Array.getElem?_eq_getElem hja)
      rw [Array.getElem?_toList, Array.getElem?_eq_getElem hja, hv]
      have qe := entry_at he j
      rw [Array.getElem?_eq_getElem hi] at qe
      cases hb : xs[j]? with
      | none =>
        rw [hb] at qe
        exact nomatch (show some es[j] = none from qe)
      | some b =>
        rw [hb] at qe
        rw [show es[j] = entryOfKey (tupleKind (mixKind X.prog X.w)) b from Option.some.inj qe]
        rfl
    · rw [List.getElem?_eq_none (by rw [Array.length_toList, it.1]; omega), List.getElem?_eq_none (by omega)]
      rfl
  have hzs : zs.length ≤ sizeLine := by rw [l3, ← l2]; exact hz
  refine sorted_src (T := "dict") (ltv := fun _ u v => ltP (strsOf s.heap u) (strsOf s.heap v)) (fun _ => swoP (strsOf s.heap)) (KdlSrc.rawDict (es := es) (ep := ep) hs) (I.ok.hd hc) ⟨o, ho, hx, hdt⟩ (by rw [l1, ← l2]; exact hz) ?_ ?_
  · intro acc tk it h2 h₁ a ha kk
    exact sort_able I (show X.A.units + 1 + 1 + 1 < cLine by omega) hp (ea acc it) (by rw [Array.length_toList]; exact h2) (by rw [Array.toArray_toList]; exact ha) kk
  · intro acc tk it
    refine sort_end I hzs hp (ea acc it) fun l ys py hr hl => q l ys ?_ hr (fun z hz => z3 z (py.mem_iff.mp hz)) hl
    rw [← z1]
    exact py.map _
end
end LS

/-! Dicts of paths: locked or not, walked, looked up. -/
namespace LT
open PySem PySem.Spec PyProof.Rows L2 GA LD

/-! ### a lock where there is none yet -/
def tLockR (t : TE) : TE := fun σ H Q => tLockE t σ H Q ∨ t σ H Q
theorem pe_lockR {X : Cx} {e : Expr} {t : TE} (h : PE X e t) : PE X e (tLockR t) := by
  constructor
  intro pins s σ H Q I q
  rcases q with q | q
  · exact (pe_lock h).run pins s σ H Q I q
  · exact h.run pins s σ H Q I q
def tLockS (t : TS) : TS := fun D σ H => tLock t D σ H ∨ t D σ H
theorem ps_lockS {X : Cx} {st : Stmt} {t : TS} (h : PS X st t) : PS X st (tLockS t) := by
  constructor
  intro pins s σ H D I q
  rcases q with q | q
  · exact (ps_lock h).run pins s σ H D I q
  · exact h.run pins s σ H D I q
theorem Ex.unlock {H H' : Hp} {d : Addr} {od : Obj} {kvs : List (List L2.Key × V)} (hd : H d = some (.dT kvs)) (x : Ex (upd H d (.frz od (.dT kvs))) H') : Ex H (upd H' d (.dT kvs)) := by
  constructor
  · intro b o e n
    by_cases hb : b = d
    · rw [hb] at e ⊢
      rw [upd_same, ← hd, e]
    · rw [upd_ne hb]
      exact x.keep b o (by rw [upd_ne hb]; exact e) n
  · rintro b ⟨ps, e, t⟩
    have hb : b ≠ d := fun z => by
      rw [z, hd] at e
      cases e
    obtain ⟨qs, e2, t2⟩ := x.tab b ⟨ps, by rw [upd_ne hb]; exact e, t⟩
    exact ⟨qs, by rw [upd_ne hb]; exact e2, t2⟩
  · intro b e
    by_cases hb : b = d
    · rw [hb, upd_same] at e
      cases e
    · rw [upd_ne hb] at e
      have := x.free b e
      rwa [upd_ne hb] at this
/-- what a walk over a dict at d does: it is locked there (H1), and the answer is told of the heap with the dict as it was -/
theorem lock_go {t : TE} {σ : L2.St} {H : Hp} {Q : VK} {d : Addr} {kvs : List (List L2.Key × V)} (hd : Rd H d (.dT kvs))
    (h : ∀ (H1 : Hp) (od : Obj) (R : VK), (∀ b o, H b = some o → b ≠ d → H1 b = some o) → (∀ b, TabG H b → TabG H1 b) → (∀ b, H1 b = none → H b = none) → H1 d = some (.frz od (.dT kvs)) →
      (∀ v H', Ex H1 H' → (∀ H2, Ex H H2 → (∀ b o, H' b = some o → b ≠ d → H2 b = some o) → Q v H2) → R v H') → t σ H1 R) : tLockR t σ H Q := by
  rcases hd with hd | ⟨od, hd⟩
  · refine Or.inl ⟨d, _, hd, trivial, fun od => ?_⟩
    refine h _ od _ (fun b o e hb => by rw [upd_ne hb]; exact e) (fun b => ?_) (fun b e => ?_) upd_same fun v H' x q => ⟨x.keep _ _ upd_same (fun ps z => by cases z), q _ (Ex.unlock hd x) fun b o e hb => by rw [upd_ne hb]; exact e⟩
    · rintro ⟨ps, e, t⟩
      refine ⟨ps, ?_, t⟩
      rw [upd_ne (fun z => by
        rw [z, hd] at e
        cases e)]
      exact e
    · by_cases hb : b = d
      · rw [hb, upd_same] at e
        cases e
      · rwa [upd_ne hb] at e
  · exact Or.inr (h H od Q (fun b o e _ => e) (fun b t => t) (fun b e => e) hd fun v H' x q => q H' x fun b o e _ => e)

/-! ### walks of keys and lists by a generator -/
section
variable {J : It} {te : TE} {σ0 : L2.St} {j : Nat} {Q : Bool → Hp → Prop} {H0 : Hp}
theorem gw_keysT {d : Addr} {o : Obj} {kvs : List (List L2.Key × V)} (g : List L2.Key × V → Bool) (hd : H0 d = some (.frz o (.dT kvs)))
    (step : ∀ kv q H, kv ∈ kvs → Ex H0 H → H q = some (.tup (kv.1.map kV)) → ∀ R : VK, (∀ H3, Ex H0 H3 → R (.bl (g kv)) H3) → te (σ0.set j (some (.ref q))) H R)
    (fin : ∀ H, Ex H0 H → Q (kvs.all g) H) : GW (Itkt d o kvs) te σ0 j true Q H0 := by
  have at_ : ∀ H, Ex H0 H → H d = some (.frz o (.dT kvs)) := fun H x => x.keep _ _ hd fun ps z => by cases z
  refine gw_all (n := kvs.length) (fun i => (kvs[i]?.map g).getD true) (fun H x => ⟨at_ H x, Nat.le_refl _⟩) (fun i H h x => ⟨at_ H x, h⟩) ?_ ?_
  · rintro i H y H' h x ⟨rfl, k, v, q, hk, rfl, hq⟩ R hR
    refine step (k, v) q H' (List.mem_of_getElem? hk) x hq R fun H3 x3 => ?_
    have := hR H3 x3
    rw [hk] at this
    exact this
  · intro H x
    have := fin H x
    rwa [← all_of_range g kvs (fun i => (kvs[i]?.map g).getD true) (fun i c e => by rw [e]; rfl)] at this
theorem gw_lst {K : PySem.W.Frag} {a : Addr} {xs : List V} (g : Nat → Bool) (ha : SqL K H0 a xs) (hl : ∀ H, Ex H0 H → SqL K H a xs)
    (step : ∀ i y H, xs[i]? = some y → Ex H0 H → ∀ R : VK, (∀ H3, Ex H0 H3 → R (.bl (g i)) H3) → te (σ0.set j (some y)) H R)
    (fin : ∀ H, Ex H0 H → Q ((List.range xs.length).all g) H) : GW (Itl K a) te σ0 j true Q H0 := by
  refine gw_all (n := xs.length) g (fun H x => ⟨xs, hl H x, Nat.le_refl _⟩) (fun i H h x => ⟨xs, xs[i], hl H x, List.getElem?_eq_getElem h⟩) ?_ fin
  rintro i H y H' h x ⟨rfl, hy⟩ R hR
  exact step i y H' (hy xs (hl H' x)) x R hR
end

/-! ### a tree, or what looks like one: a dict of paths -/
abbrev Ents := List (List Str × PyData)
def RowE (K : PySem.W.Frag) (H : Hp) (kvs : List (List L2.Key × V)) (es : Ents) : Prop := Paired (fun kv e => kv.1 = e.1.map Sum.inr ∧ Dp K H kv.2 e.2) kvs es
def TrAt (K : PySem.W.Frag) (H : Hp) (d : Addr) (es : Ents) : Prop := ∃ kvs, Rd H d (.dT kvs) ∧ RowE K H kvs es
theorem RowE.ex {K : PySem.W.Frag} {H H' : Hp} {kvs : List (List L2.Key × V)} {es : Ents} (x : Ex H H') (h : RowE K H kvs es) : RowE K H' kvs es := pairImp (fun _ _ q => ⟨q.1, Dp_ex x q.2⟩) h
theorem TrAt.ex {K : PySem.W.Frag} {H H' : Hp} {d : Addr} {es : Ents} (x : Ex H H') (h : TrAt K H d es) : TrAt K H' d es := by
  obtain ⟨kvs, hd, r⟩ := h
  exact ⟨kvs, x.rd hd (fun ps z => by cases z), r.ex x⟩
def valE (es : Ents) (p : List Str) : Option PyData := (es.find? fun e => decide (e.1 = p)).map (·.2)
theorem inr_inj : ∀ {p q : List Str}, p.map (Sum.inr : Str → L2.Key) = q.map Sum.inr → p = q
  | [], [], _ => rfl
  | [], _ :: _, h => by cases h
  | _ :: _, [], h => by cases h
  | x :: p, y :: q, h => by
    rw [List.map_cons, List.map_cons] at h
    injection h with h1 h2
    injection h1 with h1
    rw [h1, inr_inj h2]
theorem RowE.val {K : PySem.W.Frag} {H : Hp} {p : List Str} : ∀ {kvs : List (List L2.Key × V)} {es : Ents}, RowE K H kvs es →
    (valV kvs (p.map Sum.inr) = none ∧ valE es p = none) ∨ ∃ v d, valV kvs (p.map Sum.inr) = some v ∧ valE es p = some d ∧ Dp K H v d
  | _, _, .nil => Or.inl ⟨rfl, rfl⟩
  | kv :: kvs, e :: es, .cons a t => by
    obtain ⟨a1, a2⟩ := a
    by_cases h : e.1 = p
    · refine Or.inr ⟨kv.2, e.2, valV_pos (by rw [a1, h]), ?_, a2⟩
      unfold valE
      rw [List.find?_cons, decide_eq_true h]
      rfl
    · have h2 : ¬ kv.1 = p.map Sum.inr := fun z => h (inr_inj (a1.symm.trans z))
      have e1 : valE (e :: es) p = valE es p := by
        unfold valE
        rw [List.find?_cons, decide_eq_false h]
      rw [valV_neg h2, e1]
      exact RowE.val t
theorem RowE.keys {K : PySem.W.Frag} {H : Hp} : ∀ {kvs : List (List L2.Key × V)} {es : Ents}, RowE K H kvs es → LS.KeysP kvs (es.map (·.1))
  | _, _, .nil => rfl
  | kv :: kvs, e :: es, .cons a t => by
    have := RowE.keys t
    unfold LS.KeysP at this ⊢
    rw [List.map_cons, List.map_cons, List.map_cons, this, a.1]
theorem RowE.get {K : PySem.W.Frag} {H : Hp} {kvs : List (List L2.Key × V)} {es : Ents} (h : RowE K H kvs es) {i : Nat} {kv : List L2.Key × V} (e : kvs[i]? = some kv) : ∃ en, es[i]? = some en ∧ kv.1 = en.1.map Sum.inr ∧ Dp K H kv.2 en.2 := by
  obtain ⟨en, h1, h2⟩ := paired_get h e
  exact ⟨en, h1, h2⟩
theorem RowE.len {K : PySem.W.Frag} {H : Hp} {kvs : List (List L2.Key × V)} {es : Ents} (h : RowE K H kvs es) : kvs.length = es.length := Paired.length h
theorem RowE.all {K : PySem.W.Frag} {H : Hp} (g : List L2.Key × V → Bool) (f : List Str × PyData → Bool) (hg : ∀ kv e, kv.1 = e.1.map Sum.inr → Dp K H kv.2 e.2 → g kv = f e) : ∀ {kvs : List (List L2.Key × V)} {es : Ents}, RowE K H kvs es → kvs.all g = es.all f
  | _, _, .nil => rfl
  | kv :: kvs, e :: es, .cons a t => by
    rw [List.all_cons, List.all_cons, hg kv e a.1 a.2, RowE.all g f hg t]
/-- a path that stands as a tracked tuple: it may be asked as a key -/
def PathX (H : Hp) (a : Addr) (p : List Str) : Prop := H a = some (.tup (p.map V.str))
theorem PathX.at {K : PySem.W.Frag} {H : Hp} {a : Addr} {p : List Str} (h : PathX H a p) : PathAt K H a p := SqT.of h
theorem PathX.ex {H H' : Hp} {a : Addr} {p : List Str} (x : Ex H H') (h : PathX H a p) : PathX H' a p := x.keep _ _ h fun ps z => by cases z
theorem PathX.key {H : Hp} {a : Addr} {p : List Str} (h : PathX H a p) : H a = some (.tup ((p.map Sum.inr).map kV)) := by
  rw [LS.kV_strs]
  exact h
theorem PathX.of_key {H : Hp} {a : Addr} {p : List Str} (h : H a = some (.tup ((p.map Sum.inr).map kV))) : PathX H a p := by
  rw [LS.kV_strs] at h
  exact h
theorem get_tr {H : Hp} {d a : Addr} {kvs : List (List L2.Key × V)} {p : List Str} (hd : Rd H d (.dT kvs)) (ha : PathX H a p) : DGet H d (.ref a) (valV kvs (p.map Sum.inr)) := Or.inr ⟨kvs, _, a, hd, rfl, ha.key, rfl⟩
/-! ### what stays while a dict is locked -/
theorem lk_sqT {K : PySem.W.Frag} {H H1 : Hp} {d a : Addr} {kvs : List (List L2.Key × V)} {xs : List V} (hd : Rd H d (.dT kvs)) (k : ∀ b o, H b = some o → b ≠ d → H1 b = some o) (h : SqT K H a xs) : SqT K H1 a xs := by
  have ne : ∀ o, H a = some o → (∀ kvs, o ≠ .dT kvs) → (∀ ob kvs, o ≠ .frz ob (.dT kvs)) → a ≠ d := fun o e h1 h2 z => by
    rw [z] at e
    rcases hd with hd | ⟨ob, hd⟩
    · rw [hd] at e
      cases e
      exact h1 _ rfl
    · rw [hd] at e
      cases e
      exact h2 _ _ rfl
  rcases h with (h | ⟨o, h⟩) | h
  · exact Or.inl (Or.inl (k a _ h (ne _ h (fun _ z => by cases z) (fun _ _ z => by cases z))))
  · exact Or.inl (Or.inr ⟨o, k a _ h (ne _ h (fun _ z => by cases z) (fun _ _ z => by cases z))⟩)
  · exact Or.inr h
theorem lk_sqL {K : PySem.W.Frag} {H H1 : Hp} {d a : Addr} {kvs : List (List L2.Key × V)} {xs : List V} (hd : Rd H d (.dT kvs)) (k : ∀ b o, H b = some o → b ≠ d → H1 b = some o) (h : SqL K H a xs) : SqL K H1 a xs := by
  have ne : ∀ o, H a = some o → (∀ kvs, o ≠ .dT kvs) → (∀ ob kvs, o ≠ .frz ob (.dT kvs)) → a ≠ d := fun o e h1 h2 z => by
    rw [z] at e
    rcases hd with hd | ⟨ob, hd⟩
    · rw [hd] at e
      cases e
      exact h1 _ rfl
    · rw [hd] at e
      cases e
      exact h2 _ _ rfl
  rcases h with (h | ⟨o, h⟩) | h
  · exact Or.inl (Or.inl (k a _ h (ne _ h (fun _ z => by cases z) (fun _ _ z => by cases z))))
  · exact Or.inl (Or.inr ⟨o, k a _ h (ne _ h (fun _ z => by cases z) (fun _ _ z => by cases z))⟩)
  · exact Or.inr h
mutual
theorem lk_dp {K : PySem.W.Frag} {H H1 : Hp} {d : Addr} {kvs : List (List L2.Key × V)} (hd : Rd H d (.dT kvs)) (k : ∀ b o, H b = some o → b ≠ d → H1 b = some o) : ∀ {D : PyData} {v : V}, Dp K H v D → Dp K H1 v D
  | _, _, .non => .non
  | _, _, .bl b => .bl b
  | _, _, .int i => .int i
  | _, _, .str z => .str z
  | _, _, .lst h t => .lst (lk_sqL hd k h) (lk_dpAll hd k t)
  | _, _, .tup h t => .tup (lk_sqT hd k h) (lk_dpAll hd k t)
theorem lk_dpAll {K : PySem.W.Frag} {H H1 : Hp} {d : Addr} {kvs : List (List L2.Key × V)} (hd : Rd H d (.dT kvs)) (k : ∀ b o, H b = some o → b ≠ d → H1 b = some o) : ∀ {ds : List PyData} {vs : List V}, DpAll K H vs ds → DpAll K H1 vs ds
  | _, _, .nil => .nil
  | _, _, .cons h t => .cons (lk_dp hd k h) (lk_dpAll hd k t)
end
theorem RowE.lk {K : PySem.W.Frag} {H H1 : Hp} {d : Addr} {kvs kvs' : List (List L2.Key × V)} {es : Ents} (hd : Rd H d (.dT kvs)) (k : ∀ b o, H b = some o → b ≠ d → H1 b = some o) (h : RowE K H kvs' es) : RowE K H1 kvs' es := pairImp (fun _ _ q => ⟨q.1, lk_dp hd k q.2⟩) h
/-- a condition that is a value's truth -/
def tTru (K : PySem.W.Frag) (ta : TE) : TT := fun σ H Q => ta σ H fun x H' => ∃ k, TruV K x H' k ∧ Q k H'
theorem pts_truth {X : Cx} {a : Expr} {ta : TE} (ha : PE X a ta) (he : ∀ whole, isTrue a X.env whole = (do let v ← whole; standAt a.pos; holding [v] (truthy v))) : PTs X [a] (tTru X.K ta) := pts_one (pt_truth ha he)
theorem pts_cmp {X : Cx} {op : CmpOp} {r : R2} {a b : Expr} {ta tb : TE} {pos : Pos} (ho : OpR X (compareOp op) r) (ha : PE X a ta) (hb : PE X b tb) (hm : lastMarks [op] [b] = false) : PTs X [.Compare a [op] [b] pos] (tTest (tOp r ta tb)) := pts_one (pt_cmpR ho ha hb hm)
end LT

/-! sorted(..) of lists of paths. -/
namespace LT
open PySem PySem.Spec PyProof.Rows L2 GA LD SrtO
def PathsX (H : Hp) (l : Addr) (ps : List (List Str)) : Prop := ∃ rs : List Addr, H l = some (.lst (rs.map V.ref)) ∧ Paired (fun r q => PathX H r q) rs ps
theorem PathsX.at {K : PySem.W.Frag} {H : Hp} {l : Addr} {ps : List (List Str)} (h : PathsX H l ps) : PathsAt K H l ps := by
  obtain ⟨rs, e, q⟩ := h
  exact ⟨rs, e, pairImp (fun _ _ h => h.at) q⟩
theorem PathsX.ex {H H' : Hp} {l : Addr} {ps : List (List Str)} (x : Ex H H') (h : PathsX H l ps) : PathsX H' l ps := by
  obtain ⟨rs, e, q⟩ := h
  exact ⟨rs, x.keep _ _ e (fun ps z => by cases z), pairImp (fun _ _ h => h.ex x) q⟩
theorem strs_inj : ∀ {p q : List Str}, p.map V.str = q.map V.str → p = q
  | [], [], _ => rfl
  | [], _ :: _, h => by cases h
  | _ :: _, [], h => by cases h
  | x :: p, y :: q, h => by
    rw [List.map_cons, List.map_cons] at h
    injection h with h1 h2
    injection h1 with h1
    rw [h1, strs_inj h2]
theorem PathX.uniq {H : Hp} {a : Addr} {p q : List Str} (h1 : PathX H a p) (h2 : PathX H a q) : p = q := by
  have e : some (HO.tup (p.map V.str)) = some (HO.tup (q.map V.str)) := h1.symm.trans h2
  injection e with e
  injection e with e
  exact strs_inj e
theorem paired_uniq {H : Hp} : ∀ {rs : List Addr} {ps qs : List (List Str)}, Paired (fun r q => PathX H r q) rs ps → Paired (fun r q => PathX H r q) rs qs → ps = qs
  | _, _, _, .nil, .nil => rfl
  | _, _, _, .cons a t, .cons b u => by rw [PathX.uniq a b, paired_uniq t u]
theorem refs_inj : ∀ {p q : List Addr}, p.map V.ref = q.map V.ref → p = q
  | [], [], _ => rfl
  | [], _ :: _, h => by cases h
  | _ :: _, [], h => by cases h
  | x :: p, y :: q, h => by
    rw [List.map_cons, List.map_cons] at h
    injection h with h1 h2
    injection h1 with h1
    rw [h1, refs_inj h2]
theorem PathsX.uniq {H : Hp} {l : Addr} {ps qs : List (List Str)} (h1 : PathsX H l ps) (h2 : PathsX H l qs) : ps = qs := by
  obtain ⟨rs, e1, p1⟩ := h1
  obtain ⟨rs', e2, p2⟩ := h2
  rw [e1] at e2
  injection e2 with e2
  injection e2 with e2
  have := refs_inj e2
  subst this
  exact paired_uniq p1 p2
def groupD (ps : List (List Str)) : PyData := .list (ps.map pathD)
theorem alike_strs : ∀ p q : List Str, PySem.W.alikeAll (p.map .str) (q.map .str) = true
  | [], _ => by rw [List.map_nil, PySem.W.alikeAll]
  | _ :: _, [] => by rw [List.map_cons, List.map_nil, PySem.W.alikeAll]
  | x :: p, y :: q => by rw [List.map_cons, List.map_cons, PySem.W.alikeAll, PySem.W.alike, alike_strs p q, Bool.true_and]
theorem alike_paths : ∀ p q : List (List Str), PySem.W.alikeAll (p.map pathD) (q.map pathD) = true
  | [], _ => by rw [List.map_nil, PySem.W.alikeAll]
  | _ :: _, [] => by rw [List.map_cons, List.map_nil, PySem.W.alikeAll]
  | x :: p, y :: q => by
    have : PySem.W.alike (pathD x) (pathD y) = true := by
      unfold pathD
      rw [PySem.W.alike]
      exact alike_strs x y
    rw [List.map_cons, List.map_cons, PySem.W.alikeAll, this, alike_paths p q, Bool.true_and]
theorem alike_group (p q : List (List Str)) : PySem.W.alike (groupD p) (groupD q) = true := by
  unfold groupD
  rw [PySem.W.alike]
  exact alike_paths p q
theorem depth_group (ps : List (List Str)) : (groupD ps).depth ≤ 2 := by
  have := depth_paths ps
  unfold groupD
  simp only [PyData.depth]
  omega
theorem swoD (k : Value → PyData) : Swo fun u v => PySem.W.dataLt (k u) (k v) := by
  constructor
  · intro x y h
    cases hq : PySem.W.dataLt (k y) (k x) with
    | false => rfl
    | true =>
      have := lex_trans _ _ _ h hq
      rw [lex_irrefl] at this
      cases this
  · intro x y z h1 h2
    cases hq : PySem.W.dataLt (k z) (k x) with
    | false => rfl
    | true =>
      rcases lex_negTrans (O := itemOrd) (PySem.W.keyToks (k z)) (PySem.W.keyToks (k y)) (PySem.W.keyToks (k x)) hq with h | h
      · rw [show PySem.W.dataLt (k z) (k y) = true from h] at h2
        cases h2
      · rw [show PySem.W.dataLt (k y) (k x) = true from h] at h1
        cases h1
abbrev Gs := List (Addr × List (List Str))
def gAddrs (gs : Gs) : List V := gs.map fun g => V.ref g.1
theorem gAddrs_back : ∀ {gs : Gs} {us : List Value}, Vals (gAddrs gs) us → us = gs.map fun g => Value.ref g.1
  | [], _, r => by
    cases r
    rfl
  | z :: gs, _, r => by
    cases r with
    | cons r1 r2 =>
      cases r1
      rw [gAddrs_back r2]
      rfl
theorem gAddrs_vals : ∀ gs : Gs, Vals (gAddrs gs) (gs.map fun g => Value.ref g.1)
  | [] => .nil
  | z :: gs => .cons rfl (gAddrs_vals gs)
def RisingG (gs : Gs) : Prop := gs.Pairwise fun x y => PySem.W.dataLt (groupD y.2) (groupD x.2) = false
/-- the data of a list of paths, by its address -/
def dataOf (gs : Gs) : Value → PyData
  | .ref a => match gs.find? fun g => g.1 == a with
    | some g => groupD g.2
    | none => .none
  | _ => .none
theorem dataOf_mem {H : Hp} {gs : Gs} (hg : ∀ g ∈ gs, PathsX H g.1 g.2) {g : Addr × List (List Str)} (hm : g ∈ gs) : dataOf gs (.ref g.1) = groupD g.2 := by
  unfold dataOf
  cases h : gs.find? fun x => x.1 == g.1 with
  | none =>
    have := List.find?_eq_none.mp h g hm
    simp at this
  | some x =>
    have h1 : x.1 = g.1 := by simpa using List.find?_some h
    have h2 := hg x (List.mem_of_find?_eq_some h)
    rw [h1] at h2
    simp only [h]
    rw [h2.uniq (hg g hm)]
/-- sorted(xs), xs a list of lists of paths -/
def rSortG (K : PySem.W.Frag) : List V → Hp → VK → Prop := fun vs H Q => ∃ (a : Addr) (gs : Gs), vs = [V.ref a] ∧ SqL K H a (gAddrs gs) ∧ (∀ g ∈ gs, PathsX H g.1 g.2) ∧
  ∀ l ys, ys.Perm gs → RisingG ys → H l = none → Q (.ref l) (upd H l (.lst (gAddrs ys)))
section
variable {X : Cx}
theorem cr_sortG (hu : X.A.units + 64 < cLine) : CallR X (.builtin "sorted") (rSortG X.K) := by
  rintro pins s σ H vs us Q I r ⟨a, gs, rfl, hs, hg, q⟩
  obtain ⟨its, rv, hl, hz⟩ := I.list hs
  obtain ⟨u, rfl, ru⟩ := vals1 r
  obtain rfl : u = Value.ref a := ru
  have e := gAddrs_back rv
  have hgs : gs.length ≤ sizeLine := by
    have := hz
    unfold gAddrs at this
    rw [List.length_map] at this
    exact this
  refine sorted_ord (swoD (dataOf gs)) hl.isList (by rw [← rv.length]; exact hz) (fun h2 h₁ b hb kk => ?_) fun out hs hb => ?_
  · intro h' keep
    have hlist : ∀ g ∈ gs, ∃ (d : PyData) (as : List Addr), Reads h' (.ref g.1) d as ∧ d = groupD g.2 ∧ ∃ o, h'.get? g.1 = some o ∧ o.cls = .type "list" := by
      intro g hm
      obtain ⟨as, r⟩ := Dp.reads I (groupD g.2) (.ref g.1) (.ref g.1) (hg g hm).at.dp rfl
      have kp : ∀ b o, s.heap.get? b = some o → h'.get? b = some o := fun b o e => keep b o (kk b o e).1 (kk b o e).2
      obtain ⟨rs, eg, _⟩ := hg g hm
      obtain ⟨_, its', n', _, _, eo⟩ := I.lstM eg
      exact ⟨_, as, Reads.keeps kp r, rfl, _, kp _ _ eo, rfl⟩
    refine ⟨oneType', fun Q' E hq => ?_, ?_⟩
    · refine PySem.W.kas_kind (T := .type "list") h2 (fun v hv => ?_) (by first | decide +kernel | rfl) (by rfl) hq
      rw [e] at hv
      obtain ⟨g, hm, rfl⟩ := List.mem_map.mp hv
      obtain ⟨d, as, _, _, o, ho, hc⟩ := hlist g hm
      rw [← hc]
      exact (PySem.W.Looks.ld ho).andThen .now
    · intro p q hp hq
      have hp : p.1 ∈ its := hp
      have hq : q.1 ∈ its := hq
      show wpAny (model X.prog X.w) X.A.in1.in1 (oneLt' true p.1 q.1) (fun r s' => s' = { s with heap := h' } ∧ r = PySem.W.dataLt (dataOf gs p.1) (dataOf gs q.1)) (fun _ _ => False) { s with heap := h' }
      rw [e] at hp hq
      obtain ⟨g1, m1, e1⟩ := List.mem_map.mp hp
      obtain ⟨g2, m2, e2⟩ := List.mem_map.mp hq
      obtain ⟨d1, as1, r1, rfl, _⟩ := hlist g1 m1
      obtain ⟨d2, as2, r2, rfl, _⟩ := hlist g2 m2
      rw [← e1, ← e2, dataOf_mem hg m1, dataOf_mem hg m2]
      refine PySem.W.oneLt_alike (fun _ xs z => by cases z) r1 r2 (alike_group _ _) (by intro z; cases z) ?_ ⟨rfl, rfl⟩
      have := depth_group g1.2
      show X.A.units + 1 + 1 + min (groupD g1.2).depth (groupD g2.2).depth < cLine
      omega
  · obtain ⟨ys, py, ey⟩ := perm_lift (fun z : Addr × List (List Str) => Value.ref z.1) hb.perm gs e.symm
    have hlen : ys.length ≤ sizeLine := by rw [py.length_eq]; exact hgs
    have hfr : s.heap.objs.size ≤ s.heap.objs.size + 1 := Nat.le_succ _
    obtain ⟨c, hc⟩ := sortedAll_at s.heap its out.toArray
    refine ⟨.ref (s.heap.objs.size + 1), upd H (s.heap.objs.size + 1) (.lst (gAddrs ys)), I.laid (t' := s.toks) (fun b o e => sortedAll_old e) hfr ⟨by unfold gAddrs; rw [List.length_map]; exact hlen, out, c, ?_, hc⟩, rfl, q _ ys py ?_ (I.hok.fresh hfr)⟩
    · rw [← ey]
      exact gAddrs_vals ys
    · rw [← ey] at hs
      have hs2 := List.pairwise_map.mp hs
      refine List.Pairwise.imp_of_mem (fun {x y} hx hy h => ?_) hs2
      have h' : PySem.W.dataLt (dataOf gs (.ref y.1)) (dataOf gs (.ref x.1)) = false := h
      rw [dataOf_mem hg (py.mem_iff.mp hx), dataOf_mem hg (py.mem_iff.mp hy)] at h'
      exact h'
end
end LT

/-! for k, v in d.items(), keys tuples. -/
namespace LD
open PySem PySem.Spec PyProof.Rows L2 LT
/-- the pairs of the locked dict at d, each a new tuple; keys are tuples -/
def Itit (d : Addr) (o : Obj) (kvs : List (List L2.Key × V)) : It :=
  ⟨fun i H => H d = some (.frz o (.dT kvs)) ∧ i < kvs.length, fun i H x H' => ∃ T k v q, kvs[i]? = some (k, v) ∧ x = .ref T ∧ H T = none ∧ H q = some (.tup (k.map kV)) ∧ H' = upd H T (.tup [.ref q, v]),
    fun i H => H d = some (.frz o (.dT kvs)) ∧ kvs.length ≤ i⟩
section
variable {P : Program} {w : World} {K : PySem.W.Frag} {d : Addr} {o : Obj} {es : Array DictEntry} {ep : Nat}
theorem frzT_raw {X : Cx} {pins : List (Addr × Obj)} {σ : L2.St} {H : Hp} {s : Shared} {kvs : List (List L2.Key × V)} (I : Inv X pins σ H s) (h : H d = some (.frz o (.dT kvs))) :
    (d == sysModules) = false ∧ s.heap.get? d = some o ∧ o.ExactDict ∧ ∃ (es : Array DictEntry) (ep : Nat), o.data = .dict es ep ∧ es.size = kvs.length ∧
      ∀ (i : Nat) (k : List L2.Key) (v : V), kvs[i]? = some (k, v) → ∃ (en : DictEntry) (q : Addr), es[i]? = some en ∧ en.key = .ref q ∧ H q = some (.tup (k.map kV)) ∧ RelV v en.val := by
  obtain ⟨hd, z, hs, xs, pr, o', es, ep, ho, hx, hdt, he, _⟩ := I.hok d _ h
  rw [hd] at ho
  cases ho
  refine ⟨hs, hd, hx, es, ep, hdt, ?_, fun i k v e => ?_⟩
  · have l1 : es.size = xs.length := size_of_entries he
    have l2 : kvs.length = xs.length := Paired.length pr
    omega
  · obtain ⟨b, hb, e1, e2, e3⟩ := paired_get pr e
    have q := entry_at he i
    rw [hb] at q
    exact ⟨_, b.2.1, q, rfl, e2, e3⟩
theorem turn_itemsT {kvs : List (List L2.Key × V)} {elts : List Expr} {kk : Nat} {tpos : Pos} (it : Addr) (hod : o.data = .dict es ep) :
    Turn P w K (.Tuple elts kk tpos) (Itit d o kvs) [it] it (fun i h => ∃ ok ov, IsItemIter h it d i kvs.length ep ok ov) where
  mem := by simp
  obj := fun i h st b hb => by
    have e : b = it := by simpa using hb
    subst e
    obtain ⟨ok, ov, e⟩ := st
    exact ⟨_, e, fun v z => nomatch z⟩
  keep := fun i h h' st k => let ⟨ok, ov, e⟩ := st; ⟨ok, ov, k it (by simp) _ e⟩
  item := by
    intro X hP hw hK hc i pins s σ H E I hf st hg
    subst hP hw hK
    obtain ⟨hd, hi⟩ := hg
    obtain ⟨hs, hgd, hx, es', ep', hdt, hsz, ent⟩ := frzT_raw I hd
    obtain ⟨rfl, rfl⟩ := dict_ep hod hdt
    obtain ⟨⟨k, v⟩, hkv⟩ : ∃ p, kvs[i]? = some p := ⟨kvs[i], List.getElem?_eq_getElem hi⟩
    obtain ⟨en, q, hen, hkey, hq, rv⟩ := ent i k v hkv
    obtain ⟨ok, ov, he⟩ := st
    rw [← hsz] at he
    have hlt : it < s.heap.objs.size := Heap.lt_size he
    have hi2 : i < es'.size := by omega
    have hen2 : es'[i] = en := by
      rw [Array.getElem?_eq_getElem hi2] at hen
      exact Option.some.inj hen
    refine wpAny_pyNext_items_item_raw he ⟨_, hgd, hx, hdt⟩ hi2 fun h' ho hT hz hk => ?_
    rw [hen2, hkey] at ho hT
    refine ⟨_, rfl, wpAny_letOwnedTupleGo_items (s := { s with heap := h' }) ho fun h'' he' sb => ?_⟩
    have hT2 : h''.get? s.heap.objs.size = some { cls := .type "tuple", data := .seq #[.ref q, en.val] } := (sb.2 _ (Nat.ne_of_gt hlt)).trans hT
    have new : ObjOk X.prog X.w (upd H s.heap.objs.size (.tup [.ref q, v])) h'' s.heap.objs.size (.tup [.ref q, v]) :=
      ⟨by show 2 ≤ sizeLine; decide, [.ref q, en.val], .cons rfl (.cons rv .nil), ⟨_, hT2, rfl, _, rfl⟩⟩
    have I1 : Inv X pins σ (upd H s.heap.objs.size (.tup [.ref q, v])) { s with heap := h'' } :=
      I.turnedNew (t' := s.toks) (ch := [it]) (fun b ob hb e => (sb.2 b (by simpa using hb)).trans (hk b ob (by simpa using hb) e)) hf (Nat.le_refl _) new
    refine ⟨.ref s.heap.objs.size, _, I1, rfl, ⟨_, k, v, q, hkv, rfl, I.hok.fresh (Nat.le_refl _), hq, rfl⟩, ⟨.ref q, en.val, ?_⟩, fun b hb => ?_⟩
    · rw [← hsz]; exact he'
    · have e : b = it := by simpa using hb
      rw [e, upd_ne (Nat.ne_of_lt hlt)]
      exact (hf it (by simp)).1
  done := by
    intro X hP hw hK hc i pins s σ H E I hf st hg
    subst hP hw hK
    obtain ⟨hd, hi⟩ := hg
    obtain ⟨f0, f1, f2, f3, f4, f5⟩ := hf it (by simp)
    obtain ⟨hs, hgd, hx, es', ep', hdt, hsz, ent⟩ := frzT_raw I hd
    obtain ⟨rfl, rfl⟩ := dict_ep hod hdt
    obtain ⟨ok, ov, he⟩ := st
    rw [← hsz] at he
    exact wpAny_pyNext_items_end_raw (I.ok.hd hc) he ⟨_, hgd, hx, hdt⟩ (by omega) fun h' eb => ⟨rfl, I.turned (t' := s.toks) (fun b ob hb e => eb b ob hb e) f0 f1 f3 f4 f5⟩
  self := fun A i s Q E st h => let ⟨_, _, e⟩ := st; PySem.W.kcp_self e h
end
def iItemsT (td : TE) : TI := fun σ H R => td σ H fun x H1 => ∃ d o kvs, x = .ref d ∧ H1 d = some (.frz o (.dT kvs)) ∧ R (Itit d o kvs) H1
section
variable {X : Cx} {tg e : Expr} {td : TE} {apos cpos : Pos}
theorem pi_itemsT {elts : List Expr} {kk : Nat} {tpos : Pos} (he : PE X e td) (hbase : attributeBase e "items" X.env (eval e X.env) = eval e X.env := by rfl) (hline : (apos.endLine == cpos.line) = true := by rfl) :
    PI X (.Tuple elts kk tpos) (.Call (.Attribute e "items" apos) [] [] cpos) (iItemsT td) := by
  refine ⟨fun pins s σ H R I h => ?_⟩
  refine wpAny_Call_method (T := "dict") (id := "dict.items") hbase rfl hline PySem.F.plainAttrs_dict PySem.F.slot_dict_items PySem.F.type_dict_items (thn (he.run pins s σ H _ I h) fun u s1 ⟨x, H1, I1, rx, d, o, kvs, ex, hd, q⟩ => ?_)
  subst ex
  obtain rfl : u = Value.ref d := rx
  obtain ⟨hs, hgd, hx, es, ep, hdt, hsz, ent⟩ := frzT_raw I1 hd
  refine ⟨⟨_, hgd, hx.1⟩, fun b e => by cases e; exact ⟨_, hgd, hx.2.1⟩, ?_⟩
  have I2 : Inv X pins σ H1 { s1 with heap := s1.heap.push { cls := .type "dict_items", data := .fields #[.ref d] } } := I1.kept (t' := s1.toks) fun b ob q => Heap.get?_push_of_some _ q
  have fin : wpAny (model X.prog X.w) X.A (pyIter (.ref s1.heap.objs.size)) (PIE X pins σ (.Tuple elts kk tpos) R) X.xe { s1 with heap := s1.heap.push { cls := .type "dict_items", data := .fields #[.ref d] } } := by
    refine wpAny_pyIter_items_raw (d := d) ⟨_, Heap.get?_push_size _ rfl, rfl, rfl⟩ ⟨_, Heap.get?_push_of_some _ hgd, hx, hdt⟩ (pi_one (tk := s1.toks) I2 _ (turn_itemsT _ hdt) ⟨.none, .none, ?_⟩ q)
    rw [← hsz]
    exact Heap.get?_push_size _ rfl
  show wpAny _ _ (callWith cpos (.builtin "dict.items") [.ref d] [] []) _ X.xe s1
  exact method_meetsIn PySem.F.slot_dict_items PySem.F.entry_dict_items rfl (PySem.evalArgs_none ⟨rfl, ⟨_, hgd, hx.1⟩, PySem.F.args_dict_items_1 _, _, meets_dict_items_raw d hs, ⟨es, ep, _, hgd, hx, hdt⟩, fin⟩)
theorem walk_itemsT {d : Addr} {o : Obj} {kvs : List (List L2.Key × V)} : Walk (Itit d o kvs) kvs.length (fun H => H d = some (.frz o (.dT kvs)))
    (fun i H x H' => ∃ T k v q, kvs[i]? = some (k, v) ∧ x = .ref T ∧ H T = none ∧ H q = some (.tup (k.map kV)) ∧ H' = upd H T (.tup [.ref q, v])) :=
  ⟨fun _ _ hi q => ⟨q, hi⟩, fun _ q => ⟨q, Nat.le_refl _⟩, fun _ _ _ _ _ _ y => y⟩
end
end LD

/-! A dict display of two pairs, the first key a tuple, the second a text. -/
namespace LD
open PySem PySem.Spec PyProof.Rows L2 LT
section
variable {prog : Program} {w : World} {A : Around} {E : Value → Shared → Prop} {s : Shared}
theorem tell_mix {q : Addr} {z : Str} {t : Tok} {k : List L2.Key} {Q : Bool → Shared → Prop} (hq : (tupleKind (mixKind prog w)).is s.heap k q) (h : Q false s) : wpAny (model prog w) A (tableMayTell (.str z t) [.ref q]) Q E s := by
  unfold tableMayTell
  rw [if_neg (by simp)]
  rw [eqIsQuiet_byValue _ (by rfl)]
  refine wpAny_bind (wpAny_pure ?_)
  simp only [Bool.not_true, Bool.false_eq_true, if_false]
  refine wpAny_bind ?_
  rw [List.forIn_cons]
  refine wpAny_bind (wpAny_bind ((tupleKind (mixKind prog w)).quiet hq ?_))
  simp only [Bool.not_true, Bool.false_eq_true, if_false]
  refine wpAny_pure ?_
  dsimp only
  rw [List.forIn_nil]
  exact wpAny_pure (wpAny_pure h)
theorem find_mix {d q : Addr} {o : Obj} {ep : Nat} {h0 : Int} {v0 : Value} {z : Str} {t : Tok} {h : Int} {k : List L2.Key} {Q : Option Nat → Shared → Prop} (hu : A.units < cLine) (ho : s.heap.get? d = some o) (hd : o.data = .dict #[⟨h0, .ref q, v0⟩] ep)
    (hq : (tupleKind (mixKind prog w)).is s.heap k q) (hQ : Q none s) : wpAny (model prog w) A (dictFind d (.str z t) h) Q E s := by
  unfold dictFind
  try with_reducible refine wpAny_holding ?_
  refine wpAny_bind (wpAny_dictEntries ho hd ?_)
  dsimp only
  rw [if_neg (show ¬ ((#[(⟨h0, .ref q, v0⟩ : DictEntry)].all fun e => isExactStrKey e.key) = true) by simp [isExactStrKey])]
  by_cases hh : h0 = h
  · subst hh
    have hp : placesWithHash (#[(⟨h0, .ref q, v0⟩ : DictEntry)] : Array DictEntry).size (fun i => (#[(⟨h0, .ref q, v0⟩ : DictEntry)] : Array DictEntry)[i]?.map (·.hash)) h0 = [0] := by
      simp [placesWithHash, List.range_succ]
    rw [hp]
    rw [show List.filterMap (fun i => Option.map (fun x => x.key) (#[(⟨h0, .ref q, v0⟩ : DictEntry)] : Array DictEntry)[i]?) [0] = [Value.ref q] from rfl]
    rw [if_neg (show ¬ ((Value.str z t :: [Value.ref q]).all carriedByValue) = true by simp [carriedByValue])]
    rw [if_neg (show ¬ (([Value.ref q] == [Value.str z t]) = true) from Bool.false_ne_true)]
    refine wpAny_bind (tell_mix hq ?_)
    rw [if_neg (by simp)]
    refine wpAny_bind ?_
    rw [List.forIn_cons]
    refine wpAny_bind ?_
    dsimp only
    rw [show (#[(⟨h0, .ref q, v0⟩ : DictEntry)] : Array DictEntry)[0]? = some ⟨h0, .ref q, v0⟩ from rfl]
    dsimp only
    rw [if_pos (by simp)]
    obtain ⟨o', items, n, g1, g2, g3, _⟩ := hq
    have hi : s.heap.IsTuple q items := ⟨o', g1, g2, n, g3⟩
    refine wpAny_bind (wpAny_dictEpoch ho hd (wpAny_bind (SeqAt.EqAt.tuple_str z t hi hu _ _ _ _ (wpAny_bind (wpAny_dictEpoch ho hd ?_)))))
    show wpAny _ _ (if (ep != ep) = true then _ else _) _ E _
    rw [if_neg (by simp)]
    simp only [Bool.false_eq_true, if_false]
    refine wpAny_bind (wpAny_rule ?_)
    first | rw [if_neg (by simp)] | skip
    refine wpAny_pure ?_
    dsimp only
    rw [List.forIn_nil]
    exact wpAny_pure (wpAny_pure hQ)
  · have hp : placesWithHash (#[(⟨h0, .ref q, v0⟩ : DictEntry)] : Array DictEntry).size (fun i => (#[(⟨h0, .ref q, v0⟩ : DictEntry)] : Array DictEntry)[i]?.map (·.hash)) h = [] := by
      simp [placesWithHash, List.range_succ, hh]
    rw [hp]
    rw [List.filterMap_nil]
    rw [if_pos (show ((Value.str z t :: []).all carriedByValue) = true by simp [carriedByValue])]
    unfold dictWalkPlain
    rw [List.forIn_nil]
    exact wpAny_bind (wpAny_pure (wpAny_pure hQ))
theorem set_mix {d q : Addr} {o : Obj} {ep : Nat} {h0 : Int} {v0 v1 : Value} {z : Str} {t : Tok} {k : List L2.Key} {Q : Unit → Shared → Prop} (hu : A.units < cLine) (ho : s.heap.get? d = some o) (hx : o.ExactDict) (hd : o.data = .dict #[⟨h0, .ref q, v0⟩] ep)
    (hq : (tupleKind (mixKind prog w)).is s.heap k q)
    (hQ : ∀ h' tk o' h1 ep', h'.get? d = some o' → o'.ExactDict → o'.data = .dict #[⟨h0, .ref q, v0⟩, ⟨h1, .str z t, v1⟩] ep' → Heap.SameBut d s.heap h' → Q () { s with heap := h', toks := tk }) :
    wpAny (model prog w) A (dictSet d (.str z t) v1) Q E s := by
  unfold dictSet
  try with_reducible refine wpAny_holding ?_
  refine wpAny_bind (wpAny_pyHash_str ?_)
  unfold dictSetHashed
  try with_reducible refine wpAny_holding ?_
  refine wpAny_bind (find_mix (s := { s with toks := s.toks + 1 }) hu ho hd hq ?_)
  refine wpAny_bind (wpAny_rule (wpAny_updateDictKeys (hz := by show 1 ≤ sizeLine; decide) (s := { s with toks := s.toks + 1 }) ho hd (hQ _ _ _ _ _ (Heap.get?_update_self _ ho (Obj.isFreed_of_dict (Obj.data_mapDictKeys hd _))) (hx.mapDictKeys _) (Obj.data_mapDictKeys hd _) (Heap.SameBut.update ..))))
end

/-! ### the thing -/
def mixO (d : Addr) (ob : Obj) (q : Addr) (z : Str) : HO := .ext fun h => h.get? d = some ob ∧ (d == sysModules) = false ∧ ob.ExactDict ∧ ∃ (h0 h1 : Int) (v0 v1 : Value) (t : Tok) (ep : Nat), ob.data = .dict #[⟨h0, .ref q, v0⟩, ⟨h1, .str z t, v1⟩] ep
theorem mixO_dict {d : Addr} {ob : Obj} {q : Addr} {z : Str} {h : Heap} (x : h.get? d = some ob ∧ (d == sysModules) = false ∧ ob.ExactDict ∧ ∃ (h0 h1 : Int) (v0 v1 : Value) (t : Tok) (ep : Nat), ob.data = .dict #[⟨h0, .ref q, v0⟩, ⟨h1, .str z t, v1⟩] ep) : ∃ o, h.get? d = some o ∧ o.cls = .type "dict" := ⟨ob, x.1, x.2.2.1.1⟩
section
variable {prog : Program} {w : World} {A : Around} {E : Value → Shared → Prop} {s : Shared}
theorem subDict_mix {pairs : List (Sem Value × Sem Value)} {Q : Addr → Shared → Prop} (hu : A.units < cLine) (hlen : pairs.length ≤ 15)
    (h : wpAny (model prog w) A (evalPairs pairs) (fun vs s₁ => ∃ k q v0 z t v1, vs = [(.ref q, v0), (.str z t, v1)] ∧ (tupleKind (mixKind prog w)).is s₁.heap k q ∧ s₁.heap.DictOfH (tupleKind (mixKind prog w)) s.heap.objs.size [] ∧
      ∀ h' tk o h0 h1 ep, h'.get? s.heap.objs.size = some o → o.ExactDict → o.data = .dict #[⟨h0, .ref q, v0⟩, ⟨h1, .str z t, v1⟩] ep → Heap.SameBut s.heap.objs.size s₁.heap h' → Q s.heap.objs.size { s₁ with heap := h', toks := tk }) E
      { s with heap := s.heap.push { cls := .type "dict", data := .dict #[] } }) :
    wpAny (model prog w) A (subDict pairs) Q E s := by
  unfold subDict
  refine wpAny_bind (wpAny_alloc ?_)
  refine wpAny_bind (wpAny_holding ?_)
  rw [if_pos hlen]
  refine wpAny_bind (wpAny_mono (wpAny_evalPairs_len h) (fun vs s₁ h₁ => ?_) fun _ _ e => e)
  obtain ⟨hvl, k, q, v0, z, t, v1, rfl, hq, hm, hQ⟩ := h₁
  refine wpAny_holding ?_
  refine wpAny_bind ?_
  rw [List.forIn_cons]
  refine wpAny_bind (wpAny_bind (wpAny_dictSet_heap (knd := tupleKind (mixKind prog w)) (hsz := by simp) hu hq hm fun h₁ hm₁ hs₁ => wpAny_pure ?_))
  obtain ⟨o, es, ep, ho, hx, hd, he, his, _⟩ := hm₁
  have he : es = #[entryOfKey (tupleKind (mixKind prog w)) (k, q, v0)] := by
    apply Array.toList_inj.mp
    rw [he]
    rfl
  subst he
  have hq1 : (tupleKind (mixKind prog w)).is h₁ k q := his (k, q, v0) (by simp [storedH, atKey])
  dsimp only
  rw [List.forIn_cons]
  refine wpAny_bind (wpAny_bind (set_mix (s := { s₁ with heap := h₁, toks := s₁.toks + (tupleKind (mixKind prog w)).draws k }) (k := k) hu ho hx hd hq1 fun h' tk o' h1 ep' g1 g2 g3 g4 => wpAny_pure ?_))
  dsimp only
  rw [List.forIn_nil]
  exact wpAny_pure (wpAny_pure (wpAny_pure (hQ h' tk o' _ h1 ep' g1 g2 g3 (hs₁.trans g4))))
end
/-- {k: v, t: u}: k a tuple, t a text -/
def tDispM (trs : List (TE × TE)) : TE := fun σ H Q => ∀ p, H p = none → tPairs trs σ (upd H p (.dT [])) fun qs G => G p = some (.dT []) ∧
  ∃ (q : Addr) (z : Str) (k : List L2.Key) (v0 v1 : V), qs = [(.ref q, v0), (.str z, v1)] ∧ G q = some (.tup (k.map kV)) ∧ ∀ ob, Q (.ref p) (upd G p (mixO p ob q z))
section
variable {X : Cx} {pos : Pos} {keys : List (Option Expr)} {values : List Expr} {trs : List (TE × TE)}
theorem pe_dispM (hu : X.A.units + 1 < cLine) (h : PPs X pos keys values trs) (hall : keys.all (·.isSome) = true) (hl : keys.length = values.length) (h0 : keys ≠ []) (h15 : keys.length ≤ 15) :
    PE X (.Dict keys values pos) (tDispM trs) := by
  constructor
  intro pins s σ H Q I q
  have hn := I.hok.fresh (Nat.le_refl s.heap.objs.size)
  have I1 := I.laid (a := s.heap.objs.size) (o := .dT []) (h' := s.heap.push { cls := .type "dict", data := .dict #[] }) (t' := s.toks) (fun _ _ q => Heap.get?_push_of_some _ q) (Nat.le_refl _) (dt_empty s.heap I.big)
  have hpl := pairTrees_length keys values X.env pos hall hl
  have hne : pairTrees keys values X.env pos ≠ [] := by
    intro he
    rw [he] at hpl
    exact h0 (List.length_eq_zero_iff.mp hpl.symm)
  rw [arm_eval_Dict, zip_pairTrees keys values X.env pos hall hl, dictDisplay_pairs _ hne (by omega)]
  refine wpAny_bind (wpAny_standAt (wpAny_bind (subDict_mix (Q := fun d s' => wpAny (model X.prog X.w) X.A (pure (Value.ref d)) (EP X pins σ Q) X.xe s') (Nat.lt_of_succ_lt hu) (by omega) ?_)))
  refine thn (h.run pins _ σ _ _ I1 (q _ hn)) ?_
  rintro ws s2 ⟨qs, H2, I2, rel, e, qa, z, k, v0, v1, rfl, hq, q2⟩
  obtain ⟨hz0, hd, xs0, r0, dd⟩ := dt_of I2.hok e
  cases r0
  cases rel with
  | cons a t =>
    cases t with
    | cons a' t' =>
      cases t'
      rename_i u1 u2
      obtain ⟨u1a, u1b⟩ := u1
      obtain ⟨u2a, u2b⟩ := u2
      obtain ⟨ra, rb⟩ := a
      obtain ⟨ra', rb'⟩ := a'
      cases ra
      obtain ⟨tk0, rfl⟩ := ra'
      refine ⟨k, qa, u1b, z, tk0, u2b, rfl, key_of I2.hok hq, dd, fun h' tk o h0' h1' ep g1 g2 g3 g4 => wpAny_pure ⟨.ref s.heap.objs.size, _, ?_, rfl, q2 o⟩⟩
      refine d_write I2 (by rw [e]; exact True.intro) g4 ⟨o, g1⟩ ⟨⟨g1, hd, g2, h0', h1', u1b, u2b, tk0, ep, g3⟩, ⟨o, g1⟩, fun a b c d => ?_⟩
      obtain ⟨c1, c2⟩ := c
      exact ⟨d _ c1, c2⟩
end
/-! ### len, isinstance, the walk -/
section
variable {prog : Program} {w : World} {A : Around} {E : Value → Shared → Prop} {s : Shared}
theorem call_len_rawB {d : Addr} {es : Array DictEntry} {ep : Nat} {Q : Value → Shared → Prop} (hd : (d == sysModules) = false) (hm : s.heap.DictRaw d es ep) (hfit : (es.size : Int) < 2 ^ 63)
    (h : Q (.int es.size (s.toks + 1)) { s with toks := s.toks + 1 + 1 }) : wpAny (model prog w) A (call (.builtin "len") [.ref d]) Q E s := by
  refine Calls.call_function_entry kind_len plain_len entry_len (args_len1 _) ?_
  unfold Builtin.«len»
  refine wpAny_bind (m := oneArg "len" _) (wpAny_pure ?_)
  refine wpAny_bind (m := callSpecial? (.ref d) (Str.ofString "__len__")) (wpAny_callSpecial?_slot (name := Str.ofString "__len__") hm.typeIs PySem.F.slot_dict_len
    (call_meetsIn PySem.F.slot_dict_len hm.typeIs PySem.F.entry_dict_len (PySem.F.args_dict_len_1 _) (meets_dict_len_raw d hd) ⟨es, ep, hm, ?_⟩))
  show wpAny _ _ _ _ _ { s with toks := s.toks + 1 }
  refine wpAny_bind (wpAny_holding (wpAny_pure ?_))
  refine wpAny_bind (wpAny_letGo ?_)
  show wpAny _ _ (if ((es.size : Nat) : Int) < 0 then _ else _) _ _ _
  rw [if_neg (by omega)]
  show wpAny _ _ (if ((es.size : Nat) : Int) ≥ 2 ^ 63 then _ else _) _ _ _
  rw [if_neg (by omega)]
  exact wpAny_bind (wpAny_mkInt (wpAny_pure ⟨_, rfl, h⟩))
end
def rLenM : List V → Hp → VK → Prop := fun xs H Q => ∃ (p : Addr) (ob : Obj) (q : Addr) (z : Str), xs = [.ref p] ∧ H p = some (mixO p ob q z) ∧ Q (.int 2) H
theorem call_lenM {X : Cx} : CallR X (.builtin "len") rLenM := by
  rintro pins s σ H xs us Q I r ⟨p, ob, q, z, rfl, hp, g⟩
  obtain ⟨u, rfl, ru⟩ := vals1 r
  obtain rfl : u = Value.ref p := ru
  obtain ⟨g1, g2, g3, h0, h1, v0, v1, t, ep, g4⟩ := (I.hok p _ hp).1
  refine call_len_rawB g2 ⟨ob, g1, g3, g4⟩ (by show (2 : Int) < 2 ^ 63; decide) ?_
  exact ⟨.int 2, H, I.tok _, ⟨_, rfl⟩, g⟩
/-- the keys -/
def Itm (d : Addr) (ob : Obj) (q : Addr) (z : Str) : It :=
  ⟨fun i H => H d = some (mixO d ob q z) ∧ i < 2, fun i H x H' => H' = H ∧ ((i = 0 ∧ x = .ref q) ∨ (i = 1 ∧ x = .str z)), fun i H => H d = some (mixO d ob q z) ∧ 2 ≤ i⟩
section
variable {P : Program} {w : World} {K : PySem.W.Frag} {tg : Expr} {d q : Addr} {z : Str} {o : Obj} {es : Array DictEntry} {ep : Nat}
theorem turn_mix (it : Addr) (hod : o.data = .dict es ep) : Turn P w K tg (Itm d o q z) [it] it (fun i h => h.IsKeyIter it d i 2 ep) where
  mem := by simp
  obj := fun i h st b hb => by
    have e : b = it := by simpa using hb
    subst e
    obtain ⟨oi, e, c, dd⟩ := st
    exact ⟨oi, e, fun v z => by rw [dd] at z; cases z⟩
  keep := fun i h h' st k => st.at fun oi e => k it (by simp) oi e
  item := by
    intro X hP hw hK hc i pins s σ H E I hf st hg
    subst hP hw hK
    obtain ⟨hd, hi⟩ := hg
    obtain ⟨f0, f1, f2, f3, f4, f5⟩ := hf it (by simp)
    obtain ⟨hgd, hs, hx, h0, h1, v0, v1, t, ep', hdt⟩ := (I.hok d _ hd).1
    obtain ⟨rfl, rfl⟩ := dict_ep hod hdt
    match i, hi with
    | 0, _ =>
      refine next_key_item st hgd hdt rfl (en := ⟨h0, .ref q, v0⟩) rfl fun h' st' sb => ?_
      have I1 : Inv X pins σ H { s with heap := h' } := I.turned (t' := s.toks) (fun b ob hb e => (sb.2 b hb).trans e) f0 f1 f3 f4 f5
      obtain ⟨oi, e, c, dd⟩ := id st'
      exact ⟨_, rfl, go_of (s := { s with heap := h' }) e c dd (by decide) ⟨.ref q, H, I1, rfl, ⟨rfl, Or.inl ⟨rfl, rfl⟩⟩, st', fun b hb => (hf b hb).1⟩⟩
    | 1, _ =>
      refine next_key_item st hgd hdt rfl (en := ⟨h1, .str z t, v1⟩) rfl fun h' st' sb => ?_
      have I1 : Inv X pins σ H { s with heap := h' } := I.turned (t' := s.toks) (fun b ob hb e => (sb.2 b hb).trans e) f0 f1 f3 f4 f5
      obtain ⟨oi, e, c, dd⟩ := id st'
      exact ⟨_, rfl, go_of (s := { s with heap := h' }) e c dd (by decide) ⟨.str z, H, I1, ⟨t, rfl⟩, ⟨rfl, Or.inr ⟨rfl, rfl⟩⟩, st', fun b hb => (hf b hb).1⟩⟩
    | i + 2, h => exact absurd h (by omega)
  done := by
    intro X hP hw hK hc i pins s σ H E I hf st hg
    subst hP hw hK
    obtain ⟨hd, hi⟩ := hg
    obtain ⟨f0, f1, f2, f3, f4, f5⟩ := hf it (by simp)
    obtain ⟨hgd, hs, hx, h0, h1, v0, v1, t, ep', hdt⟩ := (I.hok d _ hd).1
    obtain ⟨rfl, rfl⟩ := dict_ep hod hdt
    exact next_key_end (I.ok.hd hc) st hgd hdt rfl hi fun h' eb => ⟨rfl, I.turned (t' := s.toks) (fun b ob hb e => eb b ob hb e) f0 f1 f3 f4 f5⟩
  self := fun A i s Q E st h => by
    refine wpAny_pyIter_slot st.typeIs PySem.F.slot_dict_keyiterator_iter (wpAny_call_entry PySem.F.slot_dict_keyiterator_iter st.typeIs PySem.F.entry_dict_keyiterator_iter ?_ (PySem.F.args_dict_keyiterator_iter_1 _))
    show wpAny _ _ (ret (.ref it)) _ _ s
    exact wpAny_pure ⟨_, rfl, "dict_keyiterator", _, st.typeIs, PySem.F.slot_dict_keyiterator_next.lookup, h⟩
end
/-- a walk over a dict: of keys that are tuples, or of a mixed one -/
def iKeysX (td : TE) : TI := fun σ H R => iKeys td σ H R ∨ td σ H fun x H1 => ∃ d ob q z, x = .ref d ∧ H1 d = some (mixO d ob q z) ∧ R (Itm d ob q z) H1
theorem pi_keysX {X : Cx} {tg e : Expr} {td : TE} (he : PE X e td) : PI X tg e (iKeysX td) := by
  refine ⟨fun pins s σ H R I h => ?_⟩
  rcases h with h | h
  · exact (pi_keys he).run pins s σ H R I h
  · refine thn (he.run pins s σ H _ I h) fun u s1 ⟨x, H1, I1, rx, d, ob, qa, z, ex, hd, q⟩ => ?_
    subst ex
    obtain rfl : u = Value.ref d := rx
    obtain ⟨hgd, hs, hx, h0, h1, v0, v1, t, ep', hdt⟩ := (I1.hok d _ hd).1
    exact iter_keys hs hgd hx hdt (pi_one (tk := s1.toks) I1 _ (turn_mix _ hdt) ⟨_, Heap.get?_push_size _ rfl, rfl, rfl⟩ q)
end LD

/-! == and != of dicts whose keys are tuples. -/
namespace LD
open PySem PySem.Spec PyProof.Rows L2 LT
open PySem.Calls PyProof.V
section
variable {prog : Program} {w : World} {A : Around} {E : Value → Shared → Prop} {s : Shared}
abbrev Es := List (List L2.Key × Addr × Value)
inductive HitsT (prog : Program) (w : World) (A : Around) (s : Shared) (kb : Es) : Es → Bool → Prop
  | nil : HitsT prog w A s kb [] true
  | miss {k : List L2.Key} {a : Addr} {v : Value} {r : Es} : atKey kb k = none → HitsT prog w A s kb ((k, a, v) :: r) false
  | hit {k : List L2.Key} {a b : Addr} {v y : Value} {r : Es} {e b' : Bool} : atKey kb k = some (b, y) → SeqAt.EqP prog w A s v y e → HitsT prog w A s kb r b' → HitsT prog w A s kb ((k, a, v) :: r) (e && b')
theorem HitsT.inv {kb : Es} {k : List L2.Key} {a : Addr} {v : Value} {r : Es} {b : Bool} (h : HitsT prog w A s kb ((k, a, v) :: r) b) :
    (atKey kb k = none ∧ b = false) ∨ ∃ q y e b', atKey kb k = some (q, y) ∧ SeqAt.EqP prog w A s v y e ∧ HitsT prog w A s kb r b' ∧ b = (e && b') := by
  cases h with
  | miss hn => exact .inl ⟨hn, rfl⟩
  | hit hy he hr => exact .inr ⟨_, _, _, _, hy, he, hr, rfl⟩
theorem samePairsT {nm : String} {a b : Addr} {ka kb : Es} {r : Bool} {Q : Bool → Shared → Prop} (hu : A.units < cLine) (ha : (a == sysModules) = false) (hb : (b == sysModules) = false)
    (da : s.heap.DictOfH (tupleKind (mixKind prog w)) a ka) (db : s.heap.DictOfH (tupleKind (mixKind prog w)) b kb) (hits : ka.length = kb.length → HitsT prog w A s kb ka r) (h : Q (ka.length == kb.length && r) s) :
    wpAny (model prog w) A (Builtin.Dict.samePairs nm a b) Q E s := by
  obtain ⟨oa, es, ep, hoa, _, hda, hea, hisa, hna⟩ := da
  obtain ⟨ob, es', ep', hob, _, hdb, heb, hisb, hnb⟩ := db
  have hla : ka.length = es.size := (size_of_entries hea).symm
  have hlb : kb.length = es'.size := (size_of_entries heb).symm
  rw [hla, hlb] at h
  unfold Builtin.Dict.samePairs Builtin.Dict.showsAll
  rw [if_neg (show ¬ (a == sysModules) = true by rw [ha]; exact Bool.false_ne_true), if_neg (show ¬ (b == sysModules) = true by rw [hb]; exact Bool.false_ne_true)]
  refine wpAny_bind (wpAny_pure (wpAny_bind (wpAny_pure ?_)))
  refine wpAny_bind (wpAny_dictEntries hoa hda ?_)
  dsimp only
  refine wpAny_bind (wpAny_dictEntries hob hdb ?_)
  by_cases hsz : es.size = es'.size
  case neg =>
    rw [if_pos (by simpa using hsz)]
    have hbf : (es.size == es'.size) = false := by simpa using hsz
    rw [hbf, Bool.false_and] at h
    exact wpAny_bind (wpAny_rule (wpAny_pure h))
  case pos =>
    have h' : Q r s := by simpa [hsz] using h
    have hits' := hits (by rw [hla, hlb]; exact hsz)
    rw [if_neg (by rw [hsz]; simp)]
    refine wpAny_bind (wpAny_dictEpoch hoa hda ?_)
    refine wpAny_bind ?_
    rw [Std.Legacy.Range.forIn_eq_forIn_range']
    simp only [Std.Legacy.Range.size, Nat.sub_zero, Nat.add_sub_cancel, Nat.div_one]
    refine wpAny_forIn_list _
      (fun rest q s' => s' = s ∧ q = (none, ()) ∧ ∃ i, rest = List.range' i (es.size - i) ∧ i ≤ es.size ∧ HitsT prog w A s kb (ka.drop i) r)
      _ ?_ ?_ _ _ ⟨rfl, rfl, 0, by simp, Nat.zero_le _, hits'⟩
    · rintro x rest q s' ⟨rfl, rfl, i, hr, hi, hpre⟩
      have hlt : i < es.size := by
        rcases Nat.lt_or_ge i es.size with h | h
        · exact h
        · rw [Nat.sub_eq_zero_of_le h] at hr; simp at hr
      obtain ⟨rfl, hrest⟩ : x = i ∧ rest = List.range' (i + 1) (es.size - (i + 1)) := by
        have e : es.size - i = (es.size - (i + 1)) + 1 := by omega
        rw [e, List.range'_succ] at hr
        injection hr with h1 h2
        exact ⟨h1, h2⟩
      refine wpAny_bind (wpAny_dictEntries hoa hda ?_)
      rw [Array.getElem?_eq_getElem hlt]
      have hlt' : x < ka.length := by rw [hla]; exact hlt
      obtain ⟨k, qa, v, hkv⟩ : ∃ k qa v, ka[x] = (k, qa, v) := ⟨_, _, _, rfl⟩
      have hdrop : ka.drop x = (k, qa, v) :: ka.drop (x + 1) := by rw [← hkv]; exact List.drop_eq_getElem_cons hlt'
      have hex : es[x] = entryOfKey (tupleKind (mixKind prog w)) (k, qa, v) := by
        have q := entry_at hea x
        rw [Array.getElem?_eq_getElem hlt, List.getElem?_eq_getElem hlt', hkv] at q
        exact Option.some.inj q
      have hkey : (tupleKind (mixKind prog w)).is s'.heap k qa := hisa (k, qa, v) (by rw [← hkv]; exact List.getElem_mem hlt')
      rw [hdrop] at hpre
      show wpAny _ _ (holding [es[x].key, es[x].val] _ >>= _) _ _ _
      rw [hex]
      refine wpAny_bind (wpAny_holding (wpAny_bind (wpAny_dictFind_heap (knd := tupleKind (mixKind prog w)) (k := k) (a := qa) hu hkey hob hdb heb hisb hnb ?_ ?_)))
      · intro hno
        have hn := atKey_none_of_get hno
        rcases hpre.inv with ⟨_, er⟩ | ⟨q, y, _, _, hy, _⟩
        · rw [er] at h'
          refine wpAny_pure ?_
          show wpAny _ _ (if (!false) = true then _ else _) _ _ _
          rw [if_pos (by decide)]
          exact wpAny_pure (wpAny_pure h')
        · rw [hn] at hy; exact nomatch hy
      · intro j p hj
        have hv' := atKey_of_get hnb hj
        have hjl : j < es'.size := by
          rw [← hlb]
          rcases Nat.lt_or_ge j kb.length with h | h
          · exact h
          · rw [List.getElem?_eq_none h] at hj; exact nomatch hj
        have hejx : es'[j] = entryOfKey (tupleKind (mixKind prog w)) (k, p) := by
          have q := entry_at heb j
          rw [Array.getElem?_eq_getElem hjl, hj] at q
          exact Option.some.inj q
        refine wpAny_bind (wpAny_dictEntries hob hdb ?_)
        rw [Array.getElem?_eq_getElem hjl]
        rcases hpre.inv with ⟨hn, _⟩ | ⟨q, y, e, b', hy, he, hrr, er⟩
        · rw [hv'] at hn; exact nomatch hn
        · have ey : p = (q, y) := Option.some.inj (hv'.symm.trans hy)
          rw [hejx, ey]
          refine wpAny_holding (he _ _ ?_)
          cases e with
          | false =>
            rw [er, Bool.false_and] at h'
            show wpAny _ _ (if (!false) = true then _ else _) _ _ _
            rw [if_pos (by decide)]
            exact wpAny_pure (wpAny_pure h')
          | true =>
            rw [Bool.true_and] at er
            rw [← er] at hrr
            show wpAny _ _ (if (!true) = true then _ else _) _ _ _
            rw [if_neg (by decide)]
            refine wpAny_bind (wpAny_dictEpoch hoa hda ?_)
            rw [if_neg (by simp)]
            exact wpAny_pure ⟨rfl, rfl, x + 1, hrest, hlt, hrr⟩
    · rintro q s' ⟨rfl, rfl, i, hr, hi, hpre⟩
      have hin : i = es.size := by
        rcases Nat.lt_or_ge i es.size with h | h
        · have e : es.size - i = (es.size - (i + 1)) + 1 := by omega
          rw [e, List.range'_succ] at hr; exact nomatch hr
        · exact Nat.le_antisymm hi h
      refine wpAny_pure ?_
      rw [hin, ← hla, List.drop_length] at hpre
      cases hpre
      exact h'
theorem eq_dT {a b : Addr} {ka kb : Es} {r : Bool} {Q : Value → Shared → Prop} (ha : (a == sysModules) = false) (hb : (b == sysModules) = false)
    (da : s.heap.DictOfH (tupleKind (mixKind prog w)) a ka) (db : s.heap.DictOfH (tupleKind (mixKind prog w)) b kb) (hu : A.units < cLine) (hu1 : A.in1.units < cLine) (hits : ka.length = kb.length → HitsT prog w A.in1 s kb ka r) (h : Q (.bool (ka.length == kb.length && r)) s) :
    wpAny (model prog w) A (compareOp .Eq (.ref a) (.ref b)) Q E s := by
  refine wpAny_richCompare_same_room (op := .Eq) da.typeIs db.typeIs PySem.F.slot_dict_eq (wpAny_call_entry PySem.F.slot_dict_eq da.typeIs PySem.F.entry_dict_eq ?_ (PySem.F.args_dict_eq_2 _ _)) hu
  show wpAny _ _ (Builtin.Dict.dictSlotArgs "__eq__" ⟨[.ref a, .ref b], []⟩ >>= _) _ _ s
  refine wpAny_bind ?_
  unfold Builtin.Dict.dictSlotArgs
  refine wpAny_bind (wpAny_notOrdered_dict da.typeIs ?_)
  show wpAny _ _ (pure (Value.ref a, Value.ref b)) _ _ s
  refine wpAny_pure ?_
  refine wpAny_bind (wpAny_isInstance (T := "dict") db.typeIs PySem.F.sub_dict_dict ?_)
  simp only [Bool.not_true, Bool.false_eq_true, if_false]
  refine wpAny_bind (wpAny_pure (wpAny_bind (wpAny_pure ?_)))
  refine wpAny_bind (samePairsT hu1 ha hb da db hits ?_)
  refine wpAny_pure ⟨_, rfl, ?_, ?_⟩
  · exact fun x => nomatch x
  · simpa using h
theorem ne_dT {a b : Addr} {ka kb : Es} {r : Bool} {Q : Value → Shared → Prop} (ha : (a == sysModules) = false) (hb : (b == sysModules) = false)
    (da : s.heap.DictOfH (tupleKind (mixKind prog w)) a ka) (db : s.heap.DictOfH (tupleKind (mixKind prog w)) b kb) (hu : A.units < cLine) (hu1 : A.in1.units < cLine) (hits : ka.length = kb.length → HitsT prog w A.in1 s kb ka r) (h : Q (.bool (!(ka.length == kb.length && r))) s) :
    wpAny (model prog w) A (compareOp .NotEq (.ref a) (.ref b)) Q E s := by
  refine wpAny_richCompare_same_room (op := .NotEq) da.typeIs db.typeIs PySem.F.slot_dict_ne (wpAny_call_entry PySem.F.slot_dict_ne da.typeIs PySem.F.entry_dict_ne ?_ (PySem.F.args_dict_ne_2 _ _)) hu
  show wpAny _ _ (Builtin.Dict.dictSlotArgs "__ne__" ⟨[.ref a, .ref b], []⟩ >>= _) _ _ s
  refine wpAny_bind ?_
  unfold Builtin.Dict.dictSlotArgs
  refine wpAny_bind (wpAny_notOrdered_dict da.typeIs ?_)
  show wpAny _ _ (pure (Value.ref a, Value.ref b)) _ _ s
  refine wpAny_pure ?_
  refine wpAny_bind (wpAny_isInstance (T := "dict") db.typeIs PySem.F.sub_dict_dict ?_)
  simp only [Bool.not_true, Bool.false_eq_true, if_false]
  refine wpAny_bind (wpAny_pure (wpAny_bind (wpAny_pure ?_)))
  refine wpAny_bind (samePairsT hu1 ha hb da db hits ?_)
  refine wpAny_pure ⟨_, rfl, ?_, ?_⟩
  · exact fun x => nomatch x
  · simpa using h
end
/-! ### as rules: dicts of paths as data -/
def eqvE (es fs : Ents) : Bool := es.all fun e => match valE fs e.1 with
  | some d => PyData.eqv e.2 d
  | none => false
def sameE (es fs : Ents) : Bool := (es.length == fs.length) && eqvE es fs
section
variable {X : Cx} {pins : List (Addr × Obj)} {σ : L2.St} {H : Hp} {s : Shared}
theorem KT_at {H : Hp} {k : List L2.Key} : ∀ {kvs : List (List L2.Key × V)} {xs : Es}, KT H kvs xs →
    (valV kvs k = none ∧ atKey xs k = none) ∨ ∃ v q u, valV kvs k = some v ∧ atKey xs k = some (q, u) ∧ RelV v u
  | [], _, .nil => Or.inl ⟨rfl, rfl⟩
  | kv :: kvs, x :: xs, .cons a t => by
    obtain ⟨a1, a2, a3⟩ := a
    by_cases h : kv.1 = k
    · refine Or.inr ⟨kv.2, x.2.1, x.2.2, valV_pos h, ?_, a3⟩
      unfold atKey
      rw [List.find?_cons, decide_eq_true (a1.symm.trans h)]
      rfl
    · have e1 : atKey (x :: xs) k = atKey xs k := by
        unfold atKey
        rw [List.find?_cons, decide_eq_false (fun e => h (a1.trans e))]
      rw [valV_neg h, e1]
      exact KT_at t
theorem hits_of {A : Around} (I : Inv X pins σ H s) (hu : A.in1.units + 64 < cLine) {ls : List (List L2.Key × V)} {kb : Es} {fs : Ents} (rb : KT H ls kb) (rf : RowE X.K H ls fs) (sf : ∀ f ∈ fs, SeqAt.shaped f.2 = true) :
    ∀ {ks : List (List L2.Key × V)} {ka : Es} {es : Ents}, KT H ks ka → RowE X.K H ks es → (∀ e ∈ es, SeqAt.shaped e.2 = true) → HitsT X.prog X.w A.in1 s kb ka (eqvE es fs)
  | [], _, _, .nil, .nil, _ => .nil
  | kv :: ks, (k, q, v) :: ka, e :: es, .cons a t, .cons b t', se => by
    obtain ⟨a1, a2, a3⟩ := a
    obtain ⟨b1, b2⟩ := b
    have a1 : kv.1 = k := a1
    have a3 : RelV kv.2 v := a3
    have ih := hits_of I hu rb rf sf t t' fun e he => se e (List.mem_cons_of_mem _ he)
    have hk : k = e.1.map Sum.inr := a1.symm.trans b1
    have hv := KT_at (k := e.1.map Sum.inr) rb
    have hr := RowE.val (p := e.1) rf
    have heq : eqvE (e :: es) fs = ((match valE fs e.1 with | some d => PyData.eqv e.2 d | none => false) && eqvE es fs) := rfl
    rw [heq]
    rcases hv with ⟨v1, v2⟩ | ⟨vv, qq, u, v1, v2, v3⟩
    · rcases hr with ⟨r1, r2⟩ | ⟨_, _, r1, _, _⟩
      · rw [r2]
        exact .miss (by rw [hk]; exact v2)
      · rw [v1] at r1
        cases r1
    · rcases hr with ⟨r1, _⟩ | ⟨v', d, r1, r2, dv⟩
      · rw [v1] at r1
        cases r1
      · rw [v1] at r1
        cases r1
        rw [r2]
        obtain ⟨as, g1⟩ := Dp.reads I e.2 kv.2 v b2 a3
        obtain ⟨bs, g2⟩ := Dp.reads I d vv u dv v3
        have hsf : SeqAt.shaped d = true := by
          unfold valE at r2
          obtain ⟨x, h1, h2⟩ := Option.map_eq_some_iff.mp r2
          rw [← h2]
          exact sf x (List.mem_of_find?_eq_some h1)
        exact .hit (by rw [hk]; exact v2) (PySem.W.keq_at g1 g2 (se e (List.mem_cons_self ..)) hsf hu).eqP ih
def EqArg (K : PySem.W.Frag) (H : Hp) (x : V) (es : Ents) : Prop := ∃ a ks, x = .ref a ∧ Rd H a (.dT ks) ∧ RowE K H ks es ∧ ∀ e ∈ es, SeqAt.shaped e.2 = true
def rEqT (K : PySem.W.Frag) : R2 := fun x y H Q => ∃ es fs, EqArg K H x es ∧ EqArg K H y fs ∧ Q (.bl (sameE es fs)) H
def rNeT (K : PySem.W.Frag) : R2 := fun x y H Q => ∃ es fs, EqArg K H x es ∧ EqArg K H y fs ∧ Q (.bl (!sameE es fs)) H
theorem op_eqT (hu : X.A.units + 66 < cLine) : OpR X (compareOp .Eq) (rEqT X.K) := by
  intro pins s σ H x y v u Q I rx ry h
  obtain ⟨es, fs, ⟨a, ks, rfl, ha, ra, sa⟩, ⟨b, ls, rfl, hb, rb, sb⟩, q⟩ := h
  obtain rfl : v = Value.ref a := rx
  obtain rfl : u = Value.ref b := ry
  obtain ⟨_, ya, va, ka, da⟩ := dt_rd I.hok ha
  obtain ⟨_, yb, vb, kb, db⟩ := dt_rd I.hok hb
  have h1 : X.A.in1.units ≤ X.A.units + 1 := by exact Nat.le_refl _
  have e1 : va.length = es.length := (Paired.length ka).symm.trans ra.len
  have e2 : vb.length = fs.length := (Paired.length kb).symm.trans rb.len
  refine eq_dT (r := eqvE es fs) ya yb da db (by omega) (by omega) (fun _ => hits_of I (by omega) kb rb sb ka ra sa) (fin_bl I q ?_)
  unfold sameE
  rw [e1, e2]
theorem op_neT (hu : X.A.units + 66 < cLine) : OpR X (compareOp .NotEq) (rNeT X.K) := by
  intro pins s σ H x y v u Q I rx ry h
  obtain ⟨es, fs, ⟨a, ks, rfl, ha, ra, sa⟩, ⟨b, ls, rfl, hb, rb, sb⟩, q⟩ := h
  obtain rfl : v = Value.ref a := rx
  obtain rfl : u = Value.ref b := ry
  obtain ⟨_, ya, va, ka, da⟩ := dt_rd I.hok ha
  obtain ⟨_, yb, vb, kb, db⟩ := dt_rd I.hok hb
  have h1 : X.A.in1.units ≤ X.A.units + 1 := by exact Nat.le_refl _
  have e1 : va.length = es.length := (Paired.length ka).symm.trans ra.len
  have e2 : vb.length = fs.length := (Paired.length kb).symm.trans rb.len
  refine ne_dT (r := eqvE es fs) ya yb da db (by omega) (by omega) (fun _ => hits_of I (by omega) kb rb sb ka ra sa) (fin_bl I q ?_)
  unfold sameE
  rw [e1, e2]
end
end LD

/-! dict comprehensions whose keys are tuples -/
namespace L2
open PySem PySem.Spec PyProof.Rows
section
variable {X : Cx}
theorem setT_comp {ps : List (Addr × Obj)} {τ : St} {F : Hp} {t : Shared} {E : Value → Shared → Prop} {D b : Addr} {kvs : List (List Key × V)} {k : List Key} {z : V} {r : Value} {Q : Unit → Shared → Prop}
    (hu : X.A.units < cLine) (J : Inv X ps τ F t) (eD : F D = some (.dT kvs)) (eb : F b = some (.tup (k.map kV))) (room : kvs.length < sizeLine) (rz : RelV z r)
    (go : ∀ t', Inv X ps τ (upd F D (.dT (putK kvs k z))) t' → Q () t') : wpAny (model X.prog X.w) X.A (dictSet D (.ref b) r) Q E t := by
  obtain ⟨n0, nD, xs, rel, dd⟩ := dt_of J.hok eD
  have small : (putK kvs k z).length ≤ sizeLine := Nat.le_trans (length_putK kvs k z) (by omega)
  have rl := Paired.length rel
  refine wpAny_dictSet_heap (hsz := by rw [← rl]; exact n0) (show (tupleKind _).room X.A from hu) (key_of J.hok eb) dd fun heap2 dd2 same => go _ ?_
  obtain ⟨o, es, ep, got, f1, f2, f3, _, f5⟩ := dd2
  refine d_write J (by rw [eD]; trivial) same ⟨o, got⟩ ⟨small, nD, _, (rel.put k eb rz).keeps fun c ys ec => ?_, o, es, ep, got, f1, f2, f3, f5⟩
  have ne : c ≠ D := ne_of ec eD fun q => nomatch q
  exact (upd_ne ne).trans ec
/-- {k: v for target in iter if ..}: D the new dict, its keys tuples -/
def tDcT (wi : TI) (g : TG) (tt : TT) (tk tv : TE) (vs : List Nat) : TE := fun σ H Q => wi σ H fun J G => ∀ D, G D = none →
  ∃ Wh : Nat → Nat → Hp → Prop, (∃ m, Wh 0 m (upd G D (.dT []))) ∧ ∀ i m F, Wh i m F →
    (J.stop i F ∧ Q (.ref D) F) ∨
    (J.go i F ∧ ∃ Nx : Hp → Prop, (∀ F', Nx F' → ∃ m', m' < m ∧ Wh (i + 1) m' F') ∧
      ∀ x F', J.yld i F x F' → g x (wipe σ vs) F' fun τ F2 => wipe τ vs = wipe σ vs ∧ tt τ F2 fun yes F3 =>
        if yes = true then tk τ F3 fun y F4 => tv τ F4 fun z F5 => ∃ b kvs k, y = .ref b ∧ F5 b = some (.tup (k.map kV)) ∧ F5 D = some (.dT kvs) ∧ kvs.length < sizeLine ∧ Nx (upd F5 D (.dT (putK kvs k z)))
        else Nx F3)
/-- what holds between two turns of the block -/
def Between (X : Cx) (Y : Cx) (σ : St) (tn : Nat → Heap → Prop) (fp : List Addr) (Wh : Nat → Nat → Hp → Prop) (n : Nat) (t : Shared) : Prop :=
  ∃ i F, Inv Y [] σ F t ∧ tn i t.heap ∧ (∀ b ∈ fp, F b = none) ∧ Wh i n F
theorem dcT_core {use : Option (Value → Sem Unit)} {Post : Value → Shared → Prop} {lpos : Pos} {ps : List (Addr × Obj)} {s0 : Shared} {σ : St} {H : Hp} {Q : VK} {kx vx tg iter : Expr} {ifs : List Expr} {scope : Scope} {own : List (Str × Nat)} {pos : Pos} {wi : TI} {g : TG} {tt : TT} {tk tv : TE} (hu : X.A.units < cLine) (calm : X.calm = true) (nd : X.N.Nodup) (src : PI X tg iter wi) (blk : BlkOk X.N X.env.scope scope own)
    (pTarget : ∀ (t : Shared) (F : Hp) (C : Addr) (cl : List (Str × Addr)) (fp : List Addr), PG (X.blk t F scope (compEnvC scope cl C X.env) fp) tg g)
    (pTest : ∀ (t : Shared) (F : Hp) (C : Addr) (cl : List (Str × Addr)) (fp : List Addr), PTs (X.blk t F scope (compEnvC scope cl C X.env) fp) ifs tt)
    (pKey : ∀ (t : Shared) (F : Hp) (C : Addr) (cl : List (Str × Addr)) (fp : List Addr), PE (X.blk t F scope (compEnvC scope cl C X.env) fp) kx tk)
    (pVal : ∀ (t : Shared) (F : Hp) (C : Addr) (cl : List (Str × Addr)) (fp : List Addr), PE (X.blk t F scope (compEnvC scope cl C X.env) fp) vx tv)
    (plainSet : ∀ x, foldedSetIterable iter X.env x = pure x) (I0 : Inv X ps σ H s0) (asked : tDcT wi g tt tk tv (own.map (·.2)) σ H Q)
    (after : ∀ D C t m F, Inv X ps σ F t → Q (.ref D) F → t.heap.Ns C m → FpOk X ps F C → compPost (model X.prog X.w) X.A X.xe use Post (.ref D) C (.ok .next) t) :
    wpAny (model X.prog X.w) X.A (comprehension (.DictComp kx vx [⟨tg, iter, ifs, 0⟩] scope pos) scope X.env lpos newDict false (eval iter X.env) use) Post X.xe s0 := by
  have cellsOf : ∀ y ∈ scope.names, y.2 = .free → ∃ c, X.env.cells.lookup y.1 = some c := by
    intro y hy free
    exact I0.ok.has _ (blk.free y hy free)
  refine wpAny_comprehension_free rfl plainSet (closure_ok cellsOf) blk.kind (fun y hy loc => (blk.uniq y hy).trans (by rw [loc])) ?_
  refine thn (src.run ps s0 σ H _ I0 asked) fun sv s1 found => thn found fun itv s2 turns => ?_
  obtain ⟨it, fp, tn, J, G, rfl, I2, T, at0, apart, q⟩ := turns
  refine wpAny_newObj_type (newEnv_comp ?_)
  -- the dict
  have fresh : G s2.heap.objs.size = none := I2.hok.fresh (Nat.le_refl _)
  obtain ⟨Wh, ⟨m0, start⟩, turn⟩ := q _ fresh
  have lower : ∀ b ∈ fp, b < s2.heap.objs.size := by
    intro b hb
    obtain ⟨o, got, _⟩ := T.obj _ _ at0 b hb
    exact Heap.lt_size got
  generalize eD : s2.heap.objs.size = D at fresh start turn lower ⊢
  have Inew : Inv X ps σ (upd G D (.dT [])) { s2 with heap := s2.heap.push { cls := .type "dict", data := .dict #[] } } := by
    rw [← eD]
    exact I2.laid (t' := s2.toks) (fun _ _ got => Heap.get?_push_of_some _ got) (Nat.le_refl _) (dt_empty s2.heap I2.big)
  have grown : ∀ b o, s2.heap.get? b = some o → (s2.heap.push { cls := .type "dict", data := .dict #[] }).get? b = some o := fun _ _ got => Heap.get?_push_of_some _ got
  have size3 : (s2.heap.push { cls := .type "dict", data := .dict #[] }).objs.size = D + 1 := by rw [Heap.size_push, eD]
  have at3 := T.keep _ _ _ at0 fun b _ o got => grown b o got
  generalize hs3 : ({ s2 with heap := s2.heap.push { cls := .type "dict", data := .dict #[] } } : Shared) = s3 at Inew
  have h3 : s3.heap = s2.heap.push { cls := .type "dict", data := .dict #[] } := by rw [← hs3]
  rw [← h3] at at3 size3
  have apart3 : ∀ b ∈ fp, FpOk X ps (upd G D (.dT [])) b ∧ b < s3.heap.objs.size := by
    intro b hb
    have lt := lower b hb
    refine ⟨⟨?_, (apart b hb).2⟩, by rw [size3]; exact Nat.lt_succ_of_lt lt⟩
    rw [upd_ne (Nat.ne_of_lt lt)]
    exact (apart b hb).1
  have Istart := block_start Inew blk nd apart3
  have emp3 : ∀ b ∈ fp, (upd G D (.dT [])) b = none := fun b hb => (apart3 b hb).1.1
  generalize upd G D (.dT []) = G3 at Inew Istart apart3 emp3 start
  -- the block's rules
  have ruleG := pTarget s3 G3 s3.heap.objs.size (cellsFrom (s3.heap.objs.size + 1) scope.names (cloFrom X.env.cells scope.names [])) fp
  have ruleT := pTest s3 G3 s3.heap.objs.size (cellsFrom (s3.heap.objs.size + 1) scope.names (cloFrom X.env.cells scope.names [])) fp
  have ruleK := pKey s3 G3 s3.heap.objs.size (cellsFrom (s3.heap.objs.size + 1) scope.names (cloFrom X.env.cells scope.names [])) fp
  have ruleV := pVal s3 G3 s3.heap.objs.size (cellsFrom (s3.heap.objs.size + 1) scope.names (cloFrom X.env.cells scope.names [])) fp
  show codeAny _ X.A (.compStart _ 0 (.ref it) (.ref D) (compEnvC scope (cellsFrom (s3.heap.objs.size + 1) scope.names (cloFrom X.env.cells scope.names [])) s3.heap.objs.size X.env)) (compPost _ X.A X.xe use Post (.ref D) s3.heap.objs.size) _
  generalize eB : compEnvC scope (cellsFrom (s3.heap.objs.size + 1) scope.names (cloFrom X.env.cells scope.names [])) s3.heap.objs.size X.env = B at Istart ruleG ruleT ruleK ruleV ⊢
  have locB : B.locals = s3.heap.objs.size := by rw [← eB]; rfl
  have at4 : tn 0 (pushCells (s3.heap.push { cls := .type "dict", data := .dict #[] }) scope.names) :=
    T.keep _ _ _ at3 fun b _ o got => pushCells_keeps _ _ _ _ (Heap.get?_push_of_some _ got)
  generalize hs4 : ({ s3 with heap := pushCells (s3.heap.push { cls := .type "dict", data := .dict #[] }) scope.names } : Shared) = s4 at Istart ⊢
  have at5 : tn 0 s4.heap := by rw [← hs4]; exact at4
  have away : ∀ {τ : St} {F : Hp} {t : Shared}, Inv (X.blk s3 G3 scope B fp) [] τ F t → (∀ b ∈ fp, F b = Option.none) → ∀ b ∈ fp, FpOk (X.blk s3 G3 scope B fp) [] F b := by
    intro τ F t K empt b hb
    refine ⟨empt b hb, (K.ok.exf b hb).1, K.ok.exfs b hb, .inl hb, fun x c got => (K.ok.exf b hb).2 x c got, fun p hp => ?_⟩
    cases (show p ∈ ([] : List (Addr × Obj)) from hp)
  have whole : codeAny (model X.prog X.w) X.A (.compLoop (.DictComp kx vx [⟨tg, iter, ifs, 0⟩] scope pos) 0 (.ref it) (.ref D) B) (compPost (model X.prog X.w) X.A X.xe use Post (.ref D) s3.heap.objs.size) s4 := by
    refine compLoop_anyD (Between X (X.blk s3 G3 scope B fp) (wipe σ (own.map (·.2))) tn fp Wh) (fun n t st => ?_) m0 ⟨0, G3, Istart, at5, emp3, start⟩
    obtain ⟨i, F, K, here, empt, wh⟩ := st
    rcases turn i n F wh with ⟨over, last⟩ | ⟨more, Nx, less, step⟩
    · refine thnF (T.done (X.blk s3 G3 scope B fp) rfl rfl rfl calm i [] t _ F (fun _ _ => False) K (away K empt) here over) fun r t1 ⟨er, K1⟩ => ?_
      subst er
      have home : Inv X ps σ F t1 := Inew.call' (ch := fp) K1.os K1.base K1.hok K1.bare fun b hb => by
        obtain ⟨_, g1, g2, g3, g4, g5⟩ := (apart3 b hb).1
        exact ⟨g3, g1, g4, g5⟩
      have noLoc : F s3.heap.objs.size = none := by
        rw [← locB]
        exact K1.free
      obtain ⟨m, spaces, _⟩ := K1.loc
      have spaces : t1.heap.Ns s3.heap.objs.size m := by
        rw [← locB]
        exact spaces
      exact after D s3.heap.objs.size t1 m F home last spaces (Inew.fpOk (Nat.le_refl _) noLoc)
    · refine thnF (T.item (X.blk s3 G3 scope B fp) rfl rfl rfl calm i [] t _ F (fun _ _ => False) K (away K empt) here more) fun r t1 ⟨u, er, rest⟩ => ?_
      subst er
      refine thnF rest fun _ t2 ⟨x, F2, K2, rx, yielded, here2, none2⟩ => ?_
      have pinned := K2.pinned (away K2 none2) (T.obj _ _ here2)
      -- a turn's end
      have again : ∀ {τ : St} {t' : Shared} {F' : Hp}, wipe τ (own.map (·.2)) = wipe σ (own.map (·.2)) → Inv (X.blk s3 G3 scope B fp) ([] ++ pinsAt fp t2.heap) τ F' t' → Nx F' →
          ∃ m, m < n ∧ Between X (X.blk s3 G3 scope B fp) (wipe σ (own.map (·.2))) tn fp Wh m t' := by
        intro τ t' F' same K' nx
        obtain ⟨m, lt, wh'⟩ := less F' nx
        have still : ∀ b ∈ fp, ∀ o, t2.heap.get? b = some o → t'.heap.get? b = some o ∧ F' b = Option.none := by
          intro b hb o got
          obtain ⟨e1, e2, _⟩ := K'.pin (b, o) (List.mem_append_right _ (List.mem_append_right _ (mem_pinsAt hb got)))
          exact ⟨e1, e2⟩
        refine ⟨m, lt, i + 1, F', K'.unpinned.weak ?_ fun j v got => ?_, T.keep _ _ _ here2 fun b hb o got => (still b hb o got).1, fun b hb => ?_, wh'⟩
        · rw [← same, wipe_length]
        · rw [← same] at got
          exact (wipe_some got).1
        · obtain ⟨o, got, _⟩ := T.obj _ _ here2 b hb
          exact (still b hb o got).2
      refine thnF (ruleG.run _ t2 _ F2 x u _ pinned rx (step x F2 yielded)) fun _ t3 ⟨τ, F3, K3, same, q3⟩ => ?_
      refine thnF (ruleT.run _ t3 τ F3 _ K3 q3) fun yes t4 ⟨F4, K4, q4⟩ => ?_
      cases yes with
      | false => exact again same K4 q4
      | true =>
        refine thnF (ruleK.run _ t4 τ F4 _ K4 q4) fun kw t5 ⟨y, F5, K5, ry, q5⟩ => ?_
        refine thnF (ruleV.run _ t5 τ F5 _ K5 q5) fun vw t6 ⟨z, F6, K6, rz, b, kvs, k, ey, eb, eD6, room, nx⟩ => ?_
        subst ey
        cases (show kw = Value.ref b from ry)
        exact setT_comp (X := X.blk s3 G3 scope B fp) hu K6 eD6 eb room rz fun t7 K7 => again same K7 nx
  exact codeAny_compStart_dict whole (T.self X.A 0 _ _ _ at5 whole)
/-- as a value -/
theorem pe_dcT {kx vx tg iter : Expr} {ifs : List Expr} {scope : Scope} {own : List (Str × Nat)} {pos : Pos} {wi : TI} {g : TG} {tt : TT} {tk tv : TE} (hu : X.A.units < cLine) (calm : X.calm = true) (nd : X.N.Nodup) (src : PI X tg iter wi) (blk : BlkOk X.N X.env.scope scope own)
    (pTarget : ∀ (t : Shared) (F : Hp) (C : Addr) (cl : List (Str × Addr)) (fp : List Addr), PG (X.blk t F scope (compEnvC scope cl C X.env) fp) tg g)
    (pTest : ∀ (t : Shared) (F : Hp) (C : Addr) (cl : List (Str × Addr)) (fp : List Addr), PTs (X.blk t F scope (compEnvC scope cl C X.env) fp) ifs tt)
    (pKey : ∀ (t : Shared) (F : Hp) (C : Addr) (cl : List (Str × Addr)) (fp : List Addr), PE (X.blk t F scope (compEnvC scope cl C X.env) fp) kx tk)
    (pVal : ∀ (t : Shared) (F : Hp) (C : Addr) (cl : List (Str × Addr)) (fp : List Addr), PE (X.blk t F scope (compEnvC scope cl C X.env) fp) vx tv)
    (plainSet : ∀ x, foldedSetIterable iter X.env x = pure x := by intro _; rfl) :
    PE X (.DictComp kx vx [⟨tg, iter, ifs, 0⟩] scope pos) (tDcT wi g tt tk tv (own.map (·.2))) := by
  refine ⟨fun ps s0 σ H Q I0 asked => ?_⟩
  rw [arm_eval_DictComp]
  refine dcT_core hu calm nd src blk pTarget pTest pKey pVal plainSet I0 asked fun D C t m F home last spaces away => ?_
  obtain ⟨c0, c1, _, c3, c4, c5⟩ := away
  refine ⟨m, spaces, fun heap3 same => ⟨.ref D, F, ?_, rfl, last⟩⟩
  exact home.turned (t' := t.toks) (fun b o ne got => (same.2 b ne).trans got) c0 c1 c3 c4 c5
/-- y = {k: v for ..}, y a local that the block does not read -/
theorem ps_setDcT {i : Nat} {y : Str} {py : Pos} {kx vx tg iter : Expr} {ifs : List Expr} {scope : Scope} {own : List (Str × Nat)} {pos spos : Pos} {wi : TI} {g : TG} {tt : TT} {tk tv : TE} (hu : X.A.units < cLine) (calm : X.calm = true) (nd : X.N.Nodup) (at_ : X.N[i]? = some y) (loc : X.env.scope.names.lookup y = some .local)
    (swaps : swapsWith (.DictComp kx vx [⟨tg, iter, ifs, 0⟩] scope pos) (some (.Name y py)) spos.line X.env = pure true) (src : PI X tg iter wi) (blk : BlkOk X.N X.env.scope scope own)
    (pTarget : ∀ (t : Shared) (F : Hp) (C : Addr) (cl : List (Str × Addr)) (fp : List Addr), PG (X.blk t F scope (compEnvC scope cl C X.env) fp) tg g)
    (pTest : ∀ (t : Shared) (F : Hp) (C : Addr) (cl : List (Str × Addr)) (fp : List Addr), PTs (X.blk t F scope (compEnvC scope cl C X.env) fp) ifs tt)
    (pKey : ∀ (t : Shared) (F : Hp) (C : Addr) (cl : List (Str × Addr)) (fp : List Addr), PE (X.blk t F scope (compEnvC scope cl C X.env) fp) kx tk)
    (pVal : ∀ (t : Shared) (F : Hp) (C : Addr) (cl : List (Str × Addr)) (fp : List Addr), PE (X.blk t F scope (compEnvC scope cl C X.env) fp) vx tv)
    (plainSet : ∀ x, foldedSetIterable iter X.env x = pure x := by intro _; rfl) :
    PS X (.Assign [.Name y py] (.DictComp kx vx [⟨tg, iter, ifs, 0⟩] scope pos) spos) (tAsg (tDcT wi g tt tk tv (own.map (·.2))) (gName i)) := by
  refine ⟨fun ps s0 σ H D0 I0 asked => ?_⟩
  rw [exec_Assign_Name_used _ _ _ _ swaps]
  refine wpAny_bind (wpAny_standAt (wpAny_bind ?_))
  show wpAny _ X.A (do let _ ← comprehension (.DictComp kx vx [⟨tg, iter, ifs, 0⟩] scope pos) scope X.env (firstIterPos [⟨tg, iter, ifs, 0⟩] pos) newDict false (eval iter X.env) (some (assign (.Name y py) X.env))) _ _ s0
  have asked : tDcT wi g tt tk tv (own.map (·.2)) σ H (fun x F => gName i x σ F D0.nx) := asked
  refine wpAny_bind (thn (dcT_core (Post := fun _ t => SP X ps D0 .next t) hu calm nd src blk pTarget pTest pKey pVal plainSet I0 asked fun D C t m F home last spaces away => ?_) fun _ t done => wpAny_pure (wpAny_pure done))
  show wpAny _ _ (assign (.Name y py) X.env (.ref D)) _ _ _
  obtain ⟨c0, c1, _, c3, c4, c5⟩ := away
  refine wpAny_assign_Name (store_ok2 (v := V.ref D) home nd at_ (.inl loc) rfl (fun t2 I2 ⟨a, sb, ha⟩ => ?_) (.inr loc))
  have ne : C ≠ a := ha.elim (fun z => z ▸ c1) fun z e => c4 y a z e.symm
  refine ⟨m, spaces.sameBut sb ne, fun heap3 same => ⟨_, F, ?_, last⟩⟩
  exact I2.turned (t' := t2.toks) (fun b o nb got => (same.2 b nb).trans got) c0 c1 c3 c4 c5
theorem swapsDc {kx vx : Expr} {gs : List Comprehension} {scope : Scope} {pos py : Pos} {y : Str} {l : Nat} {env : Env} (kind : env.scope.kind = .function) (loc : env.scope.names.lookup y = some .local) (row : (py.line == pos.line) = true)
    (other : (scope.names.any fun (n, k) => n == y && (k == .local || k == .cell)) = false) : swapsWith (.DictComp kx vx gs scope pos) (some (.Name y py)) l env = pure true := by
  have k1 : env.blockKind = .function := by unfold Env.blockKind; rw [kind]; rfl
  have k2 : env.kindOf y = some .local := loc
  unfold swapsWith
  simp only [k1, k2, other, row, Expr.pos]
  rfl
/-- the turns of such a comprehension, by what holds before each -/
theorem dcT_it {J : It} {n : Nat} {Gd : Hp → Prop} {Y : Nat → Hp → V → Hp → Prop} (wk : Walk J n Gd Y) {g : TG} {tt : TT} {tk tv : TE} {vs : List Nat} {σ : St} {D : Addr} {S : Hp} {Qd : Hp → Prop} (Pv : Nat → Hp → Prop)
    (first : Pv 0 S) (served : ∀ i F, i ≤ n → Pv i F → Gd F)
    (each : ∀ i x F F', i < n → Pv i F → Y i F x F' → g x (wipe σ vs) F' fun τ F2 => wipe τ vs = wipe σ vs ∧ tt τ F2 fun yes F3 =>
      if yes = true then tk τ F3 fun y F4 => tv τ F4 fun z F5 => ∃ b kvs k, y = .ref b ∧ F5 b = some (.tup (k.map kV)) ∧ F5 D = some (.dT kvs) ∧ kvs.length < sizeLine ∧ Pv (i + 1) (upd F5 D (.dT (putK kvs k z)))
      else Pv (i + 1) F3) (done : ∀ F, Pv n F → Qd F) :
    ∃ Wh : Nat → Nat → Hp → Prop, (∃ m, Wh 0 m S) ∧ ∀ i m F, Wh i m F → (J.stop i F ∧ Qd F) ∨
      (J.go i F ∧ ∃ Nx : Hp → Prop, (∀ F', Nx F' → ∃ m', m' < m ∧ Wh (i + 1) m' F') ∧
        ∀ x F', J.yld i F x F' → g x (wipe σ vs) F' fun τ F2 => wipe τ vs = wipe σ vs ∧ tt τ F2 fun yes F3 =>
          if yes = true then tk τ F3 fun y F4 => tv τ F4 fun z F5 => ∃ b kvs k, y = .ref b ∧ F5 b = some (.tup (k.map kV)) ∧ F5 D = some (.dT kvs) ∧ kvs.length < sizeLine ∧ Nx (upd F5 D (.dT (putK kvs k z)))
          else Nx F3) := by
  refine ⟨fun i m F => i + m = n ∧ Pv i F, ⟨n, by omega, first⟩, ?_⟩
  rintro i m F ⟨sum, now⟩
  have ok := served i F (by omega) now
  cases m with
  | zero =>
    have e : i = n := by omega
    subst e
    exact Or.inl ⟨wk.stops F ok, done F now⟩
  | succ m =>
    have lt : i < n := by omega
    exact Or.inr ⟨wk.goes i F lt ok, Pv (i + 1), fun F' nx => ⟨m, Nat.lt_succ_self m, by omega, nx⟩, fun x F' yl => each i x F F' lt now (wk.yields i F x F' lt ok yl)⟩
end
end L2

namespace LK
open PySem PySem.Spec PyProof.Rows L2 GA LT LE L2H LD
def topS (i : Nat) : Stmt := PySem.Challenge.pw_laidtrees_k09_whole_views.main.body.getD i (.Pass ⟨0, 0, 0, 0⟩)
abbrev sIsName : Stmt := topS 26
abbrev sIsPath : Stmt := topS 27
abbrev sIsText : Stmt := topS 28
abbrev sCheckPath : Stmt := topS 29
abbrev sCheckText : Stmt := topS 30
abbrev sAbove : Stmt := topS 31
abbrev sBegins : Stmt := topS 32
abbrev sWithin : Stmt := topS 33
abbrev sIsNumber : Stmt := topS 38
abbrev sIsKind : Stmt := topS 39
abbrev sIsDrawer : Stmt := topS 40
abbrev sIsFile : Stmt := topS 41
abbrev sHasDrawers : Stmt := topS 42
abbrev sHasOneText : Stmt := topS 43
abbrev sIsTree : Stmt := topS 44
abbrev sCheckTree : Stmt := topS 45
abbrev sRenumbered : Stmt := topS 46
abbrev sPlain : Stmt := topS 47
abbrev sNamesIn : Stmt := topS 48
abbrev sNotRoot : Stmt := topS 50
abbrev sMoved : Stmt := topS 51
abbrev sDraw : Stmt := topS 54
abbrev sPick : Stmt := topS 55
abbrev sLetter : Stmt := topS 56
abbrev sText : Stmt := topS 57
abbrev sTree : Stmt := topS 58
abbrev sGroup : Stmt := topS 59
abbrev sLPlain : Stmt := topS 60
abbrev sWhich : Stmt := topS 61
abbrev sLPath : Stmt := topS 62
abbrev sChosen : Stmt := topS 63
abbrev sDo : Stmt := topS 64
abbrev sView : Stmt := topS 65
abbrev sViewsRight : Stmt := topS 66
abbrev sLaw : Stmt := topS 67
abbrev mInit : Stmt := inClass (topS 52) 0
abbrev mMake : Stmt := inClass (topS 52) 1
abbrev mWrite : Stmt := inClass (topS 52) 2
abbrev mAdd : Stmt := inClass (topS 52) 3
abbrev mRemove : Stmt := inClass (topS 52) 4
abbrev mClear : Stmt := inClass (topS 52) 5
abbrev mMove : Stmt := inClass (topS 52) 6
abbrev mTie : Stmt := inClass (topS 52) 7
abbrev mKind : Stmt := inClass (topS 52) 8
abbrev mRead : Stmt := inClass (topS 52) 9
abbrev mListed : Stmt := inClass (topS 52) 10
abbrev mTied : Stmt := inClass (topS 52) 11
abbrev mTree : Stmt := inClass (topS 52) 12
abbrev mTwin : Stmt := inClass (topS 52) 13
abbrev mLen : Stmt := inClass (topS 52) 14
abbrev mThere : Stmt := inClass (topS 52) 15
abbrev mAboveOk : Stmt := inClass (topS 52) 16
abbrev mPlace : Stmt := inClass (topS 52) 17
abbrev mRoom : Stmt := inClass (topS 52) 18
abbrev mFileAt : Stmt := inClass (topS 52) 19
abbrev mPut : Stmt := inClass (topS 52) 20
abbrev mGive : Stmt := inClass (topS 52) 21
abbrev mTakeAway : Stmt := inClass (topS 52) 22
/-- what the module's names hold: those that paths.py asks -/
structure Mg (mg : Str → Option Value) : Prop where
  isinstance : mg "isinstance" = none
  str : mg "str" = none
  tuple : mg "tuple" = none
  len : mg "len" = none
  all : mg "all" = none
  range : mg "range" = none
  letters : ∃ t, mg "LETTERS" = some (.str lettersS t)
  mostLetters : ∃ t, mg "MOST_LETTERS" = some (.int 4 t)
  mostNames : ∃ t, mg "MOST_NAMES" = some (.int 5 t)

def spIsName (K : PySem.W.Frag) (P1 : Addr) : Sp := fun vs H Q _ => ∃ v, vs = [v] ∧ Asked K H v ∧ TabG H P1 ∧ ∀ H', Ex H H' → Q (.bl (isNameV v)) H'
/-- a call that is handed a thing: it is a path or not -/
def spIsPath (K : PySem.W.Frag) (P1 P2 : Addr) : Sp := fun vs H Q _ => ∃ v b, vs = [v] ∧ PathB K H v b ∧ TabG H P1 ∧ TabG H P2 ∧ ∀ H', Ex H H' → Q (.bl b) H'
/-- C: the class that is raised -/
def spCheck (K : PySem.W.Frag) (P1 P2 C : Addr) : Sp := fun vs H Q E => ∃ v b, vs = [v] ∧ PathB K H v b ∧ TabG H P1 ∧ TabG H P2 ∧
  (b = true → ∀ H', Ex H H' → Q .non H') ∧ (b = false → ∀ H', Ex H H' → E (.ref C) none H')
/-- the thing is no path, and is refused; or it is the path p, of which R holds -/
def PathOr (K : PySem.W.Frag) (H : Hp) (v : V) (bad : Prop) (R : Addr → List Str → Prop) : Prop :=
  (PathB K H v false ∧ bad) ∨ ∃ a p, v = .ref a ∧ PathAt K H a p ∧ goodPath p = true ∧ R a p
def Refused (H : Hp) (E : XK) (C : Addr) : Prop := ∀ H', Ex H H' → E (.ref C) none H'
def spAbove (K : PySem.W.Frag) (P1 P2 C : Addr) : Sp := fun vs H Q E => ∃ v, vs = [v] ∧ TabG H P1 ∧ TabG H P2 ∧
  PathOr K H v (Refused H E C) fun _ p => ∀ H' r, Ex H H' → (p = [] ∧ r = .non ∨ p ≠ [] ∧ ∃ q, r = .ref q ∧ PathAt K H' q p.dropLast) → Q r H'
def beginsB (p q : List Str) : Bool := decide (p.take q.length = q)
def withinB (p q : List Str) : Bool := decide (p ≠ q) && beginsB p q
def spBegins (K : PySem.W.Frag) : Sp := fun vs H Q _ => ∃ a b p q, vs = [.ref a, .ref b] ∧ PathAt K H a p ∧ PathAt K H b q ∧ goodPath p = true ∧ goodPath q = true ∧ ∀ H', Ex H H' → Q (.bl (beginsB p q)) H'
def spWithin (K : PySem.W.Frag) (P1 P2 C : Addr) : Sp := fun vs H Q E => ∃ u v, vs = [u, v] ∧ TabG H P1 ∧ TabG H P2 ∧
  PathOr K H u (Refused H E C) fun _ p => PathOr K H v (Refused H E C) fun _ q => ∀ H', Ex H H' → Q (.bl (withinB p q)) H'
def spBeginnings (K : PySem.W.Frag) (P1 P2 C : Addr) : Sp := fun vs H Q E => ∃ v, vs = [v] ∧ TabG H P1 ∧ TabG H P2 ∧
  PathOr K H v (Refused H E C) fun _ p => ∀ H' l, Ex H H' → PathsAt K H' l (begs p) → Q (.ref l) H'
/-- a class of refusals -/
structure Ref (K : PySem.W.Frag) (mg : Str → Option Value) (nm : Str) (C : Addr) : Prop where
  g : mg nm = some (.ref C)
  x : PySem.W.excIn K C [.type "ValueError", .type "Exception", .type "BaseException", .type "object"] "ValueError.__new__" = true
  k : PySem.W.keepIn K (.ref C) = true
  b : PySem.W.subIn K (.ref C) (.type "BaseException") = some true
  t : PySem.W.typeIn K (.ref C) = some (.type "type")

section
variable {P : Program} {w : World} {K : PySem.W.Frag} {mg : Str → Option Value} {base : Heap}
theorem scIsName : FnScope ["thing"] ["thing"] (defScope sIsName) := ⟨rfl, rfl, rfl, by decide +kernel, rfl, by decide +kernel, by decide +kernel⟩
theorem ok_isName {f c P1 : Addr} {fd : FuncData} (F : FunC K "is_name" "is_name" sIsName f fd c) (M : Mg mg) (TB : LamX.TabB base mg c P1) : FnOk P w K mg base CX0 3 f fd ["thing"] (spIsName K P1) := by
  refine F.ok scIsName (fun vs H Q E h => ?_) (fun A outer s H vs Q E hr h => ?_)
  · obtain ⟨v, rfl, _⟩ := h
    rfl
  · obtain ⟨v, rfl, ⟨n, kn, hz⟩, hT, k⟩ := h
    obtain ⟨tl, hl⟩ := M.letters
    obtain ⟨tm, hm⟩ := M.mostLetters
    refine ⟨_, pss_cons (ps_if (PW.pt (pw_or (pt_not (pt_val (pe_callB call_is (by rfl) M.isinstance boot_isinstance (pa_cons (pv 0) (pa_cons (pe_bltn (v := .ty "str") (by rfl) M.str (by decide +kernel) rfl) pa_nil)))))
        (pw_or1 (pt_not (pt_chain op_le op_le pe_int (pe_callB call_len_str (by rfl) M.len PySem.boot_len (pa_cons (pv 0) pa_nil)) (pe_glob (v := .int 4) (by rfl) hm ⟨_, rfl⟩)))))) (pss_one (ps_ret pe_bl)) pss_nil)
      (pss_one (ps_ret (pe_all (k := 1) (N := ["thing", "letter"]) (pad := 1) (j := 1) (x := "letter") (P := P1) hr rfl (by rfl) M.all TB rfl (gn_by (N0 := ["thing"]) (sc := defScope sIsName) (by decide +kernel)) (pi_str (pv 0))
        (fun A s H cl C code fp pn hr => pe_cmpR op_in_sign (pv 1) (pe_glob (v := .str lettersS) (by rfl) hl ⟨_, rfl⟩) (by rfl))))), ?_⟩
    refine ⟨_, rfl, v, n, "str", rfl, kn, rfl, _, rfl, ?_⟩
    have done : isNameV v = false → Q (.bl false) H := fun e => by
      have := k H (Ex.refl H)
      rwa [e] at this
    by_cases hs : n = "str"
    · subst hs
      obtain ⟨z, rfl⟩ : ∃ z, v = .str z := kn.isStr
      rw [show isB "str" "str" = true by decide]
      refine iteF ?_
      refine ⟨_, rfl, z, rfl, hz z rfl, _, _, rfl, rfl, _, rfl, ?_⟩
      by_cases h1 : (1 : Int) ≤ z.length
      · rw [decide_eq_true h1]
        refine iteT ⟨_, _, rfl, rfl, _, rfl, ?_⟩
        by_cases h4 : (z.length : Int) ≤ 4
        · rw [decide_eq_true h4]
          refine iteF ⟨_, rfl, z, rfl, hT, fun H2 hT2 => gw_str (fun c => decide (c ∈ lettersS.cps.toList)) (fun c H3 x R hR => ⟨_, rfl, c, lettersS, rfl, rfl, hR⟩) fun H3 x => ?_⟩
          have := k H3 ((Ex.tabd hT2 hT).trans x)
          rwa [show isNameV (.str z) = z.cps.toList.all (fun c => decide (c ∈ lettersS.cps.toList)) by
            show (decide (1 ≤ z.length) && decide (z.length ≤ 4) && allIn z lettersS) = _
            rw [decide_eq_true (by omega), decide_eq_true (by omega)]
            rfl] at this
        · rw [decide_eq_false h4]
          refine iteT (done ?_)
          show (decide (1 ≤ z.length) && decide (z.length ≤ 4) && allIn z lettersS) = _
          rw [decide_eq_false (p := z.length ≤ 4) (by omega), Bool.and_false, Bool.false_and]
      · rw [decide_eq_false h1]
        refine iteF ⟨_, rfl, iteT (done ?_)⟩
        show (decide (1 ≤ z.length) && decide (z.length ≤ 4) && allIn z lettersS) = _
        rw [decide_eq_false (p := 1 ≤ z.length) (by omega), Bool.false_and, Bool.false_and]
    · rw [kn.notStr hs]
      refine iteT ?_
      exact done (kn.noName hs)
theorem scIsPath : FnScope ["thing"] ["thing"] (defScope sIsPath) := ⟨rfl, rfl, rfl, by decide +kernel, rfl, by decide +kernel, by decide +kernel⟩
theorem ok_isPath {f c f1 P1 P2 : Addr} {fd fd1 : FuncData} (F : FunC K "is_path" "is_path" sIsPath f fd c) (M : Mg mg) (TB : LamX.TabB base mg c P2)
    (G1 : FnOk P w K mg base CX0 3 f1 fd1 ["thing"] (spIsName K P1)) (m1 : mg "is_name" = some (.ref f1)) (k1 : PySem.W.keepIn K (.ref f1) = true) (b1 : Binds K fd1 ["thing"] []) :
    FnOk P w K mg base CX0 5 f fd ["thing"] (spIsPath K P1 P2) := by
  refine F.ok scIsPath (fun vs H Q E h => ?_) (fun A outer s H vs Q E hr h => ?_)
  · obtain ⟨v, b, rfl, _⟩ := h
    rfl
  · obtain ⟨v, b, rfl, pb, hT1, hT2, k⟩ := h
    obtain ⟨tm, hm⟩ := M.mostNames
    refine ⟨_, pss_cons (ps_if (PW.pt (pw_or (pt_not (pt_val (pe_callB call_is (by rfl) M.isinstance boot_isinstance (pa_cons (pv 0) (pa_cons (pe_bltn (v := .ty "tuple") (by rfl) M.tuple (by decide +kernel) rfl) pa_nil)))))
        (pw_or1 (pt_cmpR op_gt (pe_callB call_len_seq (by rfl) M.len PySem.boot_len (pa_cons (pv 0) pa_nil)) (pe_glob (v := .int 5) (by rfl) hm ⟨_, rfl⟩) (nomark _))))) (pss_one (ps_ret pe_bl)) pss_nil)
      (pss_one (ps_ret (pe_all (k := 3) (N := ["thing", "name"]) (pad := 1) (j := 1) (x := "name") (P := P2) hr rfl (by rfl) M.all TB rfl (gn_by (N0 := ["thing"]) (sc := defScope sIsPath) (by decide +kernel)) (pi_tup (pv 0))
        (fun A s H cl C code fp pn hr => pe_call (E := E0) G1 hr (by rfl) m1 k1 b1 .nil pass0 (pa_cons (pv 1) pa_nil))))), ?_⟩
    cases pb with
    | oth kn hn =>
      rename_i n
      refine ⟨_, rfl, v, n, "tuple", rfl, kn, rfl, _, rfl, ?_⟩
      rw [kn.notTup hn]
      exact iteT (k H (Ex.refl H))
    | tup e q =>
      rename_i a xs
      refine ⟨_, rfl, .ref a, "tuple", "tuple", rfl, .tup e, rfl, _, rfl, ?_⟩
      rw [show isB "tuple" "tuple" = true by decide]
      refine iteF ⟨_, rfl, a, xs, rfl, .inr e, _, _, rfl, rfl, _, rfl, ?_⟩
      by_cases h5 : (5 : Int) < xs.length
      · rw [decide_eq_true h5]
        refine iteT ?_
        have := k H (Ex.refl H)
        rwa [decide_eq_false (p := xs.length ≤ 5) (by omega), Bool.false_and] at this
      · rw [decide_eq_false h5]
        refine iteF ⟨_, rfl, a, rfl, ⟨xs, e⟩, hT2, fun H2 hT => ?_⟩
        have x2 := Ex.tabd hT hT2
        refine gw_tup isNameV (x2.tup e) (fun y H3 hy x3 R hR => ?_) fun H3 x3 => ?_
        · exact ⟨_, rfl, y, rfl, (q y hy).ex (x2.trans x3), (x2.trans x3).tab _ hT1, fun H4 x4 => hR H4 (x3.trans x4)⟩
        · have := k H3 (x2.trans x3)
          rwa [decide_eq_true (p := xs.length ≤ 5) (by omega), Bool.true_and] at this
theorem scCheckPath : FnScope ["thing"] ["thing"] (defScope sCheckPath) := ⟨rfl, rfl, rfl, by decide +kernel, rfl, by decide +kernel, by decide +kernel⟩
theorem ok_checkPath {f f2 P1 P2 C : Addr} {fd fd2 : FuncData} (F : Fun K "check_path" "check_path" sCheckPath f fd) (R : Ref K mg "NoPath" C)
    (G2 : FnOk P w K mg base CX0 5 f2 fd2 ["thing"] (spIsPath K P1 P2)) (m2 : mg "is_path" = some (.ref f2)) (k2 : PySem.W.keepIn K (.ref f2) = true) (b2 : Binds K fd2 ["thing"] []) :
    FnOk P w K mg base (L2.CX P w) 6 f fd ["thing"] (spCheck K P1 P2 C) := by
  refine F.okX scCheckPath (fun vs H Q E h => ?_) (fun cdv A outer s H vs Q E hr h => ?_)
  · obtain ⟨v, b, rfl, _⟩ := h
    rfl
  · obtain ⟨v, b, rfl, pb, hT1, hT2, kt, kf⟩ := h
    refine ⟨_, pss_one (ps_if (pt_not (pt_val (pe_call (E := E0) G2 hr (by rfl) m2 k2 b2 .nil pass0 (pa_cons (pv 0) pa_nil))))
      (pss_one (ps_raise rfl (takes_of rfl rfl rfl rfl) (pmk_own PySem.F.excBase_ValueError R.x R.g R.k (raises_own R.b R.t) rfl))) pss_nil), ?_⟩
    refine ⟨_, rfl, v, b, rfl, pb, hT1, hT2, fun H' x => ⟨_, rfl, ?_⟩⟩
    cases b with
    | true => exact iteF (kt rfl H' x)
    | false => exact iteT (kf rfl H' x)
end
/-- above, its answer a tuple that may be asked as a key -/
def spAboveX (K : PySem.W.Frag) (P1 P2 C : Addr) : Sp := fun vs H Q E => ∃ v, vs = [v] ∧ TabG H P1 ∧ TabG H P2 ∧
  PathOr K H v (Refused H E C) fun _ p => ∀ H' r, Ex H H' → (p = [] ∧ r = .non ∨ p ≠ [] ∧ ∃ q, r = .ref q ∧ PathX H' q p.dropLast) → Q r H'
section
variable {P : Program} {w : World} {K : PySem.W.Frag} {mg : Str → Option Value} {base : Heap}
theorem scAboveX : FnScope ["path"] ["path"] (defScope sAbove) := ⟨rfl, rfl, rfl, by decide +kernel, rfl, by decide +kernel, by decide +kernel⟩
theorem ok_aboveX {f f3 P1 P2 C : Addr} {fd fd3 : FuncData} (F : Fun K "above" "above" sAbove f fd)
    (G3 : FnOk P w K mg base (L2.CX P w) 6 f3 fd3 ["thing"] (spCheck K P1 P2 C)) (m3 : mg "check_path" = some (.ref f3)) (k3 : PySem.W.keepIn K (.ref f3) = true) (b3 : Binds K fd3 ["thing"] []) :
    FnOk P w K mg base (L2.CX P w) 7 f fd ["path"] (spAboveX K P1 P2 C) := by
  refine F.okX scAboveX (fun vs H Q E h => ?_) (fun cdv A outer s H vs Q E hr h => ?_)
  · obtain ⟨v, rfl, _⟩ := h
    rfl
  · obtain ⟨v, rfl, hT1, hT2, h⟩ := h
    refine ⟨_, pss_cons (ps_expr (pe_call (E := E) G3 hr (by rfl) m3 k3 b3 .nil (passes_call (takes_of rfl rfl rfl rfl) (fun _ _ _ _ h => h)) (pa_cons (pv 0) pa_nil)))
      (pss_one (ps_ret (pe_ifExp (pt_truth (pv 0) (by intro _; rfl)) (pe_slice sl_tupA (pv 0) po_none (po_some (pe_un un_neg pe_int))) pe_non))), ?_⟩
    rcases h with ⟨pb, hbad⟩ | ⟨a, p, rfl, pa, gp, k⟩
    · exact ⟨_, rfl, v, false, rfl, pb, hT1, hT2, (fun z => nomatch z), fun _ => hbad⟩
    · have pb := pa.b (goodPath_small gp)
      rw [gp] at pb
      refine ⟨_, rfl, .ref a, true, rfl, pb, hT1, hT2, fun _ H' x => ?_, fun z => nomatch z⟩
      have pa' := pa.ex x
      refine ⟨_, rfl, _, .inr (.inl ⟨p.map V.str, pa', rfl⟩), ?_⟩
      cases p with
      | nil => exact iteF (k H' _ x (.inl ⟨rfl, rfl⟩))
      | cons z q =>
        refine iteT ⟨_, rfl, 1, rfl, _, rfl, a, _, rfl, pa', fun hw => ?_, fun _ r hr => ?_⟩
        · exfalso
          have h2 := hw.2
          rw [sIx_last] at h2
          simp only [List.length_map, List.length_cons] at h2
          omega
        · have x2 := Ex.new (o := .tup (cutV ((z :: q).map V.str) none (some (-1)))) hr
          refine k _ _ (x.trans x2) (.inr ⟨by simp, r, rfl, ?_⟩)
          show _ = some (HO.tup ((z :: q).dropLast.map V.str))
          rw [upd_same]
          have e : cutV ((z :: q).map V.str) none (some (-1)) = (z :: q).dropLast.map V.str := by rw [cutV_last, List.map_dropLast]
          exact congrArg (fun l => some (HO.tup l)) e
end
section
variable {P : Program} {w : World} {K : PySem.W.Frag} {mg : Str → Option Value} {base : Heap}
/-- path[:n] -/
theorem slice_to {H : Hp} {a : Addr} {p : List Str} (n : Nat) (pa : PathAt K H a p) {R : VK} (h : ∀ H' r, Ex H H' → PathAt K H' r (p.take n) → R (.ref r) H') : rSlA K (.ref a) none (some (n : Int)) H R := by
  refine ⟨a, _, rfl, pa, fun hw => h H a (Ex.refl H) ?_, fun _ r hr => h _ r (Ex.new hr) ?_⟩
  · have h2 := hw.2
    rw [HT.sIx_nat, List.length_map] at h2
    rw [List.take_of_length_le (by omega)]
    exact pa
  · refine SqT.of ?_
    rw [upd_same, cutV_to, List.map_take]
theorem slice_from {H : Hp} {a : Addr} {p : List Str} (n : Nat) (pa : PathAt K H a p) {R : VK} (h : ∀ H' r, Ex H H' → PathAt K H' r (p.drop n) → R (.ref r) H') : rSlA K (.ref a) (some (n : Int)) none H R := by
  refine ⟨a, _, rfl, pa, fun hw => h H a (Ex.refl H) ?_, fun _ r hr => h _ r (Ex.new hr) ?_⟩
  · have h2 := hw.1
    rw [HT.sIx_nat, List.length_map] at h2
    cases n with
    | zero => exact pa
    | succ n =>
      have hp : p = [] := by
        cases p with
        | nil => rfl
        | cons z q => simp at h2
      subst hp
      exact pa
  · refine SqT.of ?_
    rw [upd_same, cutV_from, List.map_drop]
theorem slice_fromN {H : Hp} {a : Addr} {p : List Str} {σ : L2.St} (n : Nat) (pa : PathAt K H a p) {R : VK} (h : ∀ H' r, Ex H H' → PathAt K H' r (p.drop n) → R (.ref r) H') :
    tNoPart σ H (fun u H3 => rSlA K (.ref a) (some (n : Int)) u H3 R) := slice_from n pa h
end
section
variable {P : Program} {w : World} {K : PySem.W.Frag} {mg : Str → Option Value} {base : Heap}
theorem scBegins : FnScope ["path", "other"] ["path", "other"] (defScope sBegins) := ⟨rfl, rfl, rfl, by decide +kernel, rfl, by decide +kernel, by decide +kernel⟩
theorem ok_begins {f : Addr} {fd : FuncData} (F : Fun K "begins_with" "begins_with" sBegins f fd) (M : Mg mg) : FnOk P w K mg base CX0 1 f fd ["path", "other"] (spBegins K) := by
  refine F.ok scBegins (fun vs H Q E h => ?_) (fun cdv A outer s H vs Q E hr h => ?_)
  · obtain ⟨a, b, p, q, rfl, _⟩ := h
    rfl
  · obtain ⟨a, b, p, q, rfl, pa, pb, gp, gq, k⟩ := h
    refine ⟨_, pss_one (ps_ret (pe_cmpR (op_eqD hr.units) (pe_slice sl_tupA (pv 0) po_none (po_some (pe_callB call_len_seq (by rfl) M.len PySem.boot_len (pa_cons (pv 1) pa_nil)))) (pv 1) (nomark _))), ?_⟩
    refine ⟨_, rfl, _, rfl, b, _, rfl, .inr pb, _, rfl, ?_⟩
    rw [List.length_map]
    refine slice_to q.length pa fun H' r x pr => ?_
    refine ⟨_, rfl, pathD (p.take q.length), pathD q, pr.dp, (pb.ex x).dp, shaped_path (goodPath_ok (goodPath_take gp _)), shaped_path (goodPath_ok gq), ?_⟩
    rw [eqv_path]
    exact k H' x
end
section
variable {P : Program} {w : World} {K : PySem.W.Frag} {mg : Str → Option Value} {base : Heap}
theorem scWithin : FnScope ["path", "other"] ["path", "other"] (defScope sWithin) := ⟨rfl, rfl, rfl, by decide +kernel, rfl, by decide +kernel, by decide +kernel⟩
theorem ok_within {f f3 f4 P1 P2 C : Addr} {fd fd3 fd4 : FuncData} (F : Fun K "is_within" "is_within" sWithin f fd)
    (G3 : FnOk P w K mg base (L2.CX P w) 6 f3 fd3 ["thing"] (spCheck K P1 P2 C)) (m3 : mg "check_path" = some (.ref f3)) (k3 : PySem.W.keepIn K (.ref f3) = true) (b3 : Binds K fd3 ["thing"] [])
    (G4 : FnOk P w K mg base CX0 1 f4 fd4 ["path", "other"] (spBegins K)) (m4 : mg "begins_with" = some (.ref f4)) (k4 : PySem.W.keepIn K (.ref f4) = true) (b4 : Binds K fd4 ["path", "other"] []) :
    FnOk P w K mg base (L2.CX P w) 7 f fd ["path", "other"] (spWithin K P1 P2 C) := by
  refine F.okX scWithin (fun vs H Q E h => ?_) (fun cdv A outer s H vs Q E hr h => ?_)
  · obtain ⟨u, v, rfl, _⟩ := h
    rfl
  · obtain ⟨u, v, rfl, hT1, hT2, h⟩ := h
    refine ⟨_, pss_cons (ps_expr (pe_call (E := E) G3 hr (by rfl) m3 k3 b3 .nil (passes_call (takes_of rfl rfl rfl rfl) (fun _ _ _ _ h => h)) (pa_cons (pv 0) pa_nil)))
      (pss_cons (ps_expr (pe_call (E := E) G3 hr (by rfl) m3 k3 b3 .nil (passes_call (takes_of rfl rfl rfl rfl) (fun _ _ _ _ h => h)) (pa_cons (pv 1) pa_nil)))
      (pss_one (ps_ret (pe_and (pe_cmpR (op_neD hr.units) (pv 0) (pv 1) (nomark _)) (pe_one (pe_call (E := E0) G4 (hr.mono (by decide)) (by rfl) m4 k4 b4 .nil pass0 (pa_cons (pv 0) (pa_cons (pv 1) pa_nil)))))))), ?_⟩
    rcases h with ⟨pb, hbad⟩ | ⟨a, p, rfl, pa, gp, h⟩
    · exact ⟨_, rfl, u, false, rfl, pb, hT1, hT2, (fun z => nomatch z), fun _ => hbad⟩
    · have pb := pa.b (goodPath_small gp)
      rw [gp] at pb
      refine ⟨_, rfl, .ref a, true, rfl, pb, hT1, hT2, fun _ H1 x1 => ?_, fun z => nomatch z⟩
      rcases h with ⟨qb, hbad⟩ | ⟨b, q, rfl, qa, gq, k⟩
      · exact ⟨_, rfl, v, false, rfl, qb.ex x1, x1.tab _ hT1, x1.tab _ hT2, (fun z => nomatch z), fun _ H' x => hbad H' (x1.trans x)⟩
      · have qb := (qa.ex x1).b (goodPath_small gq)
        rw [gq] at qb
        refine ⟨_, rfl, .ref b, true, rfl, qb, x1.tab _ hT1, x1.tab _ hT2, fun _ H2 x2 => ?_, fun z => nomatch z⟩
        have x := x1.trans x2
        refine ⟨_, rfl, _, rfl, pathD p, pathD q, (pa.ex x).dp, (qa.ex x).dp, shaped_path (goodPath_ok gp), shaped_path (goodPath_ok gq), _, rfl, ?_⟩
        rw [eqv_path]
        by_cases e : p = q
        · rw [decide_eq_true e]
          refine iteF ?_
          have := k H2 x
          rwa [show withinB p q = false by unfold withinB; rw [decide_eq_false (p := p ≠ q) (fun z => z e)]; rfl] at this
        · rw [decide_eq_false e]
          refine iteT ⟨_, rfl, _, rfl, a, b, p, q, rfl, pa.ex x, qa.ex x, gp, gq, fun H3 x3 => ?_⟩
          have := k H3 (x.trans x3)
          rwa [show withinB p q = beginsB p q by unfold withinB; rw [decide_eq_true (p := p ≠ q) e]; rfl] at this
end
/-! ### is_text -/
structure MgT (mg : Str → Option Value) : Prop where
  signs : ∃ t, mg "SIGNS" = some (.str signsS t)
  mostSigns : ∃ t, mg "MOST_SIGNS" = some (.int 40 t)
def spIsText (K : PySem.W.Frag) (P1 : Addr) : Sp := fun vs H Q _ => ∃ v, vs = [v] ∧ Asked K H v ∧ TabG H P1 ∧ ∀ H', Ex H H' → Q (.bl (isTextV v)) H'
section
variable {P : Program} {w : World} {K : PySem.W.Frag} {mg : Str → Option Value} {base : Heap}
theorem scIsText : FnScope ["thing"] ["thing"] (defScope sIsText) := ⟨rfl, rfl, rfl, by decide +kernel, rfl, by decide +kernel, by decide +kernel⟩
theorem ok_isText {f c P1 : Addr} {fd : FuncData} (F : FunC K "is_text" "is_text" sIsText f fd c) (M : Mg mg) (MT : MgT mg) (TB : LamX.TabB base mg c P1) : FnOk P w K mg base CX0 3 f fd ["thing"] (spIsText K P1) := by
  refine F.ok scIsText (fun vs H Q E h => ?_) (fun A outer s H vs Q E hr h => ?_)
  · obtain ⟨v, rfl, _⟩ := h
    rfl
  · obtain ⟨v, rfl, ⟨n, kn, hz⟩, hT, k⟩ := h
    obtain ⟨tl, hl⟩ := MT.signs
    obtain ⟨tm, hm⟩ := MT.mostSigns
    refine ⟨_, pss_cons (ps_if (PW.pt (pw_or (pt_not (pt_val (pe_callB call_is (by rfl) M.isinstance boot_isinstance (pa_cons (pv 0) (pa_cons (pe_bltn (v := .ty "str") (by rfl) M.str (by decide +kernel) rfl) pa_nil)))))
        (pw_or1 (pt_cmpR op_gt (pe_callB call_len_str (by rfl) M.len PySem.boot_len (pa_cons (pv 0) pa_nil)) (pe_glob (v := .int 40) (by rfl) hm ⟨_, rfl⟩) (nomark _))))) (pss_one (ps_ret pe_bl)) pss_nil)
      (pss_one (ps_ret (pe_all (k := 1) (N := ["thing", "sign"]) (pad := 1) (j := 1) (x := "sign") (P := P1) hr rfl (by rfl) M.all TB rfl (gn_by (N0 := ["thing"]) (sc := defScope sIsText) (by decide +kernel)) (pi_str (pv 0))
        (fun A s H cl C code fp pn hr => pe_cmpR op_in_sign (pv 1) (pe_glob (v := .str signsS) (by rfl) hl ⟨_, rfl⟩) (by rfl))))), ?_⟩
    refine ⟨_, rfl, v, n, "str", rfl, kn, rfl, _, rfl, ?_⟩
    have done : isTextV v = false → Q (.bl false) H := fun e => by
      have := k H (Ex.refl H)
      rwa [e] at this
    by_cases hs : n = "str"
    · subst hs
      obtain ⟨z, rfl⟩ : ∃ z, v = .str z := kn.isStr
      rw [show isB "str" "str" = true by decide]
      refine iteF ⟨_, rfl, z, rfl, hz z rfl, _, _, rfl, rfl, _, rfl, ?_⟩
      by_cases h4 : (40 : Int) < z.length
      · rw [decide_eq_true h4]
        refine iteT (done ?_)
        show (decide (z.length ≤ 40) && allIn z signsS) = _
        rw [decide_eq_false (by omega), Bool.false_and]
      · rw [decide_eq_false h4]
        refine iteF ⟨_, rfl, z, rfl, hT, fun H2 hT2 => gw_str (fun c => decide (c ∈ signsS.cps.toList)) (fun c H3 x R hR => ⟨_, rfl, c, signsS, rfl, rfl, hR⟩) fun H3 x => ?_⟩
        have := k H3 ((Ex.tabd hT2 hT).trans x)
        rwa [show isTextV (.str z) = z.cps.toList.all (fun c => decide (c ∈ signsS.cps.toList)) by
          show (decide (z.length ≤ 40) && allIn z signsS) = _
          rw [decide_eq_true (by omega)]
          rfl] at this
    · rw [kn.notStr hs]
      refine iteT ?_
      exact done (kn.noText hs)
end
/-! ### things of a tree, as data -/
mutual
/-- no text is longer than a line -/
def smallD : PyData → Bool
  | .str z => decide (z.length ≤ sizeLine)
  | .list xs => smallAll xs
  | .tuple xs => smallAll xs
  | _ => true
def smallAll : List PyData → Bool
  | [] => true
  | x :: xs => smallD x && smallAll xs
end
def numB : PyData → Bool
  | .int n => decide (0 ≤ n) && decide (n ≤ 999)
  | _ => false
def textDB : PyData → Bool
  | .str z => textB z
  | _ => false
def headIs (word : Str) : PyData → Bool
  | .str z => decide (z = word)
  | _ => false
def kindB (word : Str) (many : Nat) : PyData → Bool
  | .tuple xs => decide (xs.length = many) && headIs word (xs.getD 0 .none)
  | _ => false
def partD (i : Nat) : PyData → PyData
  | .tuple xs => xs.getD i .none
  | _ => .none
def drawerB (d : PyData) : Bool := kindB "drawer" 1 d
def fileB (d : PyData) : Bool := kindB "file" 3 d && (numB (partD 1 d) && textDB (partD 2 d))
theorem Dp_kn {K : PySem.W.Frag} {H : Hp} {v : V} {d : PyData} (h : Dp K H v d) : ∃ n, Kn K H v n := by
  cases h with
  | non => exact ⟨_, .non⟩
  | bl b => exact ⟨_, .bl b⟩
  | int i => exact ⟨_, .int i⟩
  | str z => exact ⟨_, .str z⟩
  | lst e _ => exact ⟨_, .lst e⟩
  | tup e _ => exact ⟨_, .tup e⟩
theorem Dp_asked {K : PySem.W.Frag} {H : Hp} {v : V} {d : PyData} (h : Dp K H v d) (s : smallD d = true) : Asked K H v := by
  obtain ⟨n, k⟩ := Dp_kn h
  refine ⟨n, k, fun z e => ?_⟩
  subst e
  cases h with
  | str z =>
    unfold smallD at s
    exact of_decide_eq_true s
theorem Dp_text {K : PySem.W.Frag} {H : Hp} {v : V} {d : PyData} (h : Dp K H v d) : isTextV v = textDB d := by
  cases h <;> rfl
theorem dpAll_len {K : PySem.W.Frag} {H : Hp} : ∀ {vs : List V} {ds : List PyData}, DpAll K H vs ds → vs.length = ds.length
  | _, _, .nil => rfl
  | _, _, .cons _ t => by rw [List.length_cons, List.length_cons, dpAll_len t]
theorem dpAll_get {K : PySem.W.Frag} {H : Hp} : ∀ {vs : List V} {ds : List PyData} (i : Nat), DpAll K H vs ds → i < ds.length → ∃ v, vs[i]? = some v ∧ Dp K H v (ds.getD i .none)
  | _, _, i, .nil, h => absurd h (Nat.not_lt_zero _)
  | _, _, 0, .cons a _, _ => ⟨_, rfl, a⟩
  | _, _, i + 1, .cons _ t, h => dpAll_get i t (Nat.lt_of_succ_lt_succ h)
theorem smallAll_get : ∀ {ds : List PyData} (i : Nat), smallAll ds = true → i < ds.length → smallD (ds.getD i .none) = true
  | [], i, _, h => absurd h (Nat.not_lt_zero _)
  | d :: ds, 0, s, _ => by
    unfold smallAll at s
    exact (Bool.and_eq_true _ _ ▸ s).1
  | d :: ds, i + 1, s, h => by
    unfold smallAll at s
    exact smallAll_get i (Bool.and_eq_true _ _ ▸ s).2 (Nat.lt_of_succ_lt_succ h)
/-- the module's names that trees.py asks -/
structure MgR (mg : Str → Option Value) : Prop where
  int : mg "int" = none
  bool : mg "bool" = none
  dict : mg "dict" = none
  list : mg "list" = none
  lastNumber : ∃ t, mg "LAST_NUMBER" = some (.int 999 t)
  mostPaths : ∃ t, mg "MOST_PATHS" = some (.int 80 t)
def spIsNumber (K : PySem.W.Frag) : Sp := fun vs H Q _ => ∃ v d, vs = [v] ∧ Dp K H v d ∧ Q (.bl (numB d)) H
def spIsKind (K : PySem.W.Frag) : Sp := fun vs H Q _ => ∃ v d word many, vs = [v, .str word, .int (many : Nat)] ∧ 0 < many ∧ Dp K H v d ∧ Q (.bl (kindB word many d)) H
def spIsDrawer (K : PySem.W.Frag) : Sp := fun vs H Q _ => ∃ v d, vs = [v] ∧ Dp K H v d ∧ Q (.bl (drawerB d)) H
def spIsFile (K : PySem.W.Frag) (P3 : Addr) : Sp := fun vs H Q _ => ∃ v d, vs = [v] ∧ Dp K H v d ∧ smallD d = true ∧ TabG H P3 ∧ ∀ H', Ex H H' → Q (.bl (fileB d)) H'
section
variable {P : Program} {w : World} {K : PySem.W.Frag} {mg : Str → Option Value} {base : Heap}
theorem scIsNumber : FnScope ["thing"] ["thing"] (defScope sIsNumber) := ⟨rfl, rfl, rfl, by decide +kernel, rfl, by decide +kernel, by decide +kernel⟩
theorem ok_isNumber {f : Addr} {fd : FuncData} (F : Fun K "is_number" "is_number" sIsNumber f fd) (M : Mg mg) (R : MgR mg) : FnOk P w K mg base CX0 1 f fd ["thing"] (spIsNumber K) := by
  refine F.ok scIsNumber (fun vs H Q E h => ?_) (fun cdv A outer s H vs Q E hr h => ?_)
  · obtain ⟨v, d, rfl, _⟩ := h
    rfl
  · obtain ⟨v, d, rfl, hd, k⟩ := h
    obtain ⟨tl, hl⟩ := R.lastNumber
    refine ⟨_, pss_cons (ps_if (PW.pt (pw_or (pt_not (pt_val (pe_callB call_is (by rfl) M.isinstance boot_isinstance (pa_cons (pv 0) (pa_cons (pe_bltn (v := .ty "int") (by rfl) R.int (by decide +kernel) rfl) pa_nil)))))
        (pw_or1 (pt_val (pe_callB call_is (by rfl) M.isinstance boot_isinstance (pa_cons (pv 0) (pa_cons (pe_bltn (v := .ty "bool") (by rfl) R.bool (by decide +kernel) rfl) pa_nil))))))) (pss_one (ps_ret pe_bl)) pss_nil)
      (pss_one (ps_ret (pe_chain op_le op_le pe_int (pv 0) (pe_glob (v := .int 999) (by rfl) hl ⟨_, rfl⟩)))), ?_⟩
    obtain ⟨n, kn⟩ := Dp_kn hd
    refine ⟨_, rfl, v, n, "int", rfl, kn, rfl, _, rfl, ?_⟩
    have no : numB d = false → Q (.bl false) H := fun e => by rwa [e] at k
    cases hd with
    | int i =>
      cases kn
      rw [show isB "int" "int" = true by decide]
      refine iteF ⟨_, rfl, .int i, "int", "bool", rfl, .int i, rfl, _, rfl, ?_⟩
      rw [show isB "int" "bool" = false by decide]
      refine iteF ⟨_, rfl, 0, i, rfl, rfl, _, rfl, ?_⟩
      by_cases h0 : 0 ≤ i
      · rw [decide_eq_true h0]
        refine iteT ⟨i, 999, rfl, rfl, ?_⟩
        have : numB (.int i) = decide (i ≤ 999) := by
          show (decide (0 ≤ i) && decide (i ≤ 999)) = _
          rw [decide_eq_true h0, Bool.true_and]
        rwa [this] at k
      · rw [decide_eq_false h0]
        refine iteF (no ?_)
        show (decide (0 ≤ i) && decide (i ≤ 999)) = _
        rw [decide_eq_false h0, Bool.false_and]
    | bl b =>
      cases kn
      rw [show isB "bool" "int" = true by decide]
      refine iteF ⟨_, rfl, .bl b, "bool", "bool", rfl, .bl b, rfl, _, rfl, ?_⟩
      rw [show isB "bool" "bool" = true by decide]
      exact iteT (no rfl)
    | non =>
      cases kn
      exact iteT (no rfl)
    | str z =>
      cases kn
      exact iteT (no rfl)
    | lst e _ =>
      have : isB n "int" = false := kn.is (fun z => by
        subst z
        generalize hq : "int" = q at kn
        cases kn <;> exact absurd hq (by decide)) (fun z => by
        subst z
        generalize hq : "bool" = q at kn
        cases kn <;> exact absurd hq (by decide))
      rw [this]
      exact iteT (no rfl)
    | tup e _ =>
      have : isB n "int" = false := kn.is (fun z => by
        subst z
        generalize hq : "int" = q at kn
        cases kn <;> exact absurd hq (by decide)) (fun z => by
        subst z
        generalize hq : "bool" = q at kn
        cases kn <;> exact absurd hq (by decide))
      rw [this]
      exact iteT (no rfl)
end
/-! ### drawers and files -/
theorem kn_tuple {K : PySem.W.Frag} {H : Hp} {v : V} {d : PyData} (h : Dp K H v d) : (∃ a xs ds, v = .ref a ∧ d = .tuple ds ∧ SqT K H a xs ∧ DpAll K H xs ds) ∨ ((∀ ds, d ≠ .tuple ds) ∧ ∃ n, Kn K H v n ∧ n ≠ "tuple") := by
  cases h with
  | non => exact Or.inr ⟨fun ds z => (by cases z), _, .non, by decide⟩
  | bl b => exact Or.inr ⟨fun ds z => (by cases z), _, .bl b, by decide⟩
  | int i => exact Or.inr ⟨fun ds z => (by cases z), _, .int i, by decide⟩
  | str z => exact Or.inr ⟨fun ds z => (by cases z), _, .str z, by decide⟩
  | lst e _ => exact Or.inr ⟨fun ds z => (by cases z), _, .lst e, by decide⟩
  | tup e k => exact Or.inl ⟨_, _, _, rfl, rfl, e, k⟩
theorem kindB_not {word : Str} {many : Nat} {d : PyData} (h : ∀ ds, d ≠ .tuple ds) : kindB word many d = false := by
  cases d with
  | tuple xs => exact absurd rfl (h xs)
  | _ => rfl
section
variable {P : Program} {w : World} {K : PySem.W.Frag} {mg : Str → Option Value} {base : Heap}
theorem scIsKind : FnScope ["thing", "word", "many"] ["thing", "word", "many"] (defScope sIsKind) := ⟨rfl, rfl, rfl, by decide +kernel, rfl, by decide +kernel, by decide +kernel⟩
theorem ok_isKind {f : Addr} {fd : FuncData} (F : Fun K "is_kind" "is_kind" sIsKind f fd) (M : Mg mg) : FnOk P w K mg base CX0 1 f fd ["thing", "word", "many"] (spIsKind K) := by
  refine F.ok scIsKind (fun vs H Q E h => ?_) (fun cdv A outer s H vs Q E hr h => ?_)
  · obtain ⟨v, d, word, many, rfl, _⟩ := h
    rfl
  · obtain ⟨v, d, word, many, rfl, hm, hd, k⟩ := h
    refine ⟨_, pss_cons (ps_if (PW.pt (pw_or (pt_not (pt_val (pe_callB call_is (by rfl) M.isinstance boot_isinstance (pa_cons (pv 0) (pa_cons (pe_bltn (v := .ty "tuple") (by rfl) M.tuple (by decide +kernel) rfl) pa_nil)))))
        (pw_or1 (pt_cmpR op_ne (pe_callB call_len_seq (by rfl) M.len PySem.boot_len (pa_cons (pv 0) pa_nil)) (pv 2) (nomark _))))) (pss_one (ps_ret pe_bl)) pss_nil)
      (pss_one (ps_ret (pe_and (pe_callB call_is (by rfl) M.isinstance boot_isinstance (pa_cons (pe_ix ix_tup (pv 0) pe_int (fun _ _ => rfl)) (pa_cons (pe_bltn (v := .ty "str") (by rfl) M.str (by decide +kernel) rfl) pa_nil)))
        (pe_one (pe_cmpR op_eq (pe_ix ix_tup (pv 0) pe_int (fun _ _ => rfl)) (pv 1) (nomark _)))))), ?_⟩
    rcases kn_tuple hd with ⟨a, xs, ds, rfl, rfl, ha, hx⟩ | ⟨hn, n, kn, hnt⟩
    · refine ⟨_, rfl, .ref a, "tuple", "tuple", rfl, .tup ha, rfl, _, rfl, ?_⟩
      rw [show isB "tuple" "tuple" = true by decide]
      refine iteF ⟨_, rfl, a, xs, rfl, .inr ha, _, rfl, rfl, _, rfl, ?_⟩
      have hl := dpAll_len hx
      rw [dec_int]
      have kb : kindB word many (.tuple ds) = (decide (ds.length = many) && headIs word (ds.getD 0 .none)) := rfl
      rw [kb] at k
      by_cases e : ds.length = many
      · have e2 : (!((xs.length : Int) == (many : Int))) = false := by
          rw [hl, e, beq_self_eq_true]
          rfl
        rw [e2]
        rw [decide_eq_true e, Bool.true_and] at k
        obtain ⟨v0, h0, d0⟩ := dpAll_get 0 hx (by omega)
        have at0 : atI xs 0 = some v0 := at_of (j := 0) rfl h0
        refine iteF ⟨_, rfl, a, xs, 0, v0, rfl, rfl, ha, at0, ?_⟩
        generalize ds.getD 0 .none = dd at d0 k
        by_cases hs : ∃ z, dd = .str z
        · obtain ⟨z, rfl⟩ := hs
          cases d0
          refine ⟨.str z, "str", "str", rfl, .str z, rfl, _, rfl, ?_⟩
          rw [show isB "str" "str" = true by decide]
          refine iteT ⟨_, rfl, a, xs, 0, .str z, rfl, rfl, ha, at0, _, rfl, rfl, ?_⟩
          have e3 : headIs word (.str z) = decide (V.str z = V.str word) := decide_eq_decide.mpr ⟨fun e => by rw [e], fun e => by injection e⟩
          rwa [e3] at k
        · have hne : ∀ z, v0 ≠ .str z := fun z e => by
            subst e
            cases d0 with
            | str _ => exact hs ⟨_, rfl⟩
          have hk : headIs word dd = false := by
            cases dd with
            | str z => exact absurd ⟨z, rfl⟩ hs
            | _ => rfl
          obtain ⟨n, kn⟩ := Dp_kn d0
          refine ⟨v0, n, "str", rfl, kn, rfl, _, rfl, ?_⟩
          rw [kn.notStr (fun z => by
            subst z
            obtain ⟨y, e⟩ := kn.isStr
            exact hne y e)]
          refine iteF ?_
          rwa [hk] at k
      · have e2 : (!((xs.length : Int) == (many : Int))) = true := by
          have : ((xs.length : Int) == (many : Int)) = false := beq_eq_false_iff_ne.mpr (by omega)
          rw [this]
          rfl
        rw [e2]
        refine iteT ?_
        rwa [decide_eq_false e, Bool.false_and] at k
    · refine ⟨_, rfl, v, n, "tuple", rfl, kn, rfl, _, rfl, ?_⟩
      rw [kn.notTup hnt]
      refine iteT ?_
      rwa [kindB_not hn] at k
theorem scIsDrawer : FnScope ["thing"] ["thing"] (defScope sIsDrawer) := ⟨rfl, rfl, rfl, by decide +kernel, rfl, by decide +kernel, by decide +kernel⟩
theorem ok_isDrawer {f f1 : Addr} {fd fd1 : FuncData} (F : Fun K "is_drawer" "is_drawer" sIsDrawer f fd)
    (G1 : FnOk P w K mg base CX0 1 f1 fd1 ["thing", "word", "many"] (spIsKind K)) (m1 : mg "is_kind" = some (.ref f1)) (k1 : PySem.W.keepIn K (.ref f1) = true) (b1 : Binds K fd1 ["thing", "word", "many"] []) :
    FnOk P w K mg base CX0 2 f fd ["thing"] (spIsDrawer K) := by
  refine F.ok scIsDrawer (fun vs H Q E h => ?_) (fun cdv A outer s H vs Q E hr h => ?_)
  · obtain ⟨v, d, rfl, _⟩ := h
    rfl
  · obtain ⟨v, d, rfl, hd, k⟩ := h
    exact ⟨_, pss_one (ps_ret (pe_call (E := E0) G1 hr (by rfl) m1 k1 b1 .nil pass0 (pa_cons (pv 0) (pa_cons pe_str (pa_cons pe_int pa_nil))))), _, rfl, v, d, "drawer", 1, rfl, by decide, hd, k⟩
theorem scIsFile : FnScope ["thing"] ["thing"] (defScope sIsFile) := ⟨rfl, rfl, rfl, by decide +kernel, rfl, by decide +kernel, by decide +kernel⟩
theorem ok_isFile {f f1 f2 f3 P3 : Addr} {fd fd1 fd2 fd3 : FuncData} (F : Fun K "is_file" "is_file" sIsFile f fd)
    (G1 : FnOk P w K mg base CX0 1 f1 fd1 ["thing", "word", "many"] (spIsKind K)) (m1 : mg "is_kind" = some (.ref f1)) (k1 : PySem.W.keepIn K (.ref f1) = true) (b1 : Binds K fd1 ["thing", "word", "many"] [])
    (G2 : FnOk P w K mg base CX0 1 f2 fd2 ["thing"] (spIsNumber K)) (m2 : mg "is_number" = some (.ref f2)) (k2 : PySem.W.keepIn K (.ref f2) = true) (b2 : Binds K fd2 ["thing"] [])
    (G3 : FnOk P w K mg base CX0 3 f3 fd3 ["thing"] (spIsText K P3)) (m3 : mg "is_text" = some (.ref f3)) (k3 : PySem.W.keepIn K (.ref f3) = true) (b3 : Binds K fd3 ["thing"] []) :
    FnOk P w K mg base CX0 4 f fd ["thing"] (spIsFile K P3) := by
  refine F.ok scIsFile (fun vs H Q E h => ?_) (fun cdv A outer s H vs Q E hr h => ?_)
  · obtain ⟨v, d, rfl, _⟩ := h
    rfl
  · obtain ⟨v, d, rfl, hd, sd, hT, k⟩ := h
    have r1 := hr.mono (show 1 ≤ 3 by decide)
    refine ⟨_, pss_one (ps_ret (pe_and (pe_call (E := E0) G1 r1 (by rfl) m1 k1 b1 .nil pass0 (pa_cons (pv 0) (pa_cons pe_str (pa_cons pe_int pa_nil))))
      (pe_and (pe_call (E := E0) G2 r1 (by rfl) m2 k2 b2 .nil pass0 (pa_cons (pe_ix ix_tup (pv 0) pe_int (fun _ _ => rfl)) pa_nil))
      (pe_one (pe_call (E := E0) G3 hr (by rfl) m3 k3 b3 .nil pass0 (pa_cons (pe_ix ix_tup (pv 0) pe_int (fun _ _ => rfl)) pa_nil)))))), ?_⟩
    refine ⟨_, rfl, v, d, "file", 3, rfl, by decide, hd, _, rfl, ?_⟩
    have fb : fileB d = (kindB "file" 3 d && (numB (partD 1 d) && textDB (partD 2 d))) := rfl
    rw [fb] at k
    cases hk : kindB "file" 3 d with
    | false =>
      rw [hk, Bool.false_and] at k
      exact iteF (k H (Ex.refl H))
    | true =>
      rw [hk, Bool.true_and] at k
      rcases kn_tuple hd with ⟨a, xs, ds, rfl, rfl, ha, hx⟩ | ⟨hn, _⟩
      · have hl : ds.length = 3 := by
          have : (decide (ds.length = 3) && headIs "file" (ds.getD 0 .none)) = true := hk
          rw [Bool.and_eq_true] at this
          exact of_decide_eq_true this.1
        have hs : smallAll ds = true := by
          unfold smallD at sd
          exact sd
        obtain ⟨v1, h1, d1⟩ := dpAll_get 1 hx (by omega)
        obtain ⟨v2, h2, d2⟩ := dpAll_get 2 hx (by omega)
        refine iteT ⟨_, rfl, a, xs, 1, v1, rfl, rfl, ha, at_of (j := 1) rfl h1, v1, ds.getD 1 .none, rfl, d1, _, rfl, ?_⟩
        have p1 : partD 1 (.tuple ds) = ds.getD 1 .none := rfl
        have p2 : partD 2 (.tuple ds) = ds.getD 2 .none := rfl
        rw [p1, p2] at k
        cases hn1 : numB (ds.getD 1 .none) with
        | false =>
          rw [hn1, Bool.false_and] at k
          exact iteF (k H (Ex.refl H))
        | true =>
          rw [hn1, Bool.true_and] at k
          refine iteT ⟨_, rfl, a, xs, 2, v2, rfl, rfl, ha, at_of (j := 2) rfl h2, v2, rfl, Dp_asked d2 (smallAll_get 2 hs (by omega)), hT, fun H' x => ?_⟩
          rw [Dp_text d2]
          exact k H' x
      · rw [kindB_not hn] at hk
        cases hk
end
/-! ### drawers above, one text each -/
def drawerAt (es : Ents) (p : List Str) : Bool := match valE es p with
  | some d => drawerB d
  | none => false
def roofB (es : Ents) : Bool := drawerAt es [] && es.all fun e => decide (e.1 = []) || drawerAt es e.1.dropLast
/-- a tuple that begins with a text -/
def headedD (d : PyData) : Prop := ∃ w ds, d = .tuple (.str w :: ds)
def dirD (d : PyData) : Bool := headIs "drawer" (partD 0 d)
def dirAt (es : Ents) (p : List Str) : Bool := match valE es p with
  | some d => dirD d
  | none => false
def roofH (es : Ents) : Bool := dirAt es [] && es.all fun e => decide (e.1 = []) || dirAt es e.1.dropLast
theorem valE_mem {es : Ents} {p : List Str} {D : PyData} (h : valE es p = some D) : ∃ e ∈ es, e.1 = p ∧ e.2 = D := by
  unfold valE at h
  obtain ⟨e, h1, h2⟩ := Option.map_eq_some_iff.mp h
  exact ⟨e, List.mem_of_find?_eq_some h1, of_decide_eq_true (List.find?_some (p := fun e : List Str × PyData => decide (e.1 = p)) h1), h2⟩
theorem kind_headed {word : Str} {many : Nat} {d : PyData} (hm : 0 < many) (h : kindB word many d = true) : ∃ ds, d = .tuple (.str word :: ds) := by
  cases d with
  | tuple ds =>
    have : (decide (ds.length = many) && headIs word (ds.getD 0 .none)) = true := h
    rw [Bool.and_eq_true] at this
    obtain ⟨h1, h2⟩ := this
    have hl := of_decide_eq_true h1
    cases ds with
    | nil => exact absurd hl (by show ¬ (0 = many); omega)
    | cons x ds =>
      cases x with
      | str z =>
        have : z = word := of_decide_eq_true h2
        exact ⟨ds, by rw [this]⟩
      | _ => exact absurd (show false = true from h2) Bool.false_ne_true
  | _ => exact absurd (show false = true from h) Bool.false_ne_true
theorem file_kind {d : PyData} (h : fileB d = true) : kindB "file" 3 d = true := by
  unfold fileB at h
  exact (Bool.and_eq_true _ _ ▸ h).1
theorem tree_headed {d : PyData} (h : drawerB d = true ∨ fileB d = true) : headedD d := by
  rcases h with h | h
  · obtain ⟨ds, e⟩ := kind_headed (by decide) (show kindB "drawer" 1 d = true from h)
    exact ⟨_, _, e⟩
  · obtain ⟨ds, e⟩ := kind_headed (by decide) (file_kind h)
    exact ⟨_, _, e⟩
theorem dir_tree {d : PyData} (h : drawerB d = true ∨ fileB d = true) : dirD d = drawerB d := by
  rcases h with h | h
  · obtain ⟨ds, e⟩ := kind_headed (by decide) (show kindB "drawer" 1 d = true from h)
    rw [h, e]
    rfl
  · obtain ⟨ds, e⟩ := kind_headed (by decide) (file_kind h)
    have : drawerB d = false := by
      rw [e]
      show (decide _ && headIs "drawer" (.str "file")) = false
      rw [show headIs "drawer" (.str "file") = false by decide +kernel, Bool.and_false]
    rw [this, e]
    show headIs "drawer" (.str "file") = false
    decide +kernel
theorem roof_tree {es : Ents} (h : ∀ e ∈ es, drawerB e.2 = true ∨ fileB e.2 = true) : roofH es = roofB es := by
  have e : dirAt es = drawerAt es := by
    funext p
    unfold dirAt drawerAt
    cases hv : valE es p with
    | none => rfl
    | some d =>
      obtain ⟨x, hx, _, rfl⟩ := valE_mem hv
      exact dir_tree (h x hx)
  unfold roofH roofB
  rw [e]
/-- the places that are asked: the root, and what is above each path -/
def topsOf (es : Ents) : List (List Str) := [] :: (es.filter fun e => !decide (e.1 = [])).map fun e => e.1.dropLast
theorem topsOf_allF (es : Ents) (f : List Str → Bool) : (topsOf es).all f = (f [] && es.all fun e => decide (e.1 = []) || f e.1.dropLast) := by
  unfold topsOf
  rw [List.all_cons]
  congr 1
  induction es with
  | nil => rfl
  | cons e es ih =>
    rw [List.all_cons, ← ih]
    by_cases h : e.1 = []
    · rw [List.filter_cons_of_neg (by rw [decide_eq_true h]; decide), decide_eq_true h, Bool.true_or, Bool.true_and]
    · rw [List.filter_cons_of_pos (by rw [decide_eq_false h]; rfl), List.map_cons, List.all_cons, decide_eq_false h, Bool.false_or]
theorem topsOf_all (es : Ents) : (topsOf es).all (dirAt es) = roofH es := topsOf_allF es _
/-- what is above the first n paths -/
def aboveOf (es : Ents) : List (List Str) := (es.filter fun e => !decide (e.1 = [])).map fun e => e.1.dropLast
theorem aboveOf_snoc (es : Ents) (e : List Str × PyData) : aboveOf (es ++ [e]) = if e.1 = [] then aboveOf es else aboveOf es ++ [e.1.dropLast] := by
  unfold aboveOf
  by_cases h : e.1 = []
  · rw [if_pos h, List.filter_append, List.filter_cons_of_neg (by rw [decide_eq_true h]; decide), List.filter_nil, List.append_nil]
  · rw [if_neg h, List.filter_append, List.filter_cons_of_pos (by rw [decide_eq_false h]; rfl), List.filter_nil, List.map_append]
    rfl
def spHasDrawers (K : PySem.W.Frag) (P1 P2 P4 : Addr) : Sp := fun vs H Q _ => ∃ d es, vs = [.ref d] ∧ TrAt K H d es ∧ (∀ e ∈ es, goodPath e.1 = true ∧ headedD e.2) ∧ es.length ≤ 1000 ∧ TabG H P1 ∧ TabG H P2 ∧ TabG H P4 ∧ ∀ H', Ex H H' → Q (.bl (roofH es)) H'
section
variable {P : Program} {w : World} {K : PySem.W.Frag} {mg : Str → Option Value} {base : Heap}
abbrev hdN : List Str := ["tree", "tops", "path"]
theorem scHasDrawers : FnScope hdN ["tree"] (defScope sHasDrawers) := ⟨rfl, rfl, rfl, by decide +kernel, rfl, by decide +kernel, by decide +kernel⟩
theorem ok_hasDrawers {f c fA P1 P2 P4 C : Addr} {fd fdA : FuncData} (F : FunC K "has_drawers_above" "has_drawers_above" sHasDrawers f fd c) (M : Mg mg) (TB : LamX.TabB base mg c P4)
    (GA : FnOk P w K mg base (L2.CX P w) 7 fA fdA ["path"] (spAboveX K P1 P2 C)) (mA : mg "above" = some (.ref fA)) (kA : PySem.W.keepIn K (.ref fA) = true) (bA : Binds K fdA ["path"] []) :
    FnOk P w K mg base CX0 8 f fd ["tree"] (spHasDrawers K P1 P2 P4) := by
  refine F.ok scHasDrawers (fun vs H Q E h => ?_) (fun A outer s H vs Q E hr h => ?_)
  · obtain ⟨d, es, rfl, _⟩ := h
    rfl
  · obtain ⟨d, es, rfl, ⟨kvs, hd, row⟩, hg, hl, hT1, hT2, hT4, k⟩ := h
    have r4 := hr.mono (show 4 ≤ 7 by decide)
    refine ⟨_, pss_cons (ps_set (i := 1) scHasDrawers.nd rfl (Or.inl rfl) (pe_op op_cat (pe_lst (pa_cons (pe_tup pa_nil) pa_nil))
        (pe_lockR (pe_lc (own := [("path", 2)]) (g := gName 2) (tt := tTru K (tVar 2)) rfl scHasDrawers.nd (pi_keys (pv 0)) (blkOk_by (N := hdN) (sc := defScope sHasDrawers) (by decide +kernel)) (fun _ _ _ _ _ => pg_name (i := 2) scHasDrawers.nd rfl (Or.inl rfl))
          (fun _ _ _ _ _ => pts_truth (pv 2) (by intro _; rfl)) (fun _ _ _ _ _ => pe_call (E := E0) GA hr (by rfl) mA kA bA .nil passL (pa_cons (pv 2) pa_nil))))))
      (pss_one (ps_ret (pe_all (k := 3) (N := ["tree", "tops", "path", "top"]) (pad := 1) (j := 3) (x := "top") (P := P4) r4 rfl (by rfl) M.all TB rfl (gn_by (N0 := hdN) (sc := defScope sHasDrawers) (by decide +kernel)) (pi_list (pv 1))
        (fun A s H cl C code fp pn hr => pe_and (pe_cmp (pc_din (by have := hr.units; show A.units + 1 < cLine; omega) (pv 3) (pv 0))) (pe_one (pe_cmpR op_eq (pe_ix (r := rIxT K) ix_tup (pe_dget (by have := hr.units; show A.units + 1 < cLine; omega) (pv 0) (pv 3) (fun _ _ => rfl)) pe_int (fun _ _ => rfl)) pe_str (nomark _))))))), ?_⟩
    -- the root in a list
    refine ⟨Nat.zero_le _, fun p0 h0 => ⟨(by show 1 ≤ sizeLine; decide), fun p1 h1 => ?_⟩⟩
    have xa := (Ex.new (o := .tup []) h0).trans (Ex.new (o := .lst [.ref p0]) h1)
    have t0 : PathX (upd (upd H p0 (.tup [])) p1 (.lst [.ref p0])) p0 [] := PathX.ex (Ex.new h1) upd_same
    have l1 : (upd (upd H p0 (.tup [])) p1 (.lst [.ref p0])) p1 = some (.lst [.ref p0]) := upd_same
    generalize upd (upd H p0 (.tup [])) p1 (.lst [.ref p0]) = Ha at xa t0 l1 ⊢
    have hd1 : Rd Ha d (.dT kvs) := xa.rd hd (fun ps z => by cases z)
    -- what is above each path
    refine lock_go hd1 fun H1 od R lk lt lf ld hR => ⟨_, rfl, d, od, rfl, .inr ⟨kvs, ld, fun D hD => ?_⟩⟩
    have hDd : D ≠ d := fun z => by
      rw [z, ld] at hD
      cases hD
    refine lc_it walk_keysT (fun i G => Ex H1 G ∧ ∃ rs : List Addr, G D = some (.lst (rs.map V.ref)) ∧ rs.length ≤ i ∧ Paired (fun r p => PathX G r p) rs (aboveOf (es.take i)))
      ⟨Ex.new hD, [], upd_same, Nat.le_refl _, .nil⟩ (fun i G _ h => h.1.keep _ _ ld (fun ps z => by cases z)) ?_ ?_
    · rintro i x G G' hi ⟨xg, rs, hrs, hlen, hp⟩ ⟨rfl, kk, v, q, hk, rfl, hq⟩
      obtain ⟨en, hen, ek, _⟩ := row.get hk
      have ek : kk = en.1.map Sum.inr := ek
      rw [ek] at hq
      have pq : PathX G' q en.1 := PathX.of_key hq
      have hes : i < es.length := by rw [← row.len]; exact hi
      have etake : es.take (i + 1) = es.take i ++ [en] := by rw [List.take_add_one, hen]; rfl
      have hgo := (hg en (List.mem_of_getElem? hen)).1
      by_cases hn : en.1 = []
      · rw [hn] at pq
        refine ⟨rfl, _, rfl, false, .inr (.inl ⟨[], SqT.of pq, rfl⟩), ?_⟩
        refine iteF ⟨xg, rs, hrs, by omega, ?_⟩
        rw [etake, aboveOf_snoc, if_pos hn]
        exact hp
      · refine ⟨rfl, _, rfl, true, .inr (.inl ⟨en.1.map V.str, SqT.of pq, ?_⟩), ?_⟩
        · cases h : en.1 with
          | nil => exact absurd h hn
          | cons z r => rfl
        refine iteT ⟨_, rfl, .ref q, rfl, xg.tab _ (lt _ (xa.tab _ hT1)), xg.tab _ (lt _ (xa.tab _ hT2)), .inr ⟨q, en.1, rfl, pq.at, hgo, fun G2 r x2 hr2 => ?_⟩⟩
        rcases hr2 with ⟨h, _⟩ | ⟨_, r, rfl, pr⟩
        · exact absurd h hn
        have hrs2 := x2.keep _ _ hrs (fun ps z => by cases z)
        have stay : ∀ {u : Addr} {t : List Str}, PathX G2 u t → PathX (upd G2 D (.lst (rs.map V.ref ++ [.ref r]))) u t := fun {u t} h => by
          show upd _ _ _ _ = _
          rw [upd_ne (ne_of h hrs2 (fun z => by cases z))]
          exact h
        refine ⟨rs.map V.ref, hrs2, ?_, (xg.trans x2).put hD, rs ++ [r], ?_, ?_, ?_⟩
        · rw [List.length_map, sizeLine_eq]
          omega
        · rw [upd_same, List.map_append]
          rfl
        · rw [List.length_append, List.length_singleton]
          omega
        · rw [etake, aboveOf_snoc, if_neg hn]
          exact pairSnoc (F := fun r q => PathX _ r q) (stay pr) (pairImp (fun u t h => stay (PathX.ex x2 h)) hp)
    · rintro G ⟨xg, rs, hrs, hlen, hp⟩
      refine hR (.ref D) G xg fun H2 x2 kp => ?_
      have hrs2 := kp D _ hrs hDd
      have hp2 : Paired (fun r p => PathX H2 r p) rs (aboveOf (es.take kvs.length)) := pairImp (fun u t h => kp u _ h fun z => by
        have hdG := xg.keep _ _ ld (fun ps z => by cases z)
        have h' : G u = some (.tup (t.map V.str)) := h
        rw [z, hdG] at h'
        cases h') hp
      rw [row.len, List.take_length] at hp2
      have l2 := x2.keep _ _ l1 (fun ps z => by cases z)
      refine ⟨p1, D, [.ref p0], rs.map V.ref, rfl, rfl, l2, hrs2, ?_, fun p hp3 => ?_⟩
      · rw [List.length_map, sizeLine_eq, row.len] at *
        show 1 + rs.length ≤ _
        omega
      have x3 := Ex.new (o := .lst ([.ref p0] ++ rs.map V.ref)) hp3
      have all3 : Paired (fun u t => PathX (upd H2 p (.lst ([.ref p0] ++ rs.map V.ref))) u t) (p0 :: rs) (topsOf es) := .cons ((t0.ex x2).ex x3) (pairImp (fun _ _ h => PathX.ex x3 h) hp2)
      have l3 : (upd H2 p (.lst ([.ref p0] ++ rs.map V.ref))) p = some (.lst ((p0 :: rs).map V.ref)) := upd_same
      have x0 := (xa.trans x2).trans x3
      generalize upd H2 p (.lst ([.ref p0] ++ rs.map V.ref)) = H3 at all3 l3 x0 ⊢
      refine ⟨_, rfl, p, rfl, ⟨_, SqL.of l3⟩, x0.tab _ hT4, fun H4 hT => ?_⟩
      have x4 := x0.trans (Ex.tabd hT (x0.tab _ hT4))
      have xt := Ex.tabd hT (x0.tab _ hT4)
      have l4 := xt.keep _ _ l3 (fun ps z => by cases z)
      refine gw_lst (xs := (p0 :: rs).map V.ref) (fun i => dirAt es ((topsOf es).getD i [])) (SqL.of l4) (fun G x => SqL.of (x.keep _ _ l4 (fun ps z => by cases z))) ?_ ?_
      · intro i y G5 hy x5 R5 hR5
        rw [List.getElem?_map] at hy
        obtain ⟨r, hr5, rfl⟩ := Option.map_eq_some_iff.mp hy
        obtain ⟨t, ht, pt⟩ := paired_get all3 hr5
        have px : PathX G5 r t := (PathX.ex xt pt).ex x5
        have hd5 : Rd G5 d (.dT kvs) := (x4.trans x5).rd hd (fun ps z => by cases z)
        have row5 := row.ex (x4.trans x5)
        have et : (topsOf es).getD i [] = t := by rw [List.getD_eq_getElem?_getD, ht]; rfl
        rw [et] at hR5
        refine ⟨_, rfl, _, rfl, d, _, rfl, get_tr hd5 px, _, rfl, ?_⟩
        rcases row5.val (p := t) with ⟨e1, e2⟩ | ⟨v, D0, e1, e2, dv⟩
        · rw [e1]
          refine iteF ?_
          have := hR5 G5 x5
          rwa [show dirAt es t = false by unfold dirAt; rw [e2]] at this
        · rw [e1]
          obtain ⟨en, hen, _, rfl⟩ := valE_mem e2
          obtain ⟨wd, ds, ed⟩ := (hg en hen).2
          rw [ed] at dv
          rcases kn_tuple dv with ⟨a0, ys, ds', rfl, ed', ha, hy⟩ | ⟨hn, _⟩
          rotate_left
          · exact absurd rfl (hn _)
          cases ed'
          obtain ⟨w0, at0, d0⟩ := dpAll_get 0 hy (by simp)
          cases d0
          refine iteT ⟨_, rfl, _, rfl, d, .ref a0, rfl, by have := get_tr hd5 px; rwa [e1] at this, a0, ys, 0, .str wd, rfl, rfl, ha, at_of (j := 0) rfl at0, rfl, ?_⟩
          have := hR5 G5 x5
          rwa [show dirAt es t = decide (V.str wd = V.str "drawer") by
            unfold dirAt
            rw [e2, ed]
            exact decide_eq_decide.mpr ⟨fun e => by rw [e], fun e => by injection e⟩] at this
      · intro G5 x5
        have := k G5 (x4.trans x5)
        have e : (List.range ((p0 :: rs).map V.ref).length).all (fun i => dirAt es ((topsOf es).getD i [])) = roofH es := by
          rw [List.length_map, all3.length, ← topsOf_all]
          exact all_of_range (dirAt es) (topsOf es) _ fun i x e => by rw [List.getD_eq_getElem?_getD, e]; rfl
        rwa [e]
end
/-! ### one text to each number -/
def textsGo : List (L2.Key × V) → List PyData → Bool
  | _, [] => true
  | seen, d :: ds => if fileB d = true then
      (match partD 1 d, partD 2 d with
      | .int n, .str z => match valV seen (Sum.inl n) with
        | some (.str y) => if y = z then textsGo seen ds else false
        | some _ => false
        | none => textsGo (putK seen (Sum.inl n) (.str z)) ds
      | _, _ => false)
    else textsGo seen ds
def oneTextB (ds : List PyData) : Bool := textsGo [] ds
def spOneText (K : PySem.W.Frag) (P3 : Addr) : Sp := fun vs H Q _ => ∃ l xs ds, vs = [.ref l] ∧ SqL K H l xs ∧ (∀ H', Ex H H' → SqL K H' l xs) ∧ DpAll K H xs ds ∧ smallAll ds = true ∧ ds.length ≤ 1000 ∧ TabG H P3 ∧ ∀ H', Ex H H' → Q (.bl (oneTextB ds)) H'
theorem file_parts {d : PyData} (h : fileB d = true) : ∃ ds n z, d = .tuple ds ∧ ds.length = 3 ∧ partD 1 d = .int n ∧ partD 2 d = .str z ∧ ds.getD 1 .none = .int n ∧ ds.getD 2 .none = .str z := by
  unfold fileB at h
  simp only [Bool.and_eq_true] at h
  obtain ⟨h1, h2, h3⟩ := h
  cases d with
  | tuple ds =>
    have hl : ds.length = 3 := by
      have : (decide (ds.length = 3) && headIs "file" (ds.getD 0 .none)) = true := h1
      rw [Bool.and_eq_true] at this
      exact of_decide_eq_true this.1
    have p1 : partD 1 (.tuple ds) = ds.getD 1 .none := rfl
    have p2 : partD 2 (.tuple ds) = ds.getD 2 .none := rfl
    rw [p1] at h2
    rw [p2] at h3
    cases e1 : ds.getD 1 .none with
    | int n =>
      cases e2 : ds.getD 2 .none with
      | str z => exact ⟨ds, n, z, rfl, hl, p1.trans e1, p2.trans e2, e1, e2⟩
      | _ => rw [e2] at h3; exact absurd (show false = true from h3) Bool.false_ne_true
    | _ => rw [e1] at h2; exact absurd (show false = true from h2) Bool.false_ne_true
  | _ => exact absurd (show false = true from h1) Bool.false_ne_true
theorem textsGo_not {seen : List (L2.Key × V)} {d : PyData} {ds : List PyData} (h : fileB d = false) : textsGo seen (d :: ds) = textsGo seen ds := by
  rw [textsGo, if_neg (by rw [h]; decide)]
theorem textsGo_new {seen : List (L2.Key × V)} {d : PyData} {ds : List PyData} {n : Int} {z : Str} (h : fileB d = true) (h1 : partD 1 d = .int n) (h2 : partD 2 d = .str z) (hn : valV seen (Sum.inl n) = none) :
    textsGo seen (d :: ds) = textsGo (putK seen (Sum.inl n) (.str z)) ds := by
  rw [textsGo, if_pos h, h1, h2]
  simp only [hn]
theorem textsGo_old {seen : List (L2.Key × V)} {d : PyData} {ds : List PyData} {n : Int} {z y : Str} (h : fileB d = true) (h1 : partD 1 d = .int n) (h2 : partD 2 d = .str z) (hn : valV seen (Sum.inl n) = some (.str y)) :
    textsGo seen (d :: ds) = if y = z then textsGo seen ds else false := by
  rw [textsGo, if_pos h, h1, h2]
  simp only [hn]
section
variable {P : Program} {w : World} {K : PySem.W.Frag} {mg : Str → Option Value} {base : Heap}
abbrev otN : List Str := ["things", "texts", "thing"]
theorem scHasOneText : FnScope otN ["things"] (defScope sHasOneText) := ⟨rfl, rfl, rfl, by decide +kernel, rfl, by decide +kernel, by decide +kernel⟩
theorem ok_hasOneText {f fF P3 : Addr} {fd fdF : FuncData} (F : Fun K "has_one_text_each" "has_one_text_each" sHasOneText f fd)
    (GF : FnOk P w K mg base CX0 4 fF fdF ["thing"] (spIsFile K P3)) (mF : mg "is_file" = some (.ref fF)) (kF : PySem.W.keepIn K (.ref fF) = true) (bF : Binds K fdF ["thing"] []) :
    FnOk P w K mg base CX0 5 f fd ["things"] (spOneText K P3) := by
  refine F.ok scHasOneText (fun vs H Q E h => ?_) (fun cdv A outer s H vs Q E hr h => ?_)
  · obtain ⟨l, xs, ds, rfl, _⟩ := h
    rfl
  · obtain ⟨l, xs, ds, rfl, hl, hst, hx, hsm, hlen, hT, k⟩ := h
    refine ⟨_, pss_cons (ps_set (i := 1) scHasOneText.nd rfl (Or.inl rfl) pe_dnewK)
      (pss_cons (ps_for PassesOwn.never rfl (pi_list (pv 0)) (pg_name (i := 2) scHasOneText.nd rfl (Or.inl rfl))
        (pss_one (ps_if (PW.pt (pw_and (pt_val (pe_call (E := E0) GF hr (by rfl) mF kF bF .nil pass0 (pa_cons (pv 2) pa_nil)))
          (pw_and1 (pt_cmpR op_ne (pe_bm PySem.F.plainAttrs_dict PySem.F.slot_dict_setdefault PySem.F.type_dict_setdefault mt_setDef (pv 1) (pa_cons (pe_ix ix_tup (pv 2) pe_int (fun _ _ => rfl)) (pa_cons (pe_ix ix_tup (pv 2) pe_int (fun _ _ => rfl)) pa_nil)))
            (pe_ix ix_tup (pv 2) pe_int (fun _ _ => rfl)) (nomark _))))) (pss_one (ps_ret pe_bl)) pss_nil)))
      (pss_one (ps_ret pe_bl))), ?_⟩
    intro p hp
    have hld := dpAll_len hx
    have xp := Ex.new (o := .dK []) hp
    refine ⟨_, rfl, l, rfl, ⟨xs, hst _ xp⟩, for_it walk_list (fun i σ G => (∃ v, σ = [some (.ref l), some (.ref p), v]) ∧ Ex H G ∧ ∃ seen : List (L2.Key × V), G p = some (.dK seen) ∧ seen.length ≤ i ∧ (∀ k v, valV seen k = some v → ∃ z, v = .str z) ∧
      textsGo seen (ds.drop i) = oneTextB ds) ⟨⟨none, rfl⟩, xp, [], upd_same, Nat.le_refl _, (fun k v h => by cases h), rfl⟩ (fun i σ G _ h => hst G h.2.1) ?_ ?_⟩
    · rintro i x σ G G' hi ⟨⟨v, rfl⟩, xg, seen, hs, hsl, hstr, hgo⟩ ⟨rfl, hxi⟩
      obtain ⟨v', hv', dv⟩ := dpAll_get i hx (by rw [← hld]; exact hi)
      rw [hxi] at hv'
      cases hv'
      have hdrop : ds.drop i = ds.getD i .none :: ds.drop (i + 1) := by
        have hi2 : i < ds.length := by rw [← hld]; exact hi
        rw [List.drop_eq_getElem_cons hi2, List.getD_eq_getElem?_getD, List.getElem?_eq_getElem hi2]
        rfl
      have sm := smallAll_get i hsm (by rw [← hld]; exact hi)
      rw [hdrop] at hgo
      generalize ds.getD i .none = d at dv sm hgo
      have dv := Dp_ex xg dv
      refine ⟨_, rfl, x, d, rfl, dv, sm, xg.tab _ hT, fun G1 x1 => ?_⟩
      have hs1 := x1.keep _ _ hs (fun ps z => by cases z)
      have x01 := xg.trans x1
      cases hf : fileB d with
      | false =>
        rw [textsGo_not hf] at hgo
        refine ⟨_, rfl, iteF (iteF ⟨⟨_, rfl⟩, x01, seen, hs1, by omega, hstr, hgo⟩)⟩
      | true =>
        obtain ⟨fs, n, z, rfl, hl3, e1, e2, g1, g2⟩ := file_parts hf
        obtain ⟨a, ys, ds', rfl, ed, ha, hy⟩ | ⟨hn, _⟩ := kn_tuple (Dp_ex x1 dv)
        · cases ed
          obtain ⟨v1, at1, d1⟩ := dpAll_get 1 hy (by omega)
          obtain ⟨v2, at2, d2⟩ := dpAll_get 2 hy (by omega)
          rw [g1] at d1
          rw [g2] at d2
          cases d1
          cases d2
          have a1 : atI ys 1 = some (.int n) := at_of (j := 1) rfl at1
          have a2 : atI ys 2 = some (.str z) := at_of (j := 2) rfl at2
          have hl4 : seen.length < sizeLine := by
            rw [sizeLine_eq]
            omega
          refine ⟨_, rfl, iteT ⟨_, rfl, .inr (.inr (.inl ⟨rfl, .inl ⟨_, hs1⟩⟩)), _, rfl, a, ys, 1, .int n, rfl, rfl, ha, a1, _, rfl, a, ys, 2, .str z, rfl, rfl, ha, a2, p, seen, .inl n, .str z, rfl, rfl, hs1, hl4, fun y hyv => ?_, fun hnv => ?_⟩⟩
          · obtain ⟨y, rfl⟩ := hstr _ _ hyv
            rw [textsGo_old hf e1 e2 hyv] at hgo
            refine ⟨_, rfl, a, ys, 2, .str z, rfl, rfl, ha, a2, rfl, _, rfl, ?_⟩
            by_cases hyz : y = z
            · subst hyz
              rw [if_pos rfl] at hgo
              rw [decide_eq_true rfl]
              exact iteF ⟨⟨_, rfl⟩, x01, seen, hs1, by omega, hstr, hgo⟩
            · rw [if_neg hyz] at hgo
              rw [decide_eq_false (fun e => hyz (by injection e))]
              refine iteT ?_
              have := k G1 x01
              rwa [← hgo] at this
          · rw [textsGo_new hf e1 e2 hnv] at hgo
            have put : Ex H (upd G1 p (.dK (putK seen (Sum.inl n) (.str z)))) := x01.put hp
            have ha2 : SqT K (upd G1 p (.dK (putK seen (Sum.inl n) (.str z)))) a ys := by
              have hd1 : Rd G1 p (.dK seen) := Or.inl hs1
              rcases ha with (h | ⟨o, h⟩) | h
              · exact Or.inl (Or.inl (by rw [upd_ne (ne_of h hs1 (fun z => by cases z))]; exact h))
              · exact Or.inl (Or.inr ⟨o, by rw [upd_ne (ne_of h hs1 (fun z => by cases z))]; exact h⟩)
              · exact Or.inr h
            refine ⟨_, rfl, a, ys, 2, .str z, rfl, rfl, ha2, a2, rfl, _, rfl, ?_⟩
            rw [decide_eq_true rfl]
            refine iteF ⟨⟨_, rfl⟩, put, putK seen (Sum.inl n) (.str z), upd_same, ?_, fun k v hkv => ?_, hgo⟩
            · have := length_putK seen (Sum.inl n) (V.str z)
              omega
            · rw [valV_put] at hkv
              split at hkv
              · exact ⟨z, (Option.some.inj hkv).symm⟩
              · exact hstr k v hkv
        · exact absurd rfl (hn fs)
    · rintro σ G ⟨⟨v, rfl⟩, xg, seen, hs, hsl, hstr, hgo⟩
      have : ds.drop xs.length = [] := by rw [hld, List.drop_length]
      rw [this] at hgo
      have hk := k G xg
      rwa [← hgo] at hk
end
/-! ### is_tree -/
def treeB (es : Ents) : Bool := decide (es.length ≤ 80) && ((es.all fun e => goodPath e.1) && ((es.all fun e => drawerB e.2 || fileB e.2) && (roofB es && oneTextB (es.map (·.2)))))
/-- nothing in it is longer than a line -/
def smallE (es : Ents) : Prop := (∀ e ∈ es, (∀ z ∈ e.1, z.length ≤ sizeLine) ∧ smallD e.2 = true) ∧ es.length ≤ 1000
structure Tabs5 (H : Hp) (P1 P2 P3 P4 P5 : Addr) : Prop where
  t1 : TabG H P1
  t2 : TabG H P2
  t3 : TabG H P3
  t4 : TabG H P4
  t5 : TabG H P5
theorem Tabs5.ex {H H' : Hp} {P1 P2 P3 P4 P5 : Addr} (x : Ex H H') (T : Tabs5 H P1 P2 P3 P4 P5) : Tabs5 H' P1 P2 P3 P4 P5 := ⟨x.tab _ T.t1, x.tab _ T.t2, x.tab _ T.t3, x.tab _ T.t4, x.tab _ T.t5⟩
/-- is the thing a tree? -/
inductive TreeQ (K : PySem.W.Frag) (H : Hp) : V → Bool → Prop
  | dict {d : Addr} {es : Ents} (t : TrAt K H d es) (s : smallE es) : TreeQ K H (.ref d) (treeB es)
  | oth {v : V} {n : String} (k : Kn K H v n) (h : n ≠ "dict") : TreeQ K H v false
  | mix {d : Addr} {ob : Obj} {q : Addr} {z : Str} {p : List Str} (e : H d = some (mixO d ob q z)) (px : PathX H q p) (gp : goodPath p = true) : TreeQ K H (.ref d) false
theorem TreeQ.ex {K : PySem.W.Frag} {H H' : Hp} {v : V} {b : Bool} (x : Ex H H') (h : TreeQ K H v b) : TreeQ K H' v b := by
  cases h with
  | dict t s => exact .dict (t.ex x) s
  | oth k h => exact .oth (k.ex x) h
  | mix e px gp => exact .mix (x.keep _ _ e (fun ps z => by cases z)) (PathX.ex x px) gp
def rLenX : List V → Hp → VK → Prop := fun xs H Q => rLenR xs H Q ∨ rLenM xs H Q
theorem call_lenX {X : Cx} : CallR X (.builtin "len") rLenX := by
  intro pins s σ H xs us Q I r h
  rcases h with h | h
  · exact call_lenR pins s σ H xs us Q I r h
  · exact call_lenM pins s σ H xs us Q I r h
def spIsTree (K : PySem.W.Frag) (P1 P2 P3 P4 P5 : Addr) : Sp := fun vs H Q _ => ∃ v b, vs = [v] ∧ TreeQ K H v b ∧ Tabs5 H P1 P2 P3 P4 P5 ∧ ∀ H', Ex H H' → Q (.bl b) H'
def pathOf (k : List L2.Key) : List Str := k.map fun x => match x with
  | .inr z => z
  | .inl _ => ""
theorem pathOf_inr (p : List Str) : pathOf (p.map Sum.inr) = p := by
  unfold pathOf
  rw [List.map_map]
  exact List.map_id' p
theorem row_dpAll {K : PySem.W.Frag} {H : Hp} : ∀ {kvs : List (List L2.Key × V)} {es : Ents}, RowE K H kvs es → DpAll K H (kvs.map (·.2)) (es.map (·.2))
  | _, _, .nil => .nil
  | _, _, .cons a t => .cons a.2 (row_dpAll t)
theorem smallAll_of : ∀ {ds : List PyData}, (∀ d ∈ ds, smallD d = true) → smallAll ds = true
  | [], _ => by unfold smallAll; rfl
  | d :: ds, h => by
    unfold smallAll
    rw [h d (List.mem_cons_self ..), smallAll_of fun x hx => h x (List.mem_cons_of_mem _ hx)]
    rfl
section
variable {P : Program} {w : World} {K : PySem.W.Frag} {mg : Str → Option Value} {base : Heap}
abbrev itN : List Str := ["thing", "things"]
theorem scIsTree : FnScope itN ["thing"] (defScope sIsTree) := ⟨rfl, rfl, rfl, by decide +kernel, rfl, by decide +kernel, by decide +kernel⟩
theorem ok_isTree {f c fP fD fF fH fO P1 P2 P3 P4 P5 : Addr} {fd fdP fdD fdF fdH fdO : FuncData} (F : FunC K "is_tree" "is_tree" sIsTree f fd c) (M : Mg mg) (R : MgR mg) (TB : LamX.TabB base mg c P5)
    (GP : FnOk P w K mg base CX0 5 fP fdP ["thing"] (spIsPath K P1 P2)) (mP : mg "is_path" = some (.ref fP)) (kP : PySem.W.keepIn K (.ref fP) = true) (bP : Binds K fdP ["thing"] [])
    (GD : FnOk P w K mg base CX0 2 fD fdD ["thing"] (spIsDrawer K)) (mD : mg "is_drawer" = some (.ref fD)) (kD : PySem.W.keepIn K (.ref fD) = true) (bD : Binds K fdD ["thing"] [])
    (GF : FnOk P w K mg base CX0 4 fF fdF ["thing"] (spIsFile K P3)) (mF : mg "is_file" = some (.ref fF)) (kF : PySem.W.keepIn K (.ref fF) = true) (bF : Binds K fdF ["thing"] [])
    (GH : FnOk P w K mg base CX0 8 fH fdH ["tree"] (spHasDrawers K P1 P2 P4)) (mH : mg "has_drawers_above" = some (.ref fH)) (kH : PySem.W.keepIn K (.ref fH) = true) (bH : Binds K fdH ["tree"] [])
    (GO : FnOk P w K mg base CX0 5 fO fdO ["things"] (spOneText K P3)) (mO : mg "has_one_text_each" = some (.ref fO)) (kO : PySem.W.keepIn K (.ref fO) = true) (bO : Binds K fdO ["things"] []) :
    FnOk P w K mg base CX0 9 f fd ["thing"] (spIsTree K P1 P2 P3 P4 P5) := by
  refine F.ok scIsTree (fun vs H Q E h => ?_) (fun A outer s H vs Q E hr h => ?_)
  · obtain ⟨v, b, rfl, _⟩ := h
    rfl
  · obtain ⟨v, b, rfl, hq, T, k⟩ := h
    obtain ⟨tm, hm⟩ := R.mostPaths
    have r6 := hr.mono (show 6 ≤ 8 by decide)
    have r5 := hr.mono (show 5 ≤ 8 by decide)
    refine ⟨_, pss_cons (ps_if (PW.pt (pw_or (pt_not (pt_val (pe_callB call_isR (by rfl) M.isinstance boot_isinstance (pa_cons (pv 0) (pa_cons (pe_bltn (v := .ty "dict") (by rfl) R.dict (by decide +kernel) rfl) pa_nil)))))
        (pw_or1 (pt_cmpR op_gt (pe_callB call_lenX (by rfl) M.len PySem.boot_len (pa_cons (pv 0) pa_nil)) (pe_glob (v := .int 80) (by rfl) hm ⟨_, rfl⟩) (nomark _))))) (pss_one (ps_ret pe_bl)) pss_nil)
      (pss_cons (ps_if (pt_not (pt_val (pe_lockR (pe_all (k := 5) (N := ["thing", "things", "path"]) (pad := 1) (j := 2) (x := "path") (P := P5) r6 rfl (by rfl) M.all TB rfl (gn_by (N0 := itN) (sc := defScope sIsTree) (by decide +kernel)) (pi_keysX (pv 0))
          (fun A s H cl C code fp pn hr => pe_call (E := E0) GP hr (by rfl) mP kP bP .nil pass0 (pa_cons (pv 2) pa_nil)))))) (pss_one (ps_ret pe_bl)) pss_nil)
      (pss_cons (ps_set (i := 1) scIsTree.nd rfl (Or.inl rfl) (pe_callTy (call_listVals rfl) (by rfl) R.list (by decide +kernel) (pa_cons (pe_vals (pv 0)) pa_nil)))
      (pss_cons (ps_if (pt_not (pt_val (pe_all (k := 4) (N := ["thing", "things", "what"]) (pad := 1) (j := 2) (x := "what") (P := P5) r5 rfl (by rfl) M.all TB rfl (gn_by (N0 := itN) (sc := defScope sIsTree) (by decide +kernel)) (pi_list (pv 1))
          (fun A s H cl C code fp pn hr => pe_or (pe_call (E := E0) GD (hr.mono (by decide)) (by rfl) mD kD bD .nil pass0 (pa_cons (pv 2) pa_nil)) (pe_one (pe_call (E := E0) GF hr (by rfl) mF kF bF .nil pass0 (pa_cons (pv 2) pa_nil))))))) (pss_one (ps_ret pe_bl)) pss_nil)
      (pss_one (ps_ret (pe_and (pe_call (E := E0) GH hr (by rfl) mH kH bH .nil pass0 (pa_cons (pv 0) pa_nil)) (pe_one (pe_call (E := E0) GO r5 (by rfl) mO kO bO .nil pass0 (pa_cons (pv 1) pa_nil))))))))), ?_⟩
    cases hq with
    | oth kn hn =>
      rename_i n
      refine ⟨_, rfl, .inl ⟨v, n, "dict", rfl, kn, rfl, _, rfl, ?_⟩⟩
      rw [kn.is hn (fun _ => by decide)]
      exact iteT (k H (Ex.refl H))
    | mix e px gp =>
      rename_i d ob q z p
      refine ⟨_, rfl, .inl ⟨.ref d, "dict", "dict", rfl, .dX e (fun h x => mixO_dict x), rfl, _, rfl, ?_⟩⟩
      rw [show isB "dict" "dict" = true by decide]
      refine iteF ⟨_, rfl, .inr ⟨d, ob, q, z, rfl, e, _, _, rfl, rfl, _, rfl, ?_⟩⟩
      rw [decide_eq_false (show ¬ (80 : Int) < 2 by decide)]
      refine iteF (.inr (.inr ⟨_, rfl, d, ob, q, z, rfl, e, T.t5, fun H2 hT => ?_⟩))
      have x2 : Ex H H2 := Ex.tabd hT T.t5
      have e2 := x2.keep _ _ e (fun ps z => by cases z)
      refine gw_all (n := 2) (fun i => decide (i = 0)) (fun G x => ⟨x.keep _ _ e2 (fun ps z => by cases z), Nat.le_refl _⟩) (fun i G h x => ⟨x.keep _ _ e2 (fun ps z => by cases z), h⟩) ?_ fun G x => ?_
      · rintro i G y G' hi x ⟨rfl, hy⟩ R2 hR2
        rcases hy with ⟨rfl, rfl⟩ | ⟨rfl, rfl⟩
        · refine ⟨_, rfl, .ref q, true, rfl, ((PathX.ex (x2.trans x) px).at).yes gp, x.tab _ (x2.tab _ T.t1), x.tab _ (x2.tab _ T.t2), fun H' x' => hR2 H' (x.trans x')⟩
        · refine ⟨_, rfl, .str z, false, rfl, .oth (.str z) (by decide), x.tab _ (x2.tab _ T.t1), x.tab _ (x2.tab _ T.t2), fun H' x' => hR2 H' (x.trans x')⟩
      · refine ⟨_, rfl, ?_⟩
        rw [show ((List.range 2).all fun i => decide (i = 0)) = false by decide]
        exact iteT (k G (x2.trans x))
    | dict t sm =>
      rename_i d es
      obtain ⟨kvs, hd, row⟩ := t
      obtain ⟨sm1, sm2⟩ := sm
      refine ⟨_, rfl, .inr ⟨d, kvs, rfl, hd, _, rfl, iteF ⟨_, rfl, .inl ⟨d, kvs, rfl, hd, _, _, rfl, rfl, _, rfl, ?_⟩⟩⟩⟩
      have hl := row.len
      by_cases h80 : (80 : Int) < ((kvs.length : Nat) : Int)
      · rw [decide_eq_true h80]
        refine iteT ?_
        have := k H (Ex.refl H)
        rwa [show treeB es = false by
          unfold treeB
          rw [decide_eq_false (p := es.length ≤ 80) (by omega), Bool.false_and]] at this
      rw [decide_eq_false h80]
      refine iteF ?_
      have e80 : decide (es.length ≤ 80) = true := decide_eq_true (by omega)
      -- the paths
      refine lock_go hd fun H1 od R' lk lt lf ld hR => .inl ⟨_, rfl, d, od, rfl, .inr ⟨kvs, ld, lt _ T.t5, fun H2 hT => ?_⟩⟩
      have x12 : Ex H1 H2 := Ex.tabd hT (lt _ T.t5)
      have ld2 := x12.keep _ _ ld (fun ps z => by cases z)
      refine gw_keysT (fun kv => goodPath (pathOf kv.1)) ld2 (fun kv q G hm x hq R2 hR2 => ?_) fun G x => ?_
      · obtain ⟨i, hi⟩ := List.mem_iff_getElem?.mp hm
        obtain ⟨en, hen, ek, _⟩ := row.get hi
        rw [ek] at hq
        have px : PathX G q en.1 := PathX.of_key hq
        refine ⟨_, rfl, .ref q, _, rfl, px.at.b (sm1 en (List.mem_of_getElem? hen)).1, x.tab _ (x12.tab _ (lt _ T.t1)), x.tab _ (x12.tab _ (lt _ T.t2)), fun H' x' => ?_⟩
        have := hR2 H' (x.trans x')
        rwa [ek, pathOf_inr] at this
      refine hR _ G (x12.trans x) fun H3 x3 kp => ⟨_, rfl, ?_⟩
      have eg : (kvs.all fun kv => goodPath (pathOf kv.1)) = es.all fun e => goodPath e.1 := RowE.all _ _ (fun kv e h1 _ => by rw [h1, pathOf_inr]) row
      rw [eg]
      cases hgood : (es.all fun e => goodPath e.1) with
      | false =>
        refine iteT ?_
        have := k H3 x3
        rwa [show treeB es = false by
          unfold treeB
          rw [hgood, Bool.false_and, Bool.and_false]] at this
      | true =>
        refine iteF ?_
        have T3 := T.ex x3
        have hd3 : Rd H3 d (.dT kvs) := x3.rd hd (fun ps z => by cases z)
        have row3 := row.ex x3
        -- what stands there
        refine ⟨_, rfl, d, kvs, rfl, hd3, fun p hp => ?_⟩
        have xv := Ex.new (o := valsO p d) hp
        refine ⟨p, d, kvs, rfl, upd_same, xv.rd hd3 (fun ps z => by cases z), fun l hl2 => ?_⟩
        have xl := Ex.new (o := .lst (kvs.map (·.2))) hl2
        have l1 : (upd (upd H3 p (valsO p d)) l (.lst (kvs.map (·.2)))) l = some (.lst (kvs.map (·.2))) := upd_same
        have x4 := xv.trans xl
        generalize upd (upd H3 p (valsO p d)) l (.lst (kvs.map (·.2))) = H4 at l1 x4 ⊢
        have T4 := T3.ex x4
        have row4 := row3.ex x4
        refine ⟨_, rfl, l, rfl, ⟨_, SqL.of l1⟩, T4.t5, fun H5 hT5 => ?_⟩
        have x5 := Ex.tabd hT5 T4.t5
        have l5 := x5.keep _ _ l1 (fun ps z => by cases z)
        have row5 := row4.ex x5
        have T5 := T4.ex x5
        have dps := row_dpAll row5
        refine gw_lst (xs := kvs.map (·.2)) (fun i => drawerB ((es.map (·.2)).getD i .none) || fileB ((es.map (·.2)).getD i .none)) (SqL.of l5) (fun G x => SqL.of (x.keep _ _ l5 (fun ps z => by cases z))) (fun i y G hy x R2 hR2 => ?_) fun G x => ?_
        · have hi : i < es.length := by
            have := (List.getElem?_eq_some_iff.mp hy).1
            rw [List.length_map] at this
            omega
          obtain ⟨v', hv', dv⟩ := dpAll_get i dps (by rw [List.length_map]; exact hi)
          rw [hy] at hv'
          cases hv'
          have hm : (es.map (·.2)).getD i .none ∈ es.map (·.2) := by
            rw [List.getD_eq_getElem?_getD, List.getElem?_eq_getElem (by rw [List.length_map]; exact hi)]
            exact List.getElem_mem _
          have sd : smallD ((es.map (·.2)).getD i .none) = true := by
            obtain ⟨e, he, ee⟩ := List.mem_map.mp hm
            rw [← ee]
            exact (sm1 e he).2
          generalize (es.map (·.2)).getD i .none = D at dv sd hR2
          have dv := Dp_ex x dv
          refine ⟨_, rfl, y, D, rfl, dv, _, rfl, ?_⟩
          cases hdr : drawerB D with
          | true =>
            refine iteT ?_
            have := hR2 G x
            rwa [hdr, Bool.true_or] at this
          | false =>
            refine iteF ⟨_, rfl, y, D, rfl, dv, sd, x.tab _ T5.t3, fun H' x' => ?_⟩
            have := hR2 H' (x.trans x')
            rwa [hdr, Bool.false_or] at this
        · refine ⟨_, rfl, ?_⟩
          have ew : (List.range (kvs.map (·.2)).length).all (fun i => drawerB ((es.map (·.2)).getD i .none) || fileB ((es.map (·.2)).getD i .none)) = es.all fun e => drawerB e.2 || fileB e.2 := by
            have e1 := all_of_range (fun d => drawerB d || fileB d) (es.map (·.2)) (fun i => drawerB ((es.map (·.2)).getD i .none) || fileB ((es.map (·.2)).getD i .none)) fun i x e => by
              rw [List.getD_eq_getElem?_getD, e]
              rfl
            rw [List.length_map] at e1 ⊢
            rw [hl, e1, List.all_map]
            rfl
          rw [ew]
          cases hthing : (es.all fun e => drawerB e.2 || fileB e.2) with
          | false =>
            refine iteT ?_
            have := k G (((x3.trans x4).trans x5).trans x)
            rwa [show treeB es = false by
              unfold treeB
              rw [hthing, Bool.false_and, Bool.and_false, Bool.and_false]] at this
          | true =>
            refine iteF ?_
            have xG := ((x3.trans x4).trans x5).trans x
            have TG := T.ex xG
            have lG := x.keep _ _ l5 (fun ps z => by cases z)
            have hgs : ∀ e ∈ es, goodPath e.1 = true := List.all_eq_true.mp hgood
            have et : treeB es = (roofB es && oneTextB (es.map (·.2))) := by
              unfold treeB
              rw [e80, hgood, hthing, Bool.true_and, Bool.true_and, Bool.true_and]
            have hth : ∀ e ∈ es, drawerB e.2 = true ∨ fileB e.2 = true := fun e he => (Bool.or_eq_true _ _).mp (List.all_eq_true.mp hthing e he)
            refine ⟨_, rfl, d, es, rfl, ⟨kvs, xG.rd hd (fun ps z => by cases z), row.ex xG⟩, (fun e he => ⟨hgs e he, tree_headed (hth e he)⟩), sm2, TG.t1, TG.t2, TG.t4, fun H6 x6 => ⟨_, rfl, ?_⟩⟩
            rw [roof_tree hth]
            cases hroof : roofB es with
            | false =>
              refine iteF ?_
              have := k H6 (xG.trans x6)
              rwa [et, hroof, Bool.false_and] at this
            | true =>
              have l6 := x6.keep _ _ lG (fun ps z => by cases z)
              refine iteT ⟨_, rfl, l, kvs.map (·.2), es.map (·.2), rfl, SqL.of l6, fun H' x' => SqL.of (x'.keep _ _ l6 (fun ps z => by cases z)), row_dpAll (row.ex (xG.trans x6)), smallAll_of fun d hd => ?_, by rw [List.length_map]; exact sm2, (TG.ex x6).t3, fun H7 x7 => ?_⟩
              · obtain ⟨e, he, rfl⟩ := List.mem_map.mp hd
                exact (sm1 e he).2
              · have := k H7 ((xG.trans x6).trans x7)
                rwa [et, hroof, Bool.true_and] at this
end
/-! ### check_tree, names_in -/
def spCheckTree (K : PySem.W.Frag) (P1 P2 P3 P4 P5 C : Addr) : Sp := fun vs H Q E => ∃ v b, vs = [v] ∧ TreeQ K H v b ∧ Tabs5 H P1 P2 P3 P4 P5 ∧ (b = true → ∀ H', Ex H H' → Q .non H') ∧ (b = false → ∀ H', Ex H H' → E (.ref C) none H')
section
variable {P : Program} {w : World} {K : PySem.W.Frag} {mg : Str → Option Value} {base : Heap}
theorem scCheckTree : FnScope ["thing"] ["thing"] (defScope sCheckTree) := ⟨rfl, rfl, rfl, by decide +kernel, rfl, by decide +kernel, by decide +kernel⟩
theorem ok_checkTree {f f2 P1 P2 P3 P4 P5 C : Addr} {fd fd2 : FuncData} (F : Fun K "check_tree" "check_tree" sCheckTree f fd) (R : Ref K mg "NoTree" C)
    (G2 : FnOk P w K mg base CX0 9 f2 fd2 ["thing"] (spIsTree K P1 P2 P3 P4 P5)) (m2 : mg "is_tree" = some (.ref f2)) (k2 : PySem.W.keepIn K (.ref f2) = true) (b2 : Binds K fd2 ["thing"] []) :
    FnOk P w K mg base (L2.CX P w) 10 f fd ["thing"] (spCheckTree K P1 P2 P3 P4 P5 C) := by
  refine F.okX scCheckTree (fun vs H Q E h => ?_) (fun cdv A outer s H vs Q E hr h => ?_)
  · obtain ⟨v, b, rfl, _⟩ := h
    rfl
  · obtain ⟨v, b, rfl, hq, T, kt, kf⟩ := h
    refine ⟨_, pss_one (ps_if (pt_not (pt_val (pe_call (E := E0) G2 hr (by rfl) m2 k2 b2 .nil pass0 (pa_cons (pv 0) pa_nil))))
      (pss_one (ps_raise rfl (takes_of rfl rfl rfl rfl) (pmk_own PySem.F.excBase_ValueError R.x R.g R.k (raises_own R.b R.t) rfl))) pss_nil), ?_⟩
    refine ⟨_, rfl, v, b, rfl, hq, T, fun H' x => ⟨_, rfl, ?_⟩⟩
    cases b with
    | true => exact iteF (kt rfl H' x)
    | false => exact iteT (kf rfl H' x)
/-- the names in the drawer at p: what stands one name below it -/
def namesIn (es : Ents) (p : List Str) : List Str := (es.filter fun e => !decide (e.1 = []) && decide (e.1.dropLast = p)).map fun e => e.1.getLastD ""
theorem namesIn_snoc (es : Ents) (e : List Str × PyData) (p : List Str) : namesIn (es ++ [e]) p = if (!decide (e.1 = []) && decide (e.1.dropLast = p)) = true then namesIn es p ++ [e.1.getLastD ""] else namesIn es p := by
  unfold namesIn
  generalize hf : (fun e : List Str × PyData => !decide (e.1 = []) && decide (e.1.dropLast = p)) = f
  have hfe : (!decide (e.1 = []) && decide (e.1.dropLast = p)) = f e := by rw [← hf]
  rw [hfe]
  by_cases h : f e = true
  · rw [if_pos h, List.filter_append, List.filter_cons_of_pos h, List.filter_nil, List.map_append]
    rfl
  · rw [if_neg h, List.filter_append, List.filter_cons_of_neg h, List.filter_nil, List.append_nil]
theorem namesIn_len (es : Ents) (p : List Str) : (namesIn es p).length ≤ es.length := by
  unfold namesIn
  rw [List.length_map]
  exact List.length_filter_le _ _
theorem last_at {p : List Str} (h : p ≠ []) : atI (p.map V.str) (-1) = some (.str (p.getLastD "")) := by
  have hl : 0 < p.length := List.length_pos_iff.mpr h
  unfold atI ixN
  rw [List.length_map, if_neg (by decide), if_pos (by omega)]
  show (p.map V.str)[((-1 : Int) + (p.length : Int)).toNat]? = _
  have e : ((-1 : Int) + (p.length : Int)).toNat = p.length - 1 := by omega
  rw [e, List.getElem?_map, ← List.getLast?_eq_getElem?, List.getLastD_eq_getLast?]
  cases hq : p.getLast? with
  | none => exact absurd (List.getLast?_eq_none_iff.mp hq) h
  | some z => rfl
theorem head_of {d : PyData} {word : Str} {many : Nat} (hm : 0 < many) (h : kindB word many d = true) : ∃ ds, d = .tuple ds ∧ ds.getD 0 .none = .str word ∧ 0 < ds.length := by
  cases d with
  | tuple ds =>
    have : (decide (ds.length = many) && headIs word (ds.getD 0 .none)) = true := h
    rw [Bool.and_eq_true] at this
    obtain ⟨h1, h2⟩ := this
    have hl := of_decide_eq_true h1
    cases e : ds.getD 0 .none with
    | str z =>
      rw [e] at h2
      have : z = word := of_decide_eq_true h2
      exact ⟨ds, rfl, by rw [e, this], by omega⟩
    | _ => rw [e] at h2; exact absurd (show false = true from h2) Bool.false_ne_true
  | _ => exact absurd (show false = true from h) Bool.false_ne_true
/-- what is_tree says of a tree -/
theorem treeB_parts {es : Ents} (h : treeB es = true) : es.length ≤ 80 ∧ (∀ e ∈ es, goodPath e.1 = true) ∧ (∀ e ∈ es, drawerB e.2 = true ∨ fileB e.2 = true) ∧ roofB es = true ∧ oneTextB (es.map (·.2)) = true := by
  unfold treeB at h
  simp only [Bool.and_eq_true, decide_eq_true_eq, List.all_eq_true, Bool.or_eq_true] at h
  exact ⟨h.1, h.2.1, h.2.2.1, h.2.2.2.1, h.2.2.2.2⟩
def spNamesIn (K : PySem.W.Frag) (P1 P2 P3 P4 P5 CT CP CN CD : Addr) : Sp := fun vs H Q E => ∃ v u, vs = [v, u] ∧ Tabs5 H P1 P2 P3 P4 P5 ∧
  ((TreeQ K H v false ∧ Refused H E CT) ∨ ∃ d es, v = .ref d ∧ TrAt K H d es ∧ smallE es ∧ es.length < 64 ∧ treeB es = true ∧
    PathOr K H u (Refused H E CP) fun a p => PathX H a p ∧ match valE es p with
      | none => Refused H E CN
      | some D => if drawerB D = true then ∀ H' l ys, Ex H H' → H l = none → H' l = some (.lst (ys.map V.str)) → ys.Perm (namesIn es p) → sortedS ys = true → Q (.ref l) H' else Refused H E CD)
abbrev niN : List Str := ["tree", "path", "other"]
theorem scNamesIn : FnScope niN ["tree", "path"] (defScope sNamesIn) := ⟨rfl, rfl, rfl, by decide +kernel, rfl, by decide +kernel, by decide +kernel⟩
theorem ok_namesIn {f fT fP fA P1 P2 P3 P4 P5 CT CP CN CD : Addr} {fd fdT fdP fdA : FuncData} (F : Fun K "names_in" "names_in" sNamesIn f fd) (mS : mg "sorted" = none) (RN : Ref K mg "NotThere" CN) (RD : Ref K mg "NoDrawer" CD)
    (GT : FnOk P w K mg base (L2.CX P w) 10 fT fdT ["thing"] (spCheckTree K P1 P2 P3 P4 P5 CT)) (mT : mg "check_tree" = some (.ref fT)) (kT : PySem.W.keepIn K (.ref fT) = true) (bT : Binds K fdT ["thing"] [])
    (GP : FnOk P w K mg base (L2.CX P w) 6 fP fdP ["thing"] (spCheck K P1 P2 CP)) (mP : mg "check_path" = some (.ref fP)) (kP : PySem.W.keepIn K (.ref fP) = true) (bP : Binds K fdP ["thing"] [])
    (GA : FnOk P w K mg base (L2.CX P w) 7 fA fdA ["path"] (spAboveX K P1 P2 CP)) (mA : mg "above" = some (.ref fA)) (kA : PySem.W.keepIn K (.ref fA) = true) (bA : Binds K fdA ["path"] []) :
    FnOk P w K mg base (L2.CX P w) 11 f fd ["tree", "path"] (spNamesIn K P1 P2 P3 P4 P5 CT CP CN CD) := by
  refine F.okX scNamesIn (fun vs H Q E h => ?_) (fun cdv A outer s H vs Q E hr h => ?_)
  · obtain ⟨v, u, rfl, _⟩ := h
    rfl
  · obtain ⟨v, u, rfl, T, h⟩ := h
    have r6 := hr.mono (show 6 ≤ 10 by decide)
    have r7 := hr.mono (show 7 ≤ 10 by decide)
    have hu : (A.deeper (envOfC "names_in" (defScope sNamesIn) s.heap.objs.size f cdv)).units + 64 < cLine := hr.units
    refine ⟨_, pss_cons (ps_expr (pe_call (E := E) GT hr (by rfl) mT kT bT .nil (passes_call (takes_of rfl rfl rfl rfl) (fun _ _ _ _ h => h)) (pa_cons (pv 0) pa_nil)))
      (pss_cons (ps_expr (pe_call (E := E) GP r6 (by rfl) mP kP bP .nil (passes_call (takes_of rfl rfl rfl rfl) (fun _ _ _ _ h => h)) (pa_cons (pv 1) pa_nil)))
      (pss_cons (ps_if (pt_cmp (pc_dnotin (show (A.deeper (envOfC "names_in" (defScope sNamesIn) s.heap.objs.size f cdv)).units + 1 < cLine by omega) (pv 1) (pv 0)))
        (pss_one (ps_raise rfl (takes_of rfl rfl rfl rfl) (pmk_own PySem.F.excBase_ValueError RN.x RN.g RN.k (raises_own RN.b RN.t) rfl))) pss_nil)
      (pss_cons (ps_if (pt_cmpR op_ne (pe_ix ix_tup (pe_dget (show (A.deeper (envOfC "names_in" (defScope sNamesIn) s.heap.objs.size f cdv)).units + 1 < cLine by omega) (pv 0) (pv 1) (fun _ _ => rfl)) pe_int (fun _ _ => rfl)) pe_str (nomark _))
        (pss_one (ps_raise rfl (takes_of rfl rfl rfl rfl) (pmk_own PySem.F.excBase_ValueError RD.x RD.g RD.k (raises_own RD.b RD.t) rfl))) pss_nil)
      (pss_one (ps_ret (pe_callB cr_sortedS (by rfl) mS (by decide +kernel) (pa_cons (pe_lockR (pe_lc (own := [("other", 2)]) (g := gName 2) (tt := tTest (tOp (rEqD K) (tCall (spAboveX K P1 P2 CP) [] E0 (tCons (tVar 2) tNil)) (tVar 1))) rfl scNamesIn.nd (pi_keys (pv 0))
        (blkOk_by (N := niN) (sc := defScope sNamesIn) (by decide +kernel)) (fun _ _ _ _ _ => pg_name (i := 2) scNamesIn.nd rfl (Or.inl rfl))
        (fun _ _ _ _ _ => pts_cmp (op_eqD hr.units) (pe_call (E := E0) GA r7 (by rfl) mA kA bA .nil passL (pa_cons (pv 2) pa_nil)) (pv 1) (nomark _))
        (fun _ _ _ _ _ => pe_ix (r := rIxT K) ix_tup (pv 2) (pe_un un_neg pe_int) (fun _ _ => rfl)))) pa_nil))))))), ?_⟩
    rcases h with ⟨tq, hbad⟩ | ⟨d, es, rfl, ht, sm, h64, htr, h⟩
    · exact ⟨_, rfl, v, false, rfl, tq, T, (fun z => nomatch z), fun _ => hbad⟩
    have tq : TreeQ K H (.ref d) true := by
      have := TreeQ.dict ht sm
      rwa [htr] at this
    refine ⟨_, rfl, .ref d, true, rfl, tq, T, fun _ H1 x1 => ?_, fun z => nomatch z⟩
    have T1 := T.ex x1
    rcases h with ⟨pb, hbad⟩ | ⟨a, p, rfl, pa, gp, px, h⟩
    · exact ⟨_, rfl, u, false, rfl, pb.ex x1, T1.t1, T1.t2, (fun z => nomatch z), fun _ H' x => hbad H' (x1.trans x)⟩
    refine ⟨_, rfl, .ref a, true, rfl, (pa.ex x1).yes gp, T1.t1, T1.t2, fun _ H2 x2 => ?_, fun z => nomatch z⟩
    have x02 := x1.trans x2
    obtain ⟨kvs, hd, row⟩ := ht.ex x02
    have px2 := PathX.ex x02 px
    have T2 := T1.ex x2
    refine ⟨_, rfl, _, rfl, d, _, rfl, get_tr hd px2, _, rfl, ?_⟩
    rcases row.val (p := p) with ⟨e1, e2⟩ | ⟨v0, D0, e1, e2, dv⟩
    · rw [e1]
      rw [e2] at h
      exact iteT (h H2 x02)
    rw [e1]
    rw [e2] at h
    refine iteF ?_
    obtain ⟨e, he, _, rfl⟩ := valE_mem e2
    have hthing := (treeB_parts htr).2.2.1 e he
    have hhead : ∃ ds w, e.2 = .tuple ds ∧ ds.getD 0 .none = .str w ∧ 0 < ds.length ∧ (drawerB e.2 = decide (w = "drawer")) := by
      by_cases hdr : drawerB e.2 = true
      · obtain ⟨ds, h1, h2, h3⟩ := head_of (by decide) (show kindB "drawer" 1 e.2 = true from hdr)
        exact ⟨ds, "drawer", h1, h2, h3, by rw [hdr]; rfl⟩
      · have hf : fileB e.2 = true := hthing.resolve_left hdr
        have hk : kindB "file" 3 e.2 = true := by
          unfold fileB at hf
          exact (Bool.and_eq_true _ _ ▸ hf).1
        obtain ⟨ds, h1, h2, h3⟩ := head_of (by decide) hk
        refine ⟨ds, "file", h1, h2, h3, ?_⟩
        have : drawerB e.2 = false := by cases q : drawerB e.2 <;> simp_all
        rw [this]
        decide +kernel
    obtain ⟨ds, wd, ed, e0, hpos, hdr⟩ := hhead
    rw [ed] at dv
    rcases kn_tuple dv with ⟨a0, ys, ds', rfl, ed', ha, hy⟩ | ⟨hn, _⟩
    rotate_left
    · exact absurd rfl (hn ds)
    cases ed'
    obtain ⟨w0, at0, d0⟩ := dpAll_get 0 hy hpos
    rw [e0] at d0
    cases d0
    refine ⟨_, rfl, _, rfl, d, .ref a0, rfl, by have := get_tr hd px2; rwa [e1] at this, a0, ys, 0, .str wd, rfl, rfl, ha, at_of (j := 0) rfl at0, rfl, _, rfl, ?_⟩
    by_cases hw : wd = "drawer"
    rotate_left
    · rw [decide_eq_false (fun e => hw (by injection e))]
      refine iteT ?_
      have h := h
      simp only [hdr] at h
      rw [if_neg (by rw [decide_eq_false hw]; decide)] at h
      exact h H2 x02
    rw [decide_eq_true (by rw [hw])]
    refine iteF ?_
    have h := h
    simp only [hdr] at h
    rw [if_pos (decide_eq_true hw)] at h
    -- the names
    refine lock_go hd fun H3 od R lk lt lf ld hR => ⟨_, rfl, d, od, rfl, .inr ⟨kvs, ld, fun D hD => ?_⟩⟩
    have hDd : D ≠ d := fun z => by
      rw [z, ld] at hD
      cases hD
    have px3 : PathX H3 a p := lk a _ px2 fun z => by
      rw [z] at px2
      rcases hd with h' | ⟨o, h'⟩
      · rw [show H2 d = some (.tup (p.map V.str)) from px2] at h'
        cases h'
      · rw [show H2 d = some (.tup (p.map V.str)) from px2] at h'
        cases h'
    refine lc_it walk_keysT (fun i G => Ex H3 G ∧ G D = some (.lst ((namesIn (es.take i) p).map V.str))) ⟨Ex.new hD, by rw [upd_same]; rfl⟩ (fun i G _ h => h.1.keep _ _ ld (fun ps z => by cases z)) ?_ ?_
    · rintro i x G G' hi ⟨xg, hG⟩ ⟨rfl, kk, v, q, hk, rfl, hq⟩
      obtain ⟨en, hen, ek, _⟩ := row.get hk
      have ek : kk = en.1.map Sum.inr := ek
      rw [ek] at hq
      have pq : PathX G' q en.1 := PathX.of_key hq
      have hes : i < es.length := by rw [← row.len]; exact hi
      have etake : es.take (i + 1) = es.take i ++ [en] := by rw [List.take_add_one, hen]; rfl
      have hgo := (treeB_parts htr).2.1 en (List.mem_of_getElem? hen)
      refine ⟨rfl, _, rfl, .ref q, rfl, xg.tab _ (lt _ T2.t1), xg.tab _ (lt _ T2.t2), .inr ⟨q, en.1, rfl, pq.at, hgo, fun G2 r x2 hr2 => ?_⟩⟩
      have px4 := (PathX.ex (xg.trans x2) px3)
      have hG2 := x2.keep _ _ hG (fun ps z => by cases z)
      have lenok : ((namesIn (es.take i) p).map V.str).length < sizeLine := by
        have := namesIn_len (es.take i) p
        rw [List.length_map, sizeLine_eq]
        rw [List.length_take] at this
        omega
      rcases hr2 with ⟨hn, rfl⟩ | ⟨hn, r, rfl, pr⟩
      · refine ⟨_, rfl, .none, pathD p, .non, (px4.at (K := K)).dp, by decide, shaped_path (goodPath_ok gp), _, rfl, ?_⟩
        refine iteF ⟨xg.trans x2, ?_⟩
        rw [etake, namesIn_snoc, if_neg (by rw [decide_eq_true hn]; exact Bool.false_ne_true)]
        exact hG2
      · refine ⟨_, rfl, pathD en.1.dropLast, pathD p, (pr.at (K := K)).dp, (px4.at (K := K)).dp, shaped_path (goodPath_ok (by rw [List.dropLast_eq_take]; exact goodPath_take hgo _)), shaped_path (goodPath_ok gp), _, rfl, ?_⟩
        rw [eqv_path]
        by_cases hp : en.1.dropLast = p
        · rw [decide_eq_true hp]
          refine iteT ⟨_, rfl, 1, rfl, q, en.1.map V.str, -1, .str (en.1.getLastD ""), rfl, rfl, SqT.of (PathX.ex x2 pq), last_at hn, _, hG2, lenok, (xg.trans x2).put hD, ?_⟩
          rw [upd_same, etake, namesIn_snoc, if_pos (by rw [decide_eq_false hn, decide_eq_true hp]; rfl), List.map_append]
          rfl
        · rw [decide_eq_false hp]
          refine iteF ⟨xg.trans x2, ?_⟩
          rw [etake, namesIn_snoc, if_neg (by rw [decide_eq_false hp, Bool.and_false]; decide)]
          exact hG2
    · rintro G ⟨xg, hG⟩
      rw [row.len, List.take_length] at hG
      refine hR (.ref D) G xg fun H4 x4 kp => ?_
      have hD4 := kp D _ hG hDd
      refine ⟨D, namesIn es p, rfl, SqL.of hD4, by have := namesIn_len es p; omega, fun ys l perm srt hl => ?_⟩
      exact h _ l ys ((x02.trans x4).trans (Ex.new hl)) ((x02.trans x4).free _ hl) upd_same perm srt
end
/-! ### a tree grows -/
def seenStep (seen : List (L2.Key × V)) (d : PyData) : List (L2.Key × V) := if fileB d = true then
      (match partD 1 d, partD 2 d with
      | .int n, .str z => if (valV seen (Sum.inl n)).isSome = true then seen else putK seen (Sum.inl n) (.str z)
      | _, _ => seen)
    else seen
def seenOf (seen : List (L2.Key × V)) (ds : List PyData) : List (L2.Key × V) := ds.foldl seenStep seen
theorem seenStep_file {seen : List (L2.Key × V)} {d : PyData} {n : Int} {z : Str} (h : fileB d = true) (e1 : partD 1 d = .int n) (e2 : partD 2 d = .str z) :
    seenStep seen d = if (valV seen (Sum.inl n)).isSome = true then seen else putK seen (Sum.inl n) (.str z) := by
  unfold seenStep
  rw [if_pos h, e1, e2]
theorem seenStep_not {seen : List (L2.Key × V)} {d : PyData} (h : fileB d = false) : seenStep seen d = seen := by
  unfold seenStep
  rw [if_neg (by rw [h]; decide)]
def StrVals (seen : List (L2.Key × V)) : Prop := ∀ k v, valV seen k = some v → ∃ z, v = .str z
theorem StrVals.put {seen : List (L2.Key × V)} {n : Int} {z : Str} (h : StrVals seen) : StrVals (putK seen (Sum.inl n) (.str z)) := by
  intro k v hkv
  rw [valV_put] at hkv
  split at hkv
  · exact ⟨z, (Option.some.inj hkv).symm⟩
  · exact h k v hkv
theorem seenStep_strs {seen : List (L2.Key × V)} {d : PyData} (h : StrVals seen) : StrVals (seenStep seen d) := by
  cases hf : fileB d with
  | false =>
    rw [seenStep_not hf]
    exact h
  | true =>
    obtain ⟨fs, n, z, _, _, e1, e2, _, _⟩ := file_parts hf
    rw [seenStep_file hf e1 e2]
    split
    · exact h
    · exact h.put
theorem seenOf_strs : ∀ (ds : List PyData) {seen : List (L2.Key × V)}, StrVals seen → StrVals (seenOf seen ds)
  | [], seen, h => h
  | d :: ds, seen, h => seenOf_strs ds (seenStep_strs h)
theorem textsGo_app : ∀ (ds : List PyData) (d : PyData) {seen : List (L2.Key × V)}, StrVals seen → textsGo seen (ds ++ [d]) = (textsGo seen ds && textsGo (seenOf seen ds) [d])
  | [], d, seen, h => by
    show textsGo seen [d] = (textsGo seen [] && textsGo (seenOf seen []) [d])
    rw [textsGo.eq_1, Bool.true_and]
    rfl
  | x :: ds, d, seen, h => by
    rw [List.cons_append]
    have es : seenOf seen (x :: ds) = seenOf (seenStep seen x) ds := rfl
    rw [es]
    cases hf : fileB x with
    | false => rw [textsGo_not hf, textsGo_not hf, seenStep_not hf, textsGo_app ds d h]
    | true =>
      obtain ⟨fs, n, z, _, _, e1, e2, _, _⟩ := file_parts hf
      rw [seenStep_file hf e1 e2]
      cases hv : valV seen (Sum.inl n) with
      | none => rw [textsGo_new hf e1 e2 hv, textsGo_new hf e1 e2 hv, if_neg (by decide), textsGo_app ds d h.put]
      | some v =>
        obtain ⟨y, rfl⟩ := h _ _ hv
        rw [textsGo_old hf e1 e2 hv, textsGo_old hf e1 e2 hv, if_pos (show (some (V.str y)).isSome = true from rfl)]
        by_cases hyz : y = z
        · rw [if_pos hyz, if_pos hyz, textsGo_app ds d h]
        · rw [if_neg hyz, if_neg hyz, Bool.false_and]
theorem seenOf_app (ds : List PyData) (d : PyData) (seen : List (L2.Key × V)) : seenOf seen (ds ++ [d]) = seenStep (seenOf seen ds) d := by
  unfold seenOf
  rw [List.foldl_append]
  rfl
theorem valE_app {es : Ents} {e : List Str × PyData} {q : List Str} : valE (es ++ [e]) q = match valE es q with
    | some d => some d
    | none => if e.1 = q then some e.2 else none := by
  unfold valE
  rw [List.find?_append]
  cases h : es.find? fun e => decide (e.1 = q) with
  | some x => rfl
  | none =>
    rw [Option.none_or, List.find?_cons]
    by_cases he : e.1 = q
    · rw [decide_eq_true he]
      simp [he]
    · rw [decide_eq_false he]
      simp [he]
theorem drawerAt_app {es : Ents} {e : List Str × PyData} {q : List Str} (h : drawerAt es q = true) : drawerAt (es ++ [e]) q = true := by
  unfold drawerAt at h ⊢
  rw [valE_app]
  cases hv : valE es q with
  | some d =>
    rw [hv] at h
    exact h
  | none =>
    rw [hv] at h
    cases h
theorem roof_app {es : Ents} {e : List Str × PyData} (h : roofB es = true) (hn : e.1 ≠ []) (ha : drawerAt es e.1.dropLast = true) : roofB (es ++ [e]) = true := by
  unfold roofB at h ⊢
  simp only [Bool.and_eq_true, List.all_eq_true, Bool.or_eq_true, decide_eq_true_eq] at h ⊢
  obtain ⟨h1, h2⟩ := h
  refine ⟨drawerAt_app h1, fun x hx => ?_⟩
  rcases List.mem_append.mp hx with hx | hx
  · exact (h2 x hx).imp id drawerAt_app
  · rw [List.mem_singleton.mp hx]
    exact Or.inr (drawerAt_app ha)
/-- a tree with one thing more -/
theorem treeB_app {es : Ents} {p : List Str} {D : PyData} (h : treeB es = true) (h80 : es.length < 80) (hn : p ≠ []) (hg : goodPath p = true) (ha : drawerAt es p.dropLast = true) (hd : drawerB D = true ∨ fileB D = true)
    (ht : ∀ n z y, fileB D = true → partD 1 D = .int n → partD 2 D = .str z → valV (seenOf [] (es.map (·.2))) (Sum.inl n) = some (.str y) → y = z) : treeB (es ++ [(p, D)]) = true := by
  obtain ⟨h1, h2, h3, h4, h5⟩ := treeB_parts h
  have t5 : oneTextB ((es ++ [(p, D)]).map (·.2)) = true := by
    rw [List.map_append]
    show textsGo [] (es.map (·.2) ++ [D]) = true
    rw [textsGo_app _ _ (fun k v h => by cases h), Bool.and_eq_true]
    refine ⟨h5, ?_⟩
    cases hf : fileB D with
    | false =>
      rw [textsGo_not hf]
      rfl
    | true =>
      obtain ⟨fs, n, z, _, _, e1, e2, _, _⟩ := file_parts hf
      cases hv : valV (seenOf [] (es.map (·.2))) (Sum.inl n) with
      | none =>
        rw [textsGo_new hf e1 e2 hv]
        rfl
      | some v =>
        obtain ⟨y, rfl⟩ := seenOf_strs (es.map (·.2)) (fun k v h => by cases h) _ _ hv
        rw [textsGo_old hf e1 e2 hv, if_pos (ht n z y hf e1 e2 hv)]
        rfl
  unfold treeB
  simp only [Bool.and_eq_true, decide_eq_true_eq, List.all_eq_true, Bool.or_eq_true]
  refine ⟨by rw [List.length_append, List.length_singleton]; omega, fun e he => ?_, fun e he => ?_, roof_app h4 hn ha, t5⟩
  · rcases List.mem_append.mp he with he | he
    · exact h2 e he
    · rw [List.mem_singleton.mp he]
      exact hg
  · rcases List.mem_append.mp he with he | he
    · exact h3 e he
    · rw [List.mem_singleton.mp he]
      exact hd
/-! ### the law's draws -/
def spDraw (K : PySem.W.Frag) : Sp := fun vs H Q _ => ∃ (sc tw : Addr) (ns : List Int) (m : Int), vs = [.ref sc, .ref tw, .int m] ∧ Lw K H sc tw ns ∧ 0 < m ∧ m < 1073741824 ∧
  ∀ H' r, Ev tw H H' → 0 ≤ r → r < m → Q (.int r) H'
section
variable {P : Program} {w : World} {K : PySem.W.Frag} {mg : Str → Option Value} {base : Heap}
theorem scDraw : FnScope ["_law_script", "_law_town", "_law_many", "_law_one", "_law_at", "_law_mixed"] ["_law_script", "_law_town", "_law_many"] (defScope sDraw) := ⟨rfl, rfl, rfl, by decide +kernel, rfl, by decide +kernel, by decide +kernel⟩
theorem ok_draw {f : Addr} {fd : FuncData} (F : Fun K "_law_draw" "_law_draw" sDraw f fd) (mLen : mg "len" = none) : FnOk P w K mg base CX0 1 f fd ["_law_script", "_law_town", "_law_many"] (spDraw K) := by
  refine F.ok scDraw (fun vs H Q E h => ?_) (fun cdv A outer s H vs Q E hr h => ?_)
  · obtain ⟨sc, tw, ns, m, rfl, _⟩ := h
    rfl
  · obtain ⟨sc, tw, ns, m, rfl, L, m0, m1, k⟩ := h
    refine ⟨_, pss_cons (ps_if (pt_cmpR op_gt (pe_ix ix_list (pv 1) pe_int (fun _ _ => rfl)) pe_int (nomark _))
        (pss_cons (ps_set (i := 3) scDraw.nd rfl (Or.inl rfl) (pe_op op_mod (pe_ix ix_list (pv 1) pe_int (fun _ _ => rfl)) (pv 2)))
        (pss_cons (ps_asg (pe_op op_fdiv (pe_ix ix_list (pv 1) pe_int (fun _ _ => rfl)) (pv 2)) (pg_sub (pv 1) pe_int set_list))
        (pss_one (ps_ret (pv 3))))) pss_nil)
      (pss_cons (ps_set (i := 4) scDraw.nd rfl (Or.inl rfl) (pe_ix ix_list (pv 1) pe_int (fun _ _ => rfl)))
      (pss_cons (ps_augS (pv 1) pe_int get_list pe_int ip_add set_list)
      (pss_cons (ps_if (pt_cmpR (op_eqD hr.units) (pv 0) (pe_lst pa_nil) (nomark _)) (pss_one (ps_ret (pe_op op_mod (pv 4) (pv 2)))) pss_nil)
      (pss_cons (ps_if (PW.pt (pw_and (pt_cmpR op_lt (pv 4) (pe_callB call_len_seq (by rfl) mLen PySem.boot_len (pa_cons (pv 0) pa_nil)) (nomark _))
          (pw_and1 (pt_cmpR op_ge (pe_ix ix_list (pv 0) (pv 4) (fun _ _ => rfl)) (pe_op op_pow pe_int pe_int) (nomark _)))))
        (pss_cons (ps_asg (pe_op op_mod (pe_op op_fdiv (pe_ix ix_list (pv 0) (pv 4) (fun _ _ => rfl)) (pv 2)) (pe_op op_mulW (pe_op op_pow pe_int pe_int) (pe_op op_pow pe_int pe_int))) (pg_sub (pv 1) pe_int set_list))
        (pss_one (ps_ret (pe_op op_mod (pe_ix ix_list (pv 0) (pv 4) (fun _ _ => rfl)) (pv 2))))) pss_nil)
      (pss_cons (ps_set (i := 5) scDraw.nd rfl (Or.inl rfl) (pe_op op_mod (pe_op op_add (pe_op op_add (pe_op op_mul (pe_ix ix_list (pv 0) (pe_op op_mod (pv 4) (pe_callB call_len_seq (by rfl) mLen PySem.boot_len (pa_cons (pv 0) pa_nil))) (fun _ _ => rfl)) pe_int) (pe_op op_mul pe_int (pv 4))) pe_int) pe_int))
      (pss_one (ps_ret (pe_op op_mod (pe_op op_mod (pe_op op_mod (pe_op op_pow (pv 5) pe_int) pe_int) pe_int) (pv 2))))))))), ?_⟩
    obtain ⟨t0, t1, h0, ht⟩ := id L.town
    have a0 : ∀ x y : Int, atI [V.int x, V.int y] 0 = some (.int x) := fun _ _ => rfl
    have a1 : ∀ x y : Int, atI [V.int x, V.int y] 1 = some (.int y) := fun _ _ => rfl
    have x0 : ∀ x y : Int, ixN [V.int x, V.int y].length 0 = some 0 := fun _ _ => rfl
    have x1 : ∀ x y : Int, ixN [V.int x, V.int y].length 1 = some 1 := fun _ _ => rfl
    have p1 : (0 : Int) < 2147483647 := by decide
    have p2 : (0 : Int) < 999983 := by decide
    refine ⟨_, rfl, tw, _, 1, .int t1, rfl, rfl, SqL.of ht, a1 _ _, _, _, rfl, rfl, _, rfl, ?_⟩
    refine ite2 (fun _ => ?_) (fun _ => ?_)
    · -- what is left of a great one
      refine ⟨_, rfl, tw, _, 1, .int t1, rfl, rfl, SqL.of ht, a1 _ _, _, rfl, _, _, rfl, rfl, m0, ?_⟩
      refine ⟨_, rfl, tw, _, 1, .int t1, rfl, rfl, SqL.of ht, a1 _ _, _, rfl, _, _, rfl, rfl, ⟨m0, m1⟩, _, rfl, tw, _, 1, 1, rfl, rfl, ht, x1 _ _, ?_⟩
      exact ⟨_, rfl, k _ _ (Ev.write L.town h0) (Int.emod_nonneg _ (by omega)) (Int.emod_lt_of_pos _ m0)⟩
    · -- a cell of the script
      refine ⟨_, rfl, tw, _, 0, .int t0, rfl, rfl, SqL.of ht, a0 _ _, ?_⟩
      refine ⟨_, rfl, tw, _, 0, .int t0, rfl, rfl, SqL.of ht, a0 _ _, _, _, rfl, rfl, tw, _, 0, 0, rfl, rfl, ht, x0 _ _, ?_⟩
      have w1 : Ev tw H (upd H tw (.lst [.int (t0 + 1), .int t1])) := Ev.write L.town (by omega)
      have L1 := L.ev w1
      generalize hH1 : upd H tw (.lst [.int (t0 + 1), .int t1]) = H1 at w1 L1
      have e1 : H1 tw = some (.lst [.int (t0 + 1), .int t1]) := by rw [← hH1, upd_same]
      have eH : upd H tw (.lst ([V.int t0, V.int t1].set 0 (V.int (t0 + 1)))) = H1 := hH1
      rw [eH]
      refine ⟨_, rfl, Nat.zero_le _, fun p hp => ?_⟩
      have x2 : Ex H1 (upd H1 p (.lst [])) := Ex.new hp
      have L2 := L1.ex x2
      have e2 : (upd H1 p (.lst [])) tw = some (.lst [.int (t0 + 1), .int t1]) := x2.keep _ _ e1 (fun ps z => by cases z)
      have ep : SqL K (upd H1 p (.lst [])) p [] := SqL.of upd_same
      have w2 : Ev tw H (upd H1 p (.lst [])) := w1.trans (x2.ev L1.town)
      generalize upd H1 p (.lst []) = H2 at L2 e2 ep w2
      refine ⟨.list (ns.map .int), .list [], .lst L2.sq (dpAll_ints ns), .lst ep .nil, shaped_ints ns, shaped_nil, _, rfl, ?_⟩
      rw [eqv_nil]
      refine ite2 (fun hn => ?_) (fun hn => ?_)
      · exact ⟨_, rfl, _, rfl, _, _, rfl, rfl, m0, k _ _ w2 (Int.emod_nonneg _ (by omega)) (Int.emod_lt_of_pos _ m0)⟩
      · have hpos : 0 < ns.length := by
          cases ns with
          | nil => exact absurd rfl hn
          | cons _ _ => simp
        have hL : ((ns.map V.int).length : Int) = (ns.length : Int) := by rw [List.length_map]
        obtain ⟨z, az⟩ : ∃ z, atI (ns.map V.int) (t0 % (((ns.map V.int).length : Nat) : Int)) = some (.int z) := by
          have q1 := Int.emod_nonneg t0 (show (((ns.map V.int).length : Nat) : Int) ≠ 0 by omega)
          have q2 := Int.emod_lt_of_pos t0 (show (0 : Int) < (((ns.map V.int).length : Nat) : Int) by omega)
          obtain ⟨j, ej⟩ := Int.eq_ofNat_of_zero_le q1
          have hj : j < ns.length := by omega
          exact ⟨ns[j], at_of ej (by rw [List.getElem?_map, List.getElem?_eq_getElem hj]; rfl)⟩
        refine ⟨_, rfl, _, rfl, sc, _, rfl, .inl L2.sq, _, _, rfl, rfl, _, rfl, ?_⟩
        refine ite2 (fun c1 => ?_) (fun c1 => ?_)
        · have c1 : t0 < ((ns.map V.int).length : Int) := of_decide_eq_true c1
          obtain ⟨y, ay⟩ : ∃ y, atI (ns.map V.int) t0 = some (.int y) := by
            obtain ⟨j, ej⟩ := Int.eq_ofNat_of_zero_le h0
            have hj : j < ns.length := by omega
            exact ⟨ns[j], at_of ej (by rw [List.getElem?_map, List.getElem?_eq_getElem hj]; rfl)⟩
          refine ⟨_, rfl, _, rfl, sc, _, t0, .int y, rfl, rfl, L2.sq, ay, _, _, rfl, rfl, ⟨by decide, by decide, by decide⟩, _, _, rfl, rfl, _, rfl, ?_⟩
          refine ite2 (fun c2 => ?_) (fun c2 => ?_)
          · refine ⟨_, rfl, _, rfl, sc, _, t0, .int y, rfl, rfl, L2.sq, ay, _, rfl, _, _, rfl, rfl, ⟨m0, m1⟩, ?_⟩
            refine ⟨_, _, rfl, rfl, ⟨by decide, by decide, by decide⟩, _, _, rfl, rfl, ⟨by decide, by decide, by decide⟩, _, _, rfl, rfl, ?_, _, _, rfl, rfl, ?_, ?_⟩
            · exact wide_mul (a := 200) (b := 200) (by decide +kernel) (by decide +kernel) (by decide) (by decide) (by decide)
            · show (0 : Int) < 10 ^ (60 : Int).toNat * 10 ^ (60 : Int).toNat
              decide +kernel
            · refine ⟨_, rfl, tw, _, 1, 1, rfl, rfl, e2, x1 _ _, ?_⟩
              have w3 := w2.trans (Ev.write (t0 := t0 + 1) (t1 := y / m % (10 ^ (60 : Int).toNat * 10 ^ (60 : Int).toNat)) L2.town (by omega))
              have L3 := L.ev w3
              refine ⟨_, rfl, _, rfl, sc, _, t0, .int y, rfl, rfl, L3.sq, ay, _, rfl, _, _, rfl, rfl, m0, ?_⟩
              exact k _ _ w3 (Int.emod_nonneg _ (by omega)) (Int.emod_lt_of_pos _ m0)
          · -- the mixed one
            refine ⟨_, rfl, _, rfl, _, rfl, sc, _, rfl, .inl L2.sq, _, _, rfl, rfl, (by rw [List.length_map]; omega), sc, _, t0 % (((ns.map V.int).length : Nat) : Int), .int z, rfl, rfl, L2.sq, az, _, _, rfl, rfl, .inr ⟨by decide, by decide⟩, ?_⟩
            refine ⟨_, rfl, _, _, rfl, rfl, .inl ⟨by decide, by decide⟩, _, _, rfl, rfl, _, _, rfl, rfl, _, _, rfl, rfl, p1, ?_⟩
            refine ⟨_, rfl, _, _, rfl, rfl, ⟨by decide, by decide, ?_⟩, _, _, rfl, rfl, p1, _, _, rfl, rfl, p2, _, rfl, _, _, rfl, rfl, m0, ?_⟩
            · have q1 := Int.emod_nonneg (z * 1103515245 + 7919 * t0 + 12345) (show (2147483647 : Int) ≠ 0 by decide)
              have q2 := Int.emod_lt_of_pos (z * 1103515245 + 7919 * t0 + 12345) (show (0 : Int) < 2147483647 by decide)
              omega
            · exact k _ _ w2 (Int.emod_nonneg _ (by omega)) (Int.emod_lt_of_pos _ m0)
        · -- the mixed one
          refine ⟨_, rfl, _, rfl, _, rfl, sc, _, rfl, .inl L2.sq, _, _, rfl, rfl, (by rw [List.length_map]; omega), sc, _, t0 % (((ns.map V.int).length : Nat) : Int), .int z, rfl, rfl, L2.sq, az, _, _, rfl, rfl, .inr ⟨by decide, by decide⟩, ?_⟩
          refine ⟨_, rfl, _, _, rfl, rfl, .inl ⟨by decide, by decide⟩, _, _, rfl, rfl, _, _, rfl, rfl, _, _, rfl, rfl, p1, ?_⟩
          refine ⟨_, rfl, _, _, rfl, rfl, ⟨by decide, by decide, ?_⟩, _, _, rfl, rfl, p1, _, _, rfl, rfl, p2, _, rfl, _, _, rfl, rfl, m0, ?_⟩
          · have q1 := Int.emod_nonneg (z * 1103515245 + 7919 * t0 + 12345) (show (2147483647 : Int) ≠ 0 by decide)
            have q2 := Int.emod_lt_of_pos (z * 1103515245 + 7919 * t0 + 12345) (show (0 : Int) < 2147483647 by decide)
            omega
          · exact k _ _ w2 (Int.emod_nonneg _ (by omega)) (Int.emod_lt_of_pos _ m0)
end
/-! ### picks -/
def spPick (K : PySem.W.Frag) : Sp := fun vs H Q _ => ∃ (sc tw l : Addr) (ns : List Int) (xs : List V), vs = [.ref sc, .ref tw, .ref l] ∧ Lw K H sc tw ns ∧ SqL K H l xs ∧ l ≠ tw ∧ 0 < xs.length ∧ xs.length < 1000 ∧
  ∀ H' x, Ev tw H H' → x ∈ xs → Q x H'
section
variable {P : Program} {w : World} {K : PySem.W.Frag} {mg : Str → Option Value} {base : Heap}
theorem scPick : FnScope ["_law_script", "_law_town", "_law_some"] ["_law_script", "_law_town", "_law_some"] (defScope sPick) := ⟨rfl, rfl, rfl, by decide +kernel, rfl, by decide +kernel, by decide +kernel⟩
theorem ok_pick {f fD : Addr} {fd fdD : FuncData} (F : Fun K "_law_pick" "_law_pick" sPick f fd) (mLen : mg "len" = none)
    (GD : FnOk P w K mg base CX0 1 fD fdD ["_law_script", "_law_town", "_law_many"] (spDraw K)) (mD : mg "_law_draw" = some (.ref fD)) (kD : PySem.W.keepIn K (.ref fD) = true) (bD : Binds K fdD ["_law_script", "_law_town", "_law_many"] []) :
    FnOk P w K mg base CX0 2 f fd ["_law_script", "_law_town", "_law_some"] (spPick K) := by
  refine F.ok scPick (fun vs H Q E h => ?_) (fun cdv A outer s H vs Q E hr h => ?_)
  · obtain ⟨sc, tw, l, ns, xs, rfl, _⟩ := h
    rfl
  · obtain ⟨sc, tw, l, ns, xs, rfl, L, hl, hlt, h0, h1, k⟩ := h
    refine ⟨_, pss_one (ps_ret (pe_ix ix_list (pv 2) (pe_call (E := E0) GD hr (by rfl) mD kD bD .nil pass0 (pa_cons (pv 0) (pa_cons (pv 1) (pa_cons (pe_callB call_len_seq (by rfl) mLen PySem.boot_len (pa_cons (pv 2) pa_nil)) pa_nil)))) (fun _ _ => rfl))), ?_⟩
    refine ⟨_, rfl, _, rfl, _, rfl, _, rfl, l, _, rfl, .inl hl, sc, tw, ns, _, rfl, L, by omega, by omega, fun H' r x r0 r1 => ?_⟩
    obtain ⟨j, ej⟩ := Int.eq_ofNat_of_zero_le r0
    have hj : j < xs.length := by omega
    exact ⟨l, xs, r, xs[j], rfl, rfl, x.lst hlt hl, at_of ej (List.getElem?_eq_getElem hj), k H' _ x (List.getElem_mem hj)⟩
end
/-! ### the law's letters and texts -/
def ltrs : List Str := ["a", "b", "c", "ab"]
def spLetter (K : PySem.W.Frag) : Sp := fun vs H Q _ => ∃ (sc tw : Addr) (ns : List Int), vs = [.ref sc, .ref tw] ∧ Lw K H sc tw ns ∧ ∀ H' z, Ev tw H H' → nameB z = true → z ∈ ltrs → Q (.str z) H'
def spLText (K : PySem.W.Frag) : Sp := fun vs H Q _ => ∃ (sc tw : Addr) (ns : List Int), vs = [.ref sc, .ref tw] ∧ Lw K H sc tw ns ∧ ∀ H' z, Ev tw H H' → textB z = true → Q (.str z) H'
section
variable {P : Program} {w : World} {K : PySem.W.Frag} {mg : Str → Option Value} {base : Heap}
theorem scLetter : FnScope ["_law_script", "_law_town"] ["_law_script", "_law_town"] (defScope sLetter) := ⟨rfl, rfl, rfl, by decide +kernel, rfl, by decide +kernel, by decide +kernel⟩
theorem ok_letter {f fP : Addr} {fd fdP : FuncData} (F : Fun K "_law_letter" "_law_letter" sLetter f fd)
    (GP : FnOk P w K mg base CX0 2 fP fdP ["_law_script", "_law_town", "_law_some"] (spPick K)) (mP : mg "_law_pick" = some (.ref fP)) (kP : PySem.W.keepIn K (.ref fP) = true) (bP : Binds K fdP ["_law_script", "_law_town", "_law_some"] []) :
    FnOk P w K mg base CX0 3 f fd ["_law_script", "_law_town"] (spLetter K) := by
  refine F.ok scLetter (fun vs H Q E h => ?_) (fun cdv A outer s H vs Q E hr h => ?_)
  · obtain ⟨sc, tw, ns, rfl, _⟩ := h
    rfl
  · obtain ⟨sc, tw, ns, rfl, L, k⟩ := h
    refine ⟨_, pss_one (ps_ret (pe_call (E := E0) GP hr (by rfl) mP kP bP .nil pass0 (pa_cons (pv 0) (pa_cons (pv 1) (pa_cons (pe_lst (pa_cons pe_str (pa_cons pe_str (pa_cons pe_str (pa_cons pe_str pa_nil))))) pa_nil))))), ?_⟩
    refine ⟨_, rfl, _, rfl, (by show 4 ≤ sizeLine; decide), fun l hl => ?_⟩
    have x1 := Ex.new (o := .lst [V.str "a", V.str "b", V.str "c", V.str "ab"]) hl
    have t1 : SqL K (upd H l (.lst [V.str "a", V.str "b", V.str "c", V.str "ab"])) l ((["a", "b", "c", "ab"] : List Str).map V.str) := SqL.of upd_same
    have L1 := L.ex x1
    have hlt := L.town.ne hl
    refine ⟨sc, tw, l, ns, _, rfl, L1, t1, hlt, (by show 0 < 4; decide), (by show 4 < 1000; decide), fun H' x v hx => ?_⟩
    obtain ⟨z, hz, rfl⟩ := List.mem_map.mp hx
    refine k H' z ((x1.ev L.town).trans v) ?_ hz
    have : ∀ z ∈ (["a", "b", "c", "ab"] : List Str), nameB z = true := by decide +kernel
    exact this z hz
theorem scText : FnScope ["_law_script", "_law_town"] ["_law_script", "_law_town"] (defScope sText) := ⟨rfl, rfl, rfl, by decide +kernel, rfl, by decide +kernel, by decide +kernel⟩
theorem ok_text {f fP : Addr} {fd fdP : FuncData} (F : Fun K "_law_text" "_law_text" sText f fd)
    (GP : FnOk P w K mg base CX0 2 fP fdP ["_law_script", "_law_town", "_law_some"] (spPick K)) (mP : mg "_law_pick" = some (.ref fP)) (kP : PySem.W.keepIn K (.ref fP) = true) (bP : Binds K fdP ["_law_script", "_law_town", "_law_some"] []) :
    FnOk P w K mg base CX0 3 f fd ["_law_script", "_law_town"] (spLText K) := by
  refine F.ok scText (fun vs H Q E h => ?_) (fun cdv A outer s H vs Q E hr h => ?_)
  · obtain ⟨sc, tw, ns, rfl, _⟩ := h
    rfl
  · obtain ⟨sc, tw, ns, rfl, L, k⟩ := h
    refine ⟨_, pss_one (ps_ret (pe_call (E := E0) GP hr (by rfl) mP kP bP .nil pass0 (pa_cons (pv 0) (pa_cons (pv 1) (pa_cons (pe_lst (pa_cons pe_str (pa_cons pe_str (pa_cons pe_str (pa_cons pe_str (pa_cons pe_str pa_nil)))))) pa_nil))))), ?_⟩
    refine ⟨_, rfl, _, rfl, (by show 5 ≤ sizeLine; decide), fun l hl => ?_⟩
    have x1 := Ex.new (o := .lst [V.str "", V.str "x", V.str "y", V.str "x y", V.str "zz"]) hl
    have t1 : SqL K (upd H l (.lst [V.str "", V.str "x", V.str "y", V.str "x y", V.str "zz"])) l ((["", "x", "y", "x y", "zz"] : List Str).map V.str) := SqL.of upd_same
    have L1 := L.ex x1
    have hlt := L.town.ne hl
    refine ⟨sc, tw, l, ns, _, rfl, L1, t1, hlt, (by show 0 < 5; decide), (by show 5 < 1000; decide), fun H' x v hx => ?_⟩
    obtain ⟨z, hz, rfl⟩ := List.mem_map.mp hx
    refine k H' z ((x1.ev L.town).trans v) ?_
    have : ∀ z ∈ (["", "x", "y", "x y", "zz"] : List Str), textB z = true := by decide +kernel
    exact this z hz
end
/-! ### trees as they are drawn -/
inductive Th where
  | dr | fl (n : Int) (z : Str)
  deriving DecidableEq
def Th.d : Th → PyData
  | .dr => .tuple [.str "drawer"]
  | .fl n z => .tuple [.str "file", .int n, .str z]
def Th.xs : Th → List V
  | .dr => [.str "drawer"]
  | .fl n z => [.str "file", .int n, .str z]
abbrev Tr := List (List Str × Th)
def entsT (t : Tr) : Ents := t.map fun e => (e.1, e.2.d)
theorem Th.drawer (h : Th) : drawerB h.d = decide (h = .dr) := by
  cases h with
  | dr => decide +kernel
  | fl n z => rfl
theorem Th.file (n : Int) (z : Str) : fileB (Th.fl n z).d = (numB (.int n) && textB z) := by
  show (kindB "file" 3 (.tuple [.str "file", .int n, .str z]) && (numB (.int n) && textB z)) = _
  rw [show kindB "file" 3 (.tuple [.str "file", .int n, .str z]) = true by rfl, Bool.true_and]
def RowT (H : Hp) (kvs : List (List L2.Key × V)) (t : Tr) : Prop := Paired (fun kv e => kv.1 = e.1.map Sum.inr ∧ ∃ r, kv.2 = .ref r ∧ H r = some (.tup e.2.xs)) kvs t
theorem Th.dp {K : PySem.W.Frag} {H : Hp} {r : Addr} {h : Th} (e : H r = some (.tup h.xs)) : Dp K H (.ref r) h.d := by
  cases h with
  | dr => exact .tup (SqT.of e) (.cons (.str _) .nil)
  | fl n z => exact .tup (SqT.of e) (.cons (.str _) (.cons (.int _) (.cons (.str _) .nil)))
theorem RowT.row {K : PySem.W.Frag} {H : Hp} : ∀ {kvs : List (List L2.Key × V)} {t : Tr}, RowT H kvs t → RowE K H kvs (entsT t)
  | _, _, .nil => .nil
  | kv :: kvs, e :: t, .cons a b => by
    obtain ⟨a1, r, a2, a3⟩ := a
    refine .cons ⟨a1, ?_⟩ (RowT.row b)
    rw [a2]
    exact Th.dp a3
theorem RowT.keep {H H' : Hp} {kvs : List (List L2.Key × V)} {t : Tr} (k : ∀ b xs, H b = some (.tup xs) → H' b = some (.tup xs)) (h : RowT H kvs t) : RowT H' kvs t := pairImp (fun _ _ ⟨q1, r, q2, q3⟩ => ⟨q1, r, q2, k r _ q3⟩) h
def TrX (H : Hp) (d : Addr) (t : Tr) : Prop := ∃ kvs, Rd H d (.dT kvs) ∧ RowT H kvs t
theorem TrX.at {K : PySem.W.Frag} {H : Hp} {d : Addr} {t : Tr} (h : TrX H d t) : TrAt K H d (entsT t) := by
  obtain ⟨kvs, h1, h2⟩ := h
  exact ⟨kvs, h1, h2.row⟩
def valT (t : Tr) (p : List Str) : Option Th := (t.find? fun e => decide (e.1 = p)).map (·.2)
theorem valT_ents (t : Tr) (p : List Str) : valE (entsT t) p = (valT t p).map Th.d := by
  unfold valE valT entsT
  rw [List.find?_map, Option.map_map, Option.map_map]
  rfl
theorem RowT.val {H : Hp} {p : List Str} : ∀ {kvs : List (List L2.Key × V)} {t : Tr}, RowT H kvs t →
    (valV kvs (p.map Sum.inr) = none ∧ valT t p = none) ∨ ∃ r h, valV kvs (p.map Sum.inr) = some (.ref r) ∧ valT t p = some h ∧ H r = some (.tup h.xs)
  | _, _, .nil => Or.inl ⟨rfl, rfl⟩
  | kv :: kvs, e :: t, .cons a b => by
    obtain ⟨a1, r, a2, a3⟩ := a
    by_cases h : e.1 = p
    · refine Or.inr ⟨r, e.2, ?_, ?_, a3⟩
      · rw [valV_pos (by rw [a1, h]), a2]
      · unfold valT
        rw [List.find?_cons, decide_eq_true h]
        rfl
    · have h2 : ¬ kv.1 = p.map Sum.inr := fun z => h (inr_inj (a1.symm.trans z))
      have e1 : valT (e :: t) p = valT t p := by
        unfold valT
        rw [List.find?_cons, decide_eq_false h]
      rw [valV_neg h2, e1]
      exact RowT.val b
/-- a tree as the document has it -/
structure Good (t : Tr) : Prop where
  tree : treeB (entsT t) = true
  nd : (t.map (·.1)).Nodup
theorem good_small {t : Tr} (h : Good t) : smallE (entsT t) := by
  obtain ⟨h1, h2, h3, _, _⟩ := treeB_parts h.tree
  refine ⟨fun e he => ⟨goodPath_small (h2 e he), ?_⟩, by omega⟩
  obtain ⟨x, hx, rfl⟩ := List.mem_map.mp he
  have hth := h3 _ he
  cases hx2 : x.2 with
  | dr =>
    show smallD (Th.dr).d = true
    rfl
  | fl n z =>
    show smallD (Th.fl n z).d = true
    have : fileB (Th.fl n z).d = true := by
      have hth : drawerB x.2.d = true ∨ fileB x.2.d = true := hth
      rw [hx2] at hth
      rcases hth with h | h
      · rw [Th.drawer] at h
        exact absurd (of_decide_eq_true h) (by intro e; cases e)
      · exact h
    rw [Th.file, Bool.and_eq_true] at this
    have hz : z.length ≤ 40 := by
      have := this.2
      unfold textB at this
      rw [Bool.and_eq_true] at this
      exact of_decide_eq_true this.1
    have e1 : decide (z.length ≤ sizeLine) = true := decide_eq_true (by rw [sizeLine_eq]; omega)
    have e2 : decide (("file" : Str).length ≤ sizeLine) = true := by decide +kernel
    simp [Th.d, smallD, smallAll, e1, e2]
/-! ### more on drawn trees -/
theorem text_ok {z : Str} (h : textB z = true) : PyData.strOk z = true := by
  unfold textB allIn at h
  simp only [Bool.and_eq_true, List.all_eq_true, decide_eq_true_eq] at h
  exact str_ok fun c hc => signs_ok c (h.2 c hc)
def Th.ok : Th → Prop
  | .dr => True
  | .fl n z => numB (.int n) = true ∧ textB z = true
theorem Th.shaped {h : Th} (ok : h.ok) : SeqAt.shaped h.d = true := by
  cases h with
  | dr => decide +kernel
  | fl n z =>
    have hz := text_ok ok.2
    have hf : PyData.strOk "file" = true := by decide +kernel
    simp [SeqAt.shaped, Th.d, PyData.canLay0, PyData.canLayAll0, PyData.depth, PyData.depthAll, hz, hf]
theorem Th.eqv_dr (h : Th) : PyData.eqv h.d (.tuple [.str "drawer"]) = decide (h = .dr) := by
  cases h with
  | dr => decide +kernel
  | fl n z =>
    rw [decide_eq_false (by intro e; cases e)]
    simp [Th.d, PyData.eqv, PyData.eqvAll]
theorem valT_mem {t : Tr} {p : List Str} {h : Th} (e : valT t p = some h) : (p, h) ∈ t := by
  unfold valT at e
  obtain ⟨x, h1, h2⟩ := Option.map_eq_some_iff.mp e
  have h3 : x.1 = p := of_decide_eq_true (List.find?_some (p := fun e : List Str × Th => decide (e.1 = p)) h1)
  have := List.mem_of_find?_eq_some h1
  rw [← h3, ← h2]
  exact this
theorem valT_none {t : Tr} {p : List Str} (e : valT t p = none) : p ∉ t.map (·.1) := by
  intro hm
  obtain ⟨x, hx, rfl⟩ := List.mem_map.mp hm
  unfold valT at e
  rw [Option.map_eq_none_iff, List.find?_eq_none] at e
  exact e x hx (decide_eq_true rfl)
theorem valT_some {t : Tr} {p : List Str} (hm : p ∈ t.map (·.1)) : ∃ h, valT t p = some h := by
  cases e : valT t p with
  | some h => exact ⟨h, rfl⟩
  | none => exact absurd hm (valT_none e)
theorem drawerAt_T (t : Tr) (p : List Str) : drawerAt (entsT t) p = decide (valT t p = some .dr) := by
  unfold drawerAt
  rw [valT_ents]
  cases h : valT t p with
  | none => rfl
  | some x =>
    show drawerB x.d = _
    rw [Th.drawer]
    exact decide_eq_decide.mpr ⟨fun e => by rw [e], fun e => Option.some.inj e⟩
theorem good_ok {t : Tr} (g : Good t) {p : List Str} {h : Th} (hm : (p, h) ∈ t) : h.ok ∧ goodPath p = true := by
  obtain ⟨_, h2, h3, _, _⟩ := treeB_parts g.tree
  have he : (p, h.d) ∈ entsT t := List.mem_map.mpr ⟨(p, h), hm, rfl⟩
  refine ⟨?_, h2 _ he⟩
  cases h with
  | dr => trivial
  | fl n z =>
    have hth := h3 _ he
    have hf : fileB (Th.fl n z).d = true := hth.resolve_left (by
      intro q
      have q : drawerB (Th.fl n z).d = true := q
      rw [Th.drawer] at q
      exact absurd (of_decide_eq_true q) (by intro e; cases e))
    rw [Th.file, Bool.and_eq_true] at hf
    exact hf
theorem good_root {t : Tr} (g : Good t) : valT t [] = some .dr := by
  obtain ⟨_, _, _, h4, _⟩ := treeB_parts g.tree
  unfold roofB at h4
  rw [Bool.and_eq_true, drawerAt_T] at h4
  exact of_decide_eq_true h4.1
theorem goodPath_snoc {p : List Str} {c : Str} (g : goodPath p = true) (hl : p.length < 5) (hc : nameB c = true) : goodPath (p ++ [c]) = true := by
  obtain ⟨h1, h2⟩ := goodPath_names g
  unfold goodPath
  rw [Bool.and_eq_true, decide_eq_true_eq, List.all_eq_true]
  refine ⟨by rw [List.length_append, List.length_singleton]; omega, fun z hz => ?_⟩
  rcases List.mem_append.mp hz with hz | hz
  · exact h2 z hz
  · rw [List.mem_singleton.mp hz]
    exact hc
theorem good_app {t : Tr} {p : List Str} {c : Str} {h : Th} (g : Good t) (hl : t.length < 80) (hd : valT t p = some .dr) (h5 : p.length < 5) (hc : nameB c = true) (hn : valT t (p ++ [c]) = none) (ok : h.ok)
    (ht : ∀ n z y, h = .fl n z → valV (seenOf [] ((entsT t).map (·.2))) (Sum.inl n) = some (.str y) → y = z) : Good (t ++ [(p ++ [c], h)]) := by
  constructor
  · have e : entsT (t ++ [(p ++ [c], h)]) = entsT t ++ [(p ++ [c], h.d)] := by
      unfold entsT
      rw [List.map_append]
      rfl
    rw [e]
    refine treeB_app g.tree (by unfold entsT; rw [List.length_map]; exact hl) (by simp) (goodPath_snoc (good_ok g (valT_mem hd)).2 h5 hc) ?_ ?_ ?_
    · rw [List.dropLast_concat, drawerAt_T]
      exact decide_eq_true hd
    · cases h with
      | dr => exact Or.inl (by rw [Th.drawer]; exact decide_eq_true rfl)
      | fl n z => exact Or.inr (by rw [Th.file, Bool.and_eq_true]; exact ok)
    · intro n z y hf e1 e2 hv
      cases h with
      | dr =>
        exact absurd hf (by decide +kernel)
      | fl n' z' =>
        have e1 : PyData.int n' = .int n := e1
        have e2 : PyData.str z' = .str z := e2
        injection e1 with e1
        injection e2 with e2
        subst e1
        subst e2
        exact ht n' z' y rfl hv
  · rw [List.map_append, List.nodup_append]
    refine ⟨g.nd, by simp, fun a ha b hb e => ?_⟩
    have hb : b = p ++ [c] := by simpa using hb
    rw [hb] at e
    exact valT_none hn (e ▸ ha)
/-- a path and one name more -/
theorem cat_path {K : PySem.W.Frag} {H : Hp} {a q : Addr} {p : List Str} {c : Str} {R : VK} (ha : SqT K H a (p.map V.str)) (hq : PathX H q [c]) (hl : p.length ≤ 100) (h : ∀ G r, Ex H G → PathX G r (p ++ [c]) → R (.ref r) G) : rCatA K (.ref a) (.ref q) H R := by
  refine ⟨a, q, p.map V.str, [.str c], rfl, rfl, ha, SqT.of hq, ?_, fun e => ?_, fun _ e => absurd e (by simp), fun _ _ r hr => ?_⟩
  · rw [List.length_map, sizeLine_eq]
    show p.length + 1 ≤ _
    omega
  · have hp : p = [] := List.map_eq_nil_iff.mp e
    subst hp
    exact h H q (Ex.refl H) hq
  · refine h _ r (Ex.new hr) ?_
    show upd _ _ _ _ = _
    rw [upd_same, List.map_append]
    rfl
theorem RowT.keys {H : Hp} : ∀ {kvs : List (List L2.Key × V)} {t : Tr}, RowT H kvs t → LS.KeysP kvs (t.map (·.1))
  | _, _, .nil => rfl
  | kv :: kvs, e :: t, .cons a b => by
    have := RowT.keys b
    unfold LS.KeysP at this ⊢
    rw [List.map_cons, List.map_cons, List.map_cons, this, a.1]
theorem seen_snoc {t : Tr} {p : List Str} {h : Th} {dx : List (L2.Key × V)} (ok : h.ok) (hs : ∀ n y, valV (seenOf [] ((entsT t).map (·.2))) (Sum.inl n) = some (.str y) → valV dx (Sum.inl n) = some (.str y))
    (hh : ∀ n z, h = .fl n z → valV dx (Sum.inl n) = some (.str z)) : ∀ n y, valV (seenOf [] ((entsT (t ++ [(p, h)])).map (·.2))) (Sum.inl n) = some (.str y) → valV dx (Sum.inl n) = some (.str y) := by
  intro n y hv
  have e : (entsT (t ++ [(p, h)])).map (·.2) = (entsT t).map (·.2) ++ [h.d] := by
    unfold entsT
    rw [List.map_append, List.map_append]
    rfl
  rw [e, seenOf_app] at hv
  cases h with
  | dr =>
    rw [seenStep_not (by decide +kernel)] at hv
    exact hs n y hv
  | fl n' z' =>
    have hf : fileB (Th.fl n' z').d = true := by rw [Th.file, Bool.and_eq_true]; exact ok
    rw [seenStep_file hf (n := n') (z := z') rfl rfl] at hv
    split at hv
    · exact hs n y hv
    · rw [valV_put] at hv
      split at hv
      · rename_i e2
        injection e2 with e2
        subst e2
        injection hv with hv
        injection hv with hv
        subst hv
        exact hh n z' rfl
      · exact hs n y hv
theorem RowT.snoc {H : Hp} {kvs : List (List L2.Key × V)} {t : Tr} {p : List Str} {h : Th} {r : Addr} (row : RowT H kvs t) (e : H r = some (.tup h.xs)) : RowT H (kvs ++ [(p.map Sum.inr, .ref r)]) (t ++ [(p, h)]) :=
  pairSnoc (F := fun (kv : List L2.Key × V) (e : List Str × Th) => kv.1 = e.1.map Sum.inr ∧ ∃ r, kv.2 = .ref r ∧ H r = some (.tup e.2.xs)) ⟨rfl, r, rfl, e⟩ row
/-! ### the keys in their order -/
def RisingP (ps : List (List Str)) : Prop := ps.Pairwise fun x y => LS.ltP y x = false
theorem rising_uniq {l m : List (List Str)} (h : l.Perm m) (hl : RisingP l) (hm : RisingP m) : l = m := by
  refine List.Perm.eq_of_pairwise (le := fun x y => LS.ltP y x = false) (fun a b _ _ h1 h2 => LS.ltP_anti h2 h1) hl hm h
def keysUp (t : Tr) : List (List Str) := (t.map (·.1)).mergeSort fun a b => !LS.ltP b a
theorem keysUp_perm (t : Tr) : (keysUp t).Perm (t.map (·.1)) := List.mergeSort_perm _ _
theorem keysUp_rising (t : Tr) : RisingP (keysUp t) := by
  have O := LS.swoP (fun _ => [])
  have h := List.pairwise_mergeSort (le := fun a b : List Str => !LS.ltP b a) (fun a b c h1 h2 => ?_) (fun a b => ?_) (t.map (·.1))
  · exact h.imp fun {x y} hxy => by simpa using hxy
  · simp only [Bool.not_eq_true'] at h1 h2 ⊢
    exact decide_eq_false (LS.rk_tr (of_decide_eq_false h1) (of_decide_eq_false h2))
  · simp only [Bool.or_eq_true, Bool.not_eq_true']
    cases h : LS.ltP b a with
    | false => exact Or.inl rfl
    | true => exact Or.inr (decide_eq_false (LS.rk_asym (of_decide_eq_true h)))
theorem keysUp_of {t : Tr} {ys : LS.Zs} (h : (ys.map (·.2)).Perm (t.map (·.1))) (hr : LS.Rising ys) : ys.map (·.2) = keysUp t :=
  rising_uniq (h.trans (keysUp_perm t).symm) (List.pairwise_map.mpr hr) (keysUp_rising t)
def numAt (t : Tr) (p : List Str) : Option Int := match valT t p with
  | some (.fl n _) => some n
  | _ => none
/-- the paths of the file with the number n, rising -/
def groupOf (t : Tr) (n : Int) : List (List Str) := (keysUp t).filter fun q => decide (numAt t q = some n)
/-! ### the tree that is drawn -/
def rLenSeq (K : PySem.W.Frag) : List V → Hp → VK → Prop := fun xs H Q => ∃ p ys, xs = [V.ref p] ∧ (SqL K H p ys ∨ SqT K H p ys) ∧ Q (.int (List.length ys : Nat)) H
theorem call_lenS {X : Cx} : CallR X (.builtin "len") (rLenSeq X.K) := call_len_seq
/-- what is carried through the turns -/
def TInv (G : Hp) (a tx : Addr) (i : Nat) : Prop := ∃ kvs tr dx, G a = some (.dT kvs) ∧ RowT G kvs tr ∧ Good tr ∧ (∀ e ∈ tr, ∀ z ∈ e.1, z ∈ ltrs) ∧ tr.length ≤ i + 1 ∧ G tx = some (.dK dx) ∧ dx.length ≤ i ∧
  (∀ n v, valV dx (Sum.inl n) = some v → ∃ z, v = .str z ∧ textB z = true) ∧ ∀ n y, valV (seenOf [] ((entsT tr).map (·.2))) (Sum.inl n) = some (.str y) → valV dx (Sum.inl n) = some (.str y)
theorem good_one : Good [([], .dr)] := ⟨by decide +kernel, by simp⟩
def spTree (K : PySem.W.Frag) : Sp := fun vs H Q _ => ∃ (sc tw : Addr) (ns : List Int) (m : Nat), vs = [.ref sc, .ref tw, .int (m : Nat)] ∧ Lw K H sc tw ns ∧ m ≤ 70 ∧
  ∀ H' a kvs t, Ev tw H H' → H a = none → H' a = some (.dT kvs) → RowT H' kvs t → Good t → (∀ e ∈ t, ∀ z ∈ e.1, z ∈ ltrs) → t.length ≤ m + 1 → Q (.ref a) H'
section
variable {P : Program} {w : World} {K : PySem.W.Frag} {mg : Str → Option Value} {base : Heap}
abbrev ltN : List Str := ["_law_script", "_law_town", "_law_many", "_law_made", "_law_texts", "_law_k", "_law_rooms", "_law_path_here", "_law_number"]
theorem scTree : FnScope ltN ["_law_script", "_law_town", "_law_many"] (defScope sTree) := ⟨rfl, rfl, rfl, by decide +kernel, rfl, by decide +kernel, by decide +kernel⟩
theorem ok_tree {f fD fP fL fX : Addr} {fd fdD fdP fdL fdX : FuncData} (F : Fun K "_law_tree" "_law_tree" sTree f fd) (M : Mg mg) (mS : mg "sorted" = none)
    (GD : FnOk P w K mg base CX0 1 fD fdD ["_law_script", "_law_town", "_law_many"] (spDraw K)) (mD : mg "_law_draw" = some (.ref fD)) (kD : PySem.W.keepIn K (.ref fD) = true) (bD : Binds K fdD ["_law_script", "_law_town", "_law_many"] [])
    (GP : FnOk P w K mg base CX0 2 fP fdP ["_law_script", "_law_town", "_law_some"] (spPick K)) (mP : mg "_law_pick" = some (.ref fP)) (kP : PySem.W.keepIn K (.ref fP) = true) (bP : Binds K fdP ["_law_script", "_law_town", "_law_some"] [])
    (GL : FnOk P w K mg base CX0 3 fL fdL ["_law_script", "_law_town"] (spLetter K)) (mL : mg "_law_letter" = some (.ref fL)) (kL : PySem.W.keepIn K (.ref fL) = true) (bL : Binds K fdL ["_law_script", "_law_town"] [])
    (GX : FnOk P w K mg base CX0 3 fX fdX ["_law_script", "_law_town"] (spLText K)) (mX : mg "_law_text" = some (.ref fX)) (kX : PySem.W.keepIn K (.ref fX) = true) (bX : Binds K fdX ["_law_script", "_law_town"] []) :
    FnOk P w K mg base CX0 4 f fd ["_law_script", "_law_town", "_law_many"] (spTree K) := by
  refine F.ok scTree (fun vs H Q E h => ?_) (fun cdv A outer s H vs Q E hr h => ?_)
  · obtain ⟨sc, tw, ns, m, rfl, _⟩ := h
    rfl
  · obtain ⟨sc, tw, ns, m, rfl, L, hm, k⟩ := h
    have r1 := hr.mono (show 1 ≤ 3 by decide)
    have r2 := hr.mono (show 2 ≤ 3 by decide)
    have hu1 : (A.deeper (envOfC "_law_tree" (defScope sTree) s.heap.objs.size f cdv)).units + 1 < cLine := by have := hr.units; omega
    have hu3 : (A.deeper (envOfC "_law_tree" (defScope sTree) s.heap.objs.size f cdv)).units + 3 < cLine := by have := hr.units; omega
    refine ⟨_, pss_cons (ps_set (i := 3) scTree.nd rfl (Or.inr rfl) (pe_dispT hu1 (pps_cons (pe_tup pa_nil) (pe_tup (pa_cons pe_str pa_nil)) pps_nil) rfl rfl (by simp) (by decide)))
      (pss_cons (ps_set (i := 4) scTree.nd rfl (Or.inl rfl) pe_dnewK)
      (pss_cons (ps_for PassesOwn.never rfl (pi_range1 (by rfl) M.range (pa_cons (pe_call (E := E0) GD r1 (by rfl) mD kD bD .nil pass0 (pa_cons (pv 0) (pa_cons (pv 1) (pa_cons (pe_op op_add (pv 2) pe_int) pa_nil)))) pa_nil)) (pg_name (i := 5) scTree.nd rfl (Or.inl rfl))
        (pss_cons (ps_setLc (i := 6) (own := [("_law_path_here", 7)]) (g := gName 7)
            (tt := tAnd (tTest (tOp (rEqD K) (tDGet (tVar 3) (tVar 7)) (tTup (tCons (tC (.str "drawer")) tNil)))) (tTest (tOp (rI0 fun i j => V.bl (decide (i < j))) (tCB (rLenSeq K) (tCons (tVar 7) tNil)) (tC (.int 5)))))
            (by rfl) scTree.nd rfl rfl (sw_true rfl rfl rfl (by decide +kernel)) (pi_list (pe_callB (LS.cr_sortD rfl hu3) (by rfl) mS (by decide +kernel) (pa_cons (pv 3) pa_nil)))
            (blkOk_by (N := ltN) (sc := defScope sTree) (by decide +kernel)) (fun _ _ _ _ _ => pg_name (i := 7) scTree.nd rfl (Or.inl rfl))
            (fun _ _ _ _ _ => pts_one (PW.pt (pw_and (pt_cmpR (op_eqD hr.units) (pe_dget hu1 (pv 3) (pv 7) (fun _ _ => rfl)) (pe_tup (pa_cons pe_str pa_nil)) (nomark _))
              (pw_and1 (pt_cmpR op_lt (pe_callB call_lenS (by rfl) M.len PySem.boot_len (pa_cons (pv 7) pa_nil)) pe_int (nomark _))))))
            (fun _ _ _ _ _ => pv 7))
        (pss_cons (ps_set (i := 7) scTree.nd rfl (Or.inl rfl) (pe_op op_catA (pe_call (E := E0) GP r2 (by rfl) mP kP bP .nil pass0 (pa_cons (pv 0) (pa_cons (pv 1) (pa_cons (pv 6) pa_nil))))
            (pe_tup (pa_cons (pe_call (E := E0) GL hr (by rfl) mL kL bL .nil pass0 (pa_cons (pv 0) (pa_cons (pv 1) pa_nil))) pa_nil))))
        (pss_one (ps_if (pt_cmp (pc_dnotin hu1 (pv 7) (pv 3)))
          (pss_cons (ps_set (i := 8) scTree.nd rfl (Or.inl rfl) (pe_call (E := E0) GP r2 (by rfl) mP kP bP .nil pass0 (pa_cons (pv 0) (pa_cons (pv 1) (pa_cons (pe_lst (pa_cons pe_int (pa_cons pe_int (pa_cons pe_int (pa_cons pe_int pa_nil))))) pa_nil)))))
          (pss_cons (ps_dput hu1 (pv 4) (pv 8) (pe_dget2 hu1 (pv 4) (pv 8) (pe_call (E := E0) GX hr (by rfl) mX kX bX .nil pass0 (pa_cons (pv 0) (pa_cons (pv 1) pa_nil))) ⟨rfl, rfl, rfl, rfl⟩) rfl)
          (pss_one (ps_dput hu1 (pv 3) (pv 7) (pe_call (E := E0) GP r2 (by rfl) mP kP bP .nil pass0 (pa_cons (pv 0) (pa_cons (pv 1) (pa_cons (pe_lst (pa_cons (pe_tup (pa_cons pe_str pa_nil)) (pa_cons (pe_tup (pa_cons pe_str (pa_cons (pv 8) (pa_cons (pe_dget hu1 (pv 4) (pv 8) (fun _ _ => rfl)) pa_nil)))) pa_nil))) pa_nil)))) rfl))))
          pss_nil)))))
      (pss_one (ps_ret (pv 3))))), ?_⟩
    -- the root
    intro a0 ha0
    refine ⟨Nat.zero_le _, fun p0 hp0 => ⟨(by show 1 ≤ sizeLine; decide), fun p1 hp1 => ?_⟩⟩
    have d0 : (upd H a0 (.dT [])) a0 = some (.dT []) := upd_same
    have e01 := (Ex.new (o := .tup []) hp0).trans (Ex.new (o := .tup [V.str "drawer"]) hp1)
    have xm : Ex H (upd (upd (upd H a0 (.dT [])) p0 (.tup [])) p1 (.tup [V.str "drawer"])) := (Ex.new ha0).trans e01
    have g0 : (upd (upd (upd H a0 (.dT [])) p0 (.tup [])) p1 (.tup [V.str "drawer"])) a0 = some (.dT []) := e01.keep _ _ d0 (fun ps z => by cases z)
    have g1 : PathX (upd (upd (upd H a0 (.dT [])) p0 (.tup [])) p1 (.tup [V.str "drawer"])) p0 [] := PathX.ex (Ex.new hp1) upd_same
    have g2 : (upd (upd (upd H a0 (.dT [])) p0 (.tup [])) p1 (.tup [V.str "drawer"])) p1 = some (.tup [V.str "drawer"]) := upd_same
    generalize upd (upd (upd H a0 (.dT [])) p0 (.tup [])) p1 (.tup [V.str "drawer"]) = Hm at xm g0 g1 g2 ⊢
    refine ⟨g0, [([], .ref p1)], .cons ⟨⟨p0, rfl, g1⟩, rfl⟩ .nil, (by show 1 ≤ 15; decide), fun tx htx => ?_⟩
    have emt : mergeT [] [(([] : List L2.Key), V.ref p1)] = [([], .ref p1)] := rfl
    rw [emt] at htx ⊢
    have xd : Ex H (upd Hm a0 (.dT [([], .ref p1)])) := xm.put ha0
    have xn := Ex.new (o := .dK []) htx
    have x0 := xd.trans xn
    have htxH : H tx = none := xd.free _ htx
    have k0 : TInv (upd (upd Hm a0 (.dT [([], .ref p1)])) tx (.dK [])) a0 tx 0 := by
      refine ⟨[([], .ref p1)], [([], .dr)], [], xn.keep _ _ upd_same (fun ps z => by cases z), .cons ⟨rfl, p1, rfl, ?_⟩ .nil, good_one, (fun e he z hz => by rw [List.mem_singleton.mp he] at hz; cases hz), Nat.le_refl _, upd_same, Nat.le_refl _, (fun n v h => by cases h), fun n y h => ?_⟩
      · exact xn.keep _ _ (by rw [upd_ne (ne_of g2 g0 (fun z => by cases z))]; exact g2) (fun ps z => by cases z)
      · have : valV (seenOf [] ((entsT [([], Th.dr)]).map (·.2))) (Sum.inl n) = none := by
          have : seenOf [] ((entsT [([], Th.dr)]).map (·.2)) = [] := by
            show seenStep [] (Th.dr).d = []
            exact seenStep_not (by decide +kernel)
          rw [this]
          rfl
        rw [this] at h
        cases h
    have L0 := L.ex x0
    have v0 := x0.ev L.town
    generalize upd (upd Hm a0 (.dT [([], .ref p1)])) tx (.dK []) = H0 at k0 L0 v0 ⊢
    clear xm g0 g1 g2 xd xn x0 e01 d0 htx emt
    have hat : a0 ≠ tw := L.town.ne ha0
    have htt : tx ≠ tw := L.town.ne htxH
    -- the turns
    refine ⟨_, rfl, _, rfl, _, rfl, _, _, rfl, rfl, sc, tw, ns, (m : Int) + 1, rfl, L0, by omega, by omega, fun H1 r v1 r0 r1 => ?_⟩
    refine ⟨r, rfl, by omega, by omega, for_it walk_range (fun i σ G => (∃ v5 v6 v7 v8, σ = [some (.ref sc), some (.ref tw), some (.int (m : Nat)), some (.ref a0), some (.ref tx), v5, v6, v7, v8]) ∧ Ev tw H G ∧ TInv G a0 tx i)
      ⟨⟨none, none, none, none, rfl⟩, v0.trans v1, ?_⟩ (fun _ _ _ _ _ => trivial) ?_ ?_⟩
    · obtain ⟨kvs, tr, dx, h1, h2, h3, h3l, h4, h5, h6⟩ := k0
      exact ⟨kvs, tr, dx, v1.keep _ _ hat h1 (fun ps z => by cases z), h2.keep (fun b xs e => v1.keep _ _ (fun z => by
        obtain ⟨u0, u1, _, et⟩ := L0.town
        rw [z, et] at e
        cases e) e (fun ps z => by cases z)), h3, h3l, h4, v1.keep _ _ htt h5 (fun ps z => by cases z), h6⟩
    · rintro i x σ G G' hi ⟨⟨v5, v6, v7, v8, rfl⟩, vg, kvs, tr, dx, hd, row, good, hltr, hlen, hdx, hdl, htxt, hseen⟩ ⟨rfl, rfl⟩
      have hi70 : i ≤ 70 := by omega
      have h80 := (treeB_parts good.tree).1
      have LG := L.ev vg
      -- the rooms
      refine ⟨_, rfl, a0, kvs, tr.map (·.1), rfl, Or.inl hd, row.keys, fun l ys py _ hpx hl => ⟨l, rfl, ⟨_, SqL.of upd_same⟩, fun D hD => ?_⟩⟩
      have x1 := Ex.new (o := .lst (LS.addrs ys)) hl
      have l1 : (upd G' l (.lst (LS.addrs ys))) l = some (.lst (LS.addrs ys)) := upd_same
      have ha1 : (upd G' l (.lst (LS.addrs ys))) a0 = some (.dT kvs) := x1.keep _ _ hd (fun ps z => by cases z)
      have row1 : RowT (upd G' l (.lst (LS.addrs ys))) kvs tr := row.keep fun b xs e => x1.keep _ _ e (fun ps z => by cases z)
      have pys : ∀ z ∈ ys, PathX (upd G' l (.lst (LS.addrs ys))) z.1 z.2 := fun z hz => PathX.ex x1 (hpx z hz)
      have hyl : ys.length = tr.length := by
        have := py.length_eq
        rwa [List.length_map, List.length_map] at this
      generalize upd G' l (.lst (LS.addrs ys)) = G1 at x1 l1 ha1 row1 pys hD ⊢
      refine lc_it (walk_list (K := K) (a := l) (xs := LS.addrs ys)) (fun j G2 => Ex G1 G2 ∧ ∃ rs : LS.Zs, G2 D = some (.lst (LS.addrs rs)) ∧ (∀ z ∈ rs, z ∈ ys ∧ valT tr z.2 = some .dr ∧ z.2.length < 5) ∧ (∀ z ∈ ys.take j, valT tr z.2 = some .dr → z.2.length < 5 → z ∈ rs) ∧ rs.length ≤ j)
        ⟨Ex.new hD, [], upd_same, (fun z hz => nomatch hz), (fun z hz => by rw [List.take_zero] at hz; exact nomatch hz), Nat.le_refl _⟩ (fun j G2 _ h => SqL.of (h.1.keep _ _ l1 (fun ps z => by cases z))) ?_ ?_
      · rintro j y G2 G2' hj ⟨xg, rs, hrs, hall, hmem, hrl⟩ ⟨rfl, hy⟩
        unfold LS.addrs at hy hj
        rw [List.getElem?_map] at hy
        rw [List.length_map] at hj
        obtain ⟨z, hz, rfl⟩ := Option.map_eq_some_iff.mp hy
        have hzm := List.mem_of_getElem? hz
        have etake : ys.take (j + 1) = ys.take j ++ [z] := by rw [List.take_add_one, hz]; rfl
        have pz : PathX G2' z.1 z.2 := (pys z hzm).ex xg
        have hk : z.2 ∈ tr.map (·.1) := py.mem_iff.mp (List.mem_map.mpr ⟨z, hzm, rfl⟩)
        have ha2 : G2' a0 = some (.dT kvs) := xg.keep _ _ ha1 (fun ps z => by cases z)
        have row2 : RowT G2' kvs tr := row1.keep fun b xs e => xg.keep _ _ e (fun ps z => by cases z)
        rcases row2.val (p := z.2) with ⟨_, e2⟩ | ⟨rr, h, e1, e2, e3⟩
        · obtain ⟨h, eh⟩ := valT_some hk
          rw [e2] at eh
          cases eh
        have okh := (good_ok good (valT_mem e2)).1
        have lenok : rs.length < sizeLine := by
          rw [sizeLine_eq]
          omega
        have dg : DGet G2' a0 (.ref z.1) (some (.ref rr)) := by
          have := get_tr (Or.inl ha2) pz
          rwa [e1] at this
        refine ⟨rfl, _, rfl, _, rfl, a0, .ref rr, rfl, dg, (by show 1 ≤ sizeLine; decide), fun q hq => ?_⟩
        have xq := Ex.new (o := .tup [V.str "drawer"]) hq
        have dq : Dp K (upd G2' q (.tup [V.str "drawer"])) (.ref q) (.tuple [.str "drawer"]) := .tup (SqT.of upd_same) (.cons (.str _) .nil)
        have hrs3 : (upd G2' q (.tup [V.str "drawer"])) D = some (.lst (LS.addrs rs)) := xq.keep _ _ hrs (fun ps z => by cases z)
        have pz3 := PathX.ex xq pz
        have dh : Dp K (upd G2' q (.tup [V.str "drawer"])) (.ref rr) h.d := Th.dp (xq.keep _ _ e3 (fun ps z => by cases z))
        have xg3 := xg.trans xq
        generalize upd G2' q (.tup [V.str "drawer"]) = G3 at dq hrs3 pz3 dh xg3 ⊢
        have skip : (valT tr z.2 = some .dr → z.2.length < 5 → False) → Ex G1 G3 ∧ ∃ rs : LS.Zs, G3 D = some (.lst (LS.addrs rs)) ∧ (∀ z ∈ rs, z ∈ ys ∧ valT tr z.2 = some .dr ∧ z.2.length < 5) ∧ (∀ z ∈ ys.take (j + 1), valT tr z.2 = some .dr → z.2.length < 5 → z ∈ rs) ∧ rs.length ≤ j + 1 := fun hno =>
          ⟨xg3, rs, hrs3, hall, (fun u hu h1 h2 => by
            rw [etake] at hu
            rcases List.mem_append.mp hu with hu | hu
            · exact hmem u hu h1 h2
            · rw [List.mem_singleton.mp hu] at h1 h2
              exact (hno h1 h2).elim), by omega⟩
        refine ⟨h.d, _, dh, dq, h.shaped okh, by decide +kernel, _, rfl, ?_⟩
        rw [Th.eqv_dr]
        by_cases hdr : h = .dr
        · rw [decide_eq_true hdr]
          refine iteT ⟨_, rfl, z.1, _, rfl, Or.inr (pz3.at (K := K)), _, _, rfl, rfl, _, rfl, ?_⟩
          rw [List.length_map]
          by_cases h5 : (z.2.length : Int) < 5
          · rw [decide_eq_true h5]
            refine iteT ⟨_, rfl, LS.addrs rs, hrs3, by unfold LS.addrs; rw [List.length_map]; exact lenok, xg3.put hD, rs ++ [z], ?_, ?_, ?_, ?_⟩
            · rw [upd_same]
              unfold LS.addrs
              rw [List.map_append]
              rfl
            · intro u hu
              rcases List.mem_append.mp hu with hu | hu
              · exact hall u hu
              · rw [List.mem_singleton.mp hu]
                exact ⟨hzm, by rw [e2, hdr], by omega⟩
            · intro u hu h1 h2
              rw [etake] at hu
              rcases List.mem_append.mp hu with hu | hu
              · exact List.mem_append_left _ (hmem u hu h1 h2)
              · exact List.mem_append_right _ hu
            · rw [List.length_append, List.length_singleton]
              omega
          · rw [decide_eq_false h5]
            exact iteF (skip fun _ h => by omega)
        · rw [decide_eq_false hdr]
          refine iteF (iteF (skip fun h1 _ => ?_))
          rw [e2] at h1
          exact hdr (Option.some.inj h1)
      · rintro G2 ⟨xg, rs, hrs, hall, hmem, hrl⟩
        have hle : (LS.addrs ys).length = ys.length := by unfold LS.addrs; rw [List.length_map]
        rw [hle, List.take_length] at hmem
        rw [hle] at hrl
        -- the place
        have x2 := x1.trans xg
        have v2 := x2.ev LG.town
        have L2 := LG.ev v2
        have hDt : D ≠ tw := fun z => by
          obtain ⟨u0, u1, _, et⟩ := LG.town
          have := x1.keep _ _ et (fun ps z => by cases z)
          rw [z, this] at hD
          cases hD
        obtain ⟨z0, hz0, hz0e⟩ : ∃ z ∈ ys, z.2 = [] := by
          have : ([] : List Str) ∈ ys.map (·.2) := py.mem_iff.mpr (List.mem_map.mpr ⟨([], .dr), valT_mem (good_root good), rfl⟩)
          obtain ⟨z, h1, h2⟩ := List.mem_map.mp this
          exact ⟨z, h1, h2⟩
        have hne : z0 ∈ rs := hmem z0 hz0 (by rw [hz0e]; exact good_root good) (by rw [hz0e]; decide)
        have hpos : 0 < (LS.addrs rs).length := by
          unfold LS.addrs
          rw [List.length_map]
          exact List.length_pos_of_mem hne
        refine ⟨_, rfl, _, rfl, _, rfl, sc, tw, D, ns, LS.addrs rs, rfl, L2, SqL.of hrs, hDt, hpos, ?_, fun H3 y v3 hy => ?_⟩
        · unfold LS.addrs
          rw [List.length_map]
          have e80 : (entsT tr).length = tr.length := by unfold entsT; rw [List.length_map]
          omega
        obtain ⟨z, hz, rfl⟩ := List.mem_map.mp hy
        obtain ⟨hzy, hzd, hz5⟩ := hall z hz
        refine ⟨_, rfl, _, rfl, sc, tw, ns, rfl, L2.ev v3, fun H4 c v4 hc hcl => ⟨(by show 1 ≤ sizeLine; decide), fun q hq => ?_⟩⟩
        have v24 := (v2.trans v3).trans v4
        have L4 := LG.ev v24
        have xq := Ex.new (o := .tup [V.str c]) hq
        have tk : ∀ b xs, G' b = some (.tup xs) → H4 b = some (.tup xs) := fun b xs e => v24.keep _ _ (fun z => by
          obtain ⟨u0, u1, _, et⟩ := LG.town
          rw [z, et] at e
          cases e) e (fun ps z => by cases z)
        have pz4 : PathX H4 z.1 z.2 := tk _ _ (hpx z hzy)
        refine cat_path (PathX.ex xq pz4).at upd_same (by omega) fun G5 p x5 pp => ?_
        have v45 := (xq.trans x5).ev L4.town
        have v5 := v24.trans v45
        have L5 := LG.ev v5
        have tk5 : ∀ b xs, G' b = some (.tup xs) → G5 b = some (.tup xs) := fun b xs e => (xq.trans x5).keep _ _ (tk b xs e) (fun ps z => by cases z)
        have hd5 : G5 a0 = some (.dT kvs) := v5.keep _ _ hat hd (fun ps z => by cases z)
        have hdx5 : G5 tx = some (.dK dx) := v5.keep _ _ htt hdx (fun ps z => by cases z)
        have row5 := row.keep tk5
        have vH5 := vg.trans v5
        clear pz4 tk v24 v45 xq x5 L4
        generalize hpath : z.2 ++ [c] = path at pp
        refine ⟨_, rfl, _, rfl, a0, _, rfl, get_tr (Or.inl hd5) pp, _, rfl, ?_⟩
        rcases row5.val (p := path) with ⟨e1, e2⟩ | ⟨rr, h, e1, e2, e3⟩
        rotate_left
        · rw [e1]
          exact iteF ⟨⟨_, _, _, _, rfl⟩, vH5, kvs, tr, dx, hd5, row5, good, hltr, by omega, hdx5, by omega, htxt, hseen⟩
        rw [e1]
        refine iteT ⟨_, rfl, _, rfl, (by show 4 ≤ sizeLine; decide), fun l2 hl2 => ?_⟩
        -- the number
        have xl := Ex.new (o := .lst [V.int 0, V.int 1, V.int 2, V.int 999]) hl2
        refine ⟨sc, tw, l2, ns, [V.int 0, V.int 1, V.int 2, V.int 999], rfl, L5.ex xl, SqL.of upd_same, L5.town.ne hl2, (by show 0 < 4; decide), (by show 4 < 1000; decide), fun H6 y v6 hy6 => ?_⟩
        obtain ⟨n, rfl, hn⟩ : ∃ n : Int, y = .int n ∧ numB (.int n) = true := by
          simp only [List.mem_cons, List.not_mem_nil, or_false] at hy6
          rcases hy6 with rfl | rfl | rfl | rfl
          · exact ⟨0, rfl, by decide⟩
          · exact ⟨1, rfl, by decide⟩
          · exact ⟨2, rfl, by decide⟩
          · exact ⟨999, rfl, by decide⟩
        have w6 := (xl.ev L5.town).trans v6
        have L6 := L5.ev w6
        have hdx6 : H6 tx = some (.dK dx) := w6.keep _ _ htt hdx5 (fun ps z => by cases z)
        refine ⟨_, rfl, tx, rfl, Or.inl ⟨dx, Or.inl hdx6⟩, _, rfl, _, rfl, _, rfl, sc, tw, ns, rfl, L6, fun H7 z' v7 hz' => ?_⟩
        have w7 := w6.trans v7
        have L7 := L5.ev w7
        have hdx7 : H7 tx = some (.dK dx) := w7.keep _ _ htt hdx5 (fun ps z => by cases z)
        refine ⟨valV dx (Sum.inl n), DGet.k (k := Sum.inl n) hdx7, ?_⟩
        obtain ⟨z1, hz1, hzt, hzo⟩ : ∃ z1, (valV dx (Sum.inl n)).getD (.str z') = .str z1 ∧ textB z1 = true ∧ ∀ y, valV dx (Sum.inl n) = some (.str y) → y = z1 := by
          cases hv : valV dx (Sum.inl n) with
          | none => exact ⟨z', rfl, hz', fun y h => by cases h⟩
          | some v =>
            obtain ⟨y, rfl, hy⟩ := htxt n v hv
            exact ⟨y, rfl, hy, fun y' h => by injection h with h; injection h with h; exact h.symm⟩
        rw [hz1]
        have hdl2 : dx.length < sizeLine := by
          rw [sizeLine_eq]
          omega
        refine ⟨_, rfl, _, rfl, tx, _, rfl, DPut.k (k := Sum.inl n) (v := .str z1) hdx7 hdl2, ?_⟩
        have w8 : Ev tw H (upd H7 tx (.dK (putK dx (Sum.inl n) (.str z1)))) := (vH5.trans w7).put L.town htxH
        have tk8 : ∀ b xs, G5 b = some (.tup xs) → (upd H7 tx (.dK (putK dx (Sum.inl n) (.str z1)))) b = some (.tup xs) := fun b xs e => by
          have e7 : H7 b = some (.tup xs) := w7.keep _ _ (fun z => by
            obtain ⟨u0, u1, _, et⟩ := L5.town
            rw [z, et] at e
            cases e) e (fun ps z => by cases z)
          rw [upd_ne (ne_of e7 hdx7 (fun z => by cases z))]
          exact e7
        have hd8 : (upd H7 tx (.dK (putK dx (Sum.inl n) (.str z1)))) a0 = some (.dT kvs) := by
          have := w7.keep _ _ hat hd5 (fun ps z => by cases z)
          rw [upd_ne (ne_of this hdx7 (fun z => by cases z))]
          exact this
        have hdx8 : (upd H7 tx (.dK (putK dx (Sum.inl n) (.str z1)))) tx = some (.dK (putK dx (Sum.inl n) (.str z1))) := upd_same
        have L8 := L.ev w8
        generalize upd H7 tx (.dK (putK dx (Sum.inl n) (.str z1))) = H8 at w8 tk8 hd8 hdx8 L8 ⊢
        have hval : valV (putK dx (Sum.inl n) (V.str z1)) (Sum.inl n) = some (.str z1) := by rw [valV_put, if_pos rfl]
        clear w6 w7 L6 L7 hdx6 hdx7 v6 v7 xl
        -- the thing
        have dg : DGet H8 tx (kV (Sum.inl n)) (some (.str z1)) := by
          have := DGet.k (k := Sum.inl n) hdx8
          rwa [hval] at this
        refine ⟨_, rfl, _, rfl, (by show 1 ≤ sizeLine; decide), fun q1 hq1 => ?_⟩
        have xa := Ex.new (o := .tup [V.str "drawer"]) hq1
        have dg2 : DGet (upd H8 q1 (.tup [V.str "drawer"])) tx (kV (Sum.inl n)) (some (.str z1)) := by
          have := DGet.k (k := Sum.inl n) (xa.keep _ _ hdx8 (fun ps z => by cases z))
          rwa [hval] at this
        refine ⟨_, rfl, _, rfl, _, rfl, tx, .str z1, rfl, dg2, (by show 3 ≤ sizeLine; decide), fun q2 hq2 => ⟨(by show 2 ≤ sizeLine; decide), fun l3 hl3 => ?_⟩⟩
        have xb := Ex.new (o := .tup [V.str "file", V.int n, V.str z1]) hq2
        have xc := Ex.new (o := .lst [V.ref q1, V.ref q2]) hl3
        have t1 : (upd (upd (upd H8 q1 (.tup [V.str "drawer"])) q2 (.tup [V.str "file", V.int n, V.str z1])) l3 (.lst [V.ref q1, V.ref q2])) q1 = some (.tup Th.dr.xs) :=
          (xb.trans xc).keep _ _ upd_same (fun ps z => by cases z)
        have t2 : (upd (upd (upd H8 q1 (.tup [V.str "drawer"])) q2 (.tup [V.str "file", V.int n, V.str z1])) l3 (.lst [V.ref q1, V.ref q2])) q2 = some (.tup (Th.fl n z1).xs) :=
          xc.keep _ _ upd_same (fun ps z => by cases z)
        have tl : (upd (upd (upd H8 q1 (.tup [V.str "drawer"])) q2 (.tup [V.str "file", V.int n, V.str z1])) l3 (.lst [V.ref q1, V.ref q2])) l3 = some (.lst [V.ref q1, V.ref q2]) := upd_same
        have x9 := (xa.trans xb).trans xc
        have hlt3 : l3 ≠ tw := fun e => by
          obtain ⟨u0, u1, _, et⟩ := L8.town
          have := (xa.trans xb).keep _ _ et (fun ps z => by cases z)
          rw [e, this] at hl3
          cases hl3
        generalize upd (upd (upd H8 q1 (.tup [V.str "drawer"])) q2 (.tup [V.str "file", V.int n, V.str z1])) l3 (.lst [V.ref q1, V.ref q2]) = H9 at t1 t2 tl x9 ⊢
        have L9 := L8.ex x9
        refine ⟨sc, tw, l3, ns, [V.ref q1, V.ref q2], rfl, L9, SqL.of tl, hlt3, (by show 0 < 2; decide), (by show 2 < 1000; decide), fun Ha y va hya => ?_⟩
        have wa := (x9.ev L8.town).trans va
        have tka : ∀ b xs, H9 b = some (.tup xs) → Ha b = some (.tup xs) := fun b xs e => va.keep _ _ (fun z => by
          obtain ⟨u0, u1, _, et⟩ := L9.town
          rw [z, et] at e
          cases e) e (fun ps z => by cases z)
        obtain ⟨rr, h, rfl, hh, hok, hfl⟩ : ∃ rr h, y = .ref rr ∧ Ha rr = some (.tup (Th.xs h)) ∧ h.ok ∧ ∀ n' z', h = .fl n' z' → n' = n ∧ z' = z1 := by
          simp only [List.mem_cons, List.not_mem_nil, or_false] at hya
          rcases hya with rfl | rfl
          · exact ⟨q1, .dr, rfl, tka _ _ t1, trivial, fun n' z' e => by cases e⟩
          · exact ⟨q2, .fl n z1, rfl, tka _ _ t2, ⟨hn, hzt⟩, fun n' z' e => by injection e with e1 e2; exact ⟨e1.symm, e2.symm⟩⟩
        have hda : Ha a0 = some (.dT kvs) := wa.keep _ _ hat hd8 (fun ps z => by cases z)
        have hdxa : Ha tx = some (.dK (putK dx (Sum.inl n) (.str z1))) := wa.keep _ _ htt hdx8 (fun ps z => by cases z)
        have tkA : ∀ b xs, G5 b = some (.tup xs) → Ha b = some (.tup xs) := fun b xs e => tka _ _ (x9.keep _ _ (tk8 _ _ e) (fun ps z => by cases z))
        have ppa : PathX Ha p path := tkA _ _ pp
        have rowa := row5.keep tkA
        have hkl : kvs.length < sizeLine := by
          have e80 : (entsT tr).length = tr.length := by unfold entsT; rw [List.length_map]
          have := (rowa.row (K := K)).len
          rw [sizeLine_eq]
          omega
        refine ⟨_, rfl, _, rfl, a0, _, rfl, DPut.t (k := path.map Sum.inr) (v := .ref rr) hda ppa.key hkl, ?_⟩
        rw [putK_new _ e1]
        have wf := (w8.trans wa).put L.town ha0 (o := .dT (kvs ++ [(path.map Sum.inr, .ref rr)]))
        have tkf : ∀ b xs, Ha b = some (.tup xs) → (upd Ha a0 (.dT (kvs ++ [(path.map Sum.inr, .ref rr)]))) b = some (.tup xs) := fun b xs e => by
          rw [upd_ne (ne_of e hda (fun z => by cases z))]
          exact e
        have hnone : valT tr (z.2 ++ [c]) = none := by rw [hpath]; exact e2
        have hvalo : ∀ n' y, valV dx (Sum.inl n') = some (.str y) → valV (putK dx (Sum.inl n) (V.str z1)) (Sum.inl n') = some (.str y) := fun n' y e => by
          rw [valV_put]
          by_cases hnn : n' = n
          · subst hnn
            rw [if_pos rfl, hzo y e]
          · rw [if_neg (fun q => hnn (by injection q))]
            exact e
        refine ⟨⟨_, _, _, _, rfl⟩, wf, kvs ++ [(path.map Sum.inr, .ref rr)], tr ++ [(path, h)], putK dx (Sum.inl n) (.str z1), upd_same, ?_, ?_, ?_, ?_, ?_, ?_, ?_, ?_⟩
        · exact (rowa.keep tkf).snoc (tkf _ _ hh)
        · rw [← hpath]
          refine good_app good (by omega) hzd hz5 hc hnone hok fun n' z' y e hv => ?_
          obtain ⟨rfl, rfl⟩ := hfl n' z' e
          exact hzo y (hseen _ y hv)
        · intro e he z' hz'
          rcases List.mem_append.mp he with he | he
          · exact hltr e he z' hz'
          · rw [List.mem_singleton.mp he] at hz'
            have hz' : z' ∈ path := hz'
            rw [← hpath] at hz'
            rcases List.mem_append.mp hz' with hz' | hz'
            · exact hltr _ (valT_mem hzd) z' hz'
            · rw [List.mem_singleton.mp hz']
              exact hcl
        · rw [List.length_append, List.length_singleton]
          omega
        · rw [upd_ne (ne_of hdxa hda (fun z => by cases z))]
          exact hdxa
        · have := length_putK dx (Sum.inl n) (V.str z1)
          omega
        · intro n' v hv
          rw [valV_put] at hv
          split at hv
          · exact ⟨z1, (Option.some.inj hv).symm, hzt⟩
          · exact htxt n' v hv
        · refine seen_snoc hok (fun n' y hv => hvalo n' y (hseen n' y hv)) fun n' z' e => ?_
          obtain ⟨rfl, rfl⟩ := hfl n' z' e
          exact hval
    · rintro σ G ⟨⟨v5, v6, v7, v8, rfl⟩, vg, kvs, tr, dx, hd, row, good, hltr, hlen, _⟩
      exact ⟨_, rfl, k G a0 kvs tr vg ha0 hd row good hltr (by omega)⟩
end
theorem valE_nd {es : Ents} (nd : (es.map (·.1)).Nodup) {e : List Str × PyData} (h : e ∈ es) : valE es e.1 = some e.2 := by
  unfold valE
  induction es with
  | nil => cases h
  | cons x es ih =>
    rw [List.map_cons, List.nodup_cons] at nd
    rw [List.find?_cons]
    by_cases hx : x.1 = e.1
    · rw [decide_eq_true hx]
      rcases List.mem_cons.mp h with rfl | h
      · rfl
      · exact absurd (List.mem_map.mpr ⟨e, h, hx.symm⟩) nd.1
    · rw [decide_eq_false hx]
      rcases List.mem_cons.mp h with rfl | h
      · exact absurd rfl hx
      · exact ih nd.2 h
/-! ### renumbered -/
def renD (seen : List Int) : PyData → PyData
  | .tuple [.str w, .int n, .str z] => if w = "file" then .tuple [.str "file", .int ((seen.idxOf n : Nat) : Int), .str z] else .tuple [.str w, .int n, .str z]
  | d => d
def seenD (seen : List Int) : PyData → List Int
  | .tuple [.str w, .int n, .str z] => if w = "file" then (if n ∈ seen then seen else seen ++ [n]) else seen
  | _ => seen
def renStep (st : List Int × Ents) (e : List Str × PyData) : List Int × Ents := (seenD st.1 e.2, st.2 ++ [(e.1, renD st.1 e.2)])
def renOf (es : Ents) : List Int × Ents := es.foldl renStep ([], [])
theorem renOf_snoc (es : Ents) (e : List Str × PyData) : renOf (es ++ [e]) = renStep (renOf es) e := by
  unfold renOf
  rw [List.foldl_append]
  rfl
theorem renOf_keys : ∀ (es : Ents) (st : List Int × Ents), ((es.foldl renStep st).2).map (·.1) = st.2.map (·.1) ++ es.map (·.1)
  | [], st => by simp
  | e :: es, st => by
    rw [List.foldl_cons, renOf_keys es]
    show ((st.2 ++ [(e.1, renD st.1 e.2)]).map (·.1)) ++ _ = _
    rw [List.map_append, List.append_assoc]
    rfl
/-- a thing that renumbered serves: a tuple that begins with a text; a file has its number and its text -/
def renOk (d : PyData) : Prop := (∃ n z, d = .tuple [.str "file", .int n, .str z]) ∨ ∃ w ds, d = .tuple (.str w :: ds) ∧ w ≠ "file"
theorem renD_oth {seen : List Int} {w : Str} {ds : List PyData} (h : w ≠ "file") : renD seen (.tuple (.str w :: ds)) = .tuple (.str w :: ds) ∧ seenD seen (.tuple (.str w :: ds)) = seen := by
  unfold renD seenD
  constructor
  · split
    · rename_i h2
      injection h2 with h2
      injection h2 with h3 h4
      injection h3 with h3
      rw [if_neg (by rw [← h3]; exact h)]
      rw [h3, h4]
    · rfl
  · split
    · rename_i h2
      injection h2 with h2
      injection h2 with h3 h4
      injection h3 with h3
      rw [if_neg (by rw [← h3]; exact h)]
    · rfl
theorem renD_file {seen : List Int} {n : Int} {z : Str} : renD seen (.tuple [.str "file", .int n, .str z]) = .tuple [.str "file", .int ((seen.idxOf n : Nat) : Int), .str z] ∧
    seenD seen (.tuple [.str "file", .int n, .str z]) = if n ∈ seen then seen else seen ++ [n] := by
  unfold renD seenD
  exact ⟨if_pos rfl, if_pos rfl⟩
def keysUpE (es : Ents) : List (List Str) := (es.map (·.1)).mergeSort fun a b => !LS.ltP b a
def upE (es : Ents) : Ents := (keysUpE es).map fun p => (p, (valE es p).getD .none)
def plainE (es : Ents) : Ents := (renOf (upE es)).2
theorem keysUpE_perm (es : Ents) : (keysUpE es).Perm (es.map (·.1)) := List.mergeSort_perm _ _
theorem keysUpE_rising (es : Ents) : RisingP (keysUpE es) := by
  have h := List.pairwise_mergeSort (le := fun a b : List Str => !LS.ltP b a) (fun a b c h1 h2 => ?_) (fun a b => ?_) (es.map (·.1))
  · exact h.imp fun {x y} hxy => by simpa using hxy
  · simp only [Bool.not_eq_true'] at h1 h2 ⊢
    exact decide_eq_false (LS.rk_tr (of_decide_eq_false h1) (of_decide_eq_false h2))
  · simp only [Bool.or_eq_true, Bool.not_eq_true']
    cases h : LS.ltP b a with
    | false => exact Or.inl rfl
    | true => exact Or.inr (decide_eq_false (LS.rk_asym (of_decide_eq_true h)))
theorem keysUpE_of {es : Ents} {ys : LS.Zs} (h : (ys.map (·.2)).Perm (es.map (·.1))) (hr : LS.Rising ys) : ys.map (·.2) = keysUpE es :=
  rising_uniq (h.trans (keysUpE_perm es).symm) (List.pairwise_map.mpr hr) (keysUpE_rising es)
/-- what the numbers' dict holds -/
def NumsOf (nums : List (L2.Key × V)) (seen : List Int) : Prop := nums.length = seen.length ∧ ∀ n : Int, valV nums (Sum.inl n) = if n ∈ seen then some (.int ((seen.idxOf n : Nat) : Int)) else none
theorem NumsOf.add {nums : List (L2.Key × V)} {seen : List Int} {n : Int} (h : NumsOf nums seen) (hn : n ∉ seen) : NumsOf (putK nums (Sum.inl n) (.int (nums.length : Nat))) (seen ++ [n]) := by
  have hv : valV nums (Sum.inl n) = none := by rw [h.2 n, if_neg hn]
  refine ⟨?_, fun m => ?_⟩
  · rw [putK_new _ hv, List.length_append, List.length_append, h.1]
    rfl
  · rw [valV_put]
    by_cases e : m = n
    · subst e
      rw [if_pos rfl, if_pos (List.mem_append_right _ (List.mem_singleton.mpr rfl)), List.idxOf_append, if_neg hn, h.1]
      simp
    · rw [if_neg (fun q => e (by injection q)), h.2 m]
      by_cases hm : m ∈ seen
      · rw [if_pos hm, if_pos (List.mem_append_left _ hm), List.idxOf_append, if_pos hm]
      · rw [if_neg hm, if_neg (fun q => (List.mem_append.mp q).elim hm (fun q => e (List.mem_singleton.mp q)))]
/-! ### what stays where a thing that is no list and no tuple is written -/
def seqO : HO → Prop
  | .lst _ => True
  | .tup _ => True
  | .frz _ (.lst _) => True
  | .frz _ (.tup _) => True
  | _ => False
section
variable {K : PySem.W.Frag} {H H1 : Hp} (k : ∀ b o, H b = some o → seqO o → H1 b = some o)
include k
theorem mv_sqT {a : Addr} {xs : List V} (h : SqT K H a xs) : SqT K H1 a xs := by
  rcases h with (h | ⟨o, h⟩) | h
  · exact Or.inl (Or.inl (k a _ h trivial))
  · exact Or.inl (Or.inr ⟨o, k a _ h trivial⟩)
  · exact Or.inr h
theorem mv_sqL {a : Addr} {xs : List V} (h : SqL K H a xs) : SqL K H1 a xs := by
  rcases h with (h | ⟨o, h⟩) | h
  · exact Or.inl (Or.inl (k a _ h trivial))
  · exact Or.inl (Or.inr ⟨o, k a _ h trivial⟩)
  · exact Or.inr h
mutual
theorem mv_dp : ∀ {D : PyData} {v : V}, Dp K H v D → Dp K H1 v D
  | _, _, .non => .non
  | _, _, .bl b => .bl b
  | _, _, .int i => .int i
  | _, _, .str z => .str z
  | _, _, .lst h t => .lst (mv_sqL k h) (mv_dpAll t)
  | _, _, .tup h t => .tup (mv_sqT k h) (mv_dpAll t)
theorem mv_dpAll : ∀ {ds : List PyData} {vs : List V}, DpAll K H vs ds → DpAll K H1 vs ds
  | _, _, .nil => .nil
  | _, _, .cons h t => .cons (mv_dp h) (mv_dpAll t)
end
theorem mv_row {kvs : List (List L2.Key × V)} {es : Ents} (h : RowE K H kvs es) : RowE K H1 kvs es := pairImp (fun _ _ q => ⟨q.1, mv_dp k q.2⟩) h
end
theorem mv_upd {H : Hp} {d : Addr} {o u : HO} (hd : H d = some o) (n : ¬ seqO o) : ∀ b v, H b = some v → seqO v → (upd H d u) b = some v := fun b v e q => by
  have hb : b ≠ d := fun z => by
    rw [z, hd] at e
    cases e
    exact n q
  rw [upd_ne hb]
  exact e
def spRenum (K : PySem.W.Frag) : Sp := fun vs H Q _ => ∃ d es, vs = [.ref d] ∧ TrAt K H d es ∧ (es.map (·.1)).Nodup ∧ (∀ e ∈ es, renOk e.2) ∧ es.length ≤ 1000 ∧
  ∀ H' l kvs, Ex H H' → H' l = some (.dT kvs) → H l = none → RowE K H' kvs (plainE es) → Q (.ref l) H'
section
variable {P : Program} {w : World} {K : PySem.W.Frag} {mg : Str → Option Value} {base : Heap}
abbrev rnN : List Str := ["tree", "numbers", "found", "path", "thing", "number"]
theorem scRenum : FnScope rnN ["tree"] (defScope sRenumbered) := ⟨rfl, rfl, rfl, by decide +kernel, rfl, by decide +kernel, by decide +kernel⟩
theorem ok_renum {f : Addr} {fd : FuncData} (F : Fun K "renumbered" "renumbered" sRenumbered f fd) (M : Mg mg) (mS : mg "sorted" = none) : FnOk P w K mg base CX0 1 f fd ["tree"] (spRenum K) := by
  refine F.ok scRenum (fun vs H Q E h => ?_) (fun cdv A outer s H vs Q E hr h => ?_)
  · obtain ⟨d, es, rfl, _⟩ := h
    rfl
  · obtain ⟨d, es, rfl, ⟨kvs, hd, row⟩, nd, hok, hlen, k⟩ := h
    have hu1 : (A.deeper (envOfC "renumbered" (defScope sRenumbered) s.heap.objs.size f cdv)).units + 1 < cLine := by have := hr.units; omega
    have hu3 : (A.deeper (envOfC "renumbered" (defScope sRenumbered) s.heap.objs.size f cdv)).units + 3 < cLine := by have := hr.units; omega
    refine ⟨_, pss_cons (ps_set (i := 1) scRenum.nd rfl (Or.inl rfl) pe_dnewK)
      (pss_cons (ps_set (i := 2) scRenum.nd rfl (Or.inl rfl) pe_dnewT)
      (pss_cons (ps_for PassesOwn.never rfl (pi_list (pe_callB (LS.cr_sortD rfl hu3) (by rfl) mS (by decide +kernel) (pa_cons (pv 0) pa_nil))) (pg_name (i := 3) scRenum.nd rfl (Or.inl rfl))
        (pss_cons (ps_set (i := 4) scRenum.nd rfl (Or.inl rfl) (pe_dget hu1 (pv 0) (pv 3) (fun _ _ => rfl)))
        (pss_cons (ps_if (pt_cmpR op_eq (pe_ix ix_tup (pv 4) pe_int (fun _ _ => rfl)) pe_str (nomark _))
          (pss_cons (ps_set (i := 5) scRenum.nd rfl (Or.inl rfl) (pe_bm PySem.F.plainAttrs_dict PySem.F.slot_dict_setdefault PySem.F.type_dict_setdefault mt_setDef (pv 1) (pa_cons (pe_ix ix_tup (pv 4) pe_int (fun _ _ => rfl)) (pa_cons (pe_callB call_lenD (by rfl) M.len PySem.boot_len (pa_cons (pv 1) pa_nil)) pa_nil))))
          (pss_one (ps_set (i := 4) scRenum.nd rfl (Or.inl rfl) (pe_tup (pa_cons pe_str (pa_cons (pv 5) (pa_cons (pe_ix ix_tup (pv 4) pe_int (fun _ _ => rfl)) pa_nil)))))))
          pss_nil)
        (pss_one (ps_dput hu1 (pv 2) (pv 3) (pv 4) rfl)))))
      (pss_one (ps_ret (pv 2))))), ?_⟩
    intro pn hpn
    have xn := Ex.new (o := .dK []) hpn
    intro pf hpf
    have xf := Ex.new (o := .dT []) hpf
    have x0 := xn.trans xf
    have en : (upd (upd H pn (.dK [])) pf (.dT [])) pn = some (.dK []) := xf.keep _ _ upd_same (fun ps z => by cases z)
    have ef : (upd (upd H pn (.dK [])) pf (.dT [])) pf = some (.dT []) := upd_same
    have hpfH : H pf = none := xn.free _ hpf
    generalize upd (upd H pn (.dK [])) pf (.dT []) = H0 at x0 en ef ⊢
    have hd0 : Rd H0 d (.dT kvs) := x0.rd hd (fun ps z => by cases z)
    have hdn : pn ≠ d := fun z => by
      rw [← z] at hd
      rcases hd with h | ⟨o, h⟩
      · rw [hpn] at h; cases h
      · rw [hpn] at h; cases h
    refine ⟨_, rfl, d, kvs, es.map (·.1), rfl, hd0, row.keys, fun l ys py hup hpx hl => ⟨l, rfl, ⟨_, SqL.of upd_same⟩, ?_⟩⟩
    have hups := keysUpE_of py hup
    have x1 := Ex.new (o := .lst (LS.addrs ys)) hl
    have l1 : (upd H0 l (.lst (LS.addrs ys))) l = some (.lst (LS.addrs ys)) := upd_same
    have px1 : ∀ z ∈ ys, PathX (upd H0 l (.lst (LS.addrs ys))) z.1 z.2 := fun z hz => PathX.ex x1 (hpx z hz)
    have en1 := x1.keep _ _ en (fun ps z => by cases z)
    have ef1 := x1.keep _ _ ef (fun ps z => by cases z)
    have x01 := x0.trans x1
    generalize upd H0 l (.lst (LS.addrs ys)) = H1 at x1 l1 px1 en1 ef1 x01 ⊢
    have hlp : l ≠ pn ∧ l ≠ pf := ⟨fun z => (by rw [z, en] at hl; cases hl), fun z => (by rw [z, ef] at hl; cases hl)⟩
    have hnf : pn ≠ pf := fun z => by rw [z, ef] at en; cases en
    have hyl : ys.length = es.length := by
      have := py.length_eq
      rwa [List.length_map, List.length_map] at this
    have eup : upE es = ys.map fun z => (z.2, (valE es z.2).getD .none) := by
      unfold upE
      rw [← hups, List.map_map]
      rfl
    clear x0 xn xf en ef hl hpf hd0
    refine for_it (walk_list (K := K) (a := l) (xs := LS.addrs ys)) (fun j σ G => (∃ v3 v4 v5, σ = [some (.ref d), some (.ref pn), some (.ref pf), v3, v4, v5]) ∧ Ex H G ∧ G l = some (.lst (LS.addrs ys)) ∧ (∀ z ∈ ys, PathX G z.1 z.2) ∧
        ∃ nums kf, G pn = some (.dK nums) ∧ NumsOf nums (renOf ((upE es).take j)).1 ∧ nums.length ≤ j ∧ G pf = some (.dT kf) ∧ RowE K G kf (renOf ((upE es).take j)).2)
      ⟨⟨none, none, none, rfl⟩, x01, l1, px1, [], [], en1, ⟨rfl, fun n => rfl⟩, Nat.le_refl _, ef1, .nil⟩ (fun j σ G _ h => SqL.of h.2.2.1) ?_ ?_
    · rintro j y σ G G' hj ⟨⟨v3, v4, v5, rfl⟩, xg, hlG, hpG, nums, kf, hn, hnums, hnl, hf, hrow⟩ ⟨rfl, hy⟩
      unfold LS.addrs at hy hj
      rw [List.getElem?_map] at hy
      rw [List.length_map] at hj
      obtain ⟨z, hz, rfl⟩ := Option.map_eq_some_iff.mp hy
      have hzm := List.mem_of_getElem? hz
      have pz := hpG z hzm
      have hk : z.2 ∈ es.map (·.1) := py.mem_iff.mp (List.mem_map.mpr ⟨z, hzm, rfl⟩)
      obtain ⟨e, he, ee⟩ := List.mem_map.mp hk
      have hval : valE es z.2 = some e.2 := by rw [← ee]; exact valE_nd nd he
      have etake : (upE es).take (j + 1) = (upE es).take j ++ [(z.2, e.2)] := by
        rw [eup, List.take_add_one, List.getElem?_map, hz]
        show _ ++ [(z.2, (valE es z.2).getD .none)] = _
        rw [hval]
        rfl
      have hnew : z.2 ∉ (renOf ((upE es).take j)).2.map (·.1) := by
        unfold renOf
        rw [renOf_keys]
        intro hm
        rw [List.map_nil, List.nil_append, eup, ← List.map_take, List.map_map] at hm
        obtain ⟨u, hu, eu⟩ := List.mem_map.mp hm
        have ndy : (ys.map (·.2)).Nodup := by rw [hups]; exact (keysUpE_perm es).nodup_iff.mpr nd
        have eu : u.2 = z.2 := eu
        obtain ⟨i, hi, rfl⟩ := List.mem_iff_getElem.mp hu
        rw [List.length_take] at hi
        rw [List.getElem_take] at eu
        have hj2 : ys[j] = z := by
          rw [List.getElem?_eq_getElem hj] at hz
          exact Option.some.inj hz
        have h1 : (ys.map (·.2))[i]'(by rw [List.length_map]; omega) = (ys.map (·.2))[j]'(by rw [List.length_map]; omega) := by
          rw [List.getElem_map, List.getElem_map, hj2]
          exact eu
        have := (List.getElem_inj ndy).mp h1
        omega
      obtain ⟨kd, hkd, rowd⟩ : ∃ kd, Rd G' d (.dT kd) ∧ RowE K G' kd es := ⟨kvs, xg.rd hd (fun ps z => by cases z), row.ex xg⟩
      rcases rowd.val (p := z.2) with ⟨_, e2⟩ | ⟨v0, D0, e1, e2, dv⟩
      · rw [hval] at e2
        cases e2
      rw [hval] at e2
      cases e2
      have dg : DGet G' d (.ref z.1) (some v0) := by
        have := get_tr hkd pz
        rwa [e1] at this
      -- what follows a thing
      have fin : ∀ (G2 : Hp) (vt : V) (nums2 : List (L2.Key × V)), Ex H G2 → G2 l = some (.lst (LS.addrs ys)) → (∀ z ∈ ys, PathX G2 z.1 z.2) → G2 pn = some (.dK nums2) → NumsOf nums2 (seenD (renOf ((upE es).take j)).1 e.2) → nums2.length ≤ j + 1 → G2 pf = some (.dT kf) →
          RowE K G2 kf (renOf ((upE es).take j)).2 → Dp K G2 vt (renD (renOf ((upE es).take j)).1 e.2) → (∃ H', DPut G2 pf (.ref z.1) vt H' ∧ (Ex H H' ∧ H' l = some (.lst (LS.addrs ys)) ∧ (∀ z ∈ ys, PathX H' z.1 z.2) ∧
            ∃ nums kf, H' pn = some (.dK nums) ∧ NumsOf nums (renOf ((upE es).take (j + 1))).1 ∧ nums.length ≤ j + 1 ∧ H' pf = some (.dT kf) ∧ RowE K H' kf (renOf ((upE es).take (j + 1))).2)) := by
        intro G2 vt nums2 x2 hl2 hp2 hn2 hnum2 hnl2 hf2 hrow2 hdt
        have hnone : valV kf (z.2.map Sum.inr) = none := by
          rcases hrow2.val (p := z.2) with ⟨q, _⟩ | ⟨_, D, _, q, _⟩
          · exact q
          · obtain ⟨x, hx, hx1, _⟩ := valE_mem q
            exact absurd (List.mem_map.mpr ⟨x, hx, hx1⟩) hnew
        have hkl : kf.length < sizeLine := by
          have h1 := hrow2.len
          have h2 : (renOf ((upE es).take j)).2.length = ((upE es).take j).length := by
            have := congrArg List.length (renOf_keys ((upE es).take j) ([], []))
            simpa [renOf] using this
          rw [sizeLine_eq]
          rw [List.length_take] at h2
          omega
        refine ⟨_, DPut.t (k := z.2.map Sum.inr) (v := vt) hf2 (hp2 z hzm).key hkl, x2.put hpfH, ?_, fun u hu => ?_, nums2, kf ++ [(z.2.map Sum.inr, vt)], ?_, ?_, hnl2, ?_, ?_⟩
        · rw [upd_ne hlp.2]
          exact hl2
        · show upd _ _ _ _ = _
          rw [upd_ne (ne_of (hp2 u hu) hf2 (fun z => by cases z))]
          exact hp2 u hu
        · rw [upd_ne hnf]
          exact hn2
        · rw [etake, renOf_snoc]
          exact hnum2
        · rw [upd_same, putK_new _ hnone]
        · rw [etake, renOf_snoc]
          have lk : ∀ b o, G2 b = some o → b ≠ pf → (upd G2 pf (.dT (putK kf (z.2.map Sum.inr) vt))) b = some o := fun b o e hb => by rw [upd_ne hb]; exact e
          refine pairSnoc (F := fun (kv : List L2.Key × V) (e : List Str × PyData) => kv.1 = e.1.map Sum.inr ∧ Dp K _ kv.2 e.2) ⟨rfl, ?_⟩ (hrow2.lk (Or.inl hf2) lk)
          exact lk_dp (Or.inl hf2) lk hdt
      rcases hok e he with ⟨n, tx, ed⟩ | ⟨wd, ds, ed, hw⟩
      · rw [ed] at dv fin
        obtain ⟨f1, f2⟩ := renD_file (seen := (renOf ((upE es).take j)).1) (n := n) (z := tx)
        rw [f1, f2] at fin
        rcases kn_tuple dv with ⟨a0, xs, ds', rfl, ed', ha, hx⟩ | ⟨hno, _⟩
        rotate_left
        · exact absurd rfl (hno _)
        cases ed'
        obtain ⟨w0, at0, d0⟩ := dpAll_get 0 hx (by simp)
        obtain ⟨w1, at1, d1⟩ := dpAll_get 1 hx (by simp)
        obtain ⟨w2, at2, d2⟩ := dpAll_get 2 hx (by simp)
        cases d0
        cases d1
        cases d2
        have hl4 : nums.length < sizeLine := by
          rw [sizeLine_eq]
          omega
        refine ⟨_, rfl, _, rfl, d, .ref a0, rfl, dg, ?_⟩
        refine ⟨_, rfl, a0, xs, 0, _, rfl, rfl, ha, at_of (j := 0) rfl at0, rfl, _, rfl, ?_⟩
        rw [decide_eq_true rfl]
        refine iteT ?_
        refine ⟨_, rfl, .inr (.inr (.inl ⟨rfl, .inl ⟨_, hn⟩⟩)), _, rfl, a0, xs, 1, .int n, rfl, rfl, ha, at_of (j := 1) rfl at1, _, rfl, pn, nums, rfl, hn, pn, nums, .inl n, .int (nums.length : Nat), rfl, rfl, hn, hl4, fun y hyv => ?_, fun hnv => ?_⟩
        · rw [hnums.2 n] at hyv
          by_cases hm : n ∈ (renOf ((upE es).take j)).1
          · rw [if_pos hm] at hyv fin
            cases hyv
            refine ⟨_, rfl, _, rfl, a0, xs, 2, .str tx, rfl, rfl, ha, at_of (j := 2) rfl at2, (by show 3 ≤ sizeLine; decide), fun q hq => ?_⟩
            have xq := Ex.new (o := .tup [V.str "file", V.int ((List.idxOf n (renOf ((upE es).take j)).1 : Nat) : Int), V.str tx]) hq
            refine ⟨_, rfl, _, rfl, _, rfl, pf, ?_⟩
            obtain ⟨H', g1, g2⟩ := fin _ (.ref q) nums (xg.trans xq) (xq.keep _ _ hlG (fun ps z => by cases z)) (fun u hu => PathX.ex xq (hpG u hu)) (xq.keep _ _ hn (fun ps z => by cases z)) hnums (by omega) (xq.keep _ _ hf (fun ps z => by cases z)) (hrow.ex xq)
              (.tup (SqT.of upd_same) (.cons (.str _) (.cons (.int _) (.cons (.str _) .nil))))
            exact ⟨H', rfl, g1, ⟨_, _, _, rfl⟩, g2⟩
          · rw [if_neg hm] at hyv
            cases hyv
        · rw [hnums.2 n] at hnv
          by_cases hm : n ∈ (renOf ((upE es).take j)).1
          · rw [if_pos hm] at hnv
            cases hnv
          · rw [if_neg hm] at fin
            have lk : ∀ b o, G' b = some o → b ≠ pn → (upd G' pn (.dK (putK nums (Sum.inl n) (.int (nums.length : Nat))))) b = some o := fun b o e hb => by rw [upd_ne hb]; exact e
            have put : Ex H (upd G' pn (.dK (putK nums (Sum.inl n) (.int (nums.length : Nat))))) := xg.put hpn
            have mv := mv_upd (u := .dK (putK nums (Sum.inl n) (.int (nums.length : Nat)))) hn (fun q => q)
            have ha2 := mv_sqT (K := K) mv ha
            have hrow2 := mv_row (K := K) mv hrow
            have hnn : (upd G' pn (.dK (putK nums (Sum.inl n) (.int (nums.length : Nat))))) pn = some (.dK (putK nums (Sum.inl n) (.int (nums.length : Nat)))) := upd_same
            have hf2 : (upd G' pn (.dK (putK nums (Sum.inl n) (.int (nums.length : Nat))))) pf = some (.dT kf) := by rw [upd_ne (Ne.symm hnf)]; exact hf
            have hl2 : (upd G' pn (.dK (putK nums (Sum.inl n) (.int (nums.length : Nat))))) l = some (.lst (LS.addrs ys)) := by rw [upd_ne hlp.1]; exact hlG
            have hp2 : ∀ z ∈ ys, PathX (upd G' pn (.dK (putK nums (Sum.inl n) (.int (nums.length : Nat))))) z.1 z.2 := fun u hu => mv _ _ (hpG u hu) trivial
            have hnl2 : (putK nums (Sum.inl n) (V.int (nums.length : Nat))).length ≤ j + 1 := by
              have := length_putK nums (Sum.inl n) (V.int (nums.length : Nat))
              omega
            have eidx : ((List.idxOf n (renOf ((upE es).take j)).1 : Nat) : Int) = ((nums.length : Nat) : Int) := by
              rw [hnums.1, List.idxOf_eq_length hm]
            generalize upd G' pn (.dK (putK nums (Sum.inl n) (.int (nums.length : Nat)))) = G2 at put ha2 hrow2 hnn hf2 hl2 hp2 ⊢
            refine ⟨_, rfl, _, rfl, a0, xs, 2, .str tx, rfl, rfl, ha2, at_of (j := 2) rfl at2, (by show 3 ≤ sizeLine; decide), fun q hq => ?_⟩
            have xq := Ex.new (o := .tup [V.str "file", V.int (nums.length : Nat), V.str tx]) hq
            refine ⟨_, rfl, _, rfl, _, rfl, pf, ?_⟩
            obtain ⟨H', g1, g2⟩ := fin _ (.ref q) _ (put.trans xq) (xq.keep _ _ hl2 (fun ps z => by cases z)) (fun u hu => PathX.ex xq (hp2 u hu)) (xq.keep _ _ hnn (fun ps z => by cases z)) (hnums.add hm) hnl2 (xq.keep _ _ hf2 (fun ps z => by cases z)) (hrow2.ex xq)
              (by rw [eidx]; exact .tup (SqT.of upd_same) (.cons (.str _) (.cons (.int _) (.cons (.str _) .nil))))
            exact ⟨H', rfl, g1, ⟨_, _, _, rfl⟩, g2⟩
      · rw [ed] at dv fin
        obtain ⟨f1, f2⟩ := renD_oth (seen := (renOf ((upE es).take j)).1) (ds := ds) hw
        rw [f1, f2] at fin
        rcases kn_tuple dv with ⟨a0, xs, ds', rfl, ed', ha, hx⟩ | ⟨hno, _⟩
        rotate_left
        · exact absurd rfl (hno _)
        cases ed'
        obtain ⟨w0, at0, d0⟩ := dpAll_get 0 hx (by simp)
        cases d0
        refine ⟨_, rfl, _, rfl, d, .ref a0, rfl, dg, ?_⟩
        refine ⟨_, rfl, a0, xs, 0, _, rfl, rfl, ha, at_of (j := 0) rfl at0, rfl, _, rfl, ?_⟩
        rw [show decide (V.str wd = V.str "file") = false from decide_eq_false (fun q => hw (by injection q))]
        refine iteF ⟨_, rfl, _, rfl, _, rfl, pf, ?_⟩
        obtain ⟨H', g1, g2⟩ := fin G' (.ref a0) nums xg hlG hpG hn hnums (by omega) hf hrow dv
        exact ⟨H', rfl, g1, ⟨_, _, _, rfl⟩, g2⟩
    · rintro σ G ⟨⟨v3, v4, v5, rfl⟩, xg, hlG, hpG, nums, kf, hn, hnums, hnl, hf, hrow⟩
      have hle : (LS.addrs ys).length = (upE es).length := by rw [eup]; unfold LS.addrs; rw [List.length_map, List.length_map]
      rw [hle, List.take_length] at hrow
      exact ⟨_, rfl, k G pf kf xg hf hpfH hrow⟩
end
/-! ### forms of things -/
def drD : PyData := .tuple [.str "drawer"]
theorem list1 {ds : List PyData} (h : ds.length = 1) : ds = [ds.getD 0 .none] := by
  match ds, h with
  | [a], _ => rfl
theorem list3 {ds : List PyData} (h : ds.length = 3) : ds = [ds.getD 0 .none, ds.getD 1 .none, ds.getD 2 .none] := by
  match ds, h with
  | [a, b, c], _ => rfl
theorem kind_form {word : Str} {many : Nat} {d : PyData} (h : kindB word many d = true) : ∃ ds, d = .tuple ds ∧ ds.length = many ∧ ds.getD 0 .none = .str word := by
  cases d with
  | tuple ds =>
    have : (decide (ds.length = many) && headIs word (ds.getD 0 .none)) = true := h
    rw [Bool.and_eq_true] at this
    obtain ⟨h1, h2⟩ := this
    refine ⟨ds, rfl, of_decide_eq_true h1, ?_⟩
    cases e : ds.getD 0 .none with
    | str z =>
      rw [e] at h2
      have : z = word := of_decide_eq_true h2
      rw [this]
    | _ => rw [e] at h2; exact absurd (show false = true from h2) Bool.false_ne_true
  | _ => exact absurd (show false = true from h) Bool.false_ne_true
theorem file_form {d : PyData} (h : fileB d = true) : ∃ n z, d = .tuple [.str "file", .int n, .str z] ∧ numB (.int n) = true ∧ textB z = true := by
  obtain ⟨ds, n, z, rfl, hl, p1, p2, g1, g2⟩ := file_parts h
  obtain ⟨ds', e, _, g0⟩ := kind_form (file_kind h)
  cases e
  have hx := h
  unfold fileB at hx
  simp only [Bool.and_eq_true] at hx
  rw [p1, p2] at hx
  refine ⟨n, z, ?_, hx.2.1, hx.2.2⟩
  rw [list3 hl, g0, g1, g2]
theorem tree_form {d : PyData} (h : drawerB d = true ∨ fileB d = true) : d = drD ∨ ∃ n z, d = .tuple [.str "file", .int n, .str z] ∧ numB (.int n) = true ∧ textB z = true := by
  rcases h with h | h
  · obtain ⟨ds, rfl, hl, g0⟩ := kind_form (show kindB "drawer" 1 d = true from h)
    exact Or.inl (by rw [list1 hl, g0]; rfl)
  · exact Or.inr (file_form h)
/-! ### all stays but one thing -/
/-- as Ex, but for the list at l -/
structure Eb (l : Addr) (H H' : Hp) : Prop where
  keep : ∀ b o, b ≠ l → H b = some o → (∀ ps, o ≠ .tbl ps) → H' b = some o
  tab : ∀ b, TabG H b → TabG H' b
  free : ∀ b, H' b = none → H b = none
theorem Eb.refl {l : Addr} (H : Hp) : Eb l H H := ⟨fun _ _ _ h _ => h, fun _ h => h, fun _ h => h⟩
theorem Eb.trans {l : Addr} {H H1 H2 : Hp} (a : Eb l H H1) (b : Eb l H1 H2) : Eb l H H2 :=
  ⟨fun c o z h n => b.keep c o z (a.keep c o z h n) n, fun c h => b.tab c (a.tab c h), fun c h => a.free c (b.free c h)⟩
theorem ex_eb {l : Addr} {H H' : Hp} (x : Ex H H') : Eb l H H' := ⟨fun b o _ e n => x.keep b o e n, x.tab, x.free⟩
theorem eb_upd {l : Addr} {H : Hp} {xs ys : List V} (h : H l = some (.lst xs)) : Eb l H (upd H l (.lst ys)) := by
  constructor
  · intro b o hb e _
    rw [upd_ne hb]; exact e
  · rintro b ⟨ps, e2, t⟩
    exact ⟨ps, by rw [upd_ne (ne_of e2 h (fun z => by cases z))]; exact e2, t⟩
  · intro b e2
    by_cases hb : b = l
    · rw [hb, upd_same] at e2; cases e2
    · rw [upd_ne hb] at e2; exact e2
theorem lock_goS {t : TS} {D : Ends} {σ : L2.St} {H : Hp} {d : Addr} {kvs : List (List L2.Key × V)} (hd : Rd H d (.dT kvs))
    (h : ∀ (H1 : Hp) (od : Obj) (R : Ends), (∀ b o, H b = some o → b ≠ d → H1 b = some o) → (∀ b, TabG H b → TabG H1 b) → (∀ b, H1 b = none → H b = none) → H1 d = some (.frz od (.dT kvs)) →
      (∀ σ' H', Ex H1 H' → (∀ H2, Ex H H2 → (∀ b o, H' b = some o → b ≠ d → H2 b = some o) → D.nx σ' H2) → R.nx σ' H') → t R σ H1) : tLockS t D σ H := by
  rcases hd with hd | ⟨od, hd⟩
  · refine Or.inl ⟨d, _, hd, trivial, fun od => ?_⟩
    refine h _ od _ (fun b o e hb => by rw [upd_ne hb]; exact e) (fun b => ?_) (fun b e => ?_) upd_same fun v H' x q => ⟨x.keep _ _ upd_same (fun ps z => by cases z), q _ (Ex.unlock hd x) fun b o e hb => by rw [upd_ne hb]; exact e⟩
    · rintro ⟨ps, e, t⟩
      refine ⟨ps, ?_, t⟩
      rw [upd_ne (fun z => by
        rw [z, hd] at e
        cases e)]
      exact e
    · by_cases hb : b = d
      · rw [hb, upd_same] at e
        cases e
      · rwa [upd_ne hb] at e
  · exact Or.inr (h H od D (fun b o e _ => e) (fun b t => t) (fun b e => e) hd fun v H' x q => q H' x fun b o e _ => e)
/-! ### one text each -/
def fileD (n : Int) (z : Str) : PyData := .tuple [.str "file", .int n, .str z]
def OneE (ds : List PyData) : Prop := ∀ n y z, fileD n y ∈ ds → fileD n z ∈ ds → y = z
theorem file_part1 (n : Int) (z : Str) : partD 1 (fileD n z) = .int n ∧ partD 2 (fileD n z) = .str z := ⟨rfl, rfl⟩
theorem textsGo_iff : ∀ (ds : List PyData) {seen : List (L2.Key × V)}, StrVals seen → (∀ n z, fileD n z ∈ ds → fileB (fileD n z) = true) →
    (textsGo seen ds = true ↔ (OneE ds ∧ ∀ n y z, fileD n y ∈ ds → valV seen (Sum.inl n) = some (.str z) → z = y))
  | [], seen, _, _ => by
    rw [textsGo.eq_1]
    exact ⟨fun _ => ⟨fun n y z h => (nomatch h), fun n y z h => (nomatch h)⟩, fun _ => rfl⟩
  | x :: ds, seen, hs, hf => by
    have hf' : ∀ n z, fileD n z ∈ ds → fileB (fileD n z) = true := fun n z h => hf n z (List.mem_cons_of_mem _ h)
    cases hx : fileB x with
    | false =>
      have hne : ∀ n z, fileD n z ∈ x :: ds → fileD n z ∈ ds := fun n z h => by
        rcases List.mem_cons.mp h with e | e
        · have := hf n z h
          rw [e, hx] at this
          cases this
        · exact e
      rw [textsGo_not hx, textsGo_iff ds hs hf']
      exact ⟨fun ⟨a, b⟩ => ⟨fun n y z h1 h2 => a n y z (hne _ _ h1) (hne _ _ h2), fun n y z h1 h2 => b n y z (hne _ _ h1) h2⟩,
        fun ⟨a, b⟩ => ⟨fun n y z h1 h2 => a n y z (List.mem_cons_of_mem _ h1) (List.mem_cons_of_mem _ h2), fun n y z h1 h2 => b n y z (List.mem_cons_of_mem _ h1) h2⟩⟩
    | true =>
      obtain ⟨n, z, ex, _, _⟩ := file_form hx
      have ex : x = fileD n z := ex
      subst ex
      cases hv : valV seen (Sum.inl n) with
      | none =>
        rw [textsGo_new hx rfl rfl hv, textsGo_iff ds hs.put hf']
        constructor
        · rintro ⟨a, b⟩
          have same : ∀ y, fileD n y ∈ ds → z = y := fun y h => b n y z h (by rw [valV_put, if_pos rfl])
          refine ⟨fun m y u h1 h2 => ?_, fun m y u h1 h2 => ?_⟩
          · rcases List.mem_cons.mp h1 with e1 | e1
            · cases e1
              rcases List.mem_cons.mp h2 with e2 | e2
              · cases e2; rfl
              · exact same u e2
            · rcases List.mem_cons.mp h2 with e2 | e2
              · cases e2
                exact (same y e1).symm
              · exact a m y u e1 e2
          · rcases List.mem_cons.mp h1 with e1 | e1
            · cases e1
              rw [hv] at h2
              cases h2
            · refine b m y u e1 ?_
              rw [valV_put, if_neg]
              · exact h2
              · intro e
                cases e
                rw [hv] at h2
                cases h2
        · rintro ⟨a, b⟩
          refine ⟨fun m y u h1 h2 => a m y u (List.mem_cons_of_mem _ h1) (List.mem_cons_of_mem _ h2), fun m y u h1 h2 => ?_⟩
          rw [valV_put] at h2
          split at h2
          · rename_i e
            cases e
            cases h2
            exact a n z y (List.mem_cons_self ..) (List.mem_cons_of_mem _ h1)
          · exact b m y u (List.mem_cons_of_mem _ h1) h2
      | some v =>
        obtain ⟨y0, rfl⟩ := hs _ _ hv
        rw [textsGo_old hx rfl rfl hv]
        by_cases hyz : y0 = z
        · subst hyz
          rw [if_pos rfl, textsGo_iff ds hs hf']
          constructor
          · rintro ⟨a, b⟩
            have same : ∀ y, fileD n y ∈ ds → y0 = y := fun y h => b n y y0 h hv
            refine ⟨fun m y u h1 h2 => ?_, fun m y u h1 h2 => ?_⟩
            · rcases List.mem_cons.mp h1 with e1 | e1
              · cases e1
                rcases List.mem_cons.mp h2 with e2 | e2
                · cases e2; rfl
                · exact same u e2
              · rcases List.mem_cons.mp h2 with e2 | e2
                · cases e2
                  exact (same y e1).symm
                · exact a m y u e1 e2
            · rcases List.mem_cons.mp h1 with e1 | e1
              · cases e1
                rw [hv] at h2
                cases h2
                rfl
              · exact b m y u e1 h2
          · rintro ⟨a, b⟩
            exact ⟨fun m y u h1 h2 => a m y u (List.mem_cons_of_mem _ h1) (List.mem_cons_of_mem _ h2), fun m y u h1 h2 => b m y u (List.mem_cons_of_mem _ h1) h2⟩
        · rw [if_neg hyz]
          exact ⟨fun h => (nomatch h), fun ⟨_, b⟩ => absurd (b n z y0 (List.mem_cons_self ..) hv) hyz⟩
theorem oneText_iff {ds : List PyData} (hf : ∀ n z, fileD n z ∈ ds → fileB (fileD n z) = true) : oneTextB ds = true ↔ OneE ds := by
  have h0 : StrVals [] := fun k v h => nomatch h
  unfold oneTextB
  rw [textsGo_iff ds h0 hf]
  exact ⟨fun h => h.1, fun h => ⟨h, fun n y z _ h2 => nomatch h2⟩⟩
theorem fileD_inj {n m : Int} {y z : Str} (h : fileD n y = fileD m z) : n = m ∧ y = z := by
  unfold fileD at h
  injection h with h
  injection h with _ h
  injection h with h1 h
  injection h with h2 _
  injection h1 with h1
  injection h2 with h2
  exact ⟨h1, h2⟩
def thingD (d : PyData) : Prop := d = drD ∨ ∃ n z, d = .tuple [.str "file", .int n, .str z]
/-! ### plain rows -/
theorem take_new {α : Type} {l : List α} {f : α → List Str} (nd : (l.map f).Nodup) {i : Nat} {x : α} (h : l[i]? = some x) : f x ∉ (l.take i).map f := by
  intro hm
  obtain ⟨y, hy, ey⟩ := List.mem_map.mp hm
  obtain ⟨j, hj, rfl⟩ := List.mem_iff_getElem.mp hy
  rw [List.length_take] at hj
  rw [List.getElem_take] at ey
  obtain ⟨hil, hie⟩ := List.getElem?_eq_some_iff.mp h
  have h1 : (l.map f)[j]'(by rw [List.length_map]; omega) = (l.map f)[i]'(by rw [List.length_map]; exact hil) := by
    rw [List.getElem_map, List.getElem_map, hie]
    exact ey
  have := (List.getElem_inj nd).mp h1
  omega
theorem valE_key {es : Ents} {p : List Str} (h : (valE es p).isSome = true) : p ∈ es.map (·.1) := by
  cases e : valE es p with
  | none => rw [e] at h; cases h
  | some d =>
    obtain ⟨x, hx, e1, _⟩ := valE_mem e
    exact List.mem_map.mpr ⟨x, hx, e1⟩
theorem plainE_len (es : Ents) : (plainE es).length = es.length := by
  have h1 := congrArg List.length (renOf_keys (upE es) ([], []))
  have h2 : (plainE es).length = (upE es).length := by
    have : ((renOf (upE es)).2.map (·.1)).length = ((upE es).map (·.1)).length := by
      rw [show renOf (upE es) = (upE es).foldl renStep ([], []) from rfl, renOf_keys]
      rfl
    rwa [List.length_map, List.length_map] at this
  rw [h2]
  unfold upE
  rw [List.length_map, (keysUpE_perm es).length_eq, List.length_map]
theorem plainE_keys (es : Ents) : (plainE es).map (·.1) = keysUpE es := by
  unfold plainE
  rw [show renOf (upE es) = (upE es).foldl renStep ([], []) from rfl, renOf_keys]
  unfold upE
  rw [List.map_map]
  show [] ++ (keysUpE es).map _ = _
  rw [List.nil_append]
  exact List.map_id' _
theorem ren_thing {s : List Int} {d : PyData} (h : thingD d) : thingD (renD s d) := by
  rcases h with rfl | ⟨n, z, rfl⟩
  · exact Or.inl (renD_oth (w := "drawer") (ds := []) (by decide +kernel)).1
  · exact Or.inr ⟨_, z, renD_file.1⟩
theorem fold_thing : ∀ (us : Ents) (st : List Int × Ents), (∀ e ∈ us, thingD e.2) → (∀ e ∈ st.2, thingD e.2) → ∀ e ∈ (us.foldl renStep st).2, thingD e.2
  | [], st, _, h => h
  | u :: us, st, hu, h => fold_thing us (renStep st u) (fun e he => hu e (List.mem_cons_of_mem _ he)) fun e he => by
    unfold renStep at he
    rcases List.mem_append.mp he with he | he
    · exact h e he
    · rw [List.mem_singleton.mp he]
      exact ren_thing (hu u (List.mem_cons_self ..))
theorem plainE_thing {es : Ents} (h : ∀ e ∈ es, thingD e.2) : ∀ e ∈ plainE es, thingD e.2 := by
  refine fold_thing (upE es) ([], []) (fun e he => ?_) (fun e he => nomatch he)
  obtain ⟨p, hp, rfl⟩ := List.mem_map.mp he
  have hk : p ∈ es.map (·.1) := (keysUpE_perm es).mem_iff.mp hp
  show thingD ((valE es p).getD .none)
  cases hv : valE es p with
  | none =>
    exfalso
    obtain ⟨x, hx, rfl⟩ := List.mem_map.mp hk
    unfold valE at hv
    rw [Option.map_eq_none_iff] at hv
    exact List.find?_eq_none.mp hv x hx (decide_eq_true rfl)
  | some d =>
    obtain ⟨x, hx, _, rfl⟩ := valE_mem hv
    exact h x hx
theorem plainE_key {es : Ents} {e : List Str × PyData} (h : e ∈ plainE es) : e.1 ∈ es.map (·.1) := by
  have : e.1 ∈ (plainE es).map (·.1) := List.mem_map.mpr ⟨e, h, rfl⟩
  rw [plainE_keys] at this
  exact (keysUpE_perm es).mem_iff.mp this
def Bi (C : Int → Int → Prop) : Prop := ∀ n m n' m', C n m → C n' m' → (n = n' ↔ m = m')
def relD (C : Int → Int → Prop) (d e : PyData) : Prop := (d = drD ∧ e = drD) ∨ ∃ n m z, d = .tuple [.str "file", .int n, .str z] ∧ e = .tuple [.str "file", .int m, .str z] ∧ C n m
theorem idx_bi {C : Int → Int → Prop} (bi : Bi C) {n m : Int} (h : C n m) : ∀ {s t : List Int}, Paired C s t → s.idxOf n = t.idxOf m ∧ (n ∈ s ↔ m ∈ t)
  | _, _, .nil => ⟨rfl, Iff.intro (fun h => nomatch h) (fun h => nomatch h)⟩
  | a :: s, b :: t, .cons hab r => by
    obtain ⟨h1, h2⟩ := idx_bi bi h r
    have e := bi a b n m hab h
    constructor
    · rw [List.idxOf_cons, List.idxOf_cons, h1]
      by_cases c : a = n
      · rw [show (a == n) = true from beq_iff_eq.mpr c, show (b == m) = true from beq_iff_eq.mpr (e.mp c)]
      · rw [show (a == n) = false from beq_eq_false_iff_ne.mpr c, show (b == m) = false from beq_eq_false_iff_ne.mpr fun z => c (e.mpr z)]
    · rw [List.mem_cons, List.mem_cons, h2]
      constructor
      · rintro (c | c)
        · exact Or.inl (e.mp c.symm).symm
        · exact Or.inr c
      · rintro (c | c)
        · exact Or.inl (e.mpr c.symm).symm
        · exact Or.inr c
theorem step_bi {C : Int → Int → Prop} (bi : Bi C) {st1 st2 : List Int × Ents} {e f : List Str × PyData} (hs : Paired C st1.1 st2.1) (h2 : st1.2 = st2.2) (hk : e.1 = f.1) (hd : relD C e.2 f.2) :
    Paired C (renStep st1 e).1 (renStep st2 f).1 ∧ (renStep st1 e).2 = (renStep st2 f).2 := by
  unfold renStep
  rcases hd with ⟨d1, d2⟩ | ⟨n, m, z, d1, d2, c⟩
  · have o1 := renD_oth (seen := st1.1) (w := "drawer") (ds := []) (by decide +kernel)
    have o2 := renD_oth (seen := st2.1) (w := "drawer") (ds := []) (by decide +kernel)
    rw [d1, d2, show drD = .tuple (.str "drawer" :: []) from rfl, o1.1, o1.2, o2.1, o2.2, hk, h2]
    exact ⟨hs, rfl⟩
  · obtain ⟨i1, i2⟩ := idx_bi bi c hs
    rw [d1, d2, renD_file.1, renD_file.1, renD_file.2, renD_file.2, i1, hk, h2]
    refine ⟨?_, rfl⟩
    by_cases hm : n ∈ st1.1
    · rw [if_pos hm, if_pos (i2.mp hm)]
      exact hs
    · rw [if_neg hm, if_neg fun z => hm (i2.mpr z)]
      exact Paired.snoc hs c
theorem fold_bi {C : Int → Int → Prop} (bi : Bi C) : ∀ {us vs : Ents}, Paired (fun e f => e.1 = f.1 ∧ relD C e.2 f.2) us vs → ∀ {st1 st2 : List Int × Ents}, Paired C st1.1 st2.1 → st1.2 = st2.2 → (us.foldl renStep st1).2 = (vs.foldl renStep st2).2
  | _, _, .nil => fun _ h => h
  | _ :: _, _ :: _, .cons a r => fun hs h2 => by
    obtain ⟨h3, h4⟩ := step_bi bi hs h2 a.1 a.2
    exact fold_bi bi r h3 h4
theorem upE_bi {C : Int → Int → Prop} {us vs : Ents} : ∀ {ks : List (List Str)}, (∀ p ∈ ks, relD C ((valE us p).getD .none) ((valE vs p).getD .none)) →
    Paired (fun e f : List Str × PyData => e.1 = f.1 ∧ relD C e.2 f.2) (ks.map fun p => (p, (valE us p).getD .none)) (ks.map fun p => (p, (valE vs p).getD .none))
  | [], _ => .nil
  | p :: ks, h => .cons ⟨rfl, h p (List.mem_cons_self ..)⟩ (upE_bi fun q hq => h q (List.mem_cons_of_mem _ hq))
theorem plainE_bi {C : Int → Int → Prop} (bi : Bi C) {us vs : Ents} (keys : keysUpE us = keysUpE vs) (h : ∀ p ∈ keysUpE us, relD C ((valE us p).getD .none) ((valE vs p).getD .none)) : plainE us = plainE vs := by
  unfold plainE renOf upE
  rw [← keys]
  exact fold_bi bi (upE_bi h) .nil rfl
theorem keysUpE_same {us vs : Ents} (nu : (us.map (·.1)).Nodup) (nv : (vs.map (·.1)).Nodup) (h : ∀ p, p ∈ us.map (·.1) ↔ p ∈ vs.map (·.1)) : keysUpE us = keysUpE vs :=
  rising_uniq (((keysUpE_perm us).trans ((List.perm_ext_iff_of_nodup nu nv).mpr h)).trans (keysUpE_perm vs).symm) (keysUpE_rising us) (keysUpE_rising vs)

theorem ren_pre {s more : List Int} {d : PyData} (h : thingD d) : renD (seenD s d ++ more) d = renD s d := by
  rcases h with rfl | ⟨n, z, rfl⟩
  · rw [show drD = .tuple (.str "drawer" :: []) from rfl, (renD_oth (w := "drawer") (ds := []) (by decide +kernel)).1, (renD_oth (w := "drawer") (ds := []) (by decide +kernel)).1]
  · rw [renD_file.1, renD_file.1, renD_file.2]
    by_cases hm : n ∈ s
    · rw [if_pos hm, List.idxOf_append, if_pos hm]
    · rw [if_neg hm, List.append_assoc, List.idxOf_append, if_neg hm, List.singleton_append, List.idxOf_cons_self, List.idxOf_eq_length hm, Nat.zero_add]
theorem fold_pre : ∀ (us : Ents) (st : List Int × Ents), ∃ more, (us.foldl renStep st).1 = st.1 ++ more
  | [], st => ⟨[], by rw [List.append_nil]; rfl⟩
  | u :: us, st => by
    obtain ⟨more, h⟩ := fold_pre us (renStep st u)
    have h1 : ∃ m1, (renStep st u).1 = st.1 ++ m1 := by
      show ∃ m1, seenD st.1 u.2 = st.1 ++ m1
      unfold seenD
      split
      · split
        · split
          · exact ⟨[], by rw [List.append_nil]⟩
          · exact ⟨_, rfl⟩
        · exact ⟨[], by rw [List.append_nil]⟩
      · exact ⟨[], by rw [List.append_nil]⟩
    obtain ⟨m1, h1⟩ := h1
    exact ⟨m1 ++ more, by rw [List.foldl_cons, h, h1, List.append_assoc]⟩
theorem fold_final : ∀ (us : Ents) (st : List Int × Ents), (∀ e ∈ us, thingD e.2) → (us.foldl renStep st).2 = st.2 ++ us.map fun e => (e.1, renD (us.foldl renStep st).1 e.2)
  | [], st, _ => by rw [List.map_nil, List.append_nil]; rfl
  | u :: us, st, h => by
    have ih := fold_final us (renStep st u) fun e he => h e (List.mem_cons_of_mem _ he)
    obtain ⟨more, hp⟩ := fold_pre us (renStep st u)
    rw [List.foldl_cons, ih, List.map_cons, hp]
    show (st.2 ++ [(u.1, renD st.1 u.2)]) ++ _ = _
    rw [show (renStep st u).1 = seenD st.1 u.2 from rfl, ren_pre (h u (List.mem_cons_self ..)), List.append_assoc]
    rfl
theorem valE_tab (f : List Str → PyData) (p : List Str) : ∀ (ks : List (List Str)), valE (ks.map fun q => (q, f q)) p = if p ∈ ks then some (f p) else none
  | [] => rfl
  | q :: ks => by
    have ih := valE_tab f p ks
    have hc : valE ((q :: ks).map fun q => (q, f q)) p = if q = p then some (f q) else valE (ks.map fun q => (q, f q)) p := by
      unfold valE
      rw [List.map_cons, List.find?_cons]
      by_cases h : q = p
      · rw [show decide ((q, f q).1 = p) = true from decide_eq_true h, if_pos h]; rfl
      · rw [show decide ((q, f q).1 = p) = false from decide_eq_false h, if_neg h]
    rw [hc, ih]
    by_cases h : q = p
    · rw [if_pos h, h, if_pos (List.mem_cons_self ..)]
    · rw [if_neg h]
      by_cases hm : p ∈ ks
      · rw [if_pos hm, if_pos (List.mem_cons_of_mem _ hm)]
      · rw [if_neg hm, if_neg fun z => (List.mem_cons.mp z).elim (fun e => h e.symm) hm]
structure FilE (ts : Ents) : Prop where
  one : OneE (ts.map (·.2))
  fit : ∀ e ∈ ts, ∀ n z, e.2 = fileD n z → 0 ≤ n ∧ textB z = true
theorem idxI_inj : ∀ {s : List Int} {n m : Int}, n ∈ s → m ∈ s → s.idxOf n = s.idxOf m → n = m
  | a :: s, n, m, h1, h2, e => by
    rw [List.idxOf_cons, List.idxOf_cons] at e
    by_cases c1 : a = n
    · by_cases c2 : a = m
      · exact c1.symm.trans c2
      · rw [show (a == n) = true from beq_iff_eq.mpr c1, show (a == m) = false from beq_eq_false_iff_ne.mpr c2] at e
        exact absurd e (Nat.succ_ne_zero _).symm
    · by_cases c2 : a = m
      · rw [show (a == n) = false from beq_eq_false_iff_ne.mpr c1, show (a == m) = true from beq_iff_eq.mpr c2] at e
        exact absurd e (Nat.succ_ne_zero _)
      · rw [show (a == n) = false from beq_eq_false_iff_ne.mpr c1, show (a == m) = false from beq_eq_false_iff_ne.mpr c2] at e
        refine idxI_inj ((List.mem_cons.mp h1).resolve_left fun z => c1 z.symm) ((List.mem_cons.mp h2).resolve_left fun z => c2 z.symm) ?_
        exact Nat.succ.inj e
theorem fold_in : ∀ (us : Ents) (st : List Int × Ents) (e : List Str × PyData), e ∈ us → ∀ n z, e.2 = fileD n z → n ∈ (us.foldl renStep st).1
  | u :: us, st, e, he, n, z, ez => by
    rw [List.foldl_cons]
    rcases List.mem_cons.mp he with h | h
    · obtain ⟨more, hp⟩ := fold_pre us (renStep st u)
      rw [hp]
      refine List.mem_append_left _ ?_
      show n ∈ seenD st.1 u.2
      rw [← h, ez]
      show n ∈ seenD st.1 (.tuple [.str "file", .int n, .str z])
      rw [renD_file.2]
      by_cases hm : n ∈ st.1
      · rw [if_pos hm]; exact hm
      · rw [if_neg hm]; exact List.mem_append_right _ (List.mem_singleton.mpr rfl)
    · exact fold_in us _ e h n z ez
theorem fold_len : ∀ (us : Ents) (st : List Int × Ents), (us.foldl renStep st).1.length ≤ st.1.length + us.length
  | [], st => Nat.le_refl _
  | u :: us, st => by
    rw [List.foldl_cons, List.length_cons]
    have h := fold_len us (renStep st u)
    have h1 : (renStep st u).1.length ≤ st.1.length + 1 := by
      show (seenD st.1 u.2).length ≤ _
      unfold seenD
      split
      · split
        · split
          · omega
          · rw [List.length_append]; exact Nat.le_refl _
        · omega
      · omega
    omega
theorem upE_len (es : Ents) : (upE es).length = es.length := by
  unfold upE
  rw [List.length_map, (keysUpE_perm es).length_eq, List.length_map]
theorem upE_val {es : Ents} {e : List Str × PyData} (h : e ∈ upE es) : ∃ x ∈ es, e = x := by
  obtain ⟨p, hp, rfl⟩ := List.mem_map.mp h
  have hk : p ∈ es.map (·.1) := (keysUpE_perm es).mem_iff.mp hp
  cases hv : valE es p with
  | none =>
    exfalso
    obtain ⟨x, hx, rfl⟩ := List.mem_map.mp hk
    unfold valE at hv
    rw [Option.map_eq_none_iff] at hv
    exact List.find?_eq_none.mp hv x hx (decide_eq_true rfl)
  | some d =>
    obtain ⟨x, hx, ex, rfl⟩ := valE_mem hv
    refine ⟨x, hx, ?_⟩
    rw [← ex]
    rfl
theorem plainE_fil {es : Ents} (th : ∀ e ∈ es, thingD e.2) (one : OneE (es.map (·.2))) (tx : ∀ e ∈ es, ∀ n z, e.2 = fileD n z → textB z = true) :
    FilE (plainE es) ∧ ∀ e ∈ plainE es, ∀ n z, e.2 = fileD n z → n < es.length := by
  have hth : ∀ e ∈ upE es, thingD e.2 := fun e he => by
    obtain ⟨x, hx, rfl⟩ := upE_val he
    exact th _ hx
  have hpl : plainE es = (upE es).map fun e => (e.1, renD (renOf (upE es)).1 e.2) := by
    have h1 := fold_final (upE es) ([], []) hth
    unfold plainE
    exact h1
  have mem : ∀ e ∈ plainE es, ∀ m z, e.2 = fileD m z → ∃ n, fileD n z ∈ es.map (·.2) ∧ n ∈ (renOf (upE es)).1 ∧ m = (((renOf (upE es)).1.idxOf n : Nat) : Int) := by
    intro e he m z ez
    rw [hpl] at he
    obtain ⟨u, hu, rfl⟩ := List.mem_map.mp he
    have ez : renD (renOf (upE es)).1 u.2 = fileD m z := ez
    rcases hth u hu with hd | ⟨n, y, hd⟩
    · rw [hd, show drD = .tuple (.str "drawer" :: []) from rfl, (renD_oth (w := "drawer") (ds := []) (by decide +kernel)).1] at ez
      cases ez
    · rw [hd, renD_file.1] at ez
      obtain ⟨e1, e2⟩ := fileD_inj ez
      obtain ⟨x, hx, ex⟩ := upE_val hu
      refine ⟨n, List.mem_map.mpr ⟨x, hx, ?_⟩, fold_in _ _ u hu n y hd, e1.symm⟩
      rw [← ex, hd, ← e2]
      rfl
  refine ⟨⟨fun m y z h1 h2 => ?_, fun e he m z ez => ?_⟩, fun e he m z ez => ?_⟩
  · obtain ⟨a, ha, ea⟩ := List.mem_map.mp h1
    obtain ⟨b, hb, eb⟩ := List.mem_map.mp h2
    obtain ⟨n, n1, n2, n3⟩ := mem a ha m y ea
    obtain ⟨k, k1, k2, k3⟩ := mem b hb m z eb
    have hnk : n = k := idxI_inj n2 k2 (by omega)
    subst hnk
    exact one n y z n1 k1
  · obtain ⟨n, n1, n2, n3⟩ := mem e he m z ez
    obtain ⟨x, hx, ex⟩ := List.mem_map.mp n1
    exact ⟨by omega, tx x hx n z ex⟩
  · obtain ⟨n, n1, n2, n3⟩ := mem e he m z ez
    have h1 := List.idxOf_lt_length_of_mem n2
    have h2 : (renOf (upE es)).1.length ≤ 0 + (upE es).length := fold_len (upE es) ([], [])
    rw [upE_len] at h2
    omega
theorem valE_isKey {es : Ents} (nd : (es.map (·.1)).Nodup) {p : List Str} : p ∈ es.map (·.1) ↔ (valE es p).isSome = true := by
  refine ⟨fun hm => ?_, valE_key⟩
  obtain ⟨x, hx, rfl⟩ := List.mem_map.mp hm
  rw [valE_nd nd hx]
  rfl
theorem sameE_of {es fs : Ents} (n1 : (es.map (·.1)).Nodup) (n2 : (fs.map (·.1)).Nodup) (h : ∀ p, valE es p = valE fs p) (sh : ∀ e ∈ es, SeqAt.shaped e.2 = true) : LD.sameE es fs = true := by
  have hp : (es.map (·.1)).Perm (fs.map (·.1)) := (List.perm_ext_iff_of_nodup n1 n2).mpr fun p => by rw [valE_isKey n1, valE_isKey n2, h]
  have hl := hp.length_eq
  rw [List.length_map, List.length_map] at hl
  unfold LD.sameE LD.eqvE
  rw [Bool.and_eq_true, List.all_eq_true]
  refine ⟨beq_iff_eq.mpr hl, fun e he => ?_⟩
  have := valE_nd n1 he
  rw [h] at this
  show (match valE fs e.1 with
    | some d => PyData.eqv e.2 d
    | none => false) = true
  rw [this]
  exact eqv_same _ (sh e he)

theorem plain_same {us vs : Ents} (nu : (us.map (·.1)).Nodup) (nv : (vs.map (·.1)).Nodup) (h : ∀ p, valE us p = valE vs p) (th : ∀ e ∈ us, thingD e.2) : plainE us = plainE vs := by
  have key : ∀ {es : Ents} {q : List Str}, (es.map (·.1)).Nodup → (q ∈ es.map (·.1) ↔ (valE es q).isSome = true) := fun {es q} n => by
    refine ⟨fun hm => ?_, valE_key⟩
    obtain ⟨x, hx, rfl⟩ := List.mem_map.mp hm
    rw [valE_nd n hx]
    rfl
  refine plainE_bi (C := fun n m => n = m) (fun n m n' m' a b => by rw [a, b]) (keysUpE_same nu nv fun p => by rw [key nu, key nv, h]) fun p hp => ?_
  rw [← h]
  have hk : p ∈ us.map (·.1) := (keysUpE_perm us).mem_iff.mp hp
  obtain ⟨x, hx, rfl⟩ := List.mem_map.mp hk
  rw [valE_nd nu hx]
  rcases th x hx with hd | ⟨n, z, hd⟩
  · exact Or.inl ⟨hd, hd⟩
  · exact Or.inr ⟨n, n, z, hd, hd, rfl⟩
/-! ### a plain tree is a tree -/
theorem tree_thing {es : Ents} (t : treeB es = true) : ∀ e ∈ es, thingD e.2 := fun e he => by
  rcases tree_form ((treeB_parts t).2.2.1 e he) with h | ⟨n, z, h, _, _⟩
  · exact Or.inl h
  · exact Or.inr ⟨n, z, h⟩
theorem tree_fit {es : Ents} (t : treeB es = true) : ∀ e ∈ es, ∀ n z, e.2 = fileD n z → textB z = true ∧ numB (.int n) = true := fun e he n z ez => by
  rcases tree_form ((treeB_parts t).2.2.1 e he) with h | ⟨m, y, h, h1, h2⟩
  · rw [h] at ez; cases ez
  · rw [h] at ez
    obtain ⟨rfl, rfl⟩ := fileD_inj (show fileD m y = fileD n z from ez)
    exact ⟨h2, h1⟩
theorem file_fileB {n : Int} {z : Str} (h1 : numB (.int n) = true) (h2 : textB z = true) : fileB (fileD n z) = true := by
  have := Th.file n z
  rw [h1, h2] at this
  exact this
theorem tree_one {es : Ents} (t : treeB es = true) : OneE (es.map (·.2)) := by
  refine (oneText_iff fun n z h => ?_).mp (treeB_parts t).2.2.2.2
  obtain ⟨e, he, ez⟩ := List.mem_map.mp h
  obtain ⟨h1, h2⟩ := tree_fit t e he n z ez
  exact file_fileB h2 h1
theorem plain_eq {es : Ents} (th : ∀ e ∈ es, thingD e.2) : plainE es = (upE es).map fun e => (e.1, renD (renOf (upE es)).1 e.2) := by
  have hth : ∀ e ∈ upE es, thingD e.2 := fun e he => by
    obtain ⟨x, hx, rfl⟩ := upE_val he
    exact th _ hx
  have h1 := fold_final (upE es) ([], []) hth
  unfold plainE
  exact h1
theorem valE_plain {es : Ents} (th : ∀ e ∈ es, thingD e.2) (nd : (es.map (·.1)).Nodup) (p : List Str) : valE (plainE es) p = (valE es p).map (renD (renOf (upE es)).1) := by
  rw [plain_eq th]
  have e1 : ((upE es).map fun e => (e.1, renD (renOf (upE es)).1 e.2)) = (keysUpE es).map fun q => (q, renD (renOf (upE es)).1 ((valE es q).getD .none)) := by
    show ((keysUpE es).map _).map _ = _
    rw [List.map_map]
    rfl
  rw [e1, valE_tab]
  by_cases h : p ∈ keysUpE es
  · rw [if_pos h]
    have hk := (keysUpE_perm es).mem_iff.mp h
    obtain ⟨x, hx, rfl⟩ := List.mem_map.mp hk
    rw [valE_nd nd hx]
    rfl
  · rw [if_neg h]
    cases hv : valE es p with
    | none => rfl
    | some d =>
      obtain ⟨x, hx, ex, _⟩ := valE_mem hv
      exact absurd ((keysUpE_perm es).mem_iff.mpr (List.mem_map.mpr ⟨x, hx, ex⟩)) h
theorem ren_drawer {s : List Int} {d : PyData} (t : thingD d) : drawerB (renD s d) = drawerB d := by
  rcases t with rfl | ⟨n, z, rfl⟩
  · rw [show renD s drD = drD from (renD_oth (w := "drawer") (ds := []) (by decide +kernel)).1]
  · rw [renD_file.1]
    rfl
theorem drawer_plain {es : Ents} (th : ∀ e ∈ es, thingD e.2) (nd : (es.map (·.1)).Nodup) (p : List Str) : drawerAt (plainE es) p = drawerAt es p := by
  unfold drawerAt
  rw [valE_plain th nd]
  cases hv : valE es p with
  | none => rfl
  | some d =>
    obtain ⟨x, hx, _, rfl⟩ := valE_mem hv
    exact ren_drawer (th x hx)
theorem plain_nd (es : Ents) (nd : (es.map (·.1)).Nodup) : ((plainE es).map (·.1)).Nodup := by
  rw [plainE_keys]
  exact (keysUpE_perm es).nodup_iff.mpr nd
theorem plainE_tree {es : Ents} (t : treeB es = true) (nd : (es.map (·.1)).Nodup) : treeB (plainE es) = true ∧ smallE (plainE es) := by
  have th := tree_thing t
  obtain ⟨h80, hgp, hth, hroof, _⟩ := treeB_parts t
  obtain ⟨F, hn⟩ := plainE_fil th (tree_one t) (fun e he n z ez => (tree_fit t e he n z ez).1)
  have okp : ∀ e ∈ plainE es, goodPath e.1 = true := fun e he => by
    obtain ⟨x, hx, ex⟩ := List.mem_map.mp (plainE_key he)
    rw [← ex]
    exact hgp x hx
  have hth2 : ∀ e ∈ plainE es, drawerB e.2 = true ∨ fileB e.2 = true := fun e he => by
    rcases plainE_thing th e he with hd | ⟨n, z, hd⟩
    · exact Or.inl (by rw [hd]; decide +kernel)
    · have h0 := F.fit e he n z hd
      have h1 := hn e he n z hd
      refine Or.inr ?_
      rw [hd]
      refine file_fileB ?_ h0.2
      unfold numB
      rw [Bool.and_eq_true]
      exact ⟨decide_eq_true h0.1, decide_eq_true (by omega)⟩
  have hl := plainE_len es
  refine ⟨?_, fun e he => ⟨goodPath_small (okp e he), ?_⟩, by omega⟩
  · unfold treeB
    simp only [Bool.and_eq_true, decide_eq_true_eq, List.all_eq_true, Bool.or_eq_true]
    refine ⟨by omega, okp, hth2, ?_, ?_⟩
    · unfold roofB at hroof ⊢
      simp only [Bool.and_eq_true, decide_eq_true_eq, List.all_eq_true, Bool.or_eq_true] at hroof ⊢
      refine ⟨by rw [drawer_plain th nd]; exact hroof.1, fun e he => ?_⟩
      obtain ⟨x, hx, ex⟩ := List.mem_map.mp (plainE_key he)
      rw [drawer_plain th nd, ← ex]
      exact hroof.2 x hx
    · refine (oneText_iff fun n z hm => ?_).mpr F.one
      obtain ⟨x, hx, ex⟩ := List.mem_map.mp hm
      rcases hth2 x hx with h1 | h1
      · rw [ex] at h1
        exact absurd (show false = true from h1) (by decide)
      · rw [ex] at h1
        exact h1
  · rcases plainE_thing th e he with hd | ⟨n, z, hd⟩
    · rw [hd]
      have e2 : decide (("drawer" : Str).length ≤ sizeLine) = true := by decide +kernel
      simp [drD, smallD, smallAll, e2]
    · rw [hd]
      have hz : z.length ≤ 40 := by
        have := (F.fit e he n z hd).2
        unfold textB at this
        rw [Bool.and_eq_true] at this
        exact of_decide_eq_true this.1
      have e1 : decide (z.length ≤ sizeLine) = true := decide_eq_true (by rw [sizeLine_eq]; omega)
      have e2 : decide (("file" : Str).length ≤ sizeLine) = true := by decide +kernel
      simp [smallD, smallAll, e1, e2]
/-- to be made plain twice is to be made plain once -/
theorem plain_idem {es : Ents} (t : treeB es = true) (nd : (es.map (·.1)).Nodup) : plainE (plainE es) = plainE es := by
  have th := tree_thing t
  have ndP := plain_nd es nd
  have keys : keysUpE (plainE es) = keysUpE es := keysUpE_same ndP nd fun p => by
    rw [plainE_keys]
    exact (keysUpE_perm es).mem_iff
  refine plainE_bi (C := fun n m => m ∈ (renOf (upE es)).1 ∧ n = (((renOf (upE es)).1.idxOf m : Nat) : Int)) ?_ keys fun p hp => ?_
  · rintro n m n' m' ⟨h1, h2⟩ ⟨h1', h2'⟩
    constructor
    · intro e
      rw [h2, h2'] at e
      exact idxI_inj h1 h1' (by omega)
    · intro e
      rw [h2, h2', e]
  · rw [keys] at hp
    obtain ⟨x, hx, rfl⟩ := List.mem_map.mp ((keysUpE_perm es).mem_iff.mp hp)
    rw [valE_plain th nd, valE_nd nd hx]
    rcases th x hx with hd | ⟨n, z, hd⟩
    · exact Or.inl ⟨by show renD _ x.2 = drD; rw [hd]; exact (renD_oth (w := "drawer") (ds := []) (by decide +kernel)).1, hd⟩
    · refine Or.inr ⟨_, n, z, by show renD _ x.2 = _; rw [hd]; exact renD_file.1, hd, ?_, rfl⟩
      refine fold_in (upE es) ([], []) (x.1, (valE es x.1).getD .none) ?_ n z ?_
      · exact List.mem_map.mpr ⟨x.1, hp, rfl⟩
      · rw [valE_nd nd hx]
        exact hd
/-! ### what is moved -/
def movedP (p old new : List Str) : List Str := if beginsB p old = true then new ++ p.drop old.length else p
def movedE (es : Ents) (old new : List Str) : Ents := es.map fun e => (movedP e.1 old new, e.2)
theorem begins_iff {p q : List Str} : beginsB p q = true ↔ ∃ r, p = q ++ r := by
  unfold beginsB
  constructor
  · intro h
    have h := of_decide_eq_true h
    exact ⟨p.drop q.length, by rw [← h]; rw [show (p.take q.length).length = q.length from congrArg List.length h]; exact (List.take_append_drop _ _).symm⟩
  · rintro ⟨r, rfl⟩
    exact decide_eq_true (by rw [List.take_append_of_le_length (Nat.le_refl _), List.take_length])
theorem moved_in {r old new : List Str} : movedP (old ++ r) old new = new ++ r := by
  unfold movedP
  rw [if_pos (begins_iff.mpr ⟨r, rfl⟩), List.drop_left]
theorem moved_out {p old new : List Str} (h : beginsB p old = false) : movedP p old new = p := by
  unfold movedP
  rw [if_neg (by rw [h]; decide)]
theorem roof_all {es : Ents} (t : treeB es = true) {p : List Str} (hp : (valE es p).isSome = true) : ∀ j, j < p.length → drawerAt es (p.take j) = true := by
  obtain ⟨_, _, _, h4, _⟩ := treeB_parts t
  unfold roofB at h4
  simp only [Bool.and_eq_true, List.all_eq_true, Bool.or_eq_true, decide_eq_true_eq] at h4
  have up : ∀ q, (valE es q).isSome = true → q ≠ [] → drawerAt es q.dropLast = true := fun q hq hne => by
    obtain ⟨x, hx, rfl⟩ := List.mem_map.mp (valE_key hq)
    exact (h4.2 x hx).resolve_left hne
  have some_of : ∀ q, drawerAt es q = true → (valE es q).isSome = true := fun q h => by
    unfold drawerAt at h
    cases hv : valE es q with
    | none => rw [hv] at h; cases h
    | some d => rfl
  intro j hj
  have : ∀ d, d + j + 1 = p.length ∨ d + j + 1 < p.length → drawerAt es (p.take (p.length - 1 - d)) = true := by
    intro d
    induction d with
    | zero =>
      intro _
      have := up p hp (fun e => by rw [e] at hj; cases hj)
      rwa [List.dropLast_eq_take] at this
    | succ d ih =>
      intro h
      have h1 := ih (by omega)
      have hne : p.take (p.length - 1 - d) ≠ [] := fun e => by
        have := congrArg List.length e
        rw [List.length_take] at this
        have : min (p.length - 1 - d) p.length = 0 := this
        omega
      have := up _ (some_of _ h1) hne
      rw [List.dropLast_eq_take, List.take_take, List.length_take] at this
      rwa [show min (min (p.length - 1 - d) p.length - 1) (p.length - 1 - d) = p.length - 1 - (d + 1) by omega] at this
  have := this (p.length - 1 - j) (by omega)
  rwa [show p.length - 1 - (p.length - 1 - j) = j by omega] at this
theorem drawer_some {es : Ents} {q : List Str} (h : drawerAt es q = true) : (valE es q).isSome = true := by
  unfold drawerAt at h
  cases hv : valE es q with
  | none => rw [hv] at h; cases h
  | some d => rfl
structure MoveOk (es : Ents) (old new : List Str) : Prop where
  there : (valE es old).isSome = true
  ne : old ≠ []
  free : valE es new = none
  roof : drawerAt es new.dropLast = true
  out : beginsB new old = false
  good : goodPath new = true
  five : ∀ e ∈ es, (movedP e.1 old new).length ≤ 5
theorem MoveOk.newne {es : Ents} {old new : List Str} (M : MoveOk es old new) (t : treeB es = true) : new ≠ [] := fun e => by
  have := M.roof
  rw [e] at this
  have := drawer_some this
  rw [show ([] : List Str).dropLast = [] from rfl] at this
  have h := M.free
  rw [e] at h
  rw [h] at this
  cases this
/-- nothing of the tree lies where something is moved to -/
theorem clear_of {es : Ents} {new : List Str} (free : valE es new = none) (t : treeB es = true) {r : List Str} : valE es (new ++ r) = none := by
  cases hv : valE es (new ++ r) with
  | none => rfl
  | some d =>
    exfalso
    by_cases hr : r = []
    · rw [hr, List.append_nil, free] at hv
      cases hv
    · have := roof_all t (p := new ++ r) (by rw [hv]; rfl) new.length (by
        rw [List.length_append]
        have : r.length ≠ 0 := fun e => hr (List.eq_nil_of_length_eq_zero e)
        omega)
      rw [List.take_append_of_le_length (Nat.le_refl _), List.take_length] at this
      have := drawer_some this
      rw [free] at this
      cases this
theorem MoveOk.clear {es : Ents} {old new : List Str} (M : MoveOk es old new) (t : treeB es = true) {r : List Str} : valE es (new ++ r) = none := clear_of M.free t
theorem moved_inj_of {es : Ents} {old new : List Str} (free : valE es new = none) (t : treeB es = true) {p q : List Str} (hp : (valE es p).isSome = true) (hq : (valE es q).isSome = true) (e : movedP p old new = movedP q old new) : p = q := by
  cases h1 : beginsB p old with
  | true =>
    obtain ⟨r, rfl⟩ := begins_iff.mp h1
    rw [moved_in] at e
    cases h2 : beginsB q old with
    | true =>
      obtain ⟨r', rfl⟩ := begins_iff.mp h2
      rw [moved_in] at e
      rw [List.append_cancel_left e]
    | false =>
      rw [moved_out h2] at e
      rw [← e, clear_of free t] at hq
      cases hq
  | false =>
    rw [moved_out h1] at e
    cases h2 : beginsB q old with
    | true =>
      obtain ⟨r', rfl⟩ := begins_iff.mp h2
      rw [moved_in] at e
      rw [e, clear_of free t] at hp
      cases hp
    | false =>
      rw [moved_out h2] at e
      exact e
theorem moved_inj {es : Ents} {old new : List Str} (M : MoveOk es old new) (t : treeB es = true) {p q : List Str} (hp : (valE es p).isSome = true) (hq : (valE es q).isSome = true) (e : movedP p old new = movedP q old new) : p = q := moved_inj_of M.free t hp hq e
theorem movedE_nd {es : Ents} {old new : List Str} (M : MoveOk es old new) (t : treeB es = true) (nd : (es.map (·.1)).Nodup) : ((movedE es old new).map (·.1)).Nodup := by
  unfold movedE
  rw [List.map_map]
  have hmap : (es.map ((fun e : List Str × PyData => e.1) ∘ fun e => (movedP e.1 old new, e.2))) = (es.map (·.1)).map fun p => movedP p old new := by
    rw [List.map_map]
    rfl
  rw [hmap]
  have hin : ∀ p ∈ es.map (·.1), (valE es p).isSome = true := fun p hp => by
    obtain ⟨x, hx, rfl⟩ := List.mem_map.mp hp
    rw [valE_nd nd hx]
    rfl
  generalize es.map (·.1) = ks at nd hin
  induction ks with
  | nil => exact List.nodup_nil
  | cons k ks ih =>
    rw [List.nodup_cons] at nd
    rw [List.map_cons, List.nodup_cons]
    refine ⟨fun h => ?_, ih nd.2 fun p hp => hin p (List.mem_cons_of_mem _ hp)⟩
    obtain ⟨q, hq, e⟩ := List.mem_map.mp h
    have := moved_inj M t (hin q (List.mem_cons_of_mem _ hq)) (hin k (List.mem_cons_self ..)) e
    rw [this] at hq
    exact nd.1 hq
theorem valE_moved {es : Ents} {old new : List Str} (M : MoveOk es old new) (t : treeB es = true) (nd : (es.map (·.1)).Nodup) {p : List Str} {d : PyData} (h : valE es p = some d) : valE (movedE es old new) (movedP p old new) = some d := by
  obtain ⟨x, hx, rfl, rfl⟩ := valE_mem h
  have hm : (movedP x.1 old new, x.2) ∈ movedE es old new := List.mem_map.mpr ⟨x, hx, rfl⟩
  exact valE_nd (movedE_nd M t nd) hm
theorem drawer_moved {es : Ents} {old new : List Str} (M : MoveOk es old new) (t : treeB es = true) (nd : (es.map (·.1)).Nodup) {p : List Str} (h : drawerAt es p = true) : drawerAt (movedE es old new) (movedP p old new) = true := by
  obtain ⟨d, hd⟩ := Option.isSome_iff_exists.mp (drawer_some h)
  unfold drawerAt at h ⊢
  rw [valE_moved M t nd hd]
  rw [hd] at h
  exact h
theorem goodPath_mk {p : List Str} (h1 : p.length ≤ 5) (h2 : ∀ z ∈ p, nameB z = true) : goodPath p = true := by
  unfold goodPath
  rw [Bool.and_eq_true, List.all_eq_true]
  exact ⟨decide_eq_true h1, h2⟩
theorem movedE_tree {es : Ents} {old new : List Str} (M : MoveOk es old new) (t : treeB es = true) (nd : (es.map (·.1)).Nodup) : treeB (movedE es old new) = true := by
  obtain ⟨h80, hgp, hth, hroof, hone⟩ := treeB_parts t
  have hroof' := hroof
  unfold roofB at hroof
  simp only [Bool.and_eq_true, List.all_eq_true, Bool.or_eq_true, decide_eq_true_eq] at hroof
  have hb0 : beginsB [] old = false := by
    cases h : beginsB [] old with
    | false => rfl
    | true =>
      obtain ⟨r, hr⟩ := begins_iff.mp h
      exact absurd (List.append_eq_nil_iff.mp hr.symm).1 M.ne
  unfold treeB
  simp only [Bool.and_eq_true, decide_eq_true_eq, List.all_eq_true, Bool.or_eq_true]
  refine ⟨by unfold movedE; rw [List.length_map]; exact h80, fun e he => ?_, fun e he => ?_, ?_, ?_⟩
  · obtain ⟨x, hx, rfl⟩ := List.mem_map.mp he
    refine goodPath_mk (M.five x hx) fun z hz => ?_
    have hz : z ∈ movedP x.1 old new := hz
    cases h : beginsB x.1 old with
    | true =>
      obtain ⟨r, hr⟩ := begins_iff.mp h
      rw [hr, moved_in] at hz
      rcases List.mem_append.mp hz with hz | hz
      · exact (goodPath_names M.good).2 z hz
      · exact (goodPath_names (hgp x hx)).2 z (by rw [hr]; exact List.mem_append_right _ hz)
    | false =>
      rw [moved_out h] at hz
      exact (goodPath_names (hgp x hx)).2 z hz
  · obtain ⟨x, hx, rfl⟩ := List.mem_map.mp he
    exact hth x hx
  · unfold roofB
    simp only [Bool.and_eq_true, List.all_eq_true, Bool.or_eq_true, decide_eq_true_eq]
    have h0 := drawer_moved M t nd hroof.1
    rw [moved_out hb0] at h0
    refine ⟨h0, fun e he => ?_⟩
    obtain ⟨x, hx, rfl⟩ := List.mem_map.mp he
    show movedP x.1 old new = [] ∨ drawerAt _ (movedP x.1 old new).dropLast = true
    cases h : beginsB x.1 old with
    | true =>
      obtain ⟨r, hr⟩ := begins_iff.mp h
      rw [hr, moved_in]
      by_cases hr0 : r = []
      · rw [hr0, List.append_nil]
        right
        have hout : beginsB new.dropLast old = false := by
          cases hb : beginsB new.dropLast old with
          | false => rfl
          | true =>
            obtain ⟨s, hs⟩ := begins_iff.mp hb
            have : beginsB new old = true := by
              refine begins_iff.mpr ⟨s ++ [new.getLast (M.newne t)], ?_⟩
              rw [← List.append_assoc, ← hs, List.dropLast_concat_getLast]
            rw [M.out] at this
            cases this
        have := drawer_moved M t nd M.roof
        rwa [moved_out hout] at this
      · right
        have h1 := (hroof.2 x hx).resolve_left (fun e => by rw [e] at hr; exact hr0 (List.append_eq_nil_iff.mp hr.symm).2)
        have := drawer_moved M t nd h1
        rw [hr, List.dropLast_append_of_ne_nil hr0, moved_in] at this
        rwa [List.dropLast_append_of_ne_nil hr0]
    | false =>
      rw [moved_out h]
      rcases hroof.2 x hx with h1 | h1
      · exact Or.inl h1
      · right
        have hout : beginsB x.1.dropLast old = false := by
          cases hb : beginsB x.1.dropLast old with
          | false => rfl
          | true =>
            by_cases hx0 : x.1 = []
            · rw [hx0] at hb
              rw [hx0] at h
              rw [show ([] : List Str).dropLast = [] from rfl, h] at hb
              cases hb
            · obtain ⟨s, hs⟩ := begins_iff.mp hb
              have : beginsB x.1 old = true := by
                refine begins_iff.mpr ⟨s ++ [x.1.getLast hx0], ?_⟩
                rw [← List.append_assoc, ← hs, List.dropLast_concat_getLast]
              rw [h] at this
              cases this
        have := drawer_moved M t nd h1
        rwa [moved_out hout] at this
  · have : (movedE es old new).map (·.2) = es.map (·.2) := by
      unfold movedE
      rw [List.map_map]
      rfl
    rw [this]
    exact hone
/-! ### houses: what one looks like, what its methods promise -/
theorem fl_get (d : Addr) : List.lookup ("_tree" : Str) [(("_tree" : Str), V.ref d)] = some (.ref d) := by
  rw [List.lookup_cons, show (("_tree" : Str) == "_tree") = true from beq_iff_eq.mpr rfl]
theorem fl_no (d : Addr) {m : Str} (h : decide (m = "_tree") = false) : List.lookup m [(("_tree" : Str), V.ref d)] = none := by
  have h := of_decide_eq_false h
  rw [List.lookup_cons, show (m == ("_tree" : Str)) = false from beq_eq_false_iff_ne.mpr h]
  rfl
theorem fl_put (d : Addr) (v : V) : putF ("_tree" : Str) v [(("_tree" : Str), V.ref d)] = ([(("_tree" : Str), v)] : List (Str × V)) := by
  show (if ("_tree" : Str) = ("_tree" : Str) then ([(("_tree" : Str), v)] : List (Str × V)) else _) = _
  rw [if_pos rfl]
theorem fl_new (v : V) : putF ("_tree" : Str) v [] = ([(("_tree" : Str), v)] : List (Str × V)) := rfl
structure HsAt (K : PySem.W.Frag) (C : Addr) (H : Hp) (h d : Addr) (es : Ents) : Prop where
  ob : ∃ dx, H h = some (.ins C dx [("_tree", .ref d)])
  dc : ∃ kvs, H d = some (.dT kvs) ∧ RowE K H kvs es
  nd : (es.map (·.1)).Nodup
  tree : treeB es = true
  small : smallE es
theorem HsAt.ex {K : PySem.W.Frag} {C : Addr} {H H' : Hp} {h d : Addr} {es : Ents} (x : Ex H H') (g : HsAt K C H h d es) : HsAt K C H' h d es := by
  obtain ⟨⟨dx, h1⟩, ⟨kvs, h2, h3⟩, h4, h5, h6⟩ := g
  exact ⟨⟨dx, x.keep _ _ h1 (fun ps z => by cases z)⟩, ⟨kvs, x.keep _ _ h2 (fun ps z => by cases z), RowE.ex x h3⟩, h4, h5, h6⟩
theorem HsAt.tr {K : PySem.W.Frag} {C : Addr} {H : Hp} {h d : Addr} {es : Ents} (g : HsAt K C H h d es) : TrAt K H d es := by
  obtain ⟨kvs, h2, h3⟩ := g.dc
  exact ⟨kvs, Or.inl h2, h3⟩
theorem HsAt.len {K : PySem.W.Frag} {C : Addr} {H : Hp} {h d : Addr} {es : Ents} (g : HsAt K C H h d es) : es.length ≤ 80 := (treeB_parts g.tree).1
theorem HsAt.thing {K : PySem.W.Frag} {C : Addr} {H : Hp} {h d : Addr} {es : Ents} (g : HsAt K C H h d es) : ∀ e ∈ es, thingD e.2 := fun e he => by
  rcases tree_form ((treeB_parts g.tree).2.2.1 e he) with h | ⟨n, z, h, _, _⟩
  · exact Or.inl h
  · exact Or.inr ⟨n, z, h⟩
theorem HsAt.ren {K : PySem.W.Frag} {C : Addr} {H : Hp} {h d : Addr} {es : Ents} (g : HsAt K C H h d es) : ∀ e ∈ es, renOk e.2 := fun e he => by
  rcases g.thing e he with h | ⟨n, z, h⟩
  · exact Or.inr ⟨"drawer", [], h, by decide +kernel⟩
  · exact Or.inl ⟨n, z, h⟩
/-- all is kept but the house and its dict -/
structure Fr (h d : Addr) (H H' : Hp) : Prop where
  keep : ∀ b o, b ≠ h → b ≠ d → H b = some o → (∀ ps, o ≠ .tbl ps) → H' b = some o
  tab : ∀ b, TabG H b → TabG H' b
  free : ∀ b, H' b = none → H b = none
theorem Ex.fr {h d : Addr} {H H' : Hp} (x : Ex H H') : Fr h d H H' := ⟨fun b o _ _ e n => x.keep b o e n, x.tab, x.free⟩
theorem Fr.trans {h d d' : Addr} {H H1 H2 : Hp} (a : Fr h d H H1) (b : Fr h d' H1 H2) (n : d' = d ∨ H d' = none) : Fr h d H H2 :=
  ⟨fun c o z1 z2 e m => b.keep c o z1 (fun q => by
    rcases n with n | n
    · exact z2 (q.trans n)
    · rw [q, n] at e; cases e) (a.keep c o z1 z2 e m) m, fun c t => b.tab c (a.tab c t), fun c e => a.free c (b.free c e)⟩
/-- what is no house and no dict is kept -/
theorem Fr.seq {K : PySem.W.Frag} {C : Addr} {H H' : Hp} {h d : Addr} {es : Ents} (g : HsAt K C H h d es) (f : Fr h d H H') : ∀ b o, H b = some o → seqO o → H' b = some o := fun b o e q => by
  obtain ⟨⟨dx, h1⟩, ⟨kvs, h2, _⟩, _⟩ := g
  refine f.keep b o (fun z => ?_) (fun z => ?_) e (fun ps z => ?_)
  · rw [z, h1] at e; cases e; exact q
  · rw [z, h2] at e; cases e; exact q
  · rw [z] at q; exact q
structure HT (K : PySem.W.Frag) (mg : Str → Option Value) (C : Addr) : Prop where
  cl : Cls K C
  nT : NoAttr K C "_tree"
  gC : mg "House" = some (.ref C)
def PathOrX (K : PySem.W.Frag) (H : Hp) (v : V) (bad : Prop) (R : Addr → List Str → Prop) : Prop :=
  (PathB K H v false ∧ bad) ∨ ∃ a p, v = .ref a ∧ PathX H a p ∧ goodPath p = true ∧ R a p
theorem PathX.b {K : PySem.W.Frag} {H : Hp} {a : Addr} {p : List Str} (h : PathX H a p) (g : goodPath p = true) : PathB K H (.ref a) true := by
  have := (h.at (K := K)).b (goodPath_small g)
  rwa [g] at this
/-- a thing at its place -/
theorem dp_thing {K : PySem.W.Frag} {H : Hp} {v : V} {d : PyData} (h : Dp K H v d) (t : thingD d) : ∃ r xs, v = .ref r ∧ SqT K H r xs ∧ ((d = drD ∧ xs = [.str "drawer"]) ∨ ∃ n z, d = fileD n z ∧ xs = [.str "file", .int n, .str z]) := by
  rcases t with rfl | ⟨n, z, rfl⟩
  · cases h with
    | tup hs ha =>
      cases ha with
      | cons h1 h2 =>
        cases h2
        cases h1
        exact ⟨_, _, rfl, hs, Or.inl ⟨rfl, rfl⟩⟩
  · cases h with
    | tup hs ha =>
      cases ha with
      | cons h1 h2 =>
        cases h2 with
        | cons h3 h4 =>
          cases h4 with
          | cons h5 h6 =>
            cases h6
            cases h1
            cases h3
            cases h5
            exact ⟨_, _, rfl, hs, Or.inr ⟨n, z, rfl, rfl⟩⟩
def kindV (es : Ents) (p : List Str) : V := match valE es p with
  | none => .non
  | some d => if drawerB d = true then .str "drawer" else .str "file"
def spTreeM (K : PySem.W.Frag) (C : Addr) : Sp := fun vs H Q _ => ∃ h d es, vs = [.ref h] ∧ HsAt K C H h d es ∧ ∀ H' l kvs, Ex H H' → H' l = some (.dT kvs) → H l = none → RowE K H' kvs (plainE es) → Q (.ref l) H'
def spKindM (K : PySem.W.Frag) (C P1 P2 CP : Addr) : Sp := fun vs H Q E => ∃ h d es v, vs = [.ref h, v] ∧ HsAt K C H h d es ∧ TabG H P1 ∧ TabG H P2 ∧ PathOrX K H v (Refused H E CP) fun _ p => ∀ H', Ex H H' → Q (kindV es p) H'
def spThere (K : PySem.W.Frag) (C CN : Addr) : Sp := fun vs H Q E => ∃ h d es a p, vs = [.ref h, .ref a] ∧ HsAt K C H h d es ∧ PathX H a p ∧ (valE es p = none → Refused H E CN) ∧ (∀ x, valE es p = some x → ∀ H', Ex H H' → Q .non H')
def spAboveM (K : PySem.W.Frag) (C P1 P2 CD : Addr) : Sp := fun vs H Q E => ∃ h d es a p, vs = [.ref h, .ref a] ∧ HsAt K C H h d es ∧ TabG H P1 ∧ TabG H P2 ∧ PathX H a p ∧ goodPath p = true ∧ (p ≠ [] ∧ drawerAt es p.dropLast = false → Refused H E CD) ∧ (p = [] ∨ drawerAt es p.dropLast = true → ∀ H', Ex H H' → Q .non H')
def spPlace (K : PySem.W.Frag) (C P1 P2 CD CT : Addr) : Sp := fun vs H Q E => ∃ h d es a p, vs = [.ref h, .ref a] ∧ HsAt K C H h d es ∧ TabG H P1 ∧ TabG H P2 ∧ PathX H a p ∧ goodPath p = true ∧
  (p ≠ [] ∧ drawerAt es p.dropLast = false → Refused H E CD) ∧ (p = [] ∨ drawerAt es p.dropLast = true → (∀ x, valE es p = some x → Refused H E CT) ∧ (valE es p = none → ∀ H', Ex H H' → Q .non H'))
def spNotRoot (CR : Addr) : Sp := fun vs H Q E => ∃ a p, vs = [.ref a] ∧ PathX H a p ∧ goodPath p = true ∧ (p = [] → Refused H E CR) ∧ (p ≠ [] → ∀ H', Ex H H' → Q .non H')
def spMoved : Sp := fun vs H Q _ => ∃ a b c p old new, vs = [.ref a, .ref b, .ref c] ∧ PathX H a p ∧ PathX H b old ∧ PathX H c new ∧ goodPath p = true ∧ goodPath old = true ∧ goodPath new = true ∧ ∀ H' r, Ex H H' → PathX H' r (movedP p old new) → Q (.ref r) H'
section
variable {P : Program} {w : World} {K : PySem.W.Frag} {mg : Str → Option Value} {base : Heap}
theorem scTreeM : FnScope ["self"] ["self"] (defScope mTree) := ⟨rfl, rfl, rfl, by decide +kernel, rfl, by decide +kernel, by decide +kernel⟩
theorem ok_treeM {f C fR : Addr} {fd fdR : FuncData} (F : Fun K "tree" "House.tree" mTree f fd) (T : HT K mg C)
    (GR : FnOk P w K mg base CX0 1 fR fdR ["tree"] (spRenum K)) (mR : mg "renumbered" = some (.ref fR)) (kR : PySem.W.keepIn K (.ref fR) = true) (bR : Binds K fdR ["tree"] []) : FnOk P w K mg base CX0 2 f fd ["self"] (spTreeM K C) := by
  refine F.ok scTreeM (fun vs H Q E h => ?_) (fun cdv A outer s H vs Q E hr h => ?_)
  · obtain ⟨h, d, es, rfl, _⟩ := h
    rfl
  · obtain ⟨h, d, es, rfl, g, k⟩ := h
    refine ⟨_, pss_one (ps_ret (pe_call (E := E0) GR hr (by rfl) mR kR bR .nil pass0 (pa_cons (pe_fld (pv 0) rfl) pa_nil))), ?_⟩
    obtain ⟨dx, ob⟩ := id g.ob
    have := g.len
    exact ⟨_, rfl, h, C, dx, _, _, rfl, ob, T.cl, T.nT, fl_get d, d, es, rfl, g.tr, g.nd, g.ren, by omega, k⟩
theorem scKindM : FnScope ["self", "path"] ["self", "path"] (defScope mKind) := ⟨rfl, rfl, rfl, by decide +kernel, rfl, by decide +kernel, by decide +kernel⟩
theorem ok_kindM {f C f3 P1 P2 CP : Addr} {fd fd3 : FuncData} (F : Fun K "kind" "House.kind" mKind f fd) (T : HT K mg C)
    (G3 : FnOk P w K mg base (L2.CX P w) 6 f3 fd3 ["thing"] (spCheck K P1 P2 CP)) (m3 : mg "check_path" = some (.ref f3)) (k3 : PySem.W.keepIn K (.ref f3) = true) (b3 : Binds K fd3 ["thing"] []) :
    FnOk P w K mg base (L2.CX P w) 7 f fd ["self", "path"] (spKindM K C P1 P2 CP) := by
  refine F.okX scKindM (fun vs H Q E h => ?_) (fun cdv A outer s H vs Q E hr h => ?_)
  · obtain ⟨h, d, es, v, rfl, _⟩ := h
    rfl
  · obtain ⟨h, d, es, v, rfl, g, hT1, hT2, hp⟩ := h
    have hu1 : (A.deeper (envOfC "House.kind" (defScope mKind) s.heap.objs.size f cdv)).units + 1 < cLine := by have := hr.units; omega
    refine ⟨_, pss_cons (ps_expr (pe_call (E := E) G3 hr (by rfl) m3 k3 b3 .nil (passes_call (takes_of rfl rfl rfl rfl) (fun _ _ _ _ h => h)) (pa_cons (pv 1) pa_nil)))
      (pss_one (ps_ret (pe_ifExp (pt_cmp (pc_din hu1 (pv 1) (pe_fld (pv 0) rfl))) (pe_ix (r := rIxT K) ix_tup (pe_dget hu1 (pe_fld (pv 0) rfl) (pv 1) (fun _ _ => rfl)) pe_int (fun _ _ => rfl)) pe_non))), ?_⟩
    rcases hp with ⟨pb, hbad⟩ | ⟨a, p, rfl, pa, gp, k⟩
    · exact ⟨_, rfl, v, false, rfl, pb, hT1, hT2, (fun z => nomatch z), fun _ => hbad⟩
    · refine ⟨_, rfl, .ref a, true, rfl, PathX.b (K := K) pa gp, hT1, hT2, fun _ H' x => ?_, fun z => nomatch z⟩
      have g' := g.ex x
      obtain ⟨dx, ob⟩ := id g'.ob
      obtain ⟨kvs, hd, row⟩ := id g'.dc
      have pa' := PathX.ex x pa
      refine ⟨_, rfl, _, rfl, h, C, dx, _, _, rfl, ob, T.cl, T.nT, fl_get d, d, _, rfl, get_tr (Or.inl hd) pa', _, rfl, ?_⟩
      have kk := k H' x
      unfold kindV at kk
      rcases row.val (p := p) with ⟨e1, e2⟩ | ⟨u, D, e1, e2, dv⟩
      · rw [e1]
        rw [e2] at kk
        exact iteF kk
      · rw [e1]
        rw [e2] at kk
        have dg : DGet H' d (.ref a) (some u) := by
          have := get_tr (Or.inl hd) pa'
          rwa [e1] at this
        obtain ⟨y, hy, _, ey⟩ := valE_mem e2
        have th := g.thing y hy
        rw [ey] at th
        obtain ⟨r, xs, rfl, hs, h1⟩ := dp_thing dv th
        rcases h1 with ⟨rfl, rfl⟩ | ⟨n, z, rfl, rfl⟩
        · exact iteT ⟨_, rfl, h, C, dx, _, _, rfl, ob, T.cl, T.nT, fl_get d, _, rfl, d, .ref r, rfl, dg, r, _, 0, .str "drawer", rfl, rfl, hs, rfl, kk⟩
        · exact iteT ⟨_, rfl, h, C, dx, _, _, rfl, ob, T.cl, T.nT, fl_get d, _, rfl, d, .ref r, rfl, dg, r, _, 0, .str "file", rfl, rfl, hs, rfl, kk⟩
theorem scThere : FnScope ["self", "path"] ["self", "path"] (defScope mThere) := ⟨rfl, rfl, rfl, by decide +kernel, rfl, by decide +kernel, by decide +kernel⟩
theorem ok_there {f C CN : Addr} {fd : FuncData} (F : Fun K "_check_there" "House._check_there" mThere f fd) (T : HT K mg C) (R : Ref K mg "NotThere" CN) :
    FnOk P w K mg base (L2.CX P w) 1 f fd ["self", "path"] (spThere K C CN) := by
  refine F.okX scThere (fun vs H Q E h => ?_) (fun cdv A outer s H vs Q E hr h => ?_)
  · obtain ⟨h, d, es, a, p, rfl, _⟩ := h
    rfl
  · obtain ⟨h, d, es, a, p, rfl, g, pa, k1, k2⟩ := h
    have hu1 : (A.deeper (envOfC "House._check_there" (defScope mThere) s.heap.objs.size f cdv)).units + 1 < cLine := by have := hr.units; omega
    refine ⟨_, pss_one (ps_if (pt_cmp (pc_dnotin hu1 (pv 1) (pe_fld (pv 0) rfl))) (pss_one (ps_raise rfl (takes_of rfl rfl rfl rfl) (pmk_own PySem.F.excBase_ValueError R.x R.g R.k (raises_own R.b R.t) rfl))) pss_nil), ?_⟩
    obtain ⟨dx, ob⟩ := id g.ob
    obtain ⟨kvs, hd, row⟩ := id g.dc
    refine ⟨_, rfl, _, rfl, h, C, dx, _, _, rfl, ob, T.cl, T.nT, fl_get d, d, _, rfl, get_tr (Or.inl hd) pa, _, rfl, ?_⟩
    rcases row.val (p := p) with ⟨e1, e2⟩ | ⟨u, D, e1, e2, dv⟩
    · rw [e1]
      exact iteT (k1 e2 H (Ex.refl H))
    · rw [e1]
      exact iteF (k2 _ e2 H (Ex.refl H))
end
/-! ### places, and the move -/
theorem FunCokX {P : Program} {w : World} {K : PySem.W.Frag} {mg : Str → Option Value} {base : Heap} {x qual : Str} {st : Stmt} {f c : Addr} {fd : FuncData} {N ps : List Str} {k : Nat} {sp : Sp} (F : FunC K x qual st f fd c) (S : FnScope N ps (defScope st)) (len : ∀ vs H Q E, sp vs H Q E → vs.length = ps.length)
    (hbody : ∀ (A : Around) (outer : List Env) (s : Shared) (H : Hp) (vs : List V) (Q : VK) (E : XK), Room k (A.deeper (envOfC qual (defScope st) s.heap.objs.size f (.ref c))) → sp vs H Q E →
      ∃ t, PSs (cxOf (L2.CX P w) P w K mg base N qual (defScope st) f (.ref c) A outer s H E) (defBody st) t ∧ t { nx := fun _ H' => Q .non H', rt := Q } (start N vs) H) :
    FnOk P w K mg base (L2.CX P w) (k + 1) f fd ps sp := by
  obtain ⟨oc, od, kV, doc, pm, an, ct, osl, rfl, lk, hcd⟩ := F.ex
  refine fn_of lk hcd S len ?_
  intro A outer s H vs Q E hr hsp
  exact hbody A outer s H vs Q E hr hsp
theorem gw_keysAny {J0 : Unit} {te : TE} {σ0 : L2.St} {j : Nat} {Q : Bool → Hp → Prop} {H0 : Hp} {d : Addr} {o : Obj} {kvs : List (List L2.Key × V)} (g : List L2.Key × V → Bool) (hd : H0 d = some (.frz o (.dT kvs)))
    (step : ∀ kv q H, kv ∈ kvs → Ex H0 H → H q = some (.tup (kv.1.map kV)) → ∀ R : VK, (∀ H3, Ex H0 H3 → R (.bl (g kv)) H3) → te (σ0.set j (some (.ref q))) H R)
    (fin : ∀ H, Ex H0 H → Q (kvs.any g) H) : GW (Itkt d o kvs) te σ0 j false Q H0 := by
  have at_ : ∀ H, Ex H0 H → H d = some (.frz o (.dT kvs)) := fun H x => x.keep _ _ hd fun ps z => by cases z
  refine gw_any (n := kvs.length) (fun i => (kvs[i]?.map g).getD true) (fun H x => ⟨at_ H x, Nat.le_refl _⟩) (fun i H h x => ⟨at_ H x, h⟩) ?_ ?_
  · rintro i H y H' h x ⟨rfl, k, v, q, hk, rfl, hq⟩ R hR
    refine step (k, v) q H' (List.mem_of_getElem? hk) x hq R fun H3 x3 => ?_
    have := hR H3 x3
    rw [hk] at this
    exact this
  · intro H x
    have := fin H x
    rwa [show (List.range kvs.length).any (fun i => (kvs[i]?.map g).getD true) = kvs.any g by
      rw [Bool.eq_iff_iff, List.any_eq_true, List.any_eq_true]
      constructor
      · rintro ⟨i, hi, hh⟩
        have hi := List.mem_range.mp hi
        rw [List.getElem?_eq_getElem hi] at hh
        exact ⟨kvs[i], List.getElem_mem hi, hh⟩
      · rintro ⟨kv, hk, hh⟩
        obtain ⟨i, hi, e⟩ := List.getElem_of_mem hk
        refine ⟨i, List.mem_range.mpr hi, ?_⟩
        rw [List.getElem?_eq_getElem hi, e]
        exact hh]
theorem kind_cases {es : Ents} (th : ∀ e ∈ es, thingD e.2) (p : List Str) : (drawerAt es p = true ∧ kindV es p = .str "drawer") ∨ (drawerAt es p = false ∧ (kindV es p = .non ∨ kindV es p = .str "file")) := by
  unfold kindV drawerAt
  cases hv : valE es p with
  | none => exact Or.inr ⟨rfl, Or.inl rfl⟩
  | some d =>
    show (drawerB d = true ∧ (if drawerB d = true then V.str "drawer" else .str "file") = _) ∨ (drawerB d = false ∧ ((if drawerB d = true then V.str "drawer" else .str "file") = _ ∨ (if drawerB d = true then V.str "drawer" else .str "file") = _))
    cases h : drawerB d with
    | true => exact Or.inl ⟨rfl, rfl⟩
    | false => exact Or.inr ⟨rfl, Or.inr rfl⟩
theorem slice_fromX {K : PySem.W.Frag} {H : Hp} {a : Addr} {p : List Str} {σ : L2.St} (n : Nat) (pa : PathX H a p) {R : VK} (h : ∀ H' r, Ex H H' → PathX H' r (p.drop n) → R (.ref r) H') : tNoPart σ H (fun u H3 => rSlA K (.ref a) (some (n : Int)) u H3 R) := by
  refine ⟨a, _, rfl, pa.at (K := K), fun hw => h H a (Ex.refl H) ?_, fun _ r hr => h _ r (Ex.new hr) ?_⟩
  · have h2 := hw.1
    rw [HT.sIx_nat, List.length_map] at h2
    cases n with
    | zero => exact pa
    | succ n =>
      have hp : p = [] := by
        cases p with
        | nil => rfl
        | cons z q => simp at h2
      subst hp
      exact pa
  · show _ = some (HO.tup ((p.drop n).map V.str))
    rw [upd_same]
    have e : cutV (p.map V.str) (some (n : Int)) none = (p.drop n).map V.str := by rw [cutV_from, List.map_drop]
    exact congrArg (fun l => some (HO.tup l)) e
theorem cat_pathX {K : PySem.W.Frag} {H : Hp} {a b : Addr} {p q : List Str} {R : VK} (ha : PathX H a p) (hb : PathX H b q) (hl : p.length + q.length ≤ 100) (h : ∀ H' r, Ex H H' → PathX H' r (p ++ q) → R (.ref r) H') : rCatA K (.ref a) (.ref b) H R := by
  refine ⟨a, b, _, _, rfl, rfl, ha.at (K := K), hb.at (K := K), ?_, fun e => h H b (Ex.refl H) ?_, fun _ e => h H a (Ex.refl H) ?_, fun _ _ r hr => h _ r (Ex.new hr) ?_⟩
  · rw [List.length_map, List.length_map]
    exact Nat.le_trans hl (by decide)
  · rw [List.map_eq_nil_iff.mp e]
    exact hb
  · rw [List.map_eq_nil_iff.mp e, List.append_nil]
    exact ha
  · show _ = some (HO.tup ((p ++ q).map V.str))
    rw [upd_same, List.map_append]
theorem rowE_any {K : PySem.W.Frag} {H : Hp} (f : List Str → Bool) : ∀ {kvs : List (List L2.Key × V)} {es : Ents}, RowE K H kvs es → (kvs.any fun kv => f (pathOf kv.1)) = es.any fun e => f e.1
  | _, _, .nil => rfl
  | _, _, .cons a b => by
    have ih := rowE_any f b
    rw [List.any_cons, List.any_cons, ih, a.1, pathOf_inr]
theorem Fr.setH {H Ha : Hp} {h d C dx : Addr} {fs u : List (Str × V)} (x : Ex H Ha) (ho : Ha h = some (.ins C dx fs)) : Fr h d H (upd Ha h (.ins C dx u)) := by
  refine ⟨fun b o z1 _ e n => ?_, fun b t => ?_, fun b e => ?_⟩
  · rw [upd_ne z1]
    exact x.keep b o e n
  · obtain ⟨ps, e, q⟩ := x.tab _ t
    refine ⟨ps, ?_, q⟩
    rw [upd_ne (fun z => by rw [z, ho] at e; cases e)]
    exact e
  · have hb : b ≠ h := fun z => by rw [z, upd_same] at e; cases e
    rw [upd_ne hb] at e
    exact x.free b e
structure Errs where
  path : Addr
  root : Addr
  there : Addr
  drawer : Addr
  taken : Addr
  within : Addr
  long : Addr
structure RefE (K : PySem.W.Frag) (mg : Str → Option Value) (X : Errs) : Prop where
  path : Ref K mg "NoPath" X.path
  root : Ref K mg "Root" X.root
  there : Ref K mg "NotThere" X.there
  drawer : Ref K mg "NoDrawer" X.drawer
  taken : Ref K mg "Taken" X.taken
  within : Ref K mg "Within" X.within
  long : Ref K mg "TooLong" X.long
/-- how a move ends -/
inductive MoveEnd (X : Errs) (es : Ents) (old new : List Str) : Option Addr → Prop
  | root1 : old = [] → MoveEnd X es old new (some X.root)
  | root2 : old ≠ [] → new = [] → MoveEnd X es old new (some X.root)
  | there : old ≠ [] → new ≠ [] → valE es old = none → MoveEnd X es old new (some X.there)
  | within : old ≠ [] → new ≠ [] → (valE es old).isSome = true → withinB new old = true → MoveEnd X es old new (some X.within)
  | drawer : old ≠ [] → new ≠ [] → (valE es old).isSome = true → withinB new old = false → drawerAt es new.dropLast = false → MoveEnd X es old new (some X.drawer)
  | taken : old ≠ [] → new ≠ [] → (valE es old).isSome = true → withinB new old = false → drawerAt es new.dropLast = true → (valE es new).isSome = true → MoveEnd X es old new (some X.taken)
  | long : old ≠ [] → (valE es old).isSome = true → withinB new old = false → drawerAt es new.dropLast = true → valE es new = none → (∃ e ∈ es, 5 < (movedP e.1 old new).length) → MoveEnd X es old new (some X.long)
  | done : MoveOk es old new → MoveEnd X es old new none
def spMoveM (K : PySem.W.Frag) (C P1 P2 P9 : Addr) (X : Errs) : Sp := fun vs H Q E => ∃ h d es v u, vs = [.ref h, v, u] ∧ HsAt K C H h d es ∧ TabG H P1 ∧ TabG H P2 ∧ TabG H P9 ∧ PathOrX K H v (Refused H E X.path) fun _ old => PathOrX K H u (Refused H E X.path) fun _ new =>
  (∀ c, MoveEnd X es old new (some c) → Refused H E c) ∧ (MoveOk es old new → ∀ H' d', Fr h d H H' → H d' = none → HsAt K C H' h d' (plainE (movedE es old new)) → Q .non H')
section
variable {P : Program} {w : World} {K : PySem.W.Frag} {mg : Str → Option Value} {base : Heap}
theorem scNotRoot : FnScope ["path"] ["path"] (defScope sNotRoot) := ⟨rfl, rfl, rfl, by decide +kernel, rfl, by decide +kernel, by decide +kernel⟩
theorem ok_notRoot {f CR : Addr} {fd : FuncData} (F : Fun K "_check_not_root" "_check_not_root" sNotRoot f fd) (R : Ref K mg "Root" CR) : FnOk P w K mg base (L2.CX P w) 1 f fd ["path"] (spNotRoot CR) := by
  refine F.okX scNotRoot (fun vs H Q E h => ?_) (fun cdv A outer s H vs Q E hr h => ?_)
  · obtain ⟨a, p, rfl, _⟩ := h
    rfl
  · obtain ⟨a, p, rfl, pa, gp, k1, k2⟩ := h
    refine ⟨_, pss_one (ps_if (pt_cmpR (op_eqD hr.units) (pv 0) (pe_tup pa_nil) (nomark _)) (pss_one (ps_raise rfl (takes_of rfl rfl rfl rfl) (pmk_own PySem.F.excBase_ValueError R.x R.g R.k (raises_own R.b R.t) rfl))) pss_nil), ?_⟩
    refine ⟨_, rfl, Nat.zero_le _, fun q hq => ?_⟩
    have xq := Ex.new (o := .tup []) hq
    have pq : PathX (upd H q (.tup [])) q [] := upd_same
    refine ⟨pathD p, pathD [], ((PathX.ex xq pa).at (K := K)).dp, (pq.at (K := K)).dp, shaped_path (goodPath_ok gp), shaped_path (goodPath_ok (by decide)), _, rfl, ?_⟩
    rw [eqv_path]
    by_cases e : p = []
    · rw [decide_eq_true e]
      exact iteT (k1 e _ xq)
    · rw [decide_eq_false e]
      exact iteF (k2 e _ xq)
theorem scMoved : FnScope ["path", "old", "new"] ["path", "old", "new"] (defScope sMoved) := ⟨rfl, rfl, rfl, by decide +kernel, rfl, by decide +kernel, by decide +kernel⟩
theorem ok_moved {f f4 : Addr} {fd fd4 : FuncData} (F : Fun K "_moved" "_moved" sMoved f fd) (M : Mg mg)
    (G4 : FnOk P w K mg base CX0 1 f4 fd4 ["path", "other"] (spBegins K)) (m4 : mg "begins_with" = some (.ref f4)) (k4 : PySem.W.keepIn K (.ref f4) = true) (b4 : Binds K fd4 ["path", "other"] []) :
    FnOk P w K mg base CX0 2 f fd ["path", "old", "new"] spMoved := by
  refine F.ok scMoved (fun vs H Q E h => ?_) (fun cdv A outer s H vs Q E hr h => ?_)
  · obtain ⟨a, b, c, p, old, new, rfl, _⟩ := h
    rfl
  · obtain ⟨a, b, c, p, old, new, rfl, pa, pb, pc, gp, go, gn, k⟩ := h
    refine ⟨_, pss_one (ps_ret (pe_ifExp (pt_val (pe_call (E := E0) G4 hr (by rfl) m4 k4 b4 .nil pass0 (pa_cons (pv 0) (pa_cons (pv 1) pa_nil))))
      (pe_op (r := rCatA K) op_catA (pv 2) (pe_slice (r := rSlA K) sl_tupA (pv 0) (po_some (pe_callB call_len_seq (by rfl) M.len PySem.boot_len (pa_cons (pv 1) pa_nil))) po_none)) (pv 0))), ?_⟩
    refine ⟨_, rfl, _, rfl, a, b, p, old, rfl, pa.at, pb.at, gp, go, fun H1 x1 => ⟨_, rfl, ?_⟩⟩
    have kk := k
    unfold movedP at kk
    cases h : beginsB p old with
    | false =>
      rw [h] at kk
      exact iteF ⟨_, rfl, kk H1 a x1 (PathX.ex x1 pa)⟩
    | true =>
      rw [h, if_pos rfl] at kk
      refine iteT ⟨_, rfl, _, rfl, _, rfl, b, _, rfl, .inr (PathX.ex x1 pb).at, _, rfl, ?_⟩
      rw [List.length_map]
      refine slice_fromX old.length (PathX.ex x1 pa) fun H2 r x2 pr => ?_
      have l1 := (goodPath_names gp).1
      have l2 := (goodPath_names gn).1
      exact cat_pathX (PathX.ex (x1.trans x2) pc) pr (by rw [List.length_drop]; omega) fun H3 q x3 pq => kk H3 q ((x1.trans x2).trans x3) pq
theorem scAboveM : FnScope ["self", "path"] ["self", "path"] (defScope mAboveOk) := ⟨rfl, rfl, rfl, by decide +kernel, rfl, by decide +kernel, by decide +kernel⟩
theorem ok_aboveM {f C fK fA P1 P2 CD CP CP2 : Addr} {fd fdK fdA : FuncData} (F : Fun K "_check_above" "House._check_above" mAboveOk f fd) (T : HT K mg C) (R : Ref K mg "NoDrawer" CD)
    (mK : Meth K C "kind" fK) (GK : FnOk P w K mg base (L2.CX P w) 7 fK fdK ["self", "path"] (spKindM K C P1 P2 CP)) (bK : Binds K fdK ["self", "path"] [])
    (GA : FnOk P w K mg base (L2.CX P w) 7 fA fdA ["path"] (spAboveX K P1 P2 CP2)) (mA : mg "above" = some (.ref fA)) (kA : PySem.W.keepIn K (.ref fA) = true) (bA : Binds K fdA ["path"] []) :
    FnOk P w K mg base (L2.CX P w) 8 f fd ["self", "path"] (spAboveM K C P1 P2 CD) := by
  refine F.okX scAboveM (fun vs H Q E h => ?_) (fun cdv A outer s H vs Q E hr h => ?_)
  · obtain ⟨h, d, es, a, p, rfl, _⟩ := h
    rfl
  · obtain ⟨h, d, es, a, p, rfl, g, hT1, hT2, pa, gp, k1, k2⟩ := h
    refine ⟨_, pss_one (ps_if (PW.pt (pw_and (pt_truth (pv 1) (by intro _; rfl)) (pw_and1 (pt_cmpR op_ne (pe_meth (E := E) (pv 0) T.cl mK GK hr bK .nil (passes_call (takes_of rfl rfl rfl rfl) (fun _ _ _ _ h => h))
        (pa_cons (pe_call (E := E) GA hr (by rfl) mA kA bA .nil (passes_call (takes_of rfl rfl rfl rfl) (fun _ _ _ _ h => h)) (pa_cons (pv 1) pa_nil)) pa_nil)) pe_str (nomark _)))))
      (pss_one (ps_raise rfl (takes_of rfl rfl rfl rfl) (pmk_own PySem.F.excBase_ValueError R.x R.g R.k (raises_own R.b R.t) rfl))) pss_nil), ?_⟩
    obtain ⟨dx, ob⟩ := id g.ob
    refine ⟨_, rfl, _, .inr (.inl ⟨p.map V.str, pa.at (K := K), rfl⟩), ?_⟩
    cases p with
    | nil => exact iteF (iteF (k2 (Or.inl rfl) H (Ex.refl H)))
    | cons z0 q0 =>
      refine iteT ⟨_, rfl, h, dx, _, rfl, ob, fl_no d (by decide +kernel), _, rfl, .ref a, rfl, hT1, hT2, .inr ⟨a, z0 :: q0, rfl, pa.at (K := K), gp, fun H1 r x1 hr1 => ?_⟩⟩
      rcases hr1 with ⟨e, _⟩ | ⟨_, q, rfl, pq⟩
      · cases e
      have gd : goodPath (z0 :: q0).dropLast = true := by
        rw [List.dropLast_eq_take]
        exact goodPath_take gp _
      refine ⟨h, d, es, .ref q, rfl, g.ex x1, x1.tab _ hT1, x1.tab _ hT2, .inr ⟨q, _, rfl, pq, gd, fun H2 x2 => ?_⟩⟩
      rcases kind_cases g.thing (z0 :: q0).dropLast with ⟨e1, e2⟩ | ⟨e1, e2 | e2⟩
      · rw [e2]
        refine ⟨rfl, _, rfl, ?_⟩
        rw [show decide (V.str "drawer" = V.str "drawer") = true from decide_eq_true rfl]
        exact iteF (k2 (Or.inr e1) H2 (x1.trans x2))
      · rw [e2]
        refine ⟨rfl, _, rfl, ?_⟩
        rw [show decide (V.non = V.str "drawer") = false by decide +kernel]
        exact iteT (k1 ⟨by simp, e1⟩ H2 (x1.trans x2))
      · rw [e2]
        refine ⟨rfl, _, rfl, ?_⟩
        rw [show decide (V.str "file" = V.str "drawer") = false by decide +kernel]
        exact iteT (k1 ⟨by simp, e1⟩ H2 (x1.trans x2))
theorem scPlace : FnScope ["self", "path"] ["self", "path"] (defScope mPlace) := ⟨rfl, rfl, rfl, by decide +kernel, rfl, by decide +kernel, by decide +kernel⟩
theorem ok_place {f C fA P1 P2 CD CT : Addr} {fd fdA : FuncData} (F : Fun K "_check_place" "House._check_place" mPlace f fd) (T : HT K mg C) (R : Ref K mg "Taken" CT)
    (mA : Meth K C "_check_above" fA) (GA : FnOk P w K mg base (L2.CX P w) 8 fA fdA ["self", "path"] (spAboveM K C P1 P2 CD)) (bA : Binds K fdA ["self", "path"] []) :
    FnOk P w K mg base (L2.CX P w) 9 f fd ["self", "path"] (spPlace K C P1 P2 CD CT) := by
  refine F.okX scPlace (fun vs H Q E h => ?_) (fun cdv A outer s H vs Q E hr h => ?_)
  · obtain ⟨h, d, es, a, p, rfl, _⟩ := h
    rfl
  · obtain ⟨h, d, es, a, p, rfl, g, hT1, hT2, pa, gp, k1, k2⟩ := h
    have hu1 : (A.deeper (envOfC "House._check_place" (defScope mPlace) s.heap.objs.size f cdv)).units + 1 < cLine := by have := hr.units; omega
    refine ⟨_, pss_cons (ps_expr (pe_meth (E := E) (pv 0) T.cl mA GA hr bA .nil (passes_call (takes_of rfl rfl rfl rfl) (fun _ _ _ _ h => h)) (pa_cons (pv 1) pa_nil)))
      (pss_one (ps_if (pt_cmp (pc_din hu1 (pv 1) (pe_fld (pv 0) rfl))) (pss_one (ps_raise rfl (takes_of rfl rfl rfl rfl) (pmk_own PySem.F.excBase_ValueError R.x R.g R.k (raises_own R.b R.t) rfl))) pss_nil)), ?_⟩
    obtain ⟨dx, ob⟩ := id g.ob
    refine ⟨_, rfl, h, dx, _, rfl, ob, fl_no d (by decide +kernel), _, rfl, h, d, es, a, p, rfl, g, hT1, hT2, pa, gp, k1, fun hc H1 x1 => ?_⟩
    obtain ⟨k3, k4⟩ := k2 hc
    have g1 := g.ex x1
    obtain ⟨dx1, ob1⟩ := id g1.ob
    obtain ⟨kvs, hd, row⟩ := id g1.dc
    refine ⟨_, rfl, _, rfl, h, C, dx1, _, _, rfl, ob1, T.cl, T.nT, fl_get d, d, _, rfl, get_tr (Or.inl hd) (PathX.ex x1 pa), _, rfl, ?_⟩
    rcases row.val (p := p) with ⟨e1, e2⟩ | ⟨u, D, e1, e2, dv⟩
    · rw [e1]
      exact iteF (k4 e2 H1 x1)
    · rw [e1]
      exact iteT (k3 _ e2 H1 x1)
abbrev mvN : List Str := ["self", "old", "new", "tree", "path", "thing"]
theorem scMoveM : FnScope mvN ["self", "old", "new"] (defScope mMove) := ⟨rfl, rfl, rfl, by decide +kernel, rfl, by decide +kernel, by decide +kernel⟩
theorem ok_moveM {f c C f3 fN fT fW fP fM fR P1 P2 P9 CP2 : Addr} {X : Errs} {fd fd3 fdN fdT fdW fdP fdM fdR : FuncData} (F : FunC K "move" "House.move" mMove f fd c) (T : HT K mg C) (M : Mg mg) (mAny : mg "any" = none) (RX : RefE K mg X) (TB : LamX.TabB base mg c P9)
    (G3 : FnOk P w K mg base (L2.CX P w) 6 f3 fd3 ["thing"] (spCheck K P1 P2 X.path)) (m3 : mg "check_path" = some (.ref f3)) (k3 : PySem.W.keepIn K (.ref f3) = true) (b3 : Binds K fd3 ["thing"] [])
    (GN : FnOk P w K mg base (L2.CX P w) 1 fN fdN ["path"] (spNotRoot X.root)) (mN : mg "_check_not_root" = some (.ref fN)) (kN : PySem.W.keepIn K (.ref fN) = true) (bN : Binds K fdN ["path"] [])
    (mT : Meth K C "_check_there" fT) (GT : FnOk P w K mg base (L2.CX P w) 1 fT fdT ["self", "path"] (spThere K C X.there)) (bT : Binds K fdT ["self", "path"] [])
    (GW : FnOk P w K mg base (L2.CX P w) 7 fW fdW ["path", "other"] (spWithin K P1 P2 CP2)) (mW : mg "is_within" = some (.ref fW)) (kW : PySem.W.keepIn K (.ref fW) = true) (bW : Binds K fdW ["path", "other"] [])
    (mP : Meth K C "_check_place" fP) (GP : FnOk P w K mg base (L2.CX P w) 9 fP fdP ["self", "path"] (spPlace K C P1 P2 X.drawer X.taken)) (bP : Binds K fdP ["self", "path"] [])
    (GM : FnOk P w K mg base CX0 2 fM fdM ["path", "old", "new"] spMoved) (mM : mg "_moved" = some (.ref fM)) (kM : PySem.W.keepIn K (.ref fM) = true) (bM : Binds K fdM ["path", "old", "new"] [])
    (GR : FnOk P w K mg base CX0 1 fR fdR ["tree"] (spRenum K)) (mR : mg "renumbered" = some (.ref fR)) (kR : PySem.W.keepIn K (.ref fR) = true) (bR : Binds K fdR ["tree"] []) :
    FnOk P w K mg base (L2.CX P w) 10 f fd ["self", "old", "new"] (spMoveM K C P1 P2 P9 X) := by
  refine FunCokX F scMoveM (fun vs H Q E h => ?_) (fun A outer s H vs Q E hr h => ?_)
  · obtain ⟨h, d, es, v, u, rfl, _⟩ := h
    rfl
  · obtain ⟨h, d, es, v, u, rfl, g, hT1, hT2, hT9, hp⟩ := h
    have r7 := hr.mono (show 7 ≤ 9 by decide)
    have r6 := hr.mono (show 6 ≤ 9 by decide)
    have r2 := hr.mono (show 2 ≤ 9 by decide)
    have r1 := hr.mono (show 1 ≤ 9 by decide)
    have hu1 : (A.deeper (envOfC "House.move" (defScope mMove) s.heap.objs.size f (.ref c))).units + 1 < cLine := by have := hr.units; omega
    have hu0 : (A.deeper (envOfC "House.move" (defScope mMove) s.heap.objs.size f (.ref c))).units < cLine := by omega
    obtain ⟨tm, hm⟩ := M.mostNames
    refine ⟨_, pss_cons (ps_expr (pe_call (E := E) G3 r6 (by rfl) m3 k3 b3 .nil (passes_call (takes_of rfl rfl rfl rfl) (fun _ _ _ _ h => h)) (pa_cons (pv 1) pa_nil)))
      (pss_cons (ps_expr (pe_call (E := E) G3 r6 (by rfl) m3 k3 b3 .nil (passes_call (takes_of rfl rfl rfl rfl) (fun _ _ _ _ h => h)) (pa_cons (pv 2) pa_nil)))
      (pss_cons (ps_expr (pe_call (E := E) GN r1 (by rfl) mN kN bN .nil (passes_call (takes_of rfl rfl rfl rfl) (fun _ _ _ _ h => h)) (pa_cons (pv 1) pa_nil)))
      (pss_cons (ps_expr (pe_call (E := E) GN r1 (by rfl) mN kN bN .nil (passes_call (takes_of rfl rfl rfl rfl) (fun _ _ _ _ h => h)) (pa_cons (pv 2) pa_nil)))
      (pss_cons (ps_expr (pe_meth (E := E) (pv 0) T.cl mT GT r1 bT .nil (passes_call (takes_of rfl rfl rfl rfl) (fun _ _ _ _ h => h)) (pa_cons (pv 1) pa_nil)))
      (pss_cons (ps_if (pt_val (pe_call (E := E) GW r7 (by rfl) mW kW bW .nil (passes_call (takes_of rfl rfl rfl rfl) (fun _ _ _ _ h => h)) (pa_cons (pv 2) (pa_cons (pv 1) pa_nil))))
        (pss_one (ps_raise rfl (takes_of rfl rfl rfl rfl) (pmk_own PySem.F.excBase_ValueError RX.within.x RX.within.g RX.within.k (raises_own RX.within.b RX.within.t) rfl))) pss_nil)
      (pss_cons (ps_expr (pe_meth (E := E) (pv 0) T.cl mP GP hr bP .nil (passes_call (takes_of rfl rfl rfl rfl) (fun _ _ _ _ h => h)) (pa_cons (pv 2) pa_nil)))
      (pss_cons (ps_lockS (ps_setDcT (i := 3) (own := [("path", 4), ("thing", 5)]) (g := gTup K 2 (gCons (gName 4) (gCons (gName 5) gNil)))
          (tt := tYes) (tk := tCall spMoved [] E0 (tCons (tVar 4) (tCons (tVar 1) (tCons (tVar 2) tNil)))) (tv := tVar 5)
          hu0 (by rfl) scMoveM.nd rfl rfl (swapsDc rfl rfl rfl (by decide +kernel)) (pi_itemsT (pe_fld (pv 0) rfl))
          (blkOk_by (N := mvN) (sc := defScope mMove) (by decide +kernel)) (fun _ _ _ _ _ => by exact pg_tup rfl (pgs_cons (pg_name (i := 4) scMoveM.nd rfl (Or.inl rfl)) (pgs_cons (pg_name (i := 5) scMoveM.nd rfl (Or.inl rfl)) pgs_nil)))
          (fun _ _ _ _ _ => pts_nil)
          (fun _ _ _ _ _ => pe_call (E := E0) GM r2 (by rfl) mM kM bM .nil pass0 (pa_cons (pv 4) (pa_cons (pv 1) (pa_cons (pv 2) pa_nil))))
          (fun _ _ _ _ _ => pv 5)))
      (pss_cons (ps_if (pt_val (pe_lockR (pe_any (k := 8) (N := mvN) (pad := 0) (j := 4) (x := "path") (P := P9) hr rfl (by rfl) mAny TB rfl (gn_by (N0 := mvN) (sc := defScope mMove) (by decide +kernel)) (pi_keys (pv 3))
          (fun A s H cl C code fp pn hr => pe_cmpR op_gt (pe_callB (r := rLenSeq K) call_lenS (by rfl) M.len PySem.boot_len (pa_cons (pv 4) pa_nil)) (pe_glob (v := .int 5) (by rfl) hm ⟨_, rfl⟩) (nomark _)))))
        (pss_one (ps_raise rfl (takes_of rfl rfl rfl rfl) (pmk_own PySem.F.excBase_ValueError RX.long.x RX.long.g RX.long.k (raises_own RX.long.b RX.long.t) rfl))) pss_nil)
      (pss_one (ps_fld (pv 0) (pe_call (E := E0) GR r1 (by rfl) mR kR bR .nil pass0 (pa_cons (pv 3) pa_nil)) rfl)))))))))), ?_⟩
    rcases hp with ⟨pb, hbad⟩ | ⟨a, old, rfl, pa, go, hp⟩
    · exact ⟨_, rfl, v, false, rfl, pb, hT1, hT2, (fun z => nomatch z), fun _ => hbad⟩
    refine ⟨_, rfl, .ref a, true, rfl, PathX.b (K := K) pa go, hT1, hT2, fun _ H1 x1 => ?_, fun z => nomatch z⟩
    rcases hp with ⟨pb, hbad⟩ | ⟨b, new, rfl, pb, gn, kb, kg⟩
    · exact ⟨_, rfl, u, false, rfl, pb.ex x1, x1.tab _ hT1, x1.tab _ hT2, (fun z => nomatch z), fun _ H' x' => hbad H' (x1.trans x')⟩
    have rf : ∀ {G : Hp} {u : Addr}, Ex H G → MoveEnd X es old new (some u) → Refused G E u := fun x e H' x' => kb _ e H' (x.trans x')
    refine ⟨_, rfl, .ref b, true, rfl, PathX.b (K := K) (PathX.ex x1 pb) gn, x1.tab _ hT1, x1.tab _ hT2, fun _ H2 x2 => ?_, fun z => nomatch z⟩
    have x02 := x1.trans x2
    refine ⟨_, rfl, a, old, rfl, PathX.ex x02 pa, go, fun e => rf x02 (.root1 e), fun n1 H3 x3 => ?_⟩
    have x03 := x02.trans x3
    refine ⟨_, rfl, b, new, rfl, PathX.ex x03 pb, gn, fun e => rf x03 (.root2 n1 e), fun n2 H4 x4 => ?_⟩
    have x04 := x03.trans x4
    have g4 := g.ex x04
    obtain ⟨dx4, ob4⟩ := id g4.ob
    refine ⟨_, rfl, h, dx4, _, rfl, ob4, fl_no d (by decide +kernel), _, rfl, h, d, es, a, old, rfl, g4, PathX.ex x04 pa, fun e => rf x04 (.there n1 n2 e), fun dd e3 H5 x5 => ?_⟩
    have x05 := x04.trans x5
    have hs : (valE es old).isSome = true := by rw [e3]; rfl
    refine ⟨_, rfl, _, rfl, .ref b, .ref a, rfl, x05.tab _ hT1, x05.tab _ hT2, .inr ⟨b, new, rfl, (PathX.ex x05 pb).at, gn, .inr ⟨a, old, rfl, (PathX.ex x05 pa).at, go, fun H6 x6 => ⟨_, rfl, ?_⟩⟩⟩⟩
    have x06 := x05.trans x6
    cases hw : withinB new old with
    | true => exact iteT (rf x06 (.within n1 n2 hs hw) H6 (Ex.refl H6))
    | false =>
      have g6 := g.ex x06
      obtain ⟨dx6, ob6⟩ := id g6.ob
      refine iteF ⟨_, rfl, h, dx6, _, rfl, ob6, fl_no d (by decide +kernel), _, rfl, h, d, es, b, new, rfl, g6, x06.tab _ hT1, x06.tab _ hT2, PathX.ex x06 pb, gn, fun e => rf x06 (.drawer n1 n2 hs hw e.2), fun e4 => ⟨fun y e5 => rf x06 (.taken n1 n2 hs hw (e4.resolve_left n2) (by rw [e5]; rfl)), fun e5 H7 x7 => ?_⟩⟩
      have e4 := e4.resolve_left n2
      have x07 := x06.trans x7
      have g7 := g.ex x07
      obtain ⟨dx7, ob7⟩ := id g7.ob
      obtain ⟨kvs, hd7, row7⟩ := id g7.dc
      have pa7 := PathX.ex x07 pa
      have pb7 := PathX.ex x07 pb
      have hgp := (treeB_parts g.tree).2.1
      have hcl : ∀ {i : Nat} {en : List Str × PyData}, es[i]? = some en → valE (movedE (es.take i) old new) (movedP en.1 old new) = none := fun {i en} hen => by
        cases hv : valE (movedE (es.take i) old new) (movedP en.1 old new) with
        | none => rfl
        | some y =>
          exfalso
          obtain ⟨y0, hy0, ey, _⟩ := valE_mem hv
          obtain ⟨y1, hy1, rfl⟩ := List.mem_map.mp hy0
          have hin : ∀ e ∈ es, (valE es e.1).isSome = true := fun e he => by rw [valE_nd g.nd he]; rfl
          have := moved_inj_of e5 g.tree (hin y1 (List.mem_of_mem_take hy1)) (hin en (List.mem_of_getElem? hen)) ey
          exact take_new g.nd hen (List.mem_map.mpr ⟨y1, hy1, this⟩)
      refine lock_goS (Or.inl hd7) fun HL od R lk lt lf ld hR => ?_
      have hdh : h ≠ d := fun z => by rw [z, hd7] at ob7; cases ob7
      have obL := lk _ _ ob7 hdh
      have rowL : RowE K HL kvs es := row7.lk (Or.inl hd7) lk
      have paL : PathX HL a old := lk _ _ pa7 fun z => by rw [PathX, z, hd7] at pa7; cases pa7
      have pbL : PathX HL b new := lk _ _ pb7 fun z => by rw [PathX, z, hd7] at pb7; cases pb7
      refine ⟨_, rfl, h, C, dx7, _, _, rfl, obL, T.cl, T.nT, fl_get d, d, od, kvs, rfl, ld, fun D hD => ?_⟩
      have hDd : D ≠ d := fun z => by rw [z, ld] at hD; cases hD
      have h80 := g.len
      refine dcT_it LD.walk_itemsT (fun i G => Ex HL G ∧ ∃ km, G D = some (.dT km) ∧ RowE K G km (movedE (es.take i) old new))
        ⟨Ex.new hD, [], upd_same, .nil⟩ (fun i G _ h => h.1.keep _ _ ld (fun ps z => by cases z)) ?_ ?_
      · rintro i x G G' hi ⟨xg, km, hkm, rkm⟩ ⟨Tp, kk, v, q, hk, rfl, hTn, hq, rfl⟩
        obtain ⟨en, hen, ek, dv⟩ := (rowL.ex xg).get hk
        have ek : kk = en.1.map Sum.inr := ek
        rw [ek] at hq
        have pq : PathX G q en.1 := PathX.of_key hq
        have xT := Ex.new (o := .tup [V.ref q, v]) hTn
        have sT : SqT K (upd G Tp (.tup [V.ref q, v])) Tp [V.ref q, v] := SqT.of upd_same
        have pq' := PathX.ex xT pq
        have dv' := Dp_ex xT dv
        have hkm' := xT.keep _ _ hkm (fun ps z => by cases z)
        have rkm' := rkm.ex xT
        have x3 := xg.trans xT
        generalize upd G Tp (.tup [V.ref q, v]) = G2 at sT pq' dv' hkm' rkm' x3 ⊢
        have etake : es.take (i + 1) = es.take i ++ [en] := by rw [List.take_add_one, hen]; rfl
        have hmem := List.mem_of_getElem? hen
        refine ⟨Tp, _, rfl, sT, rfl, _, _, rfl, _, _, rfl, rfl, rfl, ?_⟩
        unfold tYes
        refine iteT ⟨_, rfl, _, rfl, _, rfl, q, a, b, en.1, old, new, rfl, pq', PathX.ex x3 paL, PathX.ex x3 pbL, hgp en hmem, go, gn, fun G3 r x4 pr => ?_⟩
        have hkm3 := x4.keep _ _ hkm' (fun ps z => by cases z)
        have rkm3 := rkm'.ex x4
        have hnew : valV km ((movedP en.1 old new).map Sum.inr) = none := by
          rcases rkm3.val (p := movedP en.1 old new) with ⟨e1, _⟩ | ⟨_, dd, _, e2, _⟩
          · exact e1
          · rw [hcl hen] at e2
            cases e2
        have hkl : km.length < sizeLine := by
          have e1 := rkm3.len
          unfold movedE at e1
          rw [List.length_map, List.length_take] at e1
          rw [sizeLine_eq]
          omega
        have dv3 := Dp_ex x4 dv'
        have mv := mv_upd (u := .dT (putK km ((movedP en.1 old new).map Sum.inr) v)) hkm3 (fun q => q)
        refine ⟨_, rfl, r, km, (movedP en.1 old new).map Sum.inr, rfl, pr.key, hkm3, hkl, (x3.trans x4).put hD, _, upd_same, ?_⟩
        have row2 := mv_row mv rkm3
        have du2 := mv_dp mv dv3
        rw [putK_new _ hnew] at row2 du2 ⊢
        rw [etake]
        unfold movedE at row2 ⊢
        rw [List.map_append]
        exact Paired.snoc row2 ⟨rfl, du2⟩
      rintro G ⟨xg, km, hkm, rkm⟩
      rw [row7.len, List.take_length] at rkm
      refine hR _ G xg fun H8 x8 kp => ?_
      have hkm8 := kp _ _ hkm hDd
      have ldG := xg.keep _ _ ld (fun ps z => by cases z)
      have rkm8 : RowE K H8 km (movedE es old new) := rkm.lk (Or.inr ⟨od, ldG⟩) kp
      have x08 := x07.trans x8
      have hDH : H D = none := x07.free _ (lf D hD)
      clear kp rkm hkm ldG xg hR rowL paL pbL obL ld lk lt lf hcl hD hDd
      -- is a path too long
      refine lock_go (Or.inl hkm8) fun HM od2 R2 lk lt lf ld hR => ⟨_, rfl, D, od2, rfl, .inr ⟨km, ld, lt _ (x08.tab _ hT9), fun HN hT => ?_⟩⟩
      have xN : Ex HM HN := Ex.tabd hT (lt _ (x08.tab _ hT9))
      have rkM : RowE K HM km (movedE es old new) := rkm8.lk (Or.inl hkm8) lk
      refine gw_keysAny (J0 := ()) (fun kv => decide (5 < (pathOf kv.1).length)) (xN.keep _ _ ld (fun ps z => by cases z)) (fun kv q G hmk x hq R3 hR3 => ?_) fun G x => ?_
      · obtain ⟨i, hi⟩ := List.mem_iff_getElem?.mp hmk
        obtain ⟨en, hen, ek, _⟩ := rkM.get hi
        rw [ek] at hq
        have px : PathX G q en.1 := PathX.of_key hq
        refine ⟨_, rfl, q, _, rfl, .inr (px.at (K := K)), _, _, rfl, rfl, ?_⟩
        have := hR3 G x
        rw [ek, pathOf_inr] at this
        rw [List.length_map]
        show R3 (V.bl (decide ((5 : Int) < ((en.1.length : Nat) : Int)))) G
        rwa [show decide ((5 : Int) < ((en.1.length : Nat) : Int)) = decide (5 < en.1.length) from decide_eq_decide.mpr (by omega)]
      refine hR _ G (xN.trans x) fun H9 x9 kp => ⟨_, rfl, ?_⟩
      have eany := rowE_any (fun p => decide (5 < p.length)) rkM
      rw [eany]
      have x09 := x08.trans x9
      cases hl : (movedE es old new).any fun e => decide (5 < e.1.length) with
      | true =>
        obtain ⟨y, hy, hy5⟩ := List.any_eq_true.mp hl
        obtain ⟨y0, hy0, rfl⟩ := List.mem_map.mp hy
        exact iteT (rf x09 (.long n1 hs hw e4 e5 ⟨y0, hy0, of_decide_eq_true hy5⟩) H9 (Ex.refl H9))
      | false =>
        have five : ∀ e ∈ es, (movedP e.1 old new).length ≤ 5 := fun e he => by
          have := List.any_eq_false.mp hl (movedP e.1 old new, e.2) (List.mem_map.mpr ⟨e, he, rfl⟩)
          have : ¬ 5 < (movedP e.1 old new).length := fun z => this (decide_eq_true z)
          omega
        have out : beginsB new old = false := by
          unfold withinB at hw
          have hne : new ≠ old := fun z => by rw [z] at e5; rw [e5] at hs; cases hs
          rwa [decide_eq_true (p := new ≠ old) hne, Bool.true_and] at hw
        have MO : MoveOk es old new := ⟨hs, n1, e5, e4, out, gn, five⟩
        have hkm9 := x9.keep _ _ hkm8 (fun ps z => by cases z)
        have tM := movedE_tree MO g.tree g.nd
        have nM := movedE_nd MO g.tree g.nd
        have lM : (movedE es old new).length ≤ 80 := (treeB_parts tM).1
        refine iteF ⟨_, rfl, D, _, rfl, ⟨km, Or.inl hkm9, rkm8.ex x9⟩, nM, (fun e he => ?_), by omega, fun Ha l kl xa el hl2 rl => ?_⟩
        · rcases tree_thing tM e he with hd | ⟨n, z, hd⟩
          · exact Or.inr ⟨"drawer", [], hd, by decide +kernel⟩
          · exact Or.inl ⟨n, z, hd⟩
        have x0a := x09.trans xa
        obtain ⟨dxa, oba⟩ := id (g.ex x0a).ob
        refine ⟨_, rfl, h, C, dxa, _, rfl, oba, T.cl, T.nT, (by show 1 < 1000; decide), ?_⟩
        rw [fl_put]
        have hlh : l ≠ h := fun z => by
          obtain ⟨dxz, obz⟩ := id (g.ex x09).ob
          rw [z, obz] at hl2; cases hl2
        obtain ⟨t1, t2⟩ := plainE_tree tM nM
        have mv := mv_upd (u := .ins C dxa [("_tree", V.ref l)]) oba (fun q => q)
        exact kg MO _ l (Fr.setH x0a oba) (x09.free _ hl2) ⟨⟨dxa, upd_same⟩, ⟨kl, by rw [upd_ne hlh]; exact el, mv_row mv rl⟩, plain_nd _ nM, t1, t2⟩
end
/-! ### a new house -/
structure Cst (K : PySem.W.Frag) (mg : Str → Option Value) (nm : Str) (xs : List V) (a : Addr) : Prop where
  g : mg nm = some (.ref a)
  t : ∀ H : Hp, SqT K H a xs
def GoodAt (K : PySem.W.Frag) (H : Hp) (d : Addr) (es : Ents) : Prop := TrAt K H d es ∧ smallE es ∧ treeB es = true ∧ (es.map (·.1)).Nodup
theorem GoodAt.ex {K : PySem.W.Frag} {H H' : Hp} {d : Addr} {es : Ents} (x : Ex H H') (h : GoodAt K H d es) : GoodAt K H' d es := ⟨h.1.ex x, h.2⟩
theorem GoodAt.q {K : PySem.W.Frag} {H : Hp} {d : Addr} {es : Ents} (h : GoodAt K H d es) : TreeQ K H (.ref d) true := by
  have := TreeQ.dict h.1 h.2.1
  rwa [h.2.2.1] at this
theorem tree_renOk {d : PyData} (h : drawerB d = true ∨ fileB d = true) : renOk d := by
  rcases tree_form h with rfl | ⟨n, z, rfl, _, _⟩
  · exact Or.inr ⟨"drawer", [], rfl, by decide +kernel⟩
  · exact Or.inl ⟨n, z, rfl⟩
def spPlainX (K : PySem.W.Frag) (P1 P2 P3 P4 P5 CT : Addr) : Sp := fun vs H Q E => ∃ v, vs = [v] ∧ Tabs5 H P1 P2 P3 P4 P5 ∧
  ((TreeQ K H v false ∧ Refused H E CT) ∨ ∃ d es, v = .ref d ∧ GoodAt K H d es ∧ ∀ H' l kvs, Ex H H' → H' l = some (.dT kvs) → H l = none → RowE K H' kvs (plainE es) → Q (.ref l) H')
def rootE : Ents := [([], drD)]
theorem rootE_small : smallE rootE := by
  refine ⟨fun e he => ?_, by decide⟩
  rw [List.mem_singleton.mp he]
  refine ⟨(fun z hz => nomatch hz), ?_⟩
  have e2 : decide (("drawer" : Str).length ≤ sizeLine) = true := by decide +kernel
  simp [drD, smallD, smallAll, e2]
theorem rootE_ok : treeB rootE = true ∧ smallE rootE ∧ (rootE.map (·.1)).Nodup := ⟨by decide +kernel, rootE_small, by decide⟩
def spInit (K : PySem.W.Frag) (C P1 P2 P3 P4 P5 CT : Addr) : Sp := fun vs H Q E => ∃ x dx v, vs = [.ref x, v] ∧ H x = some (.ins C dx []) ∧ Tabs5 H P1 P2 P3 P4 P5 ∧
  ((TreeQ K H v false ∧ v ≠ .non ∧ Refused H E CT) ∨ (v = .non ∧ ∀ H' d, Fr x x H H' → H d = none → HsAt K C H' x d (plainE rootE) → Q .non H') ∨
    ∃ t es, v = .ref t ∧ GoodAt K H t es ∧ ∀ H' d, Fr x x H H' → H d = none → HsAt K C H' x d (plainE es) → Q .non H')
section
variable {P : Program} {w : World} {K : PySem.W.Frag} {mg : Str → Option Value} {base : Heap}
theorem scPlain : FnScope ["tree"] ["tree"] (defScope sPlain) := ⟨rfl, rfl, rfl, by decide +kernel, rfl, by decide +kernel, by decide +kernel⟩
theorem ok_plain {f fT fR P1 P2 P3 P4 P5 CT : Addr} {fd fdT fdR : FuncData} (F : Fun K "plain" "plain" sPlain f fd)
    (GT : FnOk P w K mg base (L2.CX P w) 10 fT fdT ["thing"] (spCheckTree K P1 P2 P3 P4 P5 CT)) (mT : mg "check_tree" = some (.ref fT)) (kT : PySem.W.keepIn K (.ref fT) = true) (bT : Binds K fdT ["thing"] [])
    (GR : FnOk P w K mg base CX0 1 fR fdR ["tree"] (spRenum K)) (mR : mg "renumbered" = some (.ref fR)) (kR : PySem.W.keepIn K (.ref fR) = true) (bR : Binds K fdR ["tree"] []) :
    FnOk P w K mg base (L2.CX P w) 11 f fd ["tree"] (spPlainX K P1 P2 P3 P4 P5 CT) := by
  refine F.okX scPlain (fun vs H Q E h => ?_) (fun cdv A outer s H vs Q E hr h => ?_)
  · obtain ⟨v, rfl, _⟩ := h
    rfl
  · obtain ⟨v, rfl, T, h⟩ := h
    have r1 := hr.mono (show 1 ≤ 10 by decide)
    refine ⟨_, pss_cons (ps_expr (pe_call (E := E) GT hr (by rfl) mT kT bT .nil (passes_call (takes_of rfl rfl rfl rfl) (fun _ _ _ _ h => h)) (pa_cons (pv 0) pa_nil)))
      (pss_one (ps_ret (pe_call (E := E0) GR r1 (by rfl) mR kR bR .nil pass0 (pa_cons (pv 0) pa_nil)))), ?_⟩
    rcases h with ⟨tq, hbad⟩ | ⟨d, es, rfl, g, k⟩
    · exact ⟨_, rfl, v, false, rfl, tq, T, (fun z => nomatch z), fun _ => hbad⟩
    · obtain ⟨h80, _, hth, _, _⟩ := treeB_parts g.2.2.1
      exact ⟨_, rfl, .ref d, true, rfl, g.q, T, fun _ H1 x1 => ⟨_, rfl, d, es, rfl, g.1.ex x1, g.2.2.2, (fun e he => tree_renOk (hth e he)), by omega, fun H' l kvs x hl hn row => k H' l kvs (x1.trans x) hl (x1.free _ hn) row⟩, fun z => nomatch z⟩
theorem scInit : FnScope ["self", "tree"] ["self", "tree"] (defScope mInit) := ⟨rfl, rfl, rfl, by decide +kernel, rfl, by decide +kernel, by decide +kernel⟩
theorem ok_init {f C fP P1 P2 P3 P4 P5 CT aD : Addr} {fd fdP : FuncData} (F : FunD K "__init__" "House.__init__" (defArgs mInit) (defBody mInit) (defScope mInit) [.non] [] f fd) (T : HT K mg C) (SD : Cst K mg "DRAWER" [.str "drawer"] aD)
    (GP : FnOk P w K mg base (L2.CX P w) 11 fP fdP ["tree"] (spPlainX K P1 P2 P3 P4 P5 CT)) (mP : mg "plain" = some (.ref fP)) (kP : PySem.W.keepIn K (.ref fP) = true) (bP : Binds K fdP ["tree"] []) :
    FnOk P w K mg base (L2.CX P w) 12 f fd ["self", "tree"] (spInit K C P1 P2 P3 P4 P5 CT) := by
  refine F.ok scInit (fun vs H Q E h => ?_) (fun cdv A outer s H vs Q E hr h => ?_)
  · obtain ⟨x, dx, v, rfl, _⟩ := h
    rfl
  · obtain ⟨x, dx, v, rfl, ob, TB, h⟩ := h
    have hu1 : (A.deeper (envOfC "House.__init__" (defScope mInit) s.heap.objs.size f cdv)).units + 1 < cLine := by have := hr.units; omega
    refine ⟨_, pss_one (ps_fld (pv 0) (pe_call (E := E) GP hr (by rfl) mP kP bP .nil (passes_call (takes_of rfl rfl rfl rfl) (fun _ _ _ _ h => h))
      (pa_cons (pe_ifExp (pt_cmpR op_isN (pv 1) pe_non (nomark _)) (pe_dispT hu1 (pps_cons (pe_tup pa_nil) (pe_glob (v := .ref aD) (by rfl) SD.g rfl) pps_nil) rfl rfl (by simp) (by decide)) (pv 1)) pa_nil)) rfl), ?_⟩
    -- what follows the plain tree
    have fin : ∀ {es : Ents} {H0 H1 : Hp} {l : Addr} {kvs : List (List L2.Key × V)}, treeB es = true → (es.map (·.1)).Nodup → Ex H H0 → Ex H0 H1 → H1 l = some (.dT kvs) → H0 l = none → RowE K H1 kvs (plainE es) →
        (∀ H' d, Fr x x H H' → H d = none → HsAt K C H' x d (plainE es) → Q .non H') → ∃ a C' dx' fs, V.ref x = V.ref a ∧ H1 a = some (HO.ins C' dx' fs) ∧ Cls K C' ∧ NoAttr K C' "_tree" ∧ fs.length < 1000 ∧ Q .non (upd H1 a (HO.ins C' dx' (putF "_tree" (V.ref l) fs))) := by
      intro es H0 H1 l kvs t nd x0 x1 el hl row kk
      have x01 := x0.trans x1
      have ob1 := x01.keep _ _ ob (fun ps z => by cases z)
      have hlx : l ≠ x := fun z => by
        have := x0.keep _ _ ob (fun ps z => by cases z)
        rw [z, this] at hl
        cases hl
      obtain ⟨t1, t2⟩ := plainE_tree t nd
      have mv := mv_upd (u := .ins C dx [("_tree", V.ref l)]) ob1 (fun q => q)
      refine ⟨x, C, dx, [], rfl, ob1, T.cl, T.nT, (by decide), ?_⟩
      rw [fl_new]
      exact kk _ l (Fr.setH x01 ob1) (x0.free _ hl) ⟨⟨dx, upd_same⟩, ⟨kvs, by rw [upd_ne hlx]; exact el, mv_row mv row⟩, plain_nd _ nd, t1, t2⟩
    rcases h with ⟨tq, hne, hbad⟩ | ⟨rfl, kk⟩ | ⟨t, es, rfl, g, kk⟩
    · refine ⟨_, rfl, rfl, _, rfl, ?_⟩
      rw [decide_eq_false hne]
      exact iteF ⟨_, rfl, v, rfl, TB, .inl ⟨tq, hbad⟩⟩
    · refine ⟨_, rfl, rfl, _, rfl, ?_⟩
      rw [decide_eq_true rfl]
      refine iteT fun a0 ha0 => ?_
      refine ⟨Nat.zero_le _, fun p0 hp0 => ?_⟩
      have d0 : (upd H a0 (.dT [])) a0 = some (.dT []) := upd_same
      have xe := Ex.new (o := .tup []) hp0
      have xa := (Ex.new (o := .dT []) ha0).trans xe
      have t1 : PathX (upd (upd H a0 (.dT [])) p0 (.tup [])) p0 [] := upd_same
      have d1 := xe.keep _ _ d0 (fun ps z => by cases z)
      generalize upd (upd H a0 (.dT [])) p0 (.tup []) = Hm at xa t1 d1 ⊢
      clear d0 xe hp0
      refine ⟨d1, [([], .ref aD)], .cons ⟨⟨p0, rfl, t1⟩, rfl⟩ .nil, (by show 1 ≤ 15; decide), ?_⟩
      have emt : mergeT [] [(([] : List L2.Key), V.ref aD)] = [([], .ref aD)] := rfl
      rw [emt]
      have xb : Ex H (upd Hm a0 (.dT [([], .ref aD)])) := (xa.trans (Ex.refl _)).put ha0
      have e0 : (upd Hm a0 (.dT [([], .ref aD)])) a0 = some (.dT [([], .ref aD)]) := upd_same
      generalize upd Hm a0 (.dT [([], .ref aD)]) = G0 at xb e0 ⊢
      have r0 : RowE K G0 [([], .ref aD)] rootE := .cons ⟨rfl, .tup (SD.t G0) (.cons (.str _) .nil)⟩ .nil
      obtain ⟨o1, o2, o3⟩ := rootE_ok
      exact ⟨.ref a0, rfl, TB.ex xb, .inr ⟨a0, rootE, rfl, ⟨⟨_, Or.inl e0, r0⟩, o2, o1, o3⟩, fun H' l kvs x' hl hn row => ⟨_, rfl, fin o1 o3 xb x' hl hn row kk⟩⟩⟩
    · refine ⟨_, rfl, rfl, _, rfl, ?_⟩
      rw [show decide (V.ref t = V.non) = false from decide_eq_false (fun e => by cases e)]
      exact iteF ⟨_, rfl, .ref t, rfl, TB, .inr ⟨t, es, rfl, g, fun H' l kvs x' hl hn row => ⟨_, rfl, fin g.2.2.1 g.2.2.2 (Ex.refl H) x' hl hn row kk⟩⟩⟩
end
end LK

namespace LK
open PySem PySem.Spec PyProof.Rows L2 GA LT LE L2H LD
/-! ### len of a house -/
theorem call_lenOwn {X : Cx} {k : Nat} {f C : Addr} {fd : FuncData} {sp : Sp} (F : FnOk X.prog X.w X.K X.mg X.base CX0 k f fd ["self"] sp) (hr : Room k X.A.in1) (hb : Binds X.K fd ["self"] [])
    (ha : PySem.W.findIn X.K (.ref C) "__len__" = some (some (.ref f))) (ht : PySem.W.typeIn X.K (.ref f) = some (.type "function")) :
    CallR X (.builtin "len") (fun xs H Q => ∃ a dx fs, xs = [V.ref a] ∧ H a = some (.ins C dx fs) ∧ sp [V.ref a] H (fun v H' => ∃ n : Nat, v = .int (n : Nat) ∧ n ≤ 1000 ∧ Q (.int (n : Nat)) H') (fun _ _ _ => False)) := by
  intro pins s σ H xs us Q I r h
  obtain ⟨a, dx, fs, rfl, hH, hsp⟩ := h
  obtain ⟨u, rfl, hu⟩ : ∃ u, us = [u] ∧ u = Value.ref a := by
    cases r with
    | cons h1 h2 =>
      cases h2
      exact ⟨_, rfl, h1⟩
  subst hu
  have ho : ObjOk X.prog X.w H s.heap a (.ins C dx fs) := I.hok a _ hH
  unfold ObjOk at ho
  obtain ⟨h1, _, h3, h4, mA, h5, _⟩ := ho
  obtain ⟨od, _, _, hod, _⟩ := id h5
  have inst : PySem.W.InstAt s.heap a (PySem.W.instObj C dx) C (some od) := ⟨h4, rfl, rfl, hod⟩
  have e0 := I.env0
  have env : Env0 X.prog X.w X.K X.mg X.base X.A.in1 X.stack s H := ⟨e0.frames, e0.mod, e0.bs, e0.bsz, e0.funs, e0.frf, e0.hok, e0.bare⟩
  refine PySem.Calls.call_function_entry PySem.kind_len PySem.plain_len PySem.entry_len (PySem.args_len1 _) ?_
  unfold Builtin.len
  refine wpAny_bind (wpAny_pure (wpAny_bind (PySem.W.special_fn I.kIn inst ha ht ?_)))
  have run : wpAny (model X.prog X.w) X.A.in1 (call (Value.ref f) [.ref a]) (EP X pins σ (fun v H' => ∃ n : Nat, v = .int (n : Nat) ∧ n ≤ 1000 ∧ Q (.int (n : Nat)) H')) X.xe s := by
    refine wpAny_call (codeAny_mono (F.run X.A.in1 X.stack s H ⟨[.ref a], []⟩ [.ref a] [.ref a] _ _ hr env (hb s [.ref a] I.kIn rfl) r hsp) fun r s' hq => ?_)
    match r, hq with
    | .ok (.ret v), hq => exact I.after hq
    | .error e, hq => exact False.elim hq
  refine wpAny_mono run (fun v s' hv => ?_) fun _ _ y => y
  obtain ⟨v', H', I', rv, n, rfl, hn, q⟩ := hv
  obtain ⟨t, rfl⟩ := rv
  refine wpAny_bind (wpAny_holding (wpAny_pure (wpAny_bind (wpAny_letGo ?_))))
  show wpAny _ _ (if ((n : Nat) : Int) < 0 then _ else _) _ _ _
  rw [if_neg (show ¬ ((n : Nat) : Int) < 0 by omega)]
  show wpAny _ _ (if ((n : Nat) : Int) ≥ 2 ^ 63 then _ else _) _ _ _
  rw [if_neg (show ¬ ((n : Nat) : Int) ≥ 2 ^ 63 by omega)]
  exact wpAny_bind (wpAny_mkInt (wpAny_pure ⟨_, rfl, .int (n : Nat), H', I'.tok _, ⟨_, rfl⟩, q⟩))
/-! ### what is taken away -/
theorem begins_trans {p q r : List Str} (h1 : beginsB p q = true) (h2 : beginsB q r = true) : beginsB p r = true := by
  obtain ⟨a, rfl⟩ := begins_iff.mp h1
  obtain ⟨b, rfl⟩ := begins_iff.mp h2
  exact begins_iff.mpr ⟨b ++ a, List.append_assoc _ _ _⟩
def awayE (es : Ents) (p : List Str) : Ents := es.filter fun e => !beginsB e.1 p
theorem away_nd {es : Ents} (nd : (es.map (·.1)).Nodup) (p : List Str) : ((awayE es p).map (·.1)).Nodup := (List.Sublist.map _ List.filter_sublist).nodup nd
theorem mem_away {es : Ents} {p : List Str} {e : List Str × PyData} : e ∈ awayE es p ↔ e ∈ es ∧ beginsB e.1 p = false := by
  unfold awayE
  rw [List.mem_filter]
  cases beginsB e.1 p <;> simp
theorem valE_away {es : Ents} (nd : (es.map (·.1)).Nodup) (p q : List Str) : valE (awayE es p) q = if beginsB q p = true then none else valE es q := by
  cases hv : valE (awayE es p) q with
  | some d =>
    obtain ⟨x, hx, rfl, rfl⟩ := valE_mem hv
    obtain ⟨h1, h2⟩ := mem_away.mp hx
    rw [if_neg (by rw [h2]; exact Bool.false_ne_true), valE_nd nd h1]
  | none =>
    by_cases hb : beginsB q p = true
    · rw [if_pos hb]
    · rw [if_neg hb]
      cases h2 : valE es q with
      | none => rfl
      | some d =>
        obtain ⟨x, hx, rfl, rfl⟩ := valE_mem h2
        have hm : x ∈ awayE es p := mem_away.mpr ⟨hx, by cases h : beginsB x.1 p with | true => exact absurd h hb | false => rfl⟩
        rw [valE_nd (away_nd nd p) hm] at hv
        cases hv
theorem away_tree {es : Ents} (t : treeB es = true) (nd : (es.map (·.1)).Nodup) {p : List Str} (hp : p ≠ []) : treeB (awayE es p) = true := by
  obtain ⟨h80, hgp, hth, hroof, _⟩ := treeB_parts t
  unfold roofB at hroof
  simp only [Bool.and_eq_true, List.all_eq_true, Bool.or_eq_true, decide_eq_true_eq] at hroof
  have hsub : ∀ e ∈ awayE es p, e ∈ es := fun e he => (mem_away.mp he).1
  have hb0 : beginsB [] p = false := by
    cases h : beginsB [] p with
    | false => rfl
    | true =>
      obtain ⟨r, hr⟩ := begins_iff.mp h
      exact absurd (List.append_eq_nil_iff.mp hr.symm).1 hp
  have hd : ∀ q, beginsB q p = false → drawerAt es q = true → drawerAt (awayE es p) q = true := fun q hq h => by
    unfold drawerAt at h ⊢
    rwa [valE_away nd, if_neg (by rw [hq]; exact Bool.false_ne_true)]
  unfold treeB
  simp only [Bool.and_eq_true, decide_eq_true_eq, List.all_eq_true, Bool.or_eq_true]
  refine ⟨Nat.le_trans (List.length_filter_le _ _) h80, fun e he => hgp e (hsub e he), fun e he => hth e (hsub e he), ?_, ?_⟩
  · unfold roofB
    simp only [Bool.and_eq_true, List.all_eq_true, Bool.or_eq_true, decide_eq_true_eq]
    refine ⟨hd _ hb0 hroof.1, fun e he => ?_⟩
    obtain ⟨h1, h2⟩ := mem_away.mp he
    by_cases hn : e.1 = []
    · exact Or.inl hn
    · refine Or.inr (hd _ ?_ ((hroof.2 e h1).resolve_left hn))
      cases h : beginsB e.1.dropLast p with
      | false => rfl
      | true =>
        obtain ⟨s, hs⟩ := begins_iff.mp h
        have : beginsB e.1 p = true := by
          refine begins_iff.mpr ⟨s ++ [e.1.getLast hn], ?_⟩
          rw [← List.append_assoc, ← hs, List.dropLast_concat_getLast]
        rw [h2] at this
        cases this
  · refine (oneText_iff fun n z hz => ?_).mpr fun n y z h1 h2 => ?_
    · obtain ⟨e, he, ez⟩ := List.mem_map.mp hz
      obtain ⟨a, b⟩ := tree_fit t e (hsub e he) n z ez
      exact file_fileB b a
    · obtain ⟨e, he, ez⟩ := List.mem_map.mp h1
      obtain ⟨f, hf, fz⟩ := List.mem_map.mp h2
      exact tree_one t n y z (List.mem_map.mpr ⟨e, hsub e he, ez⟩) (List.mem_map.mpr ⟨f, hsub f hf, fz⟩)
theorem plain_away {es : Ents} (t : treeB es = true) (nd : (es.map (·.1)).Nodup) (p : List Str) : plainE (awayE (plainE es) p) = plainE (awayE es p) := by
  have th := tree_thing t
  have nP := plain_nd es nd
  have nA := away_nd nd p
  have nAP := away_nd nP p
  have rel : ∀ q, valE (awayE (plainE es) p) q = (valE (awayE es p) q).map (renD (renOf (upE es)).1) := fun q => by
    rw [valE_away nP, valE_away nd, valE_plain th nd]
    by_cases h : beginsB q p = true
    · rw [if_pos h, if_pos h]; rfl
    · rw [if_neg h, if_neg h]
  refine plainE_bi (C := fun n m => m ∈ (renOf (upE es)).1 ∧ n = (((renOf (upE es)).1.idxOf m : Nat) : Int)) ?_ (keysUpE_same nAP nA fun q => ?_) fun q hq => ?_
  · rintro n m n' m' ⟨h1, h2⟩ ⟨h1', h2'⟩
    constructor
    · intro e
      rw [h2, h2'] at e
      exact idxI_inj h1 h1' (by omega)
    · intro e
      rw [h2, h2', e]
  · rw [valE_isKey nAP, valE_isKey nA, rel]
    cases valE (awayE es p) q <;> exact Iff.rfl
  · have hm := (valE_isKey nAP).mp ((keysUpE_perm _).mem_iff.mp hq)
    rw [rel] at hm ⊢
    cases hv : valE (awayE es p) q with
    | none => rw [hv] at hm; cases hm
    | some d =>
      obtain ⟨z, hz, ez, rfl⟩ := valE_mem hv
      have hz := (mem_away.mp hz).1
      rcases th z hz with hd | ⟨n, u, hd⟩
      · exact Or.inl ⟨by show renD _ z.2 = drD; rw [hd]; exact (renD_oth (w := "drawer") (ds := []) (by decide +kernel)).1, hd⟩
      · refine Or.inr ⟨_, n, u, by show renD _ z.2 = _; rw [hd]; exact renD_file.1, hd, ?_, rfl⟩
        have hk : z.1 ∈ keysUpE es := (keysUpE_perm es).mem_iff.mpr (List.mem_map.mpr ⟨z, hz, rfl⟩)
        refine fold_in (upE es) ([], []) (z.1, (valE es z.1).getD .none) (List.mem_map.mpr ⟨z.1, hk, rfl⟩) n u ?_
        rw [valE_nd nd hz]
        exact hd
structure ErrsC where
  path : Addr
  root : Addr
  there : Addr
  notEmpty : Addr
def spTakeAway (K : PySem.W.Frag) (C : Addr) : Sp := fun vs H Q _ => ∃ h d es a p, vs = [.ref h, .ref a] ∧ HsAt K C H h d es ∧ PathX H a p ∧ goodPath p = true ∧ p ≠ [] ∧
  ∀ H' d', Fr h d H H' → H d' = none → HsAt K C H' h d' (plainE (awayE es p)) → Q .non H'
def spClearM (K : PySem.W.Frag) (C P1 P2 : Addr) (X : ErrsC) : Sp := fun vs H Q E => ∃ h d es v, vs = [.ref h, v] ∧ HsAt K C H h d es ∧ TabG H P1 ∧ TabG H P2 ∧ PathOrX K H v (Refused H E X.path) fun _ p =>
  (p = [] → Refused H E X.root) ∧ (p ≠ [] → (valE es p = none → Refused H E X.there) ∧ ((valE es p).isSome = true → ∀ H' d', Fr h d H H' → H d' = none → HsAt K C H' h d' (plainE (awayE es p)) → Q .non H'))
def spRemoveM (K : PySem.W.Frag) (C P1 P2 P9 : Addr) (X : ErrsC) : Sp := fun vs H Q E => ∃ h d es v, vs = [.ref h, v] ∧ HsAt K C H h d es ∧ TabG H P1 ∧ TabG H P2 ∧ TabG H P9 ∧ PathOrX K H v (Refused H E X.path) fun _ p =>
  (p = [] → Refused H E X.root) ∧ (p ≠ [] → (valE es p = none → Refused H E X.there) ∧ ((valE es p).isSome = true → ((es.any fun e => withinB e.1 p) = true → Refused H E X.notEmpty) ∧
    ((es.any fun e => withinB e.1 p) = false → ∀ H' d', Fr h d H H' → H d' = none → HsAt K C H' h d' (plainE (awayE es p)) → Q .non H')))
def spTwinM (K : PySem.W.Frag) (C P1 P2 P3 P4 P5 : Addr) : Sp := fun vs H Q _ => ∃ h d es, vs = [.ref h] ∧ HsAt K C H h d es ∧ Tabs5 H P1 P2 P3 P4 P5 ∧ ∀ H' h2 d2, Ex H H' → H h2 = none → H d2 = none → h2 ≠ d2 → HsAt K C H' h2 d2 (plainE es) → Q (.ref h2) H'
def spLenM (K : PySem.W.Frag) (C : Addr) : Sp := fun vs H Q _ => ∃ h d es, vs = [.ref h] ∧ HsAt K C H h d es ∧ ∀ H', Ex H H' → Q (.int (es.length : Nat)) H'
section
variable {P : Program} {w : World} {K : PySem.W.Frag} {mg : Str → Option Value} {base : Heap}
abbrev taN : List Str := ["self", "path", "other", "thing"]
theorem scTakeAway : FnScope taN ["self", "path"] (defScope mTakeAway) := ⟨rfl, rfl, rfl, by decide +kernel, rfl, by decide +kernel, by decide +kernel⟩
theorem ok_takeAway {f C fB fR : Addr} {fd fdB fdR : FuncData} (F : Fun K "_take_away" "House._take_away" mTakeAway f fd) (T : HT K mg C)
    (GB : FnOk P w K mg base CX0 1 fB fdB ["path", "other"] (spBegins K)) (mB : mg "begins_with" = some (.ref fB)) (kB : PySem.W.keepIn K (.ref fB) = true) (bB : Binds K fdB ["path", "other"] [])
    (GR : FnOk P w K mg base CX0 1 fR fdR ["tree"] (spRenum K)) (mR : mg "renumbered" = some (.ref fR)) (kR : PySem.W.keepIn K (.ref fR) = true) (bR : Binds K fdR ["tree"] []) : FnOk P w K mg base CX0 2 f fd ["self", "path"] (spTakeAway K C) := by
  refine F.ok scTakeAway (fun vs H Q E h => ?_) (fun cdv A outer s H vs Q E hr h => ?_)
  · obtain ⟨h, d, es, a, p, rfl, _⟩ := h
    rfl
  · obtain ⟨h, d, es, a, p, rfl, g, pa, gp, hne, k⟩ := h
    have hu0 : (A.deeper (envOfC "House._take_away" (defScope mTakeAway) s.heap.objs.size f cdv)).units < cLine := by have := hr.units; omega
    refine ⟨_, pss_one (ps_fld (pv 0) (pe_call (E := E0) GR hr (by rfl) mR kR bR .nil pass0 (pa_cons (pe_lockR (pe_dcT (own := [("other", 2), ("thing", 3)]) (g := gTup K 2 (gCons (gName 2) (gCons (gName 3) gNil)))
        (tt := tNot (tB (tCall (spBegins K) [] E0 (tCons (tVar 2) (tCons (tVar 1) tNil))))) (tk := tVar 2) (tv := tVar 3)
        hu0 (by rfl) scTakeAway.nd (pi_itemsT (pe_fld (pv 0) rfl)) (blkOk_by (N := taN) (sc := defScope mTakeAway) (by decide +kernel))
        (fun _ _ _ _ _ => by exact pg_tup rfl (pgs_cons (pg_name (i := 2) scTakeAway.nd rfl (Or.inl rfl)) (pgs_cons (pg_name (i := 3) scTakeAway.nd rfl (Or.inl rfl)) pgs_nil)))
        (fun _ _ _ _ _ => pts_one (pt_not (pt_val (pe_call (E := E0) GB hr (by rfl) mB kB bB .nil pass0 (pa_cons (pv 2) (pa_cons (pv 1) pa_nil))))))
        (fun _ _ _ _ _ => pv 2) (fun _ _ _ _ _ => pv 3))) pa_nil)) rfl), ?_⟩
    obtain ⟨dx, ob⟩ := id g.ob
    obtain ⟨kvs, hd, row⟩ := id g.dc
    have hgp := (treeB_parts g.tree).2.1
    have h80 := g.len
    refine lock_go (Or.inl hd) fun HL od R lk lt lf ld hR => ?_
    have hdh : h ≠ d := fun z => by rw [z, hd] at ob; cases ob
    have obL := lk _ _ ob hdh
    have rowL : RowE K HL kvs es := row.lk (Or.inl hd) lk
    have paL : PathX HL a p := lk _ _ pa fun z => by rw [PathX, z, hd] at pa; cases pa
    refine ⟨_, rfl, h, C, dx, _, _, rfl, obL, T.cl, T.nT, fl_get d, d, od, kvs, rfl, ld, fun D hD => ?_⟩
    have hDd : D ≠ d := fun z => by rw [z, ld] at hD; cases hD
    refine dcT_it LD.walk_itemsT (fun i G => Ex HL G ∧ ∃ km, G D = some (.dT km) ∧ RowE K G km (awayE (es.take i) p))
      ⟨Ex.new hD, [], upd_same, .nil⟩ (fun i G _ h => h.1.keep _ _ ld (fun ps z => by cases z)) ?_ ?_
    · rintro i x G G' hi ⟨xg, km, hkm, rkm⟩ ⟨Tp, kk, v, q, hk, rfl, hTn, hq, rfl⟩
      obtain ⟨en, hen, ek, dv⟩ := (rowL.ex xg).get hk
      have ek : kk = en.1.map Sum.inr := ek
      rw [ek] at hq
      have pq : PathX G q en.1 := PathX.of_key hq
      have xT := Ex.new (o := .tup [V.ref q, v]) hTn
      have sT : SqT K (upd G Tp (.tup [V.ref q, v])) Tp [V.ref q, v] := SqT.of upd_same
      have pq' := PathX.ex xT pq
      have dv' := Dp_ex xT dv
      have hkm' := xT.keep _ _ hkm (fun ps z => by cases z)
      have rkm' := rkm.ex xT
      have x3 := xg.trans xT
      generalize upd G Tp (.tup [V.ref q, v]) = G2 at sT pq' dv' hkm' rkm' x3 ⊢
      have etake : es.take (i + 1) = es.take i ++ [en] := by rw [List.take_add_one, hen]; rfl
      have hmem := List.mem_of_getElem? hen
      refine ⟨Tp, _, rfl, sT, rfl, _, _, rfl, _, _, rfl, rfl, rfl, ?_⟩
      refine ⟨_, rfl, _, rfl, q, a, en.1, p, rfl, pq'.at, (PathX.ex x3 paL).at, hgp en hmem, gp, fun G3 x4 => ⟨_, rfl, ?_⟩⟩
      have hkm3 := x4.keep _ _ hkm' (fun ps z => by cases z)
      have rkm3 := rkm'.ex x4
      have esn : awayE (es.take (i + 1)) p = awayE (es.take i) p ++ (if beginsB en.1 p = true then [] else [en]) := by
        rw [etake]
        unfold awayE
        rw [List.filter_append]
        congr 1
        by_cases hb : beginsB en.1 p = true
        · rw [if_pos hb]
          exact List.filter_cons_of_neg (by rw [hb]; decide)
        · rw [if_neg hb]
          exact List.filter_cons_of_pos (p := fun e : List Str × PyData => !beginsB e.1 p) (by cases h : beginsB en.1 p with | true => exact absurd h hb | false => rfl)
      cases hb : beginsB en.1 p with
      | true =>
        refine iteF ⟨x3.trans x4, km, hkm3, ?_⟩
        rw [esn, if_pos hb, List.append_nil]
        exact rkm3
      | false =>
        have hnew : valV km (en.1.map Sum.inr) = none := by
          rcases rkm3.val (p := en.1) with ⟨e1, _⟩ | ⟨_, dd, _, e2, _⟩
          · exact e1
          · exfalso
            obtain ⟨y, hy, ey, _⟩ := valE_mem e2
            exact take_new g.nd hen (List.mem_map.mpr ⟨y, (mem_away.mp hy).1, ey⟩)
        have hkl : km.length < sizeLine := by
          have e1 := rkm3.len
          have e2 : (awayE (es.take i) p).length ≤ (es.take i).length := List.length_filter_le _ _
          rw [List.length_take] at e2
          rw [sizeLine_eq]
          omega
        have dv3 := Dp_ex x4 dv'
        have mv := mv_upd (u := .dT (putK km (en.1.map Sum.inr) v)) hkm3 (fun q => q)
        refine iteT ⟨_, rfl, _, rfl, q, km, en.1.map Sum.inr, rfl, (PathX.ex x4 pq').key, hkm3, hkl, (x3.trans x4).put hD, _, upd_same, ?_⟩
        have row2 := mv_row mv rkm3
        have du2 := mv_dp mv dv3
        rw [putK_new _ hnew] at row2 du2 ⊢
        rw [esn, if_neg (by rw [hb]; exact Bool.false_ne_true)]
        exact Paired.snoc row2 ⟨rfl, du2⟩
    rintro G ⟨xg, km, hkm, rkm⟩
    rw [row.len, List.take_length] at rkm
    refine hR _ G xg fun H8 x8 kp => ?_
    have hkm8 := kp _ _ hkm hDd
    have ldG := xg.keep _ _ ld (fun ps z => by cases z)
    have rkm8 : RowE K H8 km (awayE es p) := rkm.lk (Or.inr ⟨od, ldG⟩) kp
    have tA := away_tree g.tree g.nd hne
    have nA := away_nd g.nd p
    have lA := (treeB_parts tA).1
    refine ⟨D, awayE es p, rfl, ⟨km, Or.inl hkm8, rkm8⟩, nA, (fun e he => ?_), by omega, fun Ha l kl xa el hl2 rl => ?_⟩
    · rcases tree_thing tA e he with hd | ⟨n, z, hd⟩
      · exact Or.inr ⟨"drawer", [], hd, by decide +kernel⟩
      · exact Or.inl ⟨n, z, hd⟩
    have x0a := x8.trans xa
    obtain ⟨dxa, oba⟩ := id (g.ex x0a).ob
    refine ⟨_, rfl, h, C, dxa, _, rfl, oba, T.cl, T.nT, (by show 1 < 1000; decide), ?_⟩
    rw [fl_put]
    have hlh : l ≠ h := fun z => by
      obtain ⟨dxz, obz⟩ := id (g.ex x8).ob
      rw [z, obz] at hl2; cases hl2
    obtain ⟨t1, t2⟩ := plainE_tree tA nA
    have mv := mv_upd (u := .ins C dxa [("_tree", V.ref l)]) oba (fun q => q)
    exact k _ l (Fr.setH x0a oba) (x8.free _ hl2) ⟨⟨dxa, upd_same⟩, ⟨kl, by rw [upd_ne hlh]; exact el, mv_row mv rl⟩, plain_nd _ nA, t1, t2⟩
theorem scClearM : FnScope ["self", "path"] ["self", "path"] (defScope mClear) := ⟨rfl, rfl, rfl, by decide +kernel, rfl, by decide +kernel, by decide +kernel⟩
theorem ok_clearM {f C f3 fN fT fA P1 P2 : Addr} {X : ErrsC} {fd fd3 fdN fdT fdA : FuncData} (F : Fun K "clear" "House.clear" mClear f fd) (T : HT K mg C)
    (G3 : FnOk P w K mg base (L2.CX P w) 6 f3 fd3 ["thing"] (spCheck K P1 P2 X.path)) (m3 : mg "check_path" = some (.ref f3)) (k3 : PySem.W.keepIn K (.ref f3) = true) (b3 : Binds K fd3 ["thing"] [])
    (GN : FnOk P w K mg base (L2.CX P w) 1 fN fdN ["path"] (spNotRoot X.root)) (mN : mg "_check_not_root" = some (.ref fN)) (kN : PySem.W.keepIn K (.ref fN) = true) (bN : Binds K fdN ["path"] [])
    (mT : Meth K C "_check_there" fT) (GT : FnOk P w K mg base (L2.CX P w) 1 fT fdT ["self", "path"] (spThere K C X.there)) (bT : Binds K fdT ["self", "path"] [])
    (mA : Meth K C "_take_away" fA) (GA : FnOk P w K mg base CX0 2 fA fdA ["self", "path"] (spTakeAway K C)) (bA : Binds K fdA ["self", "path"] []) :
    FnOk P w K mg base (L2.CX P w) 7 f fd ["self", "path"] (spClearM K C P1 P2 X) := by
  refine F.okX scClearM (fun vs H Q E h => ?_) (fun cdv A outer s H vs Q E hr h => ?_)
  · obtain ⟨h, d, es, v, rfl, _⟩ := h
    rfl
  · obtain ⟨h, d, es, v, rfl, g, hT1, hT2, hp⟩ := h
    have r2 := hr.mono (show 2 ≤ 6 by decide)
    have r1 := hr.mono (show 1 ≤ 6 by decide)
    refine ⟨_, pss_cons (ps_expr (pe_call (E := E) G3 hr (by rfl) m3 k3 b3 .nil (passes_call (takes_of rfl rfl rfl rfl) (fun _ _ _ _ h => h)) (pa_cons (pv 1) pa_nil)))
      (pss_cons (ps_expr (pe_call (E := E) GN r1 (by rfl) mN kN bN .nil (passes_call (takes_of rfl rfl rfl rfl) (fun _ _ _ _ h => h)) (pa_cons (pv 1) pa_nil)))
      (pss_cons (ps_expr (pe_meth (E := E) (pv 0) T.cl mT GT r1 bT .nil (passes_call (takes_of rfl rfl rfl rfl) (fun _ _ _ _ h => h)) (pa_cons (pv 1) pa_nil)))
      (pss_one (ps_expr (pe_meth (E := E0) (pv 0) T.cl mA GA r2 bA .nil pass0 (pa_cons (pv 1) pa_nil)))))), ?_⟩
    rcases hp with ⟨pb, hbad⟩ | ⟨a, p, rfl, pa, gp, k1, k2⟩
    · exact ⟨_, rfl, v, false, rfl, pb, hT1, hT2, (fun z => nomatch z), fun _ => hbad⟩
    refine ⟨_, rfl, .ref a, true, rfl, PathX.b (K := K) pa gp, hT1, hT2, fun _ H1 x1 => ?_, fun z => nomatch z⟩
    refine ⟨_, rfl, a, p, rfl, PathX.ex x1 pa, gp, fun e H' x' => k1 e H' (x1.trans x'), fun hne H2 x2 => ?_⟩
    obtain ⟨k3', k4⟩ := k2 hne
    have x02 := x1.trans x2
    have g2 := g.ex x02
    obtain ⟨dx2, ob2⟩ := id g2.ob
    refine ⟨_, rfl, h, dx2, _, rfl, ob2, fl_no d (by decide +kernel), _, rfl, h, d, es, a, p, rfl, g2, PathX.ex x02 pa, fun e H' x' => k3' e H' (x02.trans x'), fun y ey H3 x3 => ?_⟩
    have x03 := x02.trans x3
    have g3 := g.ex x03
    obtain ⟨dx3, ob3⟩ := id g3.ob
    exact ⟨_, rfl, h, dx3, _, rfl, ob3, fl_no d (by decide +kernel), _, rfl, h, d, es, a, p, rfl, g3, PathX.ex x03 pa, gp, hne, fun H' d' fr hn g' => k4 (by rw [ey]; rfl) H' d' ((Ex.fr x03).trans fr (Or.inl rfl)) (x03.free _ hn) g'⟩
end
section
variable {P : Program} {w : World} {K : PySem.W.Frag} {mg : Str → Option Value} {base : Heap}
theorem scLenM : FnScope ["self"] ["self"] (defScope mLen) := ⟨rfl, rfl, rfl, by decide +kernel, rfl, by decide +kernel, by decide +kernel⟩
theorem ok_lenM {f C : Addr} {fd : FuncData} (F : Fun K "__len__" "House.__len__" mLen f fd) (T : HT K mg C) (M : Mg mg) : FnOk P w K mg base CX0 1 f fd ["self"] (spLenM K C) := by
  refine F.ok scLenM (fun vs H Q E h => ?_) (fun cdv A outer s H vs Q E hr h => ?_)
  · obtain ⟨h, d, es, rfl, _⟩ := h
    rfl
  · obtain ⟨h, d, es, rfl, g, k⟩ := h
    refine ⟨_, pss_one (ps_ret (pe_callB call_lenR (by rfl) M.len PySem.boot_len (pa_cons (pe_fld (pv 0) rfl) pa_nil))), ?_⟩
    obtain ⟨dx, ob⟩ := id g.ob
    obtain ⟨kvs, hd, row⟩ := id g.dc
    have := k H (Ex.refl H)
    rw [← row.len] at this
    exact ⟨_, rfl, h, C, dx, _, _, rfl, ob, T.cl, T.nT, fl_get d, d, kvs, rfl, Or.inl hd, this⟩
end
/-! ### remove -/
section
variable {P : Program} {w : World} {K : PySem.W.Frag} {mg : Str → Option Value} {base : Heap}
abbrev rmN : List Str := ["self", "path"]
theorem scRemoveM : FnScope rmN ["self", "path"] (defScope mRemove) := ⟨rfl, rfl, rfl, by decide +kernel, rfl, by decide +kernel, by decide +kernel⟩
theorem ok_removeM {f c C f3 fN fT fW fA P1 P2 P9 CP2 : Addr} {X : ErrsC} {fd fd3 fdN fdT fdW fdA : FuncData} (F : FunC K "remove" "House.remove" mRemove f fd c) (T : HT K mg C) (mAny : mg "any" = none) (TB : LamX.TabB base mg c P9) (R : Ref K mg "NotEmpty" X.notEmpty)
    (G3 : FnOk P w K mg base (L2.CX P w) 6 f3 fd3 ["thing"] (spCheck K P1 P2 X.path)) (m3 : mg "check_path" = some (.ref f3)) (k3 : PySem.W.keepIn K (.ref f3) = true) (b3 : Binds K fd3 ["thing"] [])
    (GN : FnOk P w K mg base (L2.CX P w) 1 fN fdN ["path"] (spNotRoot X.root)) (mN : mg "_check_not_root" = some (.ref fN)) (kN : PySem.W.keepIn K (.ref fN) = true) (bN : Binds K fdN ["path"] [])
    (mT : Meth K C "_check_there" fT) (GT : FnOk P w K mg base (L2.CX P w) 1 fT fdT ["self", "path"] (spThere K C X.there)) (bT : Binds K fdT ["self", "path"] [])
    (GW : FnOk P w K mg base (L2.CX P w) 7 fW fdW ["path", "other"] (spWithin K P1 P2 CP2)) (mW : mg "is_within" = some (.ref fW)) (kW : PySem.W.keepIn K (.ref fW) = true) (bW : Binds K fdW ["path", "other"] [])
    (mA : Meth K C "_take_away" fA) (GA : FnOk P w K mg base CX0 2 fA fdA ["self", "path"] (spTakeAway K C)) (bA : Binds K fdA ["self", "path"] []) :
    FnOk P w K mg base (L2.CX P w) 9 f fd ["self", "path"] (spRemoveM K C P1 P2 P9 X) := by
  refine FunCokX F scRemoveM (fun vs H Q E h => ?_) (fun A outer s H vs Q E hr h => ?_)
  · obtain ⟨h, d, es, v, rfl, _⟩ := h
    rfl
  · obtain ⟨h, d, es, v, rfl, g, hT1, hT2, hT9, hp⟩ := h
    have r6 := hr.mono (show 6 ≤ 8 by decide)
    have r2 := hr.mono (show 2 ≤ 8 by decide)
    have r1 := hr.mono (show 1 ≤ 8 by decide)
    refine ⟨_, pss_cons (ps_expr (pe_call (E := E) G3 r6 (by rfl) m3 k3 b3 .nil (passes_call (takes_of rfl rfl rfl rfl) (fun _ _ _ _ h => h)) (pa_cons (pv 1) pa_nil)))
      (pss_cons (ps_expr (pe_call (E := E) GN r1 (by rfl) mN kN bN .nil (passes_call (takes_of rfl rfl rfl rfl) (fun _ _ _ _ h => h)) (pa_cons (pv 1) pa_nil)))
      (pss_cons (ps_expr (pe_meth (E := E) (pv 0) T.cl mT GT r1 bT .nil (passes_call (takes_of rfl rfl rfl rfl) (fun _ _ _ _ h => h)) (pa_cons (pv 1) pa_nil)))
      (pss_cons (ps_if (pt_val (pe_lockR (pe_any (k := 7) (N := ["self", "path", "other"]) (pad := 1) (j := 2) (x := "other") (P := P9) hr rfl (by rfl) mAny TB rfl (gn_by (N0 := rmN) (sc := defScope mRemove) (by decide +kernel)) (pi_keys (pe_fld (pv 0) rfl))
          (fun A s H cl C code fp pn hr => pe_call (E := E0) GW hr (by rfl) mW kW bW .nil passL (pa_cons (pv 2) (pa_cons (pv 1) pa_nil))))))
        (pss_one (ps_raise rfl (takes_of rfl rfl rfl rfl) (pmk_own PySem.F.excBase_ValueError R.x R.g R.k (raises_own R.b R.t) rfl))) pss_nil)
      (pss_one (ps_expr (pe_meth (E := E0) (pv 0) T.cl mA GA r2 bA .nil pass0 (pa_cons (pv 1) pa_nil))))))), ?_⟩
    rcases hp with ⟨pb, hbad⟩ | ⟨a, p, rfl, pa, gp, k1, k2⟩
    · exact ⟨_, rfl, v, false, rfl, pb, hT1, hT2, (fun z => nomatch z), fun _ => hbad⟩
    refine ⟨_, rfl, .ref a, true, rfl, PathX.b (K := K) pa gp, hT1, hT2, fun _ H1 x1 => ?_, fun z => nomatch z⟩
    refine ⟨_, rfl, a, p, rfl, PathX.ex x1 pa, gp, fun e H' x' => k1 e H' (x1.trans x'), fun hne H2 x2 => ?_⟩
    obtain ⟨k3', k4⟩ := k2 hne
    have x02 := x1.trans x2
    have g2 := g.ex x02
    obtain ⟨dx2, ob2⟩ := id g2.ob
    refine ⟨_, rfl, h, dx2, _, rfl, ob2, fl_no d (by decide +kernel), _, rfl, h, d, es, a, p, rfl, g2, PathX.ex x02 pa, fun e H' x' => k3' e H' (x02.trans x'), fun y ey H3 x3 => ?_⟩
    obtain ⟨k5, k6⟩ := k4 (by rw [ey]; rfl)
    have x03 := x02.trans x3
    have g3 := g.ex x03
    obtain ⟨dx3, ob3⟩ := id g3.ob
    obtain ⟨kvs, hd3, row3⟩ := id g3.dc
    have pa3 := PathX.ex x03 pa
    have hgp := (treeB_parts g.tree).2.1
    refine lock_go (Or.inl hd3) fun HM od2 R2 lk lt lf ld hR => ?_
    have hdh : h ≠ d := fun z => by rw [z, hd3] at ob3; cases ob3
    have obL := lk _ _ ob3 hdh
    have paL : PathX HM a p := lk _ _ pa3 fun z => by rw [PathX, z, hd3] at pa3; cases pa3
    have rowL : RowE K HM kvs es := row3.lk (Or.inl hd3) lk
    refine ⟨_, rfl, h, C, dx3, _, _, rfl, obL, T.cl, T.nT, fl_get d, d, od2, rfl, .inr ⟨kvs, ld, lt _ (x03.tab _ hT9), fun HN hT => ?_⟩⟩
    have xN : Ex HM HN := Ex.tabd hT (lt _ (x03.tab _ hT9))
    refine gw_keysAny (J0 := ()) (fun kv => withinB (pathOf kv.1) p) (xN.keep _ _ ld (fun ps z => by cases z)) (fun kv q G hmk x hq R3 hR3 => ?_) fun G x => ?_
    · obtain ⟨i, hi⟩ := List.mem_iff_getElem?.mp hmk
      obtain ⟨en, hen, ek, _⟩ := rowL.get hi
      rw [ek] at hq
      have px : PathX G q en.1 := PathX.of_key hq
      have xx := xN.trans x
      refine ⟨_, rfl, _, rfl, .ref q, .ref a, rfl, xx.tab _ (lt _ (x03.tab _ hT1)), xx.tab _ (lt _ (x03.tab _ hT2)), .inr ⟨q, en.1, rfl, px.at, hgp en (List.mem_of_getElem? hen), .inr ⟨a, p, rfl, (PathX.ex xx paL).at, gp, fun H' x' => ?_⟩⟩⟩
      have := hR3 H' (x.trans x')
      rwa [ek, pathOf_inr] at this
    refine hR _ G (xN.trans x) fun H4 x4 kp => ⟨_, rfl, ?_⟩
    rw [rowE_any (fun q => withinB q p) rowL]
    have x04 := x03.trans x4
    cases hl : es.any fun e => withinB e.1 p with
    | true => exact iteT (k5 hl H4 x04)
    | false =>
      have g4 := g.ex x04
      obtain ⟨dx4, ob4⟩ := id g4.ob
      exact iteF ⟨_, rfl, h, dx4, _, rfl, ob4, fl_no d (by decide +kernel), _, rfl, h, d, es, a, p, rfl, g4, PathX.ex x04 pa, gp, hne, fun H' d' fr hn g' => k6 hl H' d' ((Ex.fr x04).trans fr (Or.inl rfl)) (x04.free _ hn) g'⟩
end
/-! ### something new at a path -/
theorem valE_snoc {es : Ents} (nd : (es.map (·.1)).Nodup) {p q : List Str} {D : PyData} (free : valE es p = none) : ((es ++ [(p, D)]).map (·.1)).Nodup ∧ valE (es ++ [(p, D)]) q = if q = p then some D else valE es q := by
  have hnp : p ∉ es.map (·.1) := fun h => by
    have := (valE_isKey nd).mp h
    rw [free] at this
    cases this
  have nd2 : ((es ++ [(p, D)]).map (·.1)).Nodup := by
    rw [List.map_append, List.nodup_append]
    refine ⟨nd, by simp, fun a ha b hb e => ?_⟩
    rw [List.map_cons, List.map_nil, List.mem_singleton] at hb
    rw [e, hb] at ha
    exact hnp ha
  refine ⟨nd2, ?_⟩
  by_cases e : q = p
  · rw [if_pos e, e]
    exact valE_nd nd2 (e := (p, D)) (List.mem_append_right _ (List.mem_singleton.mpr rfl))
  · rw [if_neg e]
    cases hv : valE es q with
    | some d =>
      obtain ⟨x, hx, rfl, rfl⟩ := valE_mem hv
      exact valE_nd nd2 (List.mem_append_left _ hx)
    | none =>
      cases hw : valE (es ++ [(p, D)]) q with
      | none => rfl
      | some d =>
        obtain ⟨x, hx, rfl, rfl⟩ := valE_mem hw
        rcases List.mem_append.mp hx with hx | hx
        · rw [valE_nd nd hx] at hv; cases hv
        · exact absurd (by rw [List.mem_singleton.mp hx]) e
/-- what may be put there -/
structure PutOk (es : Ents) (p : List Str) (D : PyData) : Prop where
  good : goodPath p = true
  roof : drawerAt es p.dropLast = true
  free : valE es p = none
  room : es.length < 80
  thing : drawerB D = true ∨ fileB D = true
  one : ∀ n y z, D = fileD n y → fileD n z ∈ es.map (·.2) → y = z
theorem snoc_tree {es : Ents} {p : List Str} {D : PyData} (t : treeB es = true) (nd : (es.map (·.1)).Nodup) (M : PutOk es p D) : treeB (es ++ [(p, D)]) = true := by
  obtain ⟨h80, hgp, hth, hroof, _⟩ := treeB_parts t
  have one := tree_one t
  unfold roofB at hroof
  simp only [Bool.and_eq_true, List.all_eq_true, Bool.or_eq_true, decide_eq_true_eq] at hroof
  have hin : ∀ {e}, e ∈ es ++ [(p, D)] → e ∈ es ∨ e = (p, D) := fun {e} h => by
    rcases List.mem_append.mp h with h | h
    · exact Or.inl h
    · exact Or.inr (List.mem_singleton.mp h)
  have hd : ∀ q, drawerAt es q = true → drawerAt (es ++ [(p, D)]) q = true := fun q h => by
    unfold drawerAt at h ⊢
    rw [(valE_snoc nd M.free (q := q)).2]
    by_cases e : q = p
    · rw [e, M.free] at h
      exact absurd h (by decide)
    · rw [if_neg e]
      exact h
  have hfile : ∀ n z, fileD n z ∈ (es ++ [(p, D)]).map (·.2) → (∃ e ∈ es, e.2 = fileD n z) ∨ D = fileD n z := fun n z h => by
    obtain ⟨e, he, ez⟩ := List.mem_map.mp h
    rcases hin he with he | he
    · exact Or.inl ⟨e, he, ez⟩
    · rw [he] at ez
      exact Or.inr ez
  unfold treeB
  simp only [Bool.and_eq_true, decide_eq_true_eq, List.all_eq_true, Bool.or_eq_true]
  refine ⟨?_, fun e he => ?_, fun e he => ?_, ?_, ?_⟩
  · rw [List.length_append, List.length_singleton]
    have := M.room
    omega
  · rcases hin he with h | h
    · exact hgp e h
    · rw [h]; exact M.good
  · rcases hin he with h | h
    · exact hth e h
    · rw [h]; exact M.thing
  · unfold roofB
    simp only [Bool.and_eq_true, List.all_eq_true, Bool.or_eq_true, decide_eq_true_eq]
    refine ⟨hd _ hroof.1, fun e he => ?_⟩
    rcases hin he with h | h
    · rcases hroof.2 e h with h1 | h1
      · exact Or.inl h1
      · exact Or.inr (hd _ h1)
    · rw [h]; exact Or.inr (hd _ M.roof)
  · refine (oneText_iff fun n z hz => ?_).mpr fun n y z h1 h2 => ?_
    · rcases hfile n z hz with ⟨e, he, ez⟩ | e
      · obtain ⟨a, b⟩ := tree_fit t e he n z ez
        exact file_fileB b a
      · rcases tree_form M.thing with h | ⟨m, y, h, h1, h2⟩
        · rw [e] at h; cases h
        · have := file_fileB h1 h2
          rw [e] at h
          rwa [show fileD n z = fileD m y from h]
    · rcases hfile n y h1 with ⟨e, he, ez⟩ | e1 <;> rcases hfile n z h2 with ⟨f, hf, fz⟩ | e2
      · exact one n y z (List.mem_map.mpr ⟨e, he, ez⟩) (List.mem_map.mpr ⟨f, hf, fz⟩)
      · exact (M.one n z y e2 (List.mem_map.mpr ⟨e, he, ez⟩)).symm
      · exact M.one n y z e1 (List.mem_map.mpr ⟨f, hf, fz⟩)
      · rw [e1] at e2
        unfold fileD at e2
        injection e2 with e2
        injection e2 with _ e2
        injection e2 with _ e2
        injection e2 with e2 _
        injection e2
theorem Fr.setD {H : Hp} {h d : Addr} {kvs kvs' : List (List L2.Key × V)} (ho : H d = some (.dT kvs)) : Fr h d H (upd H d (.dT kvs')) := by
  refine ⟨fun b o _ z e _ => ?_, fun b t => ?_, fun b e => ?_⟩
  · rw [upd_ne z]
    exact e
  · obtain ⟨ps, e, q⟩ := t
    refine ⟨ps, ?_, q⟩
    rw [upd_ne (fun z => by rw [z, ho] at e; cases e)]
    exact e
  · have hb : b ≠ d := fun z => by rw [z, upd_same] at e; cases e
    rwa [upd_ne hb] at e
def spFileAt (K : PySem.W.Frag) (C CN CI : Addr) : Sp := fun vs H Q E => ∃ h d es a p, vs = [.ref h, .ref a] ∧ HsAt K C H h d es ∧ PathX H a p ∧ (valE es p = none → Refused H E CN) ∧ (valE es p = some drD → Refused H E CI) ∧
  ∀ n z, valE es p = some (fileD n z) → ∀ H' r, Ex H H' → SqT K H' r [.str "file", .int n, .str z] → Q (.ref r) H'
def spRoomM (K : PySem.W.Frag) (C CF : Addr) : Sp := fun vs H Q E => ∃ h d es, vs = [.ref h] ∧ HsAt K C H h d es ∧ (80 ≤ es.length → Refused H E CF) ∧ (es.length < 80 → ∀ H', Ex H H' → Q .non H')
def spPutM (K : PySem.W.Frag) (C : Addr) : Sp := fun vs H Q _ => ∃ h d es a p v D, vs = [.ref h, .ref a, v] ∧ HsAt K C H h d es ∧ PathX H a p ∧ Dp K H v D ∧ PutOk es p D ∧
  ∀ H' d', Fr h d H H' → H d' = none → HsAt K C H' h d' (plainE (es ++ [(p, D)])) → Q .non H'
structure ErrsP where
  path : Addr
  root : Addr
  drawer : Addr
  taken : Addr
  full : Addr
def spMakeM (K : PySem.W.Frag) (C P1 P2 : Addr) (X : ErrsP) : Sp := fun vs H Q E => ∃ h d es v, vs = [.ref h, v] ∧ HsAt K C H h d es ∧ TabG H P1 ∧ TabG H P2 ∧ PathOrX K H v (Refused H E X.path) fun _ p =>
  (p = [] → Refused H E X.root) ∧ (p ≠ [] → (drawerAt es p.dropLast = false → Refused H E X.drawer) ∧ (drawerAt es p.dropLast = true → ((valE es p).isSome = true → Refused H E X.taken) ∧
    (valE es p = none → (80 ≤ es.length → Refused H E X.full) ∧ (es.length < 80 → ∀ H' d', Fr h d H H' → H d' = none → HsAt K C H' h d' (plainE (es ++ [(p, drD)])) → Q .non H'))))
section
variable {P : Program} {w : World} {K : PySem.W.Frag} {mg : Str → Option Value} {base : Heap}
theorem scFileAt : FnScope ["self", "path"] ["self", "path"] (defScope mFileAt) := ⟨rfl, rfl, rfl, by decide +kernel, rfl, by decide +kernel, by decide +kernel⟩
theorem ok_fileAt {f C fT CN CI : Addr} {fd fdT : FuncData} (F : Fun K "_file_at" "House._file_at" mFileAt f fd) (T : HT K mg C) (R : Ref K mg "IsDrawer" CI)
    (mT : Meth K C "_check_there" fT) (GT : FnOk P w K mg base (L2.CX P w) 1 fT fdT ["self", "path"] (spThere K C CN)) (bT : Binds K fdT ["self", "path"] []) :
    FnOk P w K mg base (L2.CX P w) 2 f fd ["self", "path"] (spFileAt K C CN CI) := by
  refine F.okX scFileAt (fun vs H Q E h => ?_) (fun cdv A outer s H vs Q E hr h => ?_)
  · obtain ⟨h, d, es, a, p, rfl, _⟩ := h
    rfl
  · obtain ⟨h, d, es, a, p, rfl, g, pa, k1, k2, k3⟩ := h
    have hu1 : (A.deeper (envOfC "House._file_at" (defScope mFileAt) s.heap.objs.size f cdv)).units + 1 < cLine := by have := hr.units; omega
    refine ⟨_, pss_cons (ps_expr (pe_meth (E := E) (pv 0) T.cl mT GT hr bT .nil (passes_call (takes_of rfl rfl rfl rfl) (fun _ _ _ _ h => h)) (pa_cons (pv 1) pa_nil)))
      (pss_cons (ps_if (pt_cmpR op_eq (pe_ix (r := rIxT K) ix_tup (pe_dget hu1 (pe_fld (pv 0) rfl) (pv 1) (fun _ _ => rfl)) pe_int (fun _ _ => rfl)) pe_str (nomark _))
        (pss_one (ps_raise rfl (takes_of rfl rfl rfl rfl) (pmk_own PySem.F.excBase_ValueError R.x R.g R.k (raises_own R.b R.t) rfl))) pss_nil)
      (pss_one (ps_ret (pe_dget hu1 (pe_fld (pv 0) rfl) (pv 1) (fun _ _ => rfl))))), ?_⟩
    obtain ⟨dx, ob⟩ := id g.ob
    refine ⟨_, rfl, h, dx, _, rfl, ob, fl_no d (by decide +kernel), _, rfl, h, d, es, a, p, rfl, g, pa, k1, fun x hx H' x' => ?_⟩
    have g' := g.ex x'
    obtain ⟨dx', ob'⟩ := id g'.ob
    obtain ⟨kvs, hd, row⟩ := id g'.dc
    have pa' := PathX.ex x' pa
    rcases row.val (p := p) with ⟨e1, e2⟩ | ⟨u, D, e1, e2, dv⟩
    · rw [hx] at e2; cases e2
    have dg : DGet H' d (.ref a) (some u) := by
      have := get_tr (Or.inl hd) pa'
      rwa [e1] at this
    obtain ⟨y, hy, _, ey⟩ := valE_mem e2
    have th := g'.thing y hy
    rw [ey] at th
    obtain ⟨r, xs, rfl, hs, h1⟩ := dp_thing dv th
    rcases h1 with ⟨rfl, rfl⟩ | ⟨n, z, rfl, rfl⟩
    · refine ⟨_, rfl, h, C, dx', _, _, rfl, ob', T.cl, T.nT, fl_get d, _, rfl, d, .ref r, rfl, dg, r, _, 0, .str "drawer", rfl, rfl, hs, rfl, rfl, _, rfl, ?_⟩
      rw [show decide (V.str "drawer" = V.str "drawer") = true from decide_eq_true rfl]
      exact iteT (k2 e2 H' x')
    · refine ⟨_, rfl, h, C, dx', _, _, rfl, ob', T.cl, T.nT, fl_get d, _, rfl, d, .ref r, rfl, dg, r, _, 0, .str "file", rfl, rfl, hs, rfl, rfl, _, rfl, ?_⟩
      rw [show decide (V.str "file" = V.str "drawer") = false by decide +kernel]
      exact iteF ⟨_, rfl, h, C, dx', _, _, rfl, ob', T.cl, T.nT, fl_get d, _, rfl, d, .ref r, rfl, dg, k3 n z e2 H' r x' hs⟩
theorem scRoomM : FnScope ["self"] ["self"] (defScope mRoom) := ⟨rfl, rfl, rfl, by decide +kernel, rfl, by decide +kernel, by decide +kernel⟩
theorem ok_roomM {f C CF : Addr} {fd : FuncData} (F : Fun K "_check_room" "House._check_room" mRoom f fd) (T : HT K mg C) (M : Mg mg) (MR : MgR mg) (R : Ref K mg "Full" CF) :
    FnOk P w K mg base (L2.CX P w) 1 f fd ["self"] (spRoomM K C CF) := by
  refine F.okX scRoomM (fun vs H Q E h => ?_) (fun cdv A outer s H vs Q E hr h => ?_)
  · obtain ⟨h, d, es, rfl, _⟩ := h
    rfl
  · obtain ⟨h, d, es, rfl, g, k1, k2⟩ := h
    obtain ⟨tm, hm⟩ := MR.mostPaths
    refine ⟨_, pss_one (ps_if (pt_cmpR op_ge (pe_callB call_lenR (by rfl) M.len PySem.boot_len (pa_cons (pe_fld (pv 0) rfl) pa_nil)) (pe_glob (v := .int 80) (by rfl) hm ⟨_, rfl⟩) (nomark _))
      (pss_one (ps_raise rfl (takes_of rfl rfl rfl rfl) (pmk_own PySem.F.excBase_ValueError R.x R.g R.k (raises_own R.b R.t) rfl))) pss_nil), ?_⟩
    obtain ⟨dx, ob⟩ := id g.ob
    obtain ⟨kvs, hd, row⟩ := id g.dc
    refine ⟨_, rfl, h, C, dx, _, _, rfl, ob, T.cl, T.nT, fl_get d, d, kvs, rfl, Or.inl hd, _, _, rfl, rfl, _, rfl, ?_⟩
    rw [row.len]
    by_cases e : 80 ≤ es.length
    · rw [decide_eq_true (by omega)]
      exact iteT (k1 e H (Ex.refl H))
    · rw [decide_eq_false (by omega)]
      exact iteF (k2 (by omega) H (Ex.refl H))
theorem scPutM : FnScope ["self", "path", "thing"] ["self", "path", "thing"] (defScope mPut) := ⟨rfl, rfl, rfl, by decide +kernel, rfl, by decide +kernel, by decide +kernel⟩
theorem ok_putM {f C fR : Addr} {fd fdR : FuncData} (F : Fun K "_put" "House._put" mPut f fd) (T : HT K mg C)
    (GR : FnOk P w K mg base CX0 1 fR fdR ["tree"] (spRenum K)) (mR : mg "renumbered" = some (.ref fR)) (kR : PySem.W.keepIn K (.ref fR) = true) (bR : Binds K fdR ["tree"] []) : FnOk P w K mg base CX0 2 f fd ["self", "path", "thing"] (spPutM K C) := by
  refine F.ok scPutM (fun vs H Q E h => ?_) (fun cdv A outer s H vs Q E hr h => ?_)
  · obtain ⟨h, d, es, a, p, v, D, rfl, _⟩ := h
    rfl
  · obtain ⟨h, d, es, a, p, v, D, rfl, g, pa, dv, M, k⟩ := h
    have hu1 : (A.deeper (envOfC "House._put" (defScope mPut) s.heap.objs.size f cdv)).units + 1 < cLine := by have := hr.units; omega
    refine ⟨_, pss_cons (ps_dput hu1 (pe_fld (pv 0) rfl) (pv 1) (pv 2) rfl)
      (pss_one (ps_fld (pv 0) (pe_call (E := E0) GR hr (by rfl) mR kR bR .nil pass0 (pa_cons (pe_fld (pv 0) rfl) pa_nil)) rfl)), ?_⟩
    obtain ⟨dx, ob⟩ := id g.ob
    obtain ⟨kvs, hd, row⟩ := id g.dc
    have hnew : valV kvs (p.map Sum.inr) = none := by
      rcases row.val (p := p) with ⟨e1, _⟩ | ⟨_, _, _, e2, _⟩
      · exact e1
      · rw [M.free] at e2; cases e2
    have hkl : kvs.length < sizeLine := by
      have := row.len
      have := M.room
      rw [sizeLine_eq]
      omega
    refine ⟨_, rfl, _, rfl, h, C, dx, _, _, rfl, ob, T.cl, T.nT, fl_get d, _, rfl, d, _, rfl, DPut.t (k := p.map Sum.inr) (v := v) hd pa.key hkl, ?_⟩
    rw [putK_new _ hnew]
    have mv := mv_upd (u := .dT (kvs ++ [(p.map Sum.inr, v)])) hd (fun q => q)
    have row2 : RowE K (upd H d (.dT (kvs ++ [(p.map Sum.inr, v)]))) (kvs ++ [(p.map Sum.inr, v)]) (es ++ [(p, D)]) := Paired.snoc (mv_row mv row) ⟨rfl, mv_dp mv dv⟩
    have fr1 : Fr h d H (upd H d (.dT (kvs ++ [(p.map Sum.inr, v)]))) := Fr.setD hd
    have hhd : h ≠ d := fun z => by rw [z, hd] at ob; cases ob
    have ob2 : (upd H d (.dT (kvs ++ [(p.map Sum.inr, v)]))) h = some (.ins C dx [("_tree", .ref d)]) := by rw [upd_ne hhd]; exact ob
    have hd2 : (upd H d (.dT (kvs ++ [(p.map Sum.inr, v)]))) d = some (.dT (kvs ++ [(p.map Sum.inr, v)])) := upd_same
    generalize upd H d (.dT (kvs ++ [(p.map Sum.inr, v)])) = H2 at row2 fr1 ob2 hd2 ⊢
    have tA := snoc_tree g.tree g.nd M
    have nA := (valE_snoc g.nd M.free (q := []) (D := D)).1
    have lA := (treeB_parts tA).1
    refine ⟨_, rfl, h, C, dx, _, _, rfl, ob2, T.cl, T.nT, fl_get d, d, es ++ [(p, D)], rfl, ⟨_, Or.inl hd2, row2⟩, nA, (fun e he => ?_), by omega, fun Ha l kl xa el hl2 rl => ?_⟩
    · rcases tree_thing tA e he with hd | ⟨n, z, hd⟩
      · exact Or.inr ⟨"drawer", [], hd, by decide +kernel⟩
      · exact Or.inl ⟨n, z, hd⟩
    have oba := xa.keep _ _ ob2 (fun ps z => by cases z)
    refine ⟨_, rfl, h, C, dx, _, rfl, oba, T.cl, T.nT, (by show 1 < 1000; decide), ?_⟩
    rw [fl_put]
    have hlh : l ≠ h := fun z => by rw [z, ob2] at hl2; cases hl2
    obtain ⟨t1, t2⟩ := plainE_tree tA nA
    have mv2 := mv_upd (u := .ins C dx [("_tree", V.ref l)]) oba (fun q => q)
    exact k _ l (fr1.trans (Fr.setH xa oba) (Or.inl rfl)) (fr1.free _ hl2) ⟨⟨dx, upd_same⟩, ⟨kl, by rw [upd_ne hlh]; exact el, mv_row mv2 rl⟩, plain_nd _ nA, t1, t2⟩
theorem scMakeM : FnScope ["self", "path"] ["self", "path"] (defScope mMake) := ⟨rfl, rfl, rfl, by decide +kernel, rfl, by decide +kernel, by decide +kernel⟩
theorem ok_makeM {f C f3 fN fP fF fU P1 P2 aD : Addr} {X : ErrsP} {fd fd3 fdN fdP fdF fdU : FuncData} (F : Fun K "make" "House.make" mMake f fd) (T : HT K mg C) (SD : Cst K mg "DRAWER" [.str "drawer"] aD)
    (G3 : FnOk P w K mg base (L2.CX P w) 6 f3 fd3 ["thing"] (spCheck K P1 P2 X.path)) (m3 : mg "check_path" = some (.ref f3)) (k3 : PySem.W.keepIn K (.ref f3) = true) (b3 : Binds K fd3 ["thing"] [])
    (GN : FnOk P w K mg base (L2.CX P w) 1 fN fdN ["path"] (spNotRoot X.root)) (mN : mg "_check_not_root" = some (.ref fN)) (kN : PySem.W.keepIn K (.ref fN) = true) (bN : Binds K fdN ["path"] [])
    (mP : Meth K C "_check_place" fP) (GP : FnOk P w K mg base (L2.CX P w) 9 fP fdP ["self", "path"] (spPlace K C P1 P2 X.drawer X.taken)) (bP : Binds K fdP ["self", "path"] [])
    (mF : Meth K C "_check_room" fF) (GF : FnOk P w K mg base (L2.CX P w) 1 fF fdF ["self"] (spRoomM K C X.full)) (bF : Binds K fdF ["self"] [])
    (mU : Meth K C "_put" fU) (GU : FnOk P w K mg base CX0 2 fU fdU ["self", "path", "thing"] (spPutM K C)) (bU : Binds K fdU ["self", "path", "thing"] []) :
    FnOk P w K mg base (L2.CX P w) 10 f fd ["self", "path"] (spMakeM K C P1 P2 X) := by
  refine F.okX scMakeM (fun vs H Q E h => ?_) (fun cdv A outer s H vs Q E hr h => ?_)
  · obtain ⟨h, d, es, v, rfl, _⟩ := h
    rfl
  · obtain ⟨h, d, es, v, rfl, g, hT1, hT2, hp⟩ := h
    have r6 := hr.mono (show 6 ≤ 9 by decide)
    have r2 := hr.mono (show 2 ≤ 9 by decide)
    have r1 := hr.mono (show 1 ≤ 9 by decide)
    refine ⟨_, pss_cons (ps_expr (pe_call (E := E) G3 r6 (by rfl) m3 k3 b3 .nil (passes_call (takes_of rfl rfl rfl rfl) (fun _ _ _ _ h => h)) (pa_cons (pv 1) pa_nil)))
      (pss_cons (ps_expr (pe_call (E := E) GN r1 (by rfl) mN kN bN .nil (passes_call (takes_of rfl rfl rfl rfl) (fun _ _ _ _ h => h)) (pa_cons (pv 1) pa_nil)))
      (pss_cons (ps_expr (pe_meth (E := E) (pv 0) T.cl mP GP hr bP .nil (passes_call (takes_of rfl rfl rfl rfl) (fun _ _ _ _ h => h)) (pa_cons (pv 1) pa_nil)))
      (pss_cons (ps_expr (pe_meth0 (E := E) (pv 0) T.cl mF GF r1 bF .nil (passes_call (takes_of rfl rfl rfl rfl) (fun _ _ _ _ h => h))))
      (pss_one (ps_expr (pe_meth (E := E0) (pv 0) T.cl mU GU r2 bU .nil pass0 (pa_cons (pv 1) (pa_cons (pe_glob (v := .ref aD) (by rfl) SD.g rfl) pa_nil)))))))), ?_⟩
    rcases hp with ⟨pb, hbad⟩ | ⟨a, p, rfl, pa, gp, k1, k2⟩
    · exact ⟨_, rfl, v, false, rfl, pb, hT1, hT2, (fun z => nomatch z), fun _ => hbad⟩
    refine ⟨_, rfl, .ref a, true, rfl, PathX.b (K := K) pa gp, hT1, hT2, fun _ H1 x1 => ?_, fun z => nomatch z⟩
    refine ⟨_, rfl, a, p, rfl, PathX.ex x1 pa, gp, fun e H' x' => k1 e H' (x1.trans x'), fun hne H2 x2 => ?_⟩
    obtain ⟨k3', k4⟩ := k2 hne
    have x02 := x1.trans x2
    have g2 := g.ex x02
    obtain ⟨dx2, ob2⟩ := id g2.ob
    refine ⟨_, rfl, h, dx2, _, rfl, ob2, fl_no d (by decide +kernel), _, rfl, h, d, es, a, p, rfl, g2, x02.tab _ hT1, x02.tab _ hT2, PathX.ex x02 pa, gp, fun e H' x' => k3' e.2 H' (x02.trans x'), fun hro => ?_⟩
    have hro := hro.resolve_left hne
    obtain ⟨k5, k6⟩ := k4 hro
    refine ⟨fun y ey H' x' => k5 (by rw [ey]; rfl) H' (x02.trans x'), fun hfree H3 x3 => ?_⟩
    obtain ⟨k7, k8⟩ := k6 hfree
    have x03 := x02.trans x3
    have g3 := g.ex x03
    obtain ⟨dx3, ob3⟩ := id g3.ob
    refine ⟨_, rfl, h, dx3, _, rfl, ob3, fl_no d (by decide +kernel), h, d, es, rfl, g3, fun e H' x' => k7 e H' (x03.trans x'), fun hlt H4 x4 => ?_⟩
    have x04 := x03.trans x4
    have g4 := g.ex x04
    obtain ⟨dx4, ob4⟩ := id g4.ob
    have M : PutOk es p drD := ⟨gp, hro, hfree, hlt, Or.inl (by decide +kernel), fun n y z e => by cases e⟩
    exact ⟨_, rfl, h, dx4, _, rfl, ob4, fl_no d (by decide +kernel), _, rfl, h, d, es, a, p, .ref aD, drD, rfl, g4, PathX.ex x04 pa, .tup (SD.t _) (.cons (.str _) .nil), M, fun H' d' fr hn g' => k8 hlt H' d' ((Ex.fr x04).trans fr (Or.inl rfl)) (x04.free _ hn) g'⟩
end
/-! ### a method called with keywords -/
def tMethK (C : Addr) (m : Str) (n mm : Nat) (sp : Sp) (gV : List V → List V → List V) (E : XK) (ta : TE) (t tk : TA) : TE := fun σ H Q => ta σ H fun x H1 => ∃ a dx fs, x = .ref a ∧ H1 a = some (.ins C dx fs) ∧ fs.lookup m = none ∧
  t σ H1 fun vs H2 => tk σ H2 fun zs H3 => (V.ref a :: vs).length = n ∧ zs.length = mm ∧ sp (gV (.ref a :: vs) zs) H3 Q E
theorem pe_methK {X : Cx} {CX : CXT} {k n : Nat} {C f : Addr} {m : Str} {fd : FuncData} {ps ks : List Str} {sp : Sp} {E : XK} {apos pos : Pos} {o e : Expr} {es : List Expr} {kws : List Keyword} {ta : TE} {t tk : TA} {g : List Value → List Value → List Value} {gV : List V → List V → List V} {pl : Sem Bool}
    (he : PE X o ta) (c : Cls X.K C) (hm : Meth X.K C m f) (F : FnOk X.prog X.w X.K X.mg X.base CX k f fd ps sp) (hr : Room k X.A) (hb : KBn X.K fd ps n ks g gV) (hx : Passes CX X E) (ha : PA X (e :: es) t) (hkw : PK X kws tk)
    (hall : (backToKw pos (keywordEach kws X.env)).all (·.1.isSome) = true := by rfl) (hks : (backToKw pos (keywordEach kws X.env)).filterMap (·.1) = ks := by rfl)
    (hst : starEach (e :: es) X.env = (false, eval e X.env) :: starEach es X.env := by rfl)
    (hpl : ((backTo pos (starEach (e :: es) X.env)).any (·.1) || (backToKw pos (keywordEach kws X.env)).any (·.1.isNone)) = false := by rfl)
    (ht : eval (.Call (.Attribute o m apos) (e :: es) kws pos) X.env = (do
      let ov ← eval o X.env
      standAt apos.atName
      let (f, first) ← holding [ov] (getMethod ov m pl)
      callWith pos f first (backTo pos (starEach (e :: es) X.env)) (backToKw pos (keywordEach kws X.env))) := by rfl) :
    PE X (.Call (.Attribute o m apos) (e :: es) kws pos) (tMethK C m n ks.length sp gV E ta t tk) := by
  refine ⟨fun pins s σ H Q I h => ?_⟩
  refine PySem.W.methodCall_KW (pl := pl) (thn (he.run pins s σ H _ I h) fun u s1 ⟨x, H1, I1, rx, a, dx, fs, ex, ea, l, q⟩ => ?_) ht
  subst ex
  obtain rfl : u = Value.ref a := rx
  refine getmeth_ok I1 ea c hm l ?_
  refine PySem.W.callWith_KW (first := [.ref a]) (h₀ := X.base) I.ok.mod.kin hm.kp hall (thn (ha.run pos pins s1 σ H1 _ I1 q) fun us s2 ⟨vs, H2, I2, r, q2⟩ => ?_) hpl hst
  refine thn (hkw.run pos pins s2 σ H2 _ I2 q2) fun ws s3 ⟨zs, H3, I3, rz, l1, l2, q3⟩ => ⟨I3.kIn, ?_⟩
  rw [hks]
  exact run_fnN (us := .ref a :: us) (vs := .ref a :: vs) F hr hb hx I3 (.cons rfl r) rz l1 l2 q3
theorem Vals.app {vs zs : List V} {us ws : List Value} (a : Vals vs us) (b : Vals zs ws) : Vals (vs ++ zs) (us ++ ws) := by
  induction a with
  | nil => exact b
  | cons h _ ih => exact .cons h ih
/-- a def without defaults: n written, the others by their names -/
theorem Fun.kw {K : PySem.W.Frag} {x qual : Str} {st : Stmt} {f : Addr} {fd : FuncData} {ps ks : List Str} {n : Nat} (F : Fun K x qual st f fd)
    (h : ∀ (kV doc pm : Value) (an : Option Addr) (cdv ct : Value) (us ws : List Value), us.length = n → ws.length = ks.length → bindArgs (PySem.W.fnOf x qual (defArgs st) (defBody st) (defScope st) .none kV doc pm an cdv ct) ⟨us, ks.zip ws⟩ = pure (ps.zip (us ++ ws))) :
    KBn K fd ps n ks (fun us ws => us ++ ws) (fun vs zs => vs ++ zs) := by
  obtain ⟨oc, od, kV, doc, pm, an, cdv, ct, osl, rfl, lk, hcd⟩ := F.ex
  exact ⟨fun s us ws _ l1 l2 => .of_eq (h kV doc pm an cdv ct us ws l1 l2), fun a b => Vals.app a b⟩
/-! ### check_text, read, tie, tied -/
theorem write_kw {K : PySem.W.Frag} {f : Addr} {fd : FuncData} (F : Fun K "write" "House.write" mWrite f fd) : KBn K fd ["self", "path", "text"] 2 ["text"] (fun us ws => us ++ ws) (fun vs zs => vs ++ zs) :=
  Fun.kw F fun _ _ _ _ _ _ us ws l1 l2 => match us, ws, l1, l2 with | [_, _], [_], _, _ => rfl
theorem add_kw {K : PySem.W.Frag} {f : Addr} {fd : FuncData} (F : Fun K "add" "House.add" mAdd f fd) : KBn K fd ["self", "path", "text"] 2 ["text"] (fun us ws => us ++ ws) (fun vs zs => vs ++ zs) :=
  Fun.kw F fun _ _ _ _ _ _ us ws l1 l2 => match us, ws, l1, l2 with | [_, _], [_], _, _ => rfl
def spCheckText (K : PySem.W.Frag) (P3 C : Addr) : Sp := fun vs H Q E => ∃ v, vs = [v] ∧ Asked K H v ∧ TabG H P3 ∧ (isTextV v = true → ∀ H', Ex H H' → Q .non H') ∧ (isTextV v = false → Refused H E C)
def spReadM (K : PySem.W.Frag) (C P1 P2 CP CN CI : Addr) : Sp := fun vs H Q E => ∃ h d es v, vs = [.ref h, v] ∧ HsAt K C H h d es ∧ TabG H P1 ∧ TabG H P2 ∧ PathOrX K H v (Refused H E CP) fun _ p => (valE es p = none → Refused H E CN) ∧ (valE es p = some drD → Refused H E CI) ∧
  ∀ n z, valE es p = some (fileD n z) → ∀ H', Ex H H' → Q (.str z) H'
structure ErrsT where
  path : Addr
  there : Addr
  isDrawer : Addr
  drawer : Addr
  taken : Addr
  full : Addr
def spTieM (K : PySem.W.Frag) (C P1 P2 : Addr) (X : ErrsT) : Sp := fun vs H Q E => ∃ h d es v u, vs = [.ref h, v, u] ∧ HsAt K C H h d es ∧ TabG H P1 ∧ TabG H P2 ∧ PathOrX K H v (Refused H E X.path) fun _ old => PathOrX K H u (Refused H E X.path) fun _ new =>
  (valE es old = none → Refused H E X.there) ∧ (valE es old = some drD → Refused H E X.isDrawer) ∧ ∀ n z, valE es old = some (fileD n z) →
    (new ≠ [] ∧ drawerAt es new.dropLast = false → Refused H E X.drawer) ∧ (new = [] ∨ drawerAt es new.dropLast = true → ((valE es new).isSome = true → Refused H E X.taken) ∧
      (valE es new = none → (80 ≤ es.length → Refused H E X.full) ∧ (es.length < 80 → ∀ H' d', Fr h d H H' → H d' = none → HsAt K C H' h d' (plainE (es ++ [(new, fileD n z)])) → Q .non H')))
theorem tie_ok {es : Ents} {old new : List Str} {n : Int} {z : Str} (t : treeB es = true) (h : valE es old = some (fileD n z)) (gp : goodPath new = true) (hp : new = [] ∨ drawerAt es new.dropLast = true) (free : valE es new = none) (hl : es.length < 80) : PutOk es new (fileD n z) := by
  obtain ⟨x, hx, _, ex⟩ := valE_mem h
  obtain ⟨h1, h2⟩ := tree_fit t x hx n z ex
  refine ⟨gp, ?_, free, hl, Or.inr (file_fileB h2 h1), fun m y y' e hm => ?_⟩
  · rcases hp with e | e
    · rw [e]
      obtain ⟨_, _, _, hroof, _⟩ := treeB_parts t
      unfold roofB at hroof
      rw [Bool.and_eq_true] at hroof
      exact hroof.1
    · exact e
  · exact tree_one t m y y' (List.mem_map.mpr ⟨x, hx, ex.trans e⟩) hm
section
variable {P : Program} {w : World} {K : PySem.W.Frag} {mg : Str → Option Value} {base : Heap}
theorem scCheckText : FnScope ["thing"] ["thing"] (defScope sCheckText) := ⟨rfl, rfl, rfl, by decide +kernel, rfl, by decide +kernel, by decide +kernel⟩
theorem ok_checkText {f f2 P3 C : Addr} {fd fd2 : FuncData} (F : Fun K "check_text" "check_text" sCheckText f fd) (R : Ref K mg "NoText" C)
    (G2 : FnOk P w K mg base CX0 3 f2 fd2 ["thing"] (spIsText K P3)) (m2 : mg "is_text" = some (.ref f2)) (k2 : PySem.W.keepIn K (.ref f2) = true) (b2 : Binds K fd2 ["thing"] []) :
    FnOk P w K mg base (L2.CX P w) 4 f fd ["thing"] (spCheckText K P3 C) := by
  refine F.okX scCheckText (fun vs H Q E h => ?_) (fun cdv A outer s H vs Q E hr h => ?_)
  · obtain ⟨v, rfl, _⟩ := h
    rfl
  · obtain ⟨v, rfl, ak, hT, kt, kf⟩ := h
    refine ⟨_, pss_one (ps_if (pt_not (pt_val (pe_call (E := E0) G2 hr (by rfl) m2 k2 b2 .nil pass0 (pa_cons (pv 0) pa_nil))))
      (pss_one (ps_raise rfl (takes_of rfl rfl rfl rfl) (pmk_own PySem.F.excBase_ValueError R.x R.g R.k (raises_own R.b R.t) rfl))) pss_nil), ?_⟩
    refine ⟨_, rfl, v, rfl, ak, hT, fun H' x => ⟨_, rfl, ?_⟩⟩
    cases hb : isTextV v with
    | true => exact iteF (kt hb H' x)
    | false => exact iteT (kf hb H' x)
theorem scReadM : FnScope ["self", "path"] ["self", "path"] (defScope mRead) := ⟨rfl, rfl, rfl, by decide +kernel, rfl, by decide +kernel, by decide +kernel⟩
theorem ok_readM {f C f3 fF P1 P2 CP CN CI : Addr} {fd fd3 fdF : FuncData} (F : Fun K "read" "House.read" mRead f fd) (T : HT K mg C)
    (G3 : FnOk P w K mg base (L2.CX P w) 6 f3 fd3 ["thing"] (spCheck K P1 P2 CP)) (m3 : mg "check_path" = some (.ref f3)) (k3 : PySem.W.keepIn K (.ref f3) = true) (b3 : Binds K fd3 ["thing"] [])
    (mF : Meth K C "_file_at" fF) (GF : FnOk P w K mg base (L2.CX P w) 2 fF fdF ["self", "path"] (spFileAt K C CN CI)) (bF : Binds K fdF ["self", "path"] []) :
    FnOk P w K mg base (L2.CX P w) 7 f fd ["self", "path"] (spReadM K C P1 P2 CP CN CI) := by
  refine F.okX scReadM (fun vs H Q E h => ?_) (fun cdv A outer s H vs Q E hr h => ?_)
  · obtain ⟨h, d, es, v, rfl, _⟩ := h
    rfl
  · obtain ⟨h, d, es, v, rfl, g, hT1, hT2, hp⟩ := h
    have r2 := hr.mono (show 2 ≤ 6 by decide)
    refine ⟨_, pss_cons (ps_expr (pe_call (E := E) G3 hr (by rfl) m3 k3 b3 .nil (passes_call (takes_of rfl rfl rfl rfl) (fun _ _ _ _ h => h)) (pa_cons (pv 1) pa_nil)))
      (pss_one (ps_ret (pe_ix (r := rIxT K) ix_tup (pe_meth (E := E) (pv 0) T.cl mF GF r2 bF .nil (passes_call (takes_of rfl rfl rfl rfl) (fun _ _ _ _ h => h)) (pa_cons (pv 1) pa_nil)) pe_int (fun _ _ => rfl)))), ?_⟩
    rcases hp with ⟨pb, hbad⟩ | ⟨a, p, rfl, pa, gp, k1, k2, k3'⟩
    · exact ⟨_, rfl, v, false, rfl, pb, hT1, hT2, (fun z => nomatch z), fun _ => hbad⟩
    · refine ⟨_, rfl, .ref a, true, rfl, PathX.b (K := K) pa gp, hT1, hT2, fun _ H1 x1 => ?_, fun z => nomatch z⟩
      have g1 := g.ex x1
      obtain ⟨dx1, ob1⟩ := id g1.ob
      refine ⟨_, rfl, h, dx1, _, rfl, ob1, fl_no d (by decide +kernel), _, rfl, h, d, es, a, p, rfl, g1, PathX.ex x1 pa, fun e H' x' => k1 e H' (x1.trans x'), fun e H' x' => k2 e H' (x1.trans x'), fun n z e H2 r x2 hs => ?_⟩
      exact ⟨r, _, 2, .str z, rfl, rfl, hs, rfl, k3' n z e H2 (x1.trans x2)⟩
theorem scTieM : FnScope ["self", "old", "new", "thing"] ["self", "old", "new"] (defScope mTie) := ⟨rfl, rfl, rfl, by decide +kernel, rfl, by decide +kernel, by decide +kernel⟩
theorem ok_tieM {f C f3 fF fP fR fU P1 P2 : Addr} {X : ErrsT} {fd fd3 fdF fdP fdR fdU : FuncData} (F : Fun K "tie" "House.tie" mTie f fd) (T : HT K mg C)
    (G3 : FnOk P w K mg base (L2.CX P w) 6 f3 fd3 ["thing"] (spCheck K P1 P2 X.path)) (m3 : mg "check_path" = some (.ref f3)) (k3 : PySem.W.keepIn K (.ref f3) = true) (b3 : Binds K fd3 ["thing"] [])
    (mF : Meth K C "_file_at" fF) (GF : FnOk P w K mg base (L2.CX P w) 2 fF fdF ["self", "path"] (spFileAt K C X.there X.isDrawer)) (bF : Binds K fdF ["self", "path"] [])
    (mP : Meth K C "_check_place" fP) (GP : FnOk P w K mg base (L2.CX P w) 9 fP fdP ["self", "path"] (spPlace K C P1 P2 X.drawer X.taken)) (bP : Binds K fdP ["self", "path"] [])
    (mR : Meth K C "_check_room" fR) (GR : FnOk P w K mg base (L2.CX P w) 1 fR fdR ["self"] (spRoomM K C X.full)) (bR : Binds K fdR ["self"] [])
    (mU : Meth K C "_put" fU) (GU : FnOk P w K mg base CX0 2 fU fdU ["self", "path", "thing"] (spPutM K C)) (bU : Binds K fdU ["self", "path", "thing"] []) :
    FnOk P w K mg base (L2.CX P w) 10 f fd ["self", "old", "new"] (spTieM K C P1 P2 X) := by
  refine F.okX scTieM (fun vs H Q E h => ?_) (fun cdv A outer s H vs Q E hr h => ?_)
  · obtain ⟨h, d, es, v, u, rfl, _⟩ := h
    rfl
  · obtain ⟨h, d, es, v, u, rfl, g, hT1, hT2, hp⟩ := h
    have r6 := hr.mono (show 6 ≤ 9 by decide)
    have r2 := hr.mono (show 2 ≤ 9 by decide)
    have r1 := hr.mono (show 1 ≤ 9 by decide)
    refine ⟨_, pss_cons (ps_expr (pe_call (E := E) G3 r6 (by rfl) m3 k3 b3 .nil (passes_call (takes_of rfl rfl rfl rfl) (fun _ _ _ _ h => h)) (pa_cons (pv 1) pa_nil)))
      (pss_cons (ps_expr (pe_call (E := E) G3 r6 (by rfl) m3 k3 b3 .nil (passes_call (takes_of rfl rfl rfl rfl) (fun _ _ _ _ h => h)) (pa_cons (pv 2) pa_nil)))
      (pss_cons (ps_set (i := 3) scTieM.nd rfl (Or.inl rfl) (pe_meth (E := E) (pv 0) T.cl mF GF r2 bF .nil (passes_call (takes_of rfl rfl rfl rfl) (fun _ _ _ _ h => h)) (pa_cons (pv 1) pa_nil)))
      (pss_cons (ps_expr (pe_meth (E := E) (pv 0) T.cl mP GP hr bP .nil (passes_call (takes_of rfl rfl rfl rfl) (fun _ _ _ _ h => h)) (pa_cons (pv 2) pa_nil)))
      (pss_cons (ps_expr (pe_meth0 (E := E) (pv 0) T.cl mR GR r1 bR .nil (passes_call (takes_of rfl rfl rfl rfl) (fun _ _ _ _ h => h))))
      (pss_one (ps_expr (pe_meth (E := E0) (pv 0) T.cl mU GU r2 bU .nil pass0 (pa_cons (pv 2) (pa_cons (pv 3) pa_nil))))))))), ?_⟩
    rcases hp with ⟨pb, hbad⟩ | ⟨a, old, rfl, pa, go, hp⟩
    · exact ⟨_, rfl, v, false, rfl, pb, hT1, hT2, (fun z => nomatch z), fun _ => hbad⟩
    refine ⟨_, rfl, .ref a, true, rfl, PathX.b (K := K) pa go, hT1, hT2, fun _ H1 x1 => ?_, fun z => nomatch z⟩
    rcases hp with ⟨pb, hbad⟩ | ⟨b, new, rfl, pb, gn, k1, k2, k3'⟩
    · exact ⟨_, rfl, u, false, rfl, pb.ex x1, x1.tab _ hT1, x1.tab _ hT2, (fun z => nomatch z), fun _ H' x' => hbad H' (x1.trans x')⟩
    refine ⟨_, rfl, .ref b, true, rfl, PathX.b (K := K) (PathX.ex x1 pb) gn, x1.tab _ hT1, x1.tab _ hT2, fun _ H2 x2 => ?_, fun z => nomatch z⟩
    have x02 := x1.trans x2
    have g2 := g.ex x02
    obtain ⟨dx2, ob2⟩ := id g2.ob
    refine ⟨_, rfl, h, dx2, _, rfl, ob2, fl_no d (by decide +kernel), _, rfl, h, d, es, a, old, rfl, g2, PathX.ex x02 pa, fun e H' x' => k1 e H' (x02.trans x'), fun e H' x' => k2 e H' (x02.trans x'), fun n z e H3 r x3 hs => ?_⟩
    obtain ⟨k4, k5⟩ := k3' n z e
    have x03 := x02.trans x3
    have g3 := g.ex x03
    obtain ⟨dx3, ob3⟩ := id g3.ob
    have dv : Dp K H3 (.ref r) (fileD n z) := .tup hs (.cons (.str _) (.cons (.int _) (.cons (.str _) .nil)))
    refine ⟨_, rfl, h, dx3, _, rfl, ob3, fl_no d (by decide +kernel), _, rfl, h, d, es, b, new, rfl, g3, x03.tab _ hT1, x03.tab _ hT2, PathX.ex x03 pb, gn, fun e H' x' => k4 e H' (x03.trans x'), fun hro => ?_⟩
    obtain ⟨k6, k7⟩ := k5 hro
    refine ⟨fun y ey H' x' => k6 (by rw [ey]; rfl) H' (x03.trans x'), fun hfree H4 x4 => ?_⟩
    obtain ⟨k8, k9⟩ := k7 hfree
    have x04 := x03.trans x4
    have g4 := g.ex x04
    obtain ⟨dx4, ob4⟩ := id g4.ob
    refine ⟨_, rfl, h, dx4, _, rfl, ob4, fl_no d (by decide +kernel), h, d, es, rfl, g4, fun e H' x' => k8 e H' (x04.trans x'), fun hlt H5 x5 => ?_⟩
    have x05 := x04.trans x5
    have g5 := g.ex x05
    obtain ⟨dx5, ob5⟩ := id g5.ob
    exact ⟨_, rfl, h, dx5, _, rfl, ob5, fl_no d (by decide +kernel), _, rfl, _, rfl, h, d, es, b, new, .ref r, fileD n z, rfl, g5, PathX.ex x05 pb, Dp_ex (x4.trans x5) dv, tie_ok g.tree e gn hro hfree hlt, fun H' d' fr hn g' => k9 hlt H' d' ((Ex.fr x05).trans fr (Or.inl rfl)) (x05.free _ hn) g'⟩
end
/-! ### tied -/
def numOfD (d : PyData) (n : Int) : Bool := match d with
  | .tuple [.str _, .int m, .str _] => decide (m = n)
  | _ => false
theorem numOfD_file {m n : Int} {z : Str} : numOfD (fileD m z) n = decide (m = n) := rfl
theorem numOfD_dr {n : Int} : numOfD drD n = false := rfl
def tiedE (es : Ents) (n : Int) : List (List Str) := (es.filter fun e => numOfD e.2 n).map (·.1)
theorem mem_tied {es : Ents} {n : Int} {q : List Str} (th : ∀ e ∈ es, thingD e.2) : q ∈ tiedE es n ↔ ∃ z, (q, fileD n z) ∈ es := by
  unfold tiedE
  rw [List.mem_map]
  constructor
  · rintro ⟨e, he, rfl⟩
    obtain ⟨h1, h2⟩ := List.mem_filter.mp he
    rcases th e h1 with hd | ⟨m, z, hd⟩
    · rw [hd, numOfD_dr] at h2; cases h2
    · rw [hd, show numOfD (.tuple [.str "file", .int m, .str z]) n = decide (m = n) from rfl] at h2
      have := of_decide_eq_true h2
      subst this
      exact ⟨z, by rw [show fileD m z = e.2 from hd.symm]; exact h1⟩
  · rintro ⟨z, hz⟩
    exact ⟨_, List.mem_filter.mpr ⟨hz, by show numOfD (fileD n z) n = true; rw [numOfD_file]; exact decide_eq_true rfl⟩, rfl⟩
def spTiedM (K : PySem.W.Frag) (C P1 P2 CP CN CI : Addr) : Sp := fun vs H Q E => ∃ h d es v, vs = [.ref h, v] ∧ HsAt K C H h d es ∧ TabG H P1 ∧ TabG H P2 ∧ PathOrX K H v (Refused H E CP) fun _ p => (valE es p = none → Refused H E CN) ∧ (valE es p = some drD → Refused H E CI) ∧
  ∀ n z, valE es p = some (fileD n z) → ∀ H' l ys, Ex H H' → H l = none → H' l = some (.lst (LS.addrs ys)) → (ys.map (·.2)).Perm (tiedE es n) → LS.Rising ys → (∀ u ∈ ys, PathX H' u.1 u.2) → Q (.ref l) H'
section
variable {P : Program} {w : World} {K : PySem.W.Frag} {mg : Str → Option Value} {base : Heap}
abbrev tdN : List Str := ["self", "path", "number", "other", "thing"]
theorem scTiedM : FnScope tdN ["self", "path"] (defScope mTied) := ⟨rfl, rfl, rfl, by decide +kernel, rfl, by decide +kernel, by decide +kernel⟩
theorem ok_tiedM {f C f3 fF P1 P2 CP CN CI : Addr} {fd fd3 fdF : FuncData} (F : Fun K "tied" "House.tied" mTied f fd) (T : HT K mg C) (mS : mg "sorted" = none)
    (G3 : FnOk P w K mg base (L2.CX P w) 6 f3 fd3 ["thing"] (spCheck K P1 P2 CP)) (m3 : mg "check_path" = some (.ref f3)) (k3 : PySem.W.keepIn K (.ref f3) = true) (b3 : Binds K fd3 ["thing"] [])
    (mF : Meth K C "_file_at" fF) (GF : FnOk P w K mg base (L2.CX P w) 2 fF fdF ["self", "path"] (spFileAt K C CN CI)) (bF : Binds K fdF ["self", "path"] []) :
    FnOk P w K mg base (L2.CX P w) 7 f fd ["self", "path"] (spTiedM K C P1 P2 CP CN CI) := by
  refine F.okX scTiedM (fun vs H Q E h => ?_) (fun cdv A outer s H vs Q E hr h => ?_)
  · obtain ⟨h, d, es, v, rfl, _⟩ := h
    rfl
  · obtain ⟨h, d, es, v, rfl, g, hT1, hT2, hp⟩ := h
    have r2 := hr.mono (show 2 ≤ 6 by decide)
    have hu3 : (A.deeper (envOfC "House.tied" (defScope mTied) s.heap.objs.size f cdv)).units + 3 < cLine := by have := hr.units; omega
    refine ⟨_, pss_cons (ps_expr (pe_call (E := E) G3 hr (by rfl) m3 k3 b3 .nil (passes_call (takes_of rfl rfl rfl rfl) (fun _ _ _ _ h => h)) (pa_cons (pv 1) pa_nil)))
      (pss_cons (ps_set (i := 2) scTiedM.nd rfl (Or.inr rfl) (pe_ix (r := rIxT K) ix_tup (pe_meth (E := E) (pv 0) T.cl mF GF r2 bF .nil (passes_call (takes_of rfl rfl rfl rfl) (fun _ _ _ _ h => h)) (pa_cons (pv 1) pa_nil)) pe_int (fun _ _ => rfl)))
      (pss_one (ps_ret (pe_callB (LS.cr_sortL hu3) (by rfl) mS (by decide +kernel) (pa_cons (pe_lockR (pe_lc (own := [("other", 3), ("thing", 4)]) (g := gTup K 2 (gCons (gName 3) (gCons (gName 4) gNil)))
        (tt := tAnd (tTest (tOp rEq (tOp (rIxT K) (tVar 4) (tC (.int 0))) (tC (.str "file")))) (tTest (tOp rEq (tOp (rIxT K) (tVar 4) (tC (.int 1))) (tVar 2)))) rfl scTiedM.nd
        (pi_itemsT (pe_fld (pv 0) rfl)) (blkOk_by (N := tdN) (sc := defScope mTied) (by decide +kernel))
        (fun _ _ _ _ _ => by exact pg_tup rfl (pgs_cons (pg_name (i := 3) scTiedM.nd rfl (Or.inl rfl)) (pgs_cons (pg_name (i := 4) scTiedM.nd rfl (Or.inl rfl)) pgs_nil)))
        (fun _ _ _ _ _ => pts_one (PW.pt (pw_and (pt_cmpR op_eq (pe_ix (r := rIxT K) ix_tup (pv 4) pe_int (fun _ _ => rfl)) pe_str (nomark _)) (pw_and1 (pt_cmpR op_eq (pe_ix (r := rIxT K) ix_tup (pv 4) pe_int (fun _ _ => rfl)) (pv 2) (nomark _))))))
        (fun _ _ _ _ _ => pv 3))) pa_nil))))), ?_⟩
    rcases hp with ⟨pb, hbad⟩ | ⟨a, p, rfl, pa, gp, k1, k2, k3'⟩
    · exact ⟨_, rfl, v, false, rfl, pb, hT1, hT2, (fun z => nomatch z), fun _ => hbad⟩
    refine ⟨_, rfl, .ref a, true, rfl, PathX.b (K := K) pa gp, hT1, hT2, fun _ H1 x1 => ?_, fun z => nomatch z⟩
    have g1 := g.ex x1
    obtain ⟨dx1, ob1⟩ := id g1.ob
    refine ⟨_, rfl, h, dx1, _, rfl, ob1, fl_no d (by decide +kernel), _, rfl, h, d, es, a, p, rfl, g1, PathX.ex x1 pa, fun e H' x' => k1 e H' (x1.trans x'), fun e H' x' => k2 e H' (x1.trans x'), fun n z e H2 r x2 hs => ?_⟩
    have kk := k3' n z e
    refine ⟨r, _, 1, .int n, rfl, rfl, hs, rfl, ?_⟩
    have x02 := x1.trans x2
    have g2 := g.ex x02
    obtain ⟨dx2, ob2⟩ := id g2.ob
    obtain ⟨kvs, hd, row⟩ := id g2.dc
    have th := g.thing
    have h80 := g.len
    have hdh : h ≠ d := fun z => by rw [z, hd] at ob2; cases ob2
    refine lock_go (Or.inl hd) fun HL od R lk lt lf ld hR => ?_
    have obL := lk _ _ ob2 hdh
    have rowL : RowE K HL kvs es := row.lk (Or.inl hd) lk
    refine ⟨_, rfl, h, C, dx2, _, _, rfl, obL, T.cl, T.nT, fl_get d, d, od, kvs, rfl, ld, fun D hD => ?_⟩
    refine lc_it LD.walk_itemsT (fun i G => Ex HL G ∧ ∃ rs : LS.Zs, G D = some (.lst (LS.addrs rs)) ∧ rs.map (·.2) = tiedE (es.take i) n ∧ ∀ u ∈ rs, PathX G u.1 u.2)
      ⟨Ex.new hD, [], upd_same, rfl, fun u hu => nomatch hu⟩ (fun i G _ h => h.1.keep _ _ ld (fun ps z => by cases z)) ?_ ?_
    · rintro i x G G' hi ⟨xg, rs, hrs, hrm, hrp⟩ ⟨Tp, kk2, v, q, hk, rfl, hTn, hq, rfl⟩
      obtain ⟨en, hen, ek, dv⟩ := (rowL.ex xg).get hk
      have ek : kk2 = en.1.map Sum.inr := ek
      rw [ek] at hq
      have pq : PathX G q en.1 := PathX.of_key hq
      have xT := Ex.new (o := .tup [V.ref q, v]) hTn
      have sT : SqT K (upd G Tp (.tup [V.ref q, v])) Tp [V.ref q, v] := SqT.of upd_same
      have pq' := PathX.ex xT pq
      have dv' := Dp_ex xT dv
      have hrs' := xT.keep _ _ hrs (fun ps z => by cases z)
      have hrp' : ∀ u ∈ rs, PathX (upd G Tp (.tup [V.ref q, v])) u.1 u.2 := fun u hu => PathX.ex xT (hrp u hu)
      have x3 := xg.trans xT
      generalize upd G Tp (.tup [V.ref q, v]) = G2 at sT pq' dv' hrs' hrp' x3 ⊢
      have etake : es.take (i + 1) = es.take i ++ [en] := by rw [List.take_add_one, hen]; rfl
      have hmem := List.mem_of_getElem? hen
      have hkl := row.len
      have hrl : rs.length ≤ i := by
        have h1 := congrArg List.length hrm
        unfold tiedE at h1
        rw [List.length_map, List.length_map] at h1
        have h2 : ((es.take i).filter fun e => numOfD e.2 n).length ≤ (es.take i).length := List.length_filter_le _ _
        rw [List.length_take] at h2
        omega
      have esn : tiedE (es.take (i + 1)) n = tiedE (es.take i) n ++ (if numOfD en.2 n = true then [en.1] else []) := by
        rw [etake]
        unfold tiedE
        rw [List.filter_append, List.map_append]
        congr 1
        cases hb : numOfD en.2 n with
        | true => rw [if_pos rfl, List.filter_cons_of_pos (p := fun e : List Str × PyData => numOfD e.2 n) hb]; rfl
        | false => rw [if_neg Bool.false_ne_true, List.filter_cons_of_neg (p := fun e : List Str × PyData => numOfD e.2 n) (by rw [hb]; exact Bool.false_ne_true)]; rfl
      have stay : numOfD en.2 n = false → Ex HL G2 ∧ ∃ rs : LS.Zs, G2 D = some (.lst (LS.addrs rs)) ∧ rs.map (·.2) = tiedE (es.take (i + 1)) n ∧ ∀ u ∈ rs, PathX G2 u.1 u.2 := fun e => by
        refine ⟨x3, rs, hrs', ?_, hrp'⟩
        rw [esn, if_neg (by rw [e]; exact Bool.false_ne_true), List.append_nil]
        exact hrm
      obtain ⟨rr, xs, rfl, hss, h1⟩ := dp_thing dv' (th en hmem)
      refine ⟨Tp, _, rfl, sT, rfl, _, _, rfl, _, _, rfl, rfl, rfl, ?_⟩
      rcases h1 with ⟨ed, rfl⟩ | ⟨m, z', ed, rfl⟩
      · refine ⟨_, rfl, rr, _, 0, .str "drawer", rfl, rfl, hss, rfl, rfl, _, rfl, ?_⟩
        rw [show decide (V.str "drawer" = V.str "file") = false by decide +kernel]
        exact iteF (iteF (stay (by rw [ed]; rfl)))
      · refine ⟨_, rfl, rr, _, 0, .str "file", rfl, rfl, hss, rfl, rfl, _, rfl, ?_⟩
        rw [show decide (V.str "file" = V.str "file") = true from decide_eq_true rfl]
        refine iteT ⟨_, rfl, rr, _, 1, .int m, rfl, rfl, hss, rfl, _, rfl, rfl, _, rfl, ?_⟩
        by_cases em : m = n
        · rw [decide_eq_true (show V.int m = V.int n by rw [em])]
          refine iteT ⟨_, rfl, LS.addrs rs, hrs', ?_, x3.put hD, rs ++ [(q, en.1)], ?_, ?_, fun u hu => ?_⟩
          · unfold LS.addrs
            rw [List.length_map, sizeLine_eq]
            omega
          · rw [upd_same]
            unfold LS.addrs
            rw [List.map_append]
            rfl
          · rw [esn, if_pos (by rw [ed]; exact decide_eq_true em), List.map_append, hrm]
            rfl
          · show upd _ _ _ _ = _
            rcases List.mem_append.mp hu with hu | hu
            · rw [upd_ne (ne_of (hrp' u hu) hrs' (fun z => by cases z))]
              exact hrp' u hu
            · rw [List.mem_singleton.mp hu, upd_ne (ne_of pq' hrs' (fun z => by cases z))]
              exact pq'
        · rw [decide_eq_false (show ¬ V.int m = V.int n from fun e => em (V.int.inj e))]
          exact iteF (stay (by rw [ed]; exact decide_eq_false em))
    rintro G ⟨xg, rs, hrs, hrm, hrp⟩
    rw [row.len, List.take_length] at hrm
    refine hR _ G xg fun H8 x8 kp => ?_
    have hDd : D ≠ d := fun z => by rw [z, ld] at hD; cases hD
    have hrs8 := kp _ _ hrs hDd
    have ldG := xg.keep _ _ ld (fun ps z => by cases z)
    have hrp8 : ∀ u ∈ rs, PathX H8 u.1 u.2 := fun u hu => kp _ _ (hrp u hu) fun z => by
      have := hrp u hu
      rw [PathX, z, ldG] at this
      cases this
    refine ⟨D, rs, rfl, SqL.of hrs8, fun u hu => (hrp8 u hu).at, fun l ys perm rise hl => ?_⟩
    have x9 := Ex.new (o := .lst (LS.addrs ys)) hl
    refine kk _ l ys ((x02.trans x8).trans x9) ((x02.trans x8).free _ hl) upd_same ?_ rise fun u hu => PathX.ex x9 (hrp8 u (perm.mem_iff.mp hu))
    rw [← hrm]
    exact perm.map _
end
/-! ### _give -/
theorem tree_small {es : Ents} (t : treeB es = true) : smallE es := by
  obtain ⟨h80, hgp, hth, _, _⟩ := treeB_parts t
  refine ⟨fun e he => ⟨goodPath_small (hgp e he), ?_⟩, by omega⟩
  rcases tree_thing t e he with hd | ⟨n, z, hd⟩
  · rw [hd]
    have e2 : decide (("drawer" : Str).length ≤ sizeLine) = true := by decide +kernel
    simp [drD, smallD, smallAll, e2]
  · have hz : z.length ≤ 40 := by
      have := (tree_fit t e he n z hd).1
      unfold textB at this
      rw [Bool.and_eq_true] at this
      exact of_decide_eq_true this.1
    rw [hd]
    have e1 : decide (z.length ≤ sizeLine) = true := decide_eq_true (by rw [sizeLine_eq]; omega)
    have e2 : decide (("file" : Str).length ≤ sizeLine) = true := by decide +kernel
    simp [smallD, smallAll, e1, e2]
theorem drawerAt_iff {es : Ents} {q : List Str} : drawerAt es q = true ↔ ∃ d, valE es q = some d ∧ drawerB d = true := by
  unfold drawerAt
  cases hv : valE es q with
  | none => exact ⟨fun h => (by cases h), fun ⟨d, h, _⟩ => (by cases h)⟩
  | some d => exact ⟨fun h => ⟨d, rfl, h⟩, fun ⟨x, h, hx⟩ => (by rw [Option.some.inj h]; exact hx)⟩
theorem fileD_noDrawer {n : Int} {z : Str} : drawerB (fileD n z) = false := rfl
def giveD (n : Int) (z : Str) (d : PyData) : PyData := if numOfD d n = true then fileD n z else d
def giveE (es : Ents) (n : Int) (z : Str) : Ents := es.map fun e => (e.1, giveD n z e.2)
theorem give_keys (es : Ents) (n : Int) (z : Str) : (giveE es n z).map (·.1) = es.map (·.1) := by
  unfold giveE
  rw [List.map_map]
  rfl
theorem giveD_dr {n : Int} {z : Str} : giveD n z drD = drD := rfl
theorem giveD_file {n m : Int} {z y : Str} : giveD n z (fileD m y) = if m = n then fileD n z else fileD m y := by
  unfold giveD
  rw [show numOfD (fileD m y) n = decide (m = n) from rfl]
  by_cases e : m = n
  · rw [decide_eq_true e, if_pos rfl, if_pos e]
  · rw [decide_eq_false e, if_neg Bool.false_ne_true, if_neg e]
theorem valE_give {es : Ents} (nd : (es.map (·.1)).Nodup) (n : Int) (z : Str) (p : List Str) : valE (giveE es n z) p = (valE es p).map (giveD n z) := by
  cases hv : valE es p with
  | some d =>
    obtain ⟨x, hx, rfl, rfl⟩ := valE_mem hv
    exact valE_nd (by rw [give_keys]; exact nd) (e := (x.1, giveD n z x.2)) (List.mem_map.mpr ⟨x, hx, rfl⟩)
  | none =>
    cases hw : valE (giveE es n z) p with
    | none => rfl
    | some d =>
      obtain ⟨x, hx, rfl, _⟩ := valE_mem hw
      obtain ⟨y, hy, rfl⟩ := List.mem_map.mp hx
      rw [show ((y.1, giveD n z y.2) : List Str × PyData).1 = y.1 from rfl, valE_nd nd hy] at hv
      cases hv
theorem give_tree {es : Ents} {n : Int} {z y : Str} {p : List Str} (t : treeB es = true) (nd : (es.map (·.1)).Nodup) (h : valE es p = some (fileD n y)) (hz : textB z = true) : treeB (giveE es n z) = true := by
  obtain ⟨h80, hgp, hth, hroof, _⟩ := treeB_parts t
  have one := tree_one t
  have hn : numB (.int n) = true := by
    obtain ⟨x, hx, _, ex⟩ := valE_mem h
    exact (tree_fit t x hx n y ex).2
  unfold roofB at hroof
  simp only [Bool.and_eq_true, List.all_eq_true, Bool.or_eq_true, decide_eq_true_eq] at hroof
  have hd : ∀ q, drawerAt es q = true → drawerAt (giveE es n z) q = true := fun q hq => by
    obtain ⟨d, hv, hdr⟩ := drawerAt_iff.mp hq
    refine drawerAt_iff.mpr ⟨giveD n z d, by rw [valE_give nd, hv]; rfl, ?_⟩
    obtain ⟨x, hx, _, rfl⟩ := valE_mem hv
    rcases tree_thing t x hx with e | ⟨m, y, e⟩
    · rw [e, giveD_dr]; decide +kernel
    · rw [e] at hdr; exact absurd (show false = true from hdr) (by decide)
  have hfile : ∀ m y', fileD m y' ∈ (giveE es n z).map (·.2) → (m = n ∧ y' = z) ∨ (m ≠ n ∧ fileD m y' ∈ es.map (·.2)) := fun m y' hm => by
    obtain ⟨e, he, ee⟩ := List.mem_map.mp hm
    obtain ⟨x, hx, rfl⟩ := List.mem_map.mp he
    have ee : giveD n z x.2 = fileD m y' := ee
    rcases tree_thing t x hx with e | ⟨k, u, e⟩
    · rw [e, giveD_dr] at ee; cases ee
    · have e : x.2 = fileD k u := e
      rw [e, giveD_file] at ee
      by_cases ek : k = n
      · rw [if_pos ek] at ee
        obtain ⟨e1, e2⟩ := fileD_inj ee
        exact Or.inl ⟨e1.symm, e2.symm⟩
      · rw [if_neg ek] at ee
        obtain ⟨e1, e2⟩ := fileD_inj ee
        exact Or.inr ⟨by rw [← e1]; exact ek, List.mem_map.mpr ⟨x, hx, by rw [e, e1, e2]⟩⟩
  unfold treeB
  simp only [Bool.and_eq_true, decide_eq_true_eq, List.all_eq_true, Bool.or_eq_true]
  refine ⟨by unfold giveE; rw [List.length_map]; exact h80, fun e he => ?_, fun e he => ?_, ?_, ?_⟩
  · obtain ⟨x, hx, rfl⟩ := List.mem_map.mp he
    exact hgp x hx
  · obtain ⟨x, hx, rfl⟩ := List.mem_map.mp he
    show drawerB (giveD n z x.2) = true ∨ fileB (giveD n z x.2) = true
    unfold giveD
    by_cases e : numOfD x.2 n = true
    · rw [if_pos e]
      exact Or.inr (file_fileB hn hz)
    · rw [if_neg e]
      exact hth x hx
  · unfold roofB
    simp only [Bool.and_eq_true, List.all_eq_true, Bool.or_eq_true, decide_eq_true_eq]
    refine ⟨hd _ hroof.1, fun e he => ?_⟩
    obtain ⟨x, hx, rfl⟩ := List.mem_map.mp he
    rcases hroof.2 x hx with h1 | h1
    · exact Or.inl h1
    · exact Or.inr (hd _ h1)
  · refine (oneText_iff fun m y' hm => ?_).mpr fun m y1 y2 h1 h2 => ?_
    · rcases hfile m y' hm with ⟨rfl, rfl⟩ | ⟨_, h1⟩
      · exact file_fileB hn hz
      · obtain ⟨e, he, ez⟩ := List.mem_map.mp h1
        obtain ⟨a, b⟩ := tree_fit t e he m y' ez
        exact file_fileB b a
    · rcases hfile m y1 h1 with ⟨e1, e2⟩ | ⟨e1, e2⟩ <;> rcases hfile m y2 h2 with ⟨e3, e4⟩ | ⟨e3, e4⟩
      · rw [e2, e4]
      · exact absurd e1 e3
      · exact absurd e3 e1
      · exact one m y1 y2 e2 e4
/-! ### a row with other things at some paths -/
def setsE (es : Ents) (qs : List (List Str)) (D : PyData) : Ents := es.map fun e => if e.1 ∈ qs then (e.1, D) else e
theorem sets_keys (es : Ents) (qs : List (List Str)) (D : PyData) : (setsE es qs D).map (·.1) = es.map (·.1) := by
  unfold setsE
  rw [List.map_map]
  refine List.map_congr_left fun e _ => ?_
  show (if e.1 ∈ qs then (e.1, D) else e).1 = e.1
  by_cases h : e.1 ∈ qs
  · rw [if_pos h]
  · rw [if_neg h]
theorem sets_snoc (es : Ents) (qs : List (List Str)) (q : List Str) (D : PyData) : setsE (setsE es qs D) [q] D = setsE es (qs ++ [q]) D := by
  unfold setsE
  rw [List.map_map]
  refine List.map_congr_left fun e _ => ?_
  show (if (if e.1 ∈ qs then (e.1, D) else e).1 ∈ [q] then ((if e.1 ∈ qs then (e.1, D) else e).1, D) else (if e.1 ∈ qs then (e.1, D) else e)) = if e.1 ∈ qs ++ [q] then (e.1, D) else e
  by_cases h : e.1 ∈ qs
  · rw [if_pos h, if_pos (List.mem_append_left _ h)]
    by_cases h2 : e.1 ∈ [q]
    · rw [if_pos h2]
    · rw [if_neg h2]
  · rw [if_neg h]
    by_cases h2 : e.1 ∈ [q]
    · rw [if_pos h2, if_pos (List.mem_append_right _ h2)]
    · rw [if_neg h2, if_neg fun z => (List.mem_append.mp z).elim h h2]
theorem sets_nil (es : Ents) (D : PyData) : setsE es [] D = es := by
  unfold setsE
  refine (List.map_congr_left fun e _ => ?_).trans (List.map_id es)
  exact if_neg fun h => nomatch h
theorem inr_inj {p q : List Str} (h : p.map (Sum.inr : Str → L2.Key) = q.map Sum.inr) : p = q := by
  have := congrArg pathOf h
  rwa [pathOf_inr, pathOf_inr] at this
theorem row_any {K : PySem.W.Frag} {H : Hp} {q : List Str} : ∀ {kvs : List (List L2.Key × V)} {es : Ents}, RowE K H kvs es → q ∈ es.map (·.1) → (kvs.any fun kv => decide (kv.1 = q.map Sum.inr)) = true
  | _, _, .nil, h => nomatch h
  | kv :: kvs, e :: es, .cons a b, h => by
    rw [List.any_cons]
    rcases List.mem_cons.mp h with h | h
    · rw [decide_eq_true (by rw [a.1, h])]; rfl
    · rw [row_any b h, Bool.or_true]
theorem row_sets {K : PySem.W.Frag} {H : Hp} {q : List Str} {v : V} {D : PyData} (dv : Dp K H v D) : ∀ {kvs : List (List L2.Key × V)} {es : Ents}, RowE K H kvs es → RowE K H (kvs.map fun kv => if kv.1 = q.map Sum.inr then (kv.1, v) else kv) (setsE es [q] D)
  | _, _, .nil => .nil
  | kv :: kvs, e :: es, .cons a b => by
    refine .cons ?_ (row_sets dv b)
    show (if kv.1 = q.map Sum.inr then (kv.1, v) else kv).1 = (if e.1 ∈ [q] then (e.1, D) else e).1.map Sum.inr ∧ Dp K H (if kv.1 = q.map Sum.inr then (kv.1, v) else kv).2 (if e.1 ∈ [q] then (e.1, D) else e).2
    by_cases h : e.1 = q
    · rw [if_pos (show kv.1 = q.map Sum.inr by rw [a.1, h]), if_pos (by rw [h]; exact List.mem_singleton.mpr rfl)]
      exact ⟨a.1, dv⟩
    · rw [if_neg (fun z => h (inr_inj (a.1.symm.trans z))), if_neg (fun z => h (List.mem_singleton.mp z))]
      exact a
theorem row_put {K : PySem.W.Frag} {H : Hp} {q : List Str} {v : V} {D : PyData} {kvs : List (List L2.Key × V)} {es : Ents} (dv : Dp K H v D) (r : RowE K H kvs es) (hq : q ∈ es.map (·.1)) : RowE K H (putK kvs (q.map Sum.inr) v) (setsE es [q] D) := by
  unfold putK
  rw [if_pos (row_any r hq)]
  exact row_sets dv r
theorem sets_give {es : Ents} {n : Int} {z : Str} {qs : List (List Str)} (nd : (es.map (·.1)).Nodup) (th : ∀ e ∈ es, thingD e.2) (h : qs.Perm (tiedE es n)) : setsE es qs (fileD n z) = giveE es n z := by
  unfold setsE giveE
  refine List.map_congr_left fun e he => ?_
  have hm : e.1 ∈ qs ↔ numOfD e.2 n = true := by
    rw [h.mem_iff, mem_tied th]
    constructor
    · rintro ⟨y, hy⟩
      have h1 := valE_nd nd hy
      rw [valE_nd nd he] at h1
      rw [Option.some.inj h1]
      exact decide_eq_true rfl
    · intro hn
      rcases th e he with hd | ⟨m, y, hd⟩
      · rw [hd] at hn; cases hn
      · rw [hd] at hn
        have hn := of_decide_eq_true (show decide (m = n) = true from hn)
        subst hn
        exact ⟨y, by rw [show fileD m y = e.2 from hd.symm]; exact he⟩
  unfold giveD
  by_cases hn : numOfD e.2 n = true
  · rw [if_pos (hm.mpr hn), if_pos hn]
  · rw [if_neg (fun z => hn (hm.mp z)), if_neg hn]
def spGiveM (K : PySem.W.Frag) (C P1 P2 CN CI : Addr) : Sp := fun vs H Q E => ∃ h d es a p x, vs = [.ref h, .ref a, .str x] ∧ HsAt K C H h d es ∧ TabG H P1 ∧ TabG H P2 ∧ PathX H a p ∧ goodPath p = true ∧ textB x = true ∧ (valE es p = none → Refused H E CN) ∧ (valE es p = some drD → Refused H E CI) ∧
  ∀ n z, valE es p = some (fileD n z) → ∀ H', Fr h d H H' → HsAt K C H' h d (giveE es n x) → Q .non H'
section
variable {P : Program} {w : World} {K : PySem.W.Frag} {mg : Str → Option Value} {base : Heap}
abbrev gvN : List Str := ["self", "path", "text", "thing", "paths", "other"]
theorem scGiveM : FnScope gvN ["self", "path", "text"] (defScope mGive) := ⟨rfl, rfl, rfl, by decide +kernel, rfl, by decide +kernel, by decide +kernel⟩
theorem ok_giveM {f C fF fT P1 P2 CP CN CI : Addr} {fd fdF fdT : FuncData} (F : Fun K "_give" "House._give" mGive f fd) (T : HT K mg C)
    (mF : Meth K C "_file_at" fF) (GF : FnOk P w K mg base (L2.CX P w) 2 fF fdF ["self", "path"] (spFileAt K C CN CI)) (bF : Binds K fdF ["self", "path"] [])
    (mT : Meth K C "tied" fT) (GT : FnOk P w K mg base (L2.CX P w) 7 fT fdT ["self", "path"] (spTiedM K C P1 P2 CP CN CI)) (bT : Binds K fdT ["self", "path"] []) :
    FnOk P w K mg base (L2.CX P w) 8 f fd ["self", "path", "text"] (spGiveM K C P1 P2 CN CI) := by
  refine F.okX scGiveM (fun vs H Q E h => ?_) (fun cdv A outer s H vs Q E hr h => ?_)
  · obtain ⟨h, d, es, a, p, x, rfl, _⟩ := h
    rfl
  · obtain ⟨h, d, es, a, p, x, rfl, g, hT1, hT2, pa, gp, hx, k1, k2, k3'⟩ := h
    have r2 := hr.mono (show 2 ≤ 7 by decide)
    have hu1 : (A.deeper (envOfC "House._give" (defScope mGive) s.heap.objs.size f cdv)).units + 1 < cLine := by have := hr.units; omega
    refine ⟨_, pss_cons (ps_set (i := 3) scGiveM.nd rfl (Or.inl rfl) (pe_tup (pa_cons pe_str (pa_cons (pe_ix (r := rIxT K) ix_tup (pe_meth (E := E) (pv 0) T.cl mF GF r2 bF .nil (passes_call (takes_of rfl rfl rfl rfl) (fun _ _ _ _ h => h)) (pa_cons (pv 1) pa_nil)) pe_int (fun _ _ => rfl)) (pa_cons (pv 2) pa_nil)))))
      (pss_cons (ps_set (i := 4) scGiveM.nd rfl (Or.inl rfl) (pe_meth (E := E) (pv 0) T.cl mT GT hr bT .nil (passes_call (takes_of rfl rfl rfl rfl) (fun _ _ _ _ h => h)) (pa_cons (pv 1) pa_nil)))
      (pss_one (ps_for (passes_of rfl) rfl (pi_list (pv 4)) (pg_name (i := 5) scGiveM.nd rfl (Or.inl rfl)) (pss_one (ps_dput hu1 (pe_fld (pv 0) rfl) (pv 5) (pv 3) rfl))))), ?_⟩
    obtain ⟨dx, ob⟩ := id g.ob
    refine ⟨_, rfl, h, dx, _, rfl, ob, fl_no d (by decide +kernel), _, rfl, h, d, es, a, p, rfl, g, pa, k1, k2, fun n z e H1 r0 x1 hs0 => ?_⟩
    have kk := k3' n z e
    refine ⟨r0, _, 1, .int n, rfl, rfl, hs0, rfl, _, rfl, (by show 3 ≤ sizeLine; decide), fun r hr0 => ?_⟩
    have xr := Ex.new (o := .tup [V.str "file", V.int n, V.str x]) hr0
    have er : (upd H1 r (.tup [V.str "file", V.int n, V.str x])) r = some (.tup [V.str "file", V.int n, V.str x]) := upd_same
    have x02 := x1.trans xr
    generalize upd H1 r (.tup [V.str "file", V.int n, V.str x]) = H2 at xr er x02 ⊢
    have g2 := g.ex x02
    obtain ⟨dx2, ob2⟩ := id g2.ob
    refine ⟨_, rfl, h, dx2, _, rfl, ob2, fl_no d (by decide +kernel), _, rfl, h, d, es, .ref a, rfl, g2, x02.tab _ hT1, x02.tab _ hT2, .inr ⟨a, p, rfl, PathX.ex x02 pa, gp, fun e' H' x' => k1 e' H' (x02.trans x'), fun e' H' x' => k2 e' H' (x02.trans x'), fun n' z' e' H3 l ys x3 hl el perm rise hp => ?_⟩⟩
    rw [e] at e'
    obtain ⟨rfl, rfl⟩ := fileD_inj (Option.some.inj e')
    have x03 := x02.trans x3
    have g3 := g.ex x03
    have er3 := x3.keep _ _ er (fun ps z => by cases z)
    obtain ⟨dx3, ob3⟩ := id g3.ob
    obtain ⟨kvs, hd3, row3⟩ := id g3.dc
    have hlh : l ≠ h := fun z => by rw [z, ob3] at el; cases el
    have hld : l ≠ d := fun z => by rw [z, hd3] at el; cases el
    have hrh : r ≠ h := fun z => by rw [z, ob3] at er3; cases er3
    have hrd : r ≠ d := fun z => by rw [z, hd3] at er3; cases er3
    have hhd : h ≠ d := fun z => by rw [z, hd3] at ob3; cases ob3
    have hkey : ∀ u ∈ ys, u.2 ∈ es.map (·.1) := fun u hu => by
      obtain ⟨y, hy⟩ := (mem_tied g.thing).mp (perm.mem_iff.mp (List.mem_map.mpr ⟨u, hu, rfl⟩))
      exact List.mem_map.mpr ⟨_, hy, rfl⟩
    have h80 := g.len
    refine ⟨_, rfl, l, rfl, ⟨_, SqL.of el⟩, for_it (walk_list (K := K) (a := l) (xs := LS.addrs ys)) (fun i σ G => ∃ v5, σ = [some (.ref h), some (.ref a), some (.str x), some (.ref r), some (.ref l), v5] ∧ Fr h d H3 G ∧ G h = some (.ins C dx3 [("_tree", .ref d)]) ∧ ∃ ki, G d = some (.dT ki) ∧ RowE K G ki (setsE es ((ys.take i).map (·.2)) (fileD n x)))
      ⟨none, rfl, Ex.fr (Ex.refl H3), ob3, kvs, hd3, by rw [List.take_zero, List.map_nil, sets_nil]; exact row3⟩ (fun i σ G _ h' => ?_) ?_ ?_⟩
    · obtain ⟨_, _, fr, _⟩ := h'
      exact SqL.of (fr.keep _ _ hlh hld el (fun ps z => by cases z))
    · rintro i y σ G G' hi ⟨v5, rfl, fr, obG, ki, hki, rki⟩ ⟨rfl, hy⟩
      unfold LS.addrs at hy
      rw [List.getElem?_map] at hy
      obtain ⟨u, hu, rfl⟩ := Option.map_eq_some_iff.mp hy
      have hum := List.mem_of_getElem? hu
      have pu : PathX G' u.1 u.2 := Fr.seq g3 fr _ _ (hp u hum) trivial
      have erG := fr.keep _ _ hrh hrd er3 (fun ps z => by cases z)
      have dv : Dp K G' (.ref r) (fileD n x) := .tup (SqT.of erG) (.cons (.str _) (.cons (.int _) (.cons (.str _) .nil)))
      have hkl : ki.length < sizeLine := by
        have h1 := rki.len
        unfold setsE at h1
        rw [List.length_map] at h1
        rw [sizeLine_eq]
        omega
      have hq : u.2 ∈ (setsE es ((ys.take i).map (·.2)) (fileD n x)).map (·.1) := by
        rw [sets_keys]
        exact hkey u hum
      refine ⟨_, rfl, _, rfl, h, C, dx3, _, _, rfl, obG, T.cl, T.nT, fl_get d, _, rfl, d, _, rfl, DPut.t (k := u.2.map Sum.inr) (v := .ref r) hki pu.key hkl, _, rfl, fr.trans (Fr.setD hki) (Or.inl rfl), ?_, _, upd_same, ?_⟩
      · rw [upd_ne hhd]
        exact obG
      · have mv := mv_upd (u := .dT (putK ki (u.2.map Sum.inr) (.ref r))) hki (fun q => q)
        have etake : (ys.take (i + 1)).map (·.2) = (ys.take i).map (·.2) ++ [u.2] := by rw [List.take_add_one, hu, List.map_append]; rfl
        rw [etake, ← sets_snoc]
        exact mv_row mv (row_put dv rki hq)
    rintro σ G ⟨v5, rfl, fr, obG, ki, hki, rki⟩
    rw [show (LS.addrs ys).length = ys.length from List.length_map .., List.take_length, sets_give g.nd g.thing perm] at rki
    have tG := give_tree (z := x) g.tree g.nd e hx
    exact kk G ((Ex.fr x03).trans fr (Or.inl rfl)) ⟨⟨dx3, obG⟩, ⟨ki, hki, rki⟩, by rw [give_keys]; exact g.nd, tG, tree_small tG⟩
end
/-! ### write, add -/
theorem text_len (z x : Str) : (z ++ x).length = z.length + x.length := by
  show (z.cps ++ x.cps).size = z.cps.size + x.cps.size
  exact Array.size_append
theorem textB_app {z x : Str} (hz : textB z = true) (hx : textB x = true) (hl : z.length + x.length ≤ 40) : textB (z ++ x) = true := by
  unfold textB allIn at *
  rw [Bool.and_eq_true] at *
  refine ⟨decide_eq_true (by rw [text_len]; exact hl), ?_⟩
  show ((z.cps ++ x.cps).toList.all _) = true
  rw [Array.toList_append, List.all_append, hz.2, hx.2]
  rfl
theorem textB_len {z : Str} (h : textB z = true) : z.length ≤ 40 := by
  unfold textB at h
  rw [Bool.and_eq_true] at h
  exact of_decide_eq_true h.1
/-- the numbers are below the number of paths -/
def PlainN (es : Ents) : Prop := ∀ e ∈ es, ∀ n z, e.2 = fileD n z → n < (es.length : Nat)
theorem plainN_plain {es : Ents} (t : treeB es = true) : PlainN (plainE es) := fun e he n z hd => by
  have := (plainE_fil (tree_thing t) (tree_one t) (fun e he n z ez => (tree_fit t e he n z ez).1)).2 e he n z hd
  rw [plainE_len]
  exact this
theorem plainN_give {es : Ents} {n : Int} {z y : Str} {p : List Str} (t : treeB es = true) (P : PlainN es) (h : valE es p = some (fileD n y)) : PlainN (giveE es n z) := fun e he m u hd => by
  have hl : (giveE es n z).length = es.length := by unfold giveE; rw [List.length_map]
  rw [hl]
  obtain ⟨x, hx, rfl⟩ := List.mem_map.mp he
  have hd : giveD n z x.2 = fileD m u := hd
  rcases tree_thing t x hx with e | ⟨k, w, e⟩
  · rw [e, giveD_dr] at hd; cases hd
  · have e : x.2 = fileD k w := e
    rw [e, giveD_file] at hd
    by_cases ek : k = n
    · rw [if_pos ek] at hd
      obtain ⟨e1, _⟩ := fileD_inj hd
      obtain ⟨x0, hx0, _, ex0⟩ := valE_mem h
      rw [← e1]
      exact P x0 hx0 n y ex0
    · rw [if_neg ek] at hd
      obtain ⟨e1, _⟩ := fileD_inj hd
      rw [← e1]
      exact P x hx k w e
theorem write_ok {es : Ents} {p : List Str} {x : Str} (t : treeB es = true) (P : PlainN es) (gp : goodPath p = true) (hp : p = [] ∨ drawerAt es p.dropLast = true) (free : valE es p = none) (hl : es.length < 80) (hx : textB x = true) : PutOk es p (fileD (es.length : Nat) x) := by
  refine ⟨gp, ?_, free, hl, Or.inr (file_fileB ?_ hx), fun m y y' e hm => ?_⟩
  · rcases hp with e | e
    · rw [e]
      obtain ⟨_, _, _, hroof, _⟩ := treeB_parts t
      unfold roofB at hroof
      rw [Bool.and_eq_true] at hroof
      exact hroof.1
    · exact e
  · unfold numB
    rw [Bool.and_eq_true]
    exact ⟨decide_eq_true (by omega), decide_eq_true (by omega)⟩
  · exfalso
    obtain ⟨e1, _⟩ := fileD_inj e
    obtain ⟨e0, he, ez⟩ := List.mem_map.mp hm
    have := P e0 he m y' ez
    omega
structure ErrsW where
  path : Addr
  text : Addr
  root : Addr
  there : Addr
  drawer : Addr
  isDrawer : Addr
  full : Addr
  long : Addr
def spWriteM (K : PySem.W.Frag) (C P1 P2 P3 : Addr) (X : ErrsW) : Sp := fun vs H Q E => ∃ h d es v u, vs = [.ref h, v, u] ∧ HsAt K C H h d es ∧ PlainN es ∧ TabG H P1 ∧ TabG H P2 ∧ TabG H P3 ∧ Asked K H u ∧ PathOrX K H v (Refused H E X.path) fun _ p =>
  (isTextV u = false → Refused H E X.text) ∧ ∀ x, u = .str x → textB x = true →
    (p = [] → Refused H E X.root) ∧ (p ≠ [] → (drawerAt es p.dropLast = false → Refused H E X.drawer) ∧ (drawerAt es p.dropLast = true →
      (valE es p = some drD → Refused H E X.isDrawer) ∧ (∀ n z, valE es p = some (fileD n z) → ∀ H', Fr h d H H' → HsAt K C H' h d (giveE es n x) → Q .non H') ∧
      (valE es p = none → (80 ≤ es.length → Refused H E X.full) ∧ (es.length < 80 → ∀ H' d', Fr h d H H' → H d' = none → HsAt K C H' h d' (plainE (es ++ [(p, fileD (es.length : Nat) x)])) → Q .non H'))))
def spAddM (K : PySem.W.Frag) (C P1 P2 P3 : Addr) (X : ErrsW) : Sp := fun vs H Q E => ∃ h d es v u, vs = [.ref h, v, u] ∧ HsAt K C H h d es ∧ TabG H P1 ∧ TabG H P2 ∧ TabG H P3 ∧ Asked K H u ∧ PathOrX K H v (Refused H E X.path) fun _ p =>
  (isTextV u = false → Refused H E X.text) ∧ ∀ x, u = .str x → textB x = true →
    (valE es p = none → Refused H E X.there) ∧ (valE es p = some drD → Refused H E X.isDrawer) ∧ ∀ n z, valE es p = some (fileD n z) →
      (40 < z.length + x.length → Refused H E X.long) ∧ (z.length + x.length ≤ 40 → ∀ H', Fr h d H H' → HsAt K C H' h d (giveE es n (z ++ x)) → Q .non H')
theorem isText_str {v : V} (h : isTextV v = true) : ∃ x, v = .str x ∧ textB x = true := by
  cases v with
  | str x => exact ⟨x, rfl, h⟩
  | _ => exact nomatch h
section
variable {P : Program} {w : World} {K : PySem.W.Frag} {mg : Str → Option Value} {base : Heap}
theorem scWriteM : FnScope ["self", "path", "text"] ["self", "path", "text"] (defScope mWrite) := ⟨rfl, rfl, rfl, by decide +kernel, rfl, by decide +kernel, by decide +kernel⟩
theorem ok_writeM {f C f3 fX fN fA fG fR fU P1 P2 P3 : Addr} {X : ErrsW} {fd fd3 fdX fdN fdA fdG fdR fdU : FuncData} (F : Fun K "write" "House.write" mWrite f fd) (T : HT K mg C) (M : Mg mg)
    (G3 : FnOk P w K mg base (L2.CX P w) 6 f3 fd3 ["thing"] (spCheck K P1 P2 X.path)) (m3 : mg "check_path" = some (.ref f3)) (k3 : PySem.W.keepIn K (.ref f3) = true) (b3 : Binds K fd3 ["thing"] [])
    (GX : FnOk P w K mg base (L2.CX P w) 4 fX fdX ["thing"] (spCheckText K P3 X.text)) (mX : mg "check_text" = some (.ref fX)) (kX : PySem.W.keepIn K (.ref fX) = true) (bX : Binds K fdX ["thing"] [])
    (GN : FnOk P w K mg base (L2.CX P w) 1 fN fdN ["path"] (spNotRoot X.root)) (mN : mg "_check_not_root" = some (.ref fN)) (kN : PySem.W.keepIn K (.ref fN) = true) (bN : Binds K fdN ["path"] [])
    (mA : Meth K C "_check_above" fA) (GA : FnOk P w K mg base (L2.CX P w) 8 fA fdA ["self", "path"] (spAboveM K C P1 P2 X.drawer)) (bA : Binds K fdA ["self", "path"] [])
    (mG : Meth K C "_give" fG) (GG : FnOk P w K mg base (L2.CX P w) 8 fG fdG ["self", "path", "text"] (spGiveM K C P1 P2 X.there X.isDrawer)) (bG : Binds K fdG ["self", "path", "text"] [])
    (mR : Meth K C "_check_room" fR) (GR : FnOk P w K mg base (L2.CX P w) 1 fR fdR ["self"] (spRoomM K C X.full)) (bR : Binds K fdR ["self"] [])
    (mU : Meth K C "_put" fU) (GU : FnOk P w K mg base CX0 2 fU fdU ["self", "path", "thing"] (spPutM K C)) (bU : Binds K fdU ["self", "path", "thing"] []) :
    FnOk P w K mg base (L2.CX P w) 9 f fd ["self", "path", "text"] (spWriteM K C P1 P2 P3 X) := by
  refine F.okX scWriteM (fun vs H Q E h => ?_) (fun cdv A outer s H vs Q E hr h => ?_)
  · obtain ⟨h, d, es, v, u, rfl, _⟩ := h
    rfl
  · obtain ⟨h, d, es, v, u, rfl, g, PN, hT1, hT2, hT3, ak, hp⟩ := h
    have r6 := hr.mono (show 6 ≤ 8 by decide)
    have r4 := hr.mono (show 4 ≤ 8 by decide)
    have r2 := hr.mono (show 2 ≤ 8 by decide)
    have r1 := hr.mono (show 1 ≤ 8 by decide)
    have hu1 : (A.deeper (envOfC "House.write" (defScope mWrite) s.heap.objs.size f cdv)).units + 1 < cLine := by have := hr.units; omega
    refine ⟨_, pss_cons (ps_expr (pe_call (E := E) G3 r6 (by rfl) m3 k3 b3 .nil (passes_call (takes_of rfl rfl rfl rfl) (fun _ _ _ _ h => h)) (pa_cons (pv 1) pa_nil)))
      (pss_cons (ps_expr (pe_call (E := E) GX r4 (by rfl) mX kX bX .nil (passes_call (takes_of rfl rfl rfl rfl) (fun _ _ _ _ h => h)) (pa_cons (pv 2) pa_nil)))
      (pss_cons (ps_expr (pe_call (E := E) GN r1 (by rfl) mN kN bN .nil (passes_call (takes_of rfl rfl rfl rfl) (fun _ _ _ _ h => h)) (pa_cons (pv 1) pa_nil)))
      (pss_cons (ps_expr (pe_meth (E := E) (pv 0) T.cl mA GA hr bA .nil (passes_call (takes_of rfl rfl rfl rfl) (fun _ _ _ _ h => h)) (pa_cons (pv 1) pa_nil)))
      (pss_one (ps_if (pt_cmp (pc_din hu1 (pv 1) (pe_fld (pv 0) rfl))) (pss_one (ps_expr (pe_meth (E := E) (pv 0) T.cl mG GG hr bG .nil (passes_call (takes_of rfl rfl rfl rfl) (fun _ _ _ _ h => h)) (pa_cons (pv 1) (pa_cons (pv 2) pa_nil)))))
        (pss_cons (ps_expr (pe_meth0 (E := E) (pv 0) T.cl mR GR r1 bR .nil (passes_call (takes_of rfl rfl rfl rfl) (fun _ _ _ _ h => h))))
        (pss_one (ps_expr (pe_meth (E := E0) (pv 0) T.cl mU GU r2 bU .nil pass0 (pa_cons (pv 1) (pa_cons (pe_tup (pa_cons pe_str (pa_cons (pe_callB call_lenR (by rfl) M.len PySem.boot_len (pa_cons (pe_fld (pv 0) rfl) pa_nil)) (pa_cons (pv 2) pa_nil)))) pa_nil))))))))))), ?_⟩
    rcases hp with ⟨pb, hbad⟩ | ⟨a, p, rfl, pa, gp, kt, kk⟩
    · exact ⟨_, rfl, v, false, rfl, pb, hT1, hT2, (fun z => nomatch z), fun _ => hbad⟩
    refine ⟨_, rfl, .ref a, true, rfl, PathX.b (K := K) pa gp, hT1, hT2, fun _ H1 x1 => ?_, fun z => nomatch z⟩
    refine ⟨_, rfl, u, rfl, ak.ex x1, x1.tab _ hT3, fun ht H2 x2 => ?_, fun ht H' x' => kt ht H' (x1.trans x')⟩
    obtain ⟨x, rfl, hx⟩ := isText_str ht
    obtain ⟨k1, k2⟩ := kk x rfl hx
    have x02 := x1.trans x2
    refine ⟨_, rfl, a, p, rfl, PathX.ex x02 pa, gp, fun e H' x' => k1 e H' (x02.trans x'), fun hne H3 x3 => ?_⟩
    obtain ⟨k4, k5⟩ := k2 hne
    have x03 := x02.trans x3
    have g3 := g.ex x03
    obtain ⟨dx3, ob3⟩ := id g3.ob
    refine ⟨_, rfl, h, dx3, _, rfl, ob3, fl_no d (by decide +kernel), _, rfl, h, d, es, a, p, rfl, g3, x03.tab _ hT1, x03.tab _ hT2, PathX.ex x03 pa, gp, fun e H' x' => k4 e.2 H' (x03.trans x'), fun hro H4 x4 => ?_⟩
    have hro2 := hro.resolve_left hne
    obtain ⟨k6, k7, k8⟩ := k5 hro2
    have x04 := x03.trans x4
    have g4 := g.ex x04
    obtain ⟨dx4, ob4⟩ := id g4.ob
    obtain ⟨kvs, hd, row⟩ := id g4.dc
    have pa4 := PathX.ex x04 pa
    refine ⟨_, rfl, _, rfl, h, C, dx4, _, _, rfl, ob4, T.cl, T.nT, fl_get d, d, _, rfl, get_tr (Or.inl hd) pa4, _, rfl, ?_⟩
    rcases row.val (p := p) with ⟨e1, e2⟩ | ⟨u', D, e1, e2, dv⟩
    · rw [e1]
      obtain ⟨k9, k10⟩ := k8 e2
      refine iteF ⟨_, rfl, h, dx4, _, rfl, ob4, fl_no d (by decide +kernel), h, d, es, rfl, g4, fun e H' x' => k9 e H' (x04.trans x'), fun hlt H5 x5 => ?_⟩
      have x05 := x04.trans x5
      have g5 := g.ex x05
      obtain ⟨dx5, ob5⟩ := id g5.ob
      obtain ⟨kvs5, hd5, row5⟩ := id g5.dc
      refine ⟨_, rfl, h, dx5, _, rfl, ob5, fl_no d (by decide +kernel), _, rfl, _, rfl, h, C, dx5, _, _, rfl, ob5, T.cl, T.nT, fl_get d, d, kvs5, rfl, Or.inl hd5, _, rfl, (by show 3 ≤ sizeLine; decide), fun r hr0 => ?_⟩
      have xr := Ex.new (o := .tup [V.str "file", V.int (kvs5.length : Nat), V.str x]) hr0
      have sr : SqT K (upd H5 r (.tup [V.str "file", V.int (kvs5.length : Nat), V.str x])) r [V.str "file", V.int (kvs5.length : Nat), V.str x] := SqT.of upd_same
      have x06 := x05.trans xr
      have hkl : kvs5.length = es.length := row5.len
      refine ⟨h, d, es, a, p, .ref r, fileD (es.length : Nat) x, rfl, g.ex x06, PathX.ex x06 pa, ?_, write_ok g.tree PN gp hro e2 hlt hx, fun H' d' fr hn g' => k10 hlt H' d' ((Ex.fr x06).trans fr (Or.inl rfl)) (x06.free _ hn) g'⟩
      rw [← hkl]
      exact .tup sr (.cons (.str _) (.cons (.int _) (.cons (.str _) .nil)))
    · rw [e1]
      refine iteT ⟨_, rfl, h, dx4, _, rfl, ob4, fl_no d (by decide +kernel), _, rfl, _, rfl, h, d, es, a, p, x, rfl, g4, x04.tab _ hT1, x04.tab _ hT2, pa4, gp, hx, fun e => (by rw [e2] at e; cases e), fun e H' x' => k6 e H' (x04.trans x'), fun n z e H' fr g' => k7 n z e H' ((Ex.fr x04).trans fr (Or.inl rfl)) g'⟩
end
section
variable {P : Program} {w : World} {K : PySem.W.Frag} {mg : Str → Option Value} {base : Heap}
theorem scAddM : FnScope ["self", "path", "text", "longer"] ["self", "path", "text"] (defScope mAdd) := ⟨rfl, rfl, rfl, by decide +kernel, rfl, by decide +kernel, by decide +kernel⟩
theorem ok_addM {f C f3 fX fF fG P1 P2 P3 : Addr} {X : ErrsW} {fd fd3 fdX fdF fdG : FuncData} (F : Fun K "add" "House.add" mAdd f fd) (T : HT K mg C) (M : Mg mg) (MT : MgT mg) (R : Ref K mg "TooLong" X.long)
    (G3 : FnOk P w K mg base (L2.CX P w) 6 f3 fd3 ["thing"] (spCheck K P1 P2 X.path)) (m3 : mg "check_path" = some (.ref f3)) (k3 : PySem.W.keepIn K (.ref f3) = true) (b3 : Binds K fd3 ["thing"] [])
    (GX : FnOk P w K mg base (L2.CX P w) 4 fX fdX ["thing"] (spCheckText K P3 X.text)) (mX : mg "check_text" = some (.ref fX)) (kX : PySem.W.keepIn K (.ref fX) = true) (bX : Binds K fdX ["thing"] [])
    (mF : Meth K C "_file_at" fF) (GF : FnOk P w K mg base (L2.CX P w) 2 fF fdF ["self", "path"] (spFileAt K C X.there X.isDrawer)) (bF : Binds K fdF ["self", "path"] [])
    (mG : Meth K C "_give" fG) (GG : FnOk P w K mg base (L2.CX P w) 8 fG fdG ["self", "path", "text"] (spGiveM K C P1 P2 X.there X.isDrawer)) (bG : Binds K fdG ["self", "path", "text"] []) :
    FnOk P w K mg base (L2.CX P w) 9 f fd ["self", "path", "text"] (spAddM K C P1 P2 P3 X) := by
  refine F.okX scAddM (fun vs H Q E h => ?_) (fun cdv A outer s H vs Q E hr h => ?_)
  · obtain ⟨h, d, es, v, u, rfl, _⟩ := h
    rfl
  · obtain ⟨h, d, es, v, u, rfl, g, hT1, hT2, hT3, ak, hp⟩ := h
    have r6 := hr.mono (show 6 ≤ 8 by decide)
    have r4 := hr.mono (show 4 ≤ 8 by decide)
    have r2 := hr.mono (show 2 ≤ 8 by decide)
    obtain ⟨tm, hm⟩ := MT.mostSigns
    refine ⟨_, pss_cons (ps_expr (pe_call (E := E) G3 r6 (by rfl) m3 k3 b3 .nil (passes_call (takes_of rfl rfl rfl rfl) (fun _ _ _ _ h => h)) (pa_cons (pv 1) pa_nil)))
      (pss_cons (ps_expr (pe_call (E := E) GX r4 (by rfl) mX kX bX .nil (passes_call (takes_of rfl rfl rfl rfl) (fun _ _ _ _ h => h)) (pa_cons (pv 2) pa_nil)))
      (pss_cons (ps_set (i := 3) scAddM.nd rfl (Or.inl rfl) (pe_op op_add_str (pe_ix (r := rIxT K) ix_tup (pe_meth (E := E) (pv 0) T.cl mF GF r2 bF .nil (passes_call (takes_of rfl rfl rfl rfl) (fun _ _ _ _ h => h)) (pa_cons (pv 1) pa_nil)) pe_int (fun _ _ => rfl)) (pv 2)))
      (pss_cons (ps_if (pt_cmpR op_gt (pe_callB call_len_str (by rfl) M.len PySem.boot_len (pa_cons (pv 3) pa_nil)) (pe_glob (v := .int 40) (by rfl) hm ⟨_, rfl⟩) (nomark _))
        (pss_one (ps_raise rfl (takes_of rfl rfl rfl rfl) (pmk_own PySem.F.excBase_ValueError R.x R.g R.k (raises_own R.b R.t) rfl))) pss_nil)
      (pss_one (ps_expr (pe_meth (E := E) (pv 0) T.cl mG GG hr bG .nil (passes_call (takes_of rfl rfl rfl rfl) (fun _ _ _ _ h => h)) (pa_cons (pv 1) (pa_cons (pv 3) pa_nil)))))))), ?_⟩
    rcases hp with ⟨pb, hbad⟩ | ⟨a, p, rfl, pa, gp, kt, kk⟩
    · exact ⟨_, rfl, v, false, rfl, pb, hT1, hT2, (fun z => nomatch z), fun _ => hbad⟩
    refine ⟨_, rfl, .ref a, true, rfl, PathX.b (K := K) pa gp, hT1, hT2, fun _ H1 x1 => ?_, fun z => nomatch z⟩
    refine ⟨_, rfl, u, rfl, ak.ex x1, x1.tab _ hT3, fun ht H2 x2 => ?_, fun ht H' x' => kt ht H' (x1.trans x')⟩
    obtain ⟨x, rfl, hx⟩ := isText_str ht
    obtain ⟨k1, k2, k4⟩ := kk x rfl hx
    have x02 := x1.trans x2
    have g2 := g.ex x02
    obtain ⟨dx2, ob2⟩ := id g2.ob
    refine ⟨_, rfl, h, dx2, _, rfl, ob2, fl_no d (by decide +kernel), _, rfl, h, d, es, a, p, rfl, g2, PathX.ex x02 pa, fun e H' x' => k1 e H' (x02.trans x'), fun e H' x' => k2 e H' (x02.trans x'), fun n z e H3 r x3 hs => ?_⟩
    obtain ⟨k5, k6⟩ := k4 n z e
    have hz : textB z = true := by
      obtain ⟨y, hy, _, ey⟩ := valE_mem e
      exact (tree_fit g.tree y hy n z ey).1
    have lz := textB_len hz
    have lx := textB_len hx
    have x03 := x02.trans x3
    refine ⟨r, _, 2, .str z, rfl, rfl, hs, rfl, _, rfl, z, x, rfl, rfl, (by rw [sizeLine_eq]; omega), ?_⟩
    refine ⟨_, rfl, z ++ x, rfl, (by rw [text_len, sizeLine_eq]; omega), _, _, rfl, rfl, _, rfl, ?_⟩
    rw [text_len]
    by_cases hl : z.length + x.length ≤ 40
    · rw [decide_eq_false (show ¬ (40 : Int) < ((z.length + x.length : Nat) : Int) by omega)]
      have g3 := g.ex x03
      obtain ⟨dx3, ob3⟩ := id g3.ob
      exact iteF ⟨_, rfl, h, dx3, _, rfl, ob3, fl_no d (by decide +kernel), _, rfl, _, rfl, h, d, es, a, p, z ++ x, rfl, g3, x03.tab _ hT1, x03.tab _ hT2, PathX.ex x03 pa, gp, textB_app hz hx hl, fun e' => (by rw [e] at e'; cases e'), fun e' => (by rw [e] at e'; cases e'), fun n' z' e' H' fr g' => by
        rw [e] at e'
        obtain ⟨rfl, rfl⟩ := fileD_inj (Option.some.inj e')
        exact k6 hl H' ((Ex.fr x03).trans fr (Or.inl rfl)) g'⟩
    · rw [decide_eq_true (show (40 : Int) < ((z.length + x.length : Nat) : Int) by omega)]
      exact iteT (k5 (by omega) H3 x03)
end
end LK

namespace LK
open PySem PySem.Spec PyProof.Rows L2 GA LT LE L2H LD
/-! ### a method called in a suite that catches -/
def tMethE (C : Addr) (m : Str) (sp : Sp) (E : L2.St → XK) (ta : TE) (t : TA) : TE := fun σ H Q => ta σ H fun x H1 => ∃ a dx fs, x = .ref a ∧ H1 a = some (.ins C dx fs) ∧ fs.lookup m = none ∧ t σ H1 fun vs H2 => sp (.ref a :: vs) H2 Q (E σ)
theorem pe_methE {X : Cx} {CX : CXT} {k : Nat} {C f : Addr} {m : Str} {fd : FuncData} {ps : List Str} {sp : Sp} {E : L2.St → XK} {apos pos : Pos} {o e : Expr} {es : List Expr} {ta : TE} {t : TA} {pl : Sem Bool}
    (he : PE X o ta) (c : Cls X.K C) (hm : Meth X.K C m f) (F : FnOk X.prog X.w X.K X.mg X.base CX k f fd ps sp) (hr : Room k X.A) (hb : Binds X.K fd ps []) (hx : ∀ σ, PassesAt CX X σ (E σ)) (ha : PA X (e :: es) t)
    (hst : starEach (e :: es) X.env = (false, eval e X.env) :: starEach es X.env := by rfl) (hpl : (backTo pos (starEach es X.env)).any (·.1) = false := by rfl)
    (ht : eval (.Call (.Attribute o m apos) (e :: es) [] pos) X.env = (do
      let ov ← eval o X.env
      standAt apos.atName
      let (f, first) ← holding [ov] (getMethod ov m pl)
      callWith pos f first (backTo pos (starEach (e :: es) X.env)) (backToKw pos (keywordEach [] X.env))) := by rfl) :
    PE X (.Call (.Attribute o m apos) (e :: es) [] pos) (tMethE C m sp E ta t) := by
  refine ⟨fun pins s σ H Q I h => ?_⟩
  refine PySem.W.methodCall_KW (pl := pl) (thn (he.run pins s σ H _ I h) fun u s1 ⟨x, H1, I1, rx, a, dx, fs, ex, ea, l, q⟩ => ?_) ht
  subst ex
  obtain rfl : u = Value.ref a := rx
  refine getmeth_ok I1 ea c hm l ?_
  refine PySem.W.callWith_K (first := [.ref a]) (h₀ := X.base) I1.ok.mod.kin hm.kp (thn (ha.run pos pins s1 σ H1 _ I1 q) fun us s2 ⟨vs, H2, I2, r, q2⟩ => ⟨I2.kIn, ?_⟩) hst hpl
  exact run_fnS (us := .ref a :: us) (vs := .ref a :: vs) F hr hb (hx σ) I2 (.cons rfl r) q2
def tMethE0 (C : Addr) (m : Str) (sp : Sp) (E : L2.St → XK) (ta : TE) : TE := fun σ H Q => ta σ H fun x H1 => ∃ a dx fs, x = .ref a ∧ H1 a = some (.ins C dx fs) ∧ fs.lookup m = none ∧ sp [.ref a] H1 Q (E σ)
theorem pe_methE0 {X : Cx} {CX : CXT} {k : Nat} {C f : Addr} {m : Str} {fd : FuncData} {ps : List Str} {sp : Sp} {E : L2.St → XK} {apos pos : Pos} {o : Expr} {ta : TE} {pl : Sem Bool}
    (he : PE X o ta) (c : Cls X.K C) (hm : Meth X.K C m f) (F : FnOk X.prog X.w X.K X.mg X.base CX k f fd ps sp) (hr : Room k X.A) (hb : Binds X.K fd ps []) (hx : ∀ σ, PassesAt CX X σ (E σ))
    (ht : eval (.Call (.Attribute o m apos) [] [] pos) X.env = (do
      let ov ← eval o X.env
      standAt apos.atName
      let (f, first) ← holding [ov] (getMethod ov m pl)
      callWith pos f first (backTo pos (starEach [] X.env)) (backToKw pos (keywordEach [] X.env))) := by rfl) :
    PE X (.Call (.Attribute o m apos) [] [] pos) (tMethE0 C m sp E ta) := by
  refine ⟨fun pins s σ H Q I h => ?_⟩
  refine PySem.W.methodCall_KW (pl := pl) (thn (he.run pins s σ H _ I h) fun u s1 ⟨x, H1, I1, rx, a, dx, fs, ex, ea, l, q⟩ => ?_) ht
  subst ex
  obtain rfl : u = Value.ref a := rx
  refine getmeth_ok I1 ea c hm l ?_
  exact PySem.W.callWith_K0 (first := [.ref a]) I1.kIn hm.kp (run_fnS (us := [.ref a]) (vs := [.ref a]) F hr hb (hx σ) I1 (.cons rfl .nil) q)
theorem run_fnNS {X : Cx} {CX : CXT} {k n : Nat} {f : Addr} {fd : FuncData} {ps ks : List Str} {sp : Sp} {E : L2.St → XK} {g : List Value → List Value → List Value} {gV : List V → List V → List V} {pins : List (Addr × Obj)} {σ : L2.St} {H : Hp} {s : Shared} {Q : VK} {us ws : List Value} {vs zs : List V}
    (F : FnOk X.prog X.w X.K X.mg X.base CX k f fd ps sp) (hr : Room k X.A) (hb : KBn X.K fd ps n ks g gV) (hx : PassesAt CX X σ (E σ))
    (I : Inv X pins σ H s) (r : Vals vs us) (rz : Vals zs ws) (l1 : vs.length = n) (l2 : zs.length = ks.length) (h : sp (gV vs zs) H Q (E σ)) : wpAny (model X.prog X.w) X.A (call (.ref f) us (ks.zip ws)) (EP X pins σ Q) X.xe s := by
  have r2 := hb.rel r rz
  refine wpAny_call (codeAny_mono (F.run X.A X.stack s H ⟨us, ks.zip ws⟩ (g us ws) (gV vs zs) Q (E σ) hr I.env0 (hb.to s us ws I.kIn (r.length.symm.trans l1) (rz.length.symm.trans l2)) r2 h) fun r s' hq => ?_)
  cases r with
  | error e => exact hx pins H s e s' I hq
  | ok fl =>
    cases fl with
    | ret u => exact I.after hq
    | next => exact False.elim hq
    | brk => exact False.elim hq
    | cont => exact False.elim hq
def tMethKE (C : Addr) (m : Str) (n mm : Nat) (sp : Sp) (gV : List V → List V → List V) (E : L2.St → XK) (ta : TE) (t tk : TA) : TE := fun σ H Q => ta σ H fun x H1 => ∃ a dx fs, x = .ref a ∧ H1 a = some (.ins C dx fs) ∧ fs.lookup m = none ∧
  t σ H1 fun vs H2 => tk σ H2 fun zs H3 => (V.ref a :: vs).length = n ∧ zs.length = mm ∧ sp (gV (.ref a :: vs) zs) H3 Q (E σ)
theorem pe_methKE {X : Cx} {CX : CXT} {k n : Nat} {C f : Addr} {m : Str} {fd : FuncData} {ps ks : List Str} {sp : Sp} {E : L2.St → XK} {apos pos : Pos} {o e : Expr} {es : List Expr} {kws : List Keyword} {ta : TE} {t tk : TA} {g : List Value → List Value → List Value} {gV : List V → List V → List V} {pl : Sem Bool}
    (he : PE X o ta) (c : Cls X.K C) (hm : Meth X.K C m f) (F : FnOk X.prog X.w X.K X.mg X.base CX k f fd ps sp) (hr : Room k X.A) (hb : KBn X.K fd ps n ks g gV) (hx : ∀ σ, PassesAt CX X σ (E σ)) (ha : PA X (e :: es) t) (hkw : PK X kws tk)
    (hall : (backToKw pos (keywordEach kws X.env)).all (·.1.isSome) = true := by rfl) (hks : (backToKw pos (keywordEach kws X.env)).filterMap (·.1) = ks := by rfl)
    (hst : starEach (e :: es) X.env = (false, eval e X.env) :: starEach es X.env := by rfl)
    (hpl : ((backTo pos (starEach (e :: es) X.env)).any (·.1) || (backToKw pos (keywordEach kws X.env)).any (·.1.isNone)) = false := by rfl)
    (ht : eval (.Call (.Attribute o m apos) (e :: es) kws pos) X.env = (do
      let ov ← eval o X.env
      standAt apos.atName
      let (f, first) ← holding [ov] (getMethod ov m pl)
      callWith pos f first (backTo pos (starEach (e :: es) X.env)) (backToKw pos (keywordEach kws X.env))) := by rfl) :
    PE X (.Call (.Attribute o m apos) (e :: es) kws pos) (tMethKE C m n ks.length sp gV E ta t tk) := by
  refine ⟨fun pins s σ H Q I h => ?_⟩
  refine PySem.W.methodCall_KW (pl := pl) (thn (he.run pins s σ H _ I h) fun u s1 ⟨x, H1, I1, rx, a, dx, fs, ex, ea, l, q⟩ => ?_) ht
  subst ex
  obtain rfl : u = Value.ref a := rx
  refine getmeth_ok I1 ea c hm l ?_
  refine PySem.W.callWith_KW (first := [.ref a]) (h₀ := X.base) I.ok.mod.kin hm.kp hall (thn (ha.run pos pins s1 σ H1 _ I1 q) fun us s2 ⟨vs, H2, I2, r, q2⟩ => ?_) hpl hst
  refine thn (hkw.run pos pins s2 σ H2 _ I2 q2) fun ws s3 ⟨zs, H3, I3, rz, l1, l2, q3⟩ => ⟨I3.kIn, ?_⟩
  rw [hks]
  exact run_fnNS (us := .ref a :: us) (vs := .ref a :: vs) F hr hb (hx σ) I3 (.cons rfl r) rz l1 l2 q3
/-! ### how deeds come out -/
inductive Out
  | ref (i : Nat)
  | ok (es : Ents)
def numD : PyData → Int
  | .tuple [.str _, .int n, .str _] => n
  | _ => 0
def txtD : PyData → Str
  | .tuple [.str _, .int _, .str z] => z
  | _ => ""
theorem numD_file {n : Int} {z : Str} : numD (fileD n z) = n := rfl
theorem txtD_file {n : Int} {z : Str} : txtD (fileD n z) = z := rfl
theorem drD_drawer : drawerB drD = true := by decide +kernel
def makeO (es : Ents) : Option (List Str) → Out
  | none => .ref 0
  | some p => if p = [] then .ref 7 else if drawerAt es p.dropLast = false then .ref 9 else if (valE es p).isSome = true then .ref 11 else if 80 ≤ es.length then .ref 15 else .ok (plainE (es ++ [(p, drD)]))
def writeO (es : Ents) : Option (List Str) → Option Str → Out
  | none, _ => .ref 0
  | some _, none => .ref 1
  | some p, some x => if p = [] then .ref 7 else if drawerAt es p.dropLast = false then .ref 9 else match valE es p with
    | some d => if drawerB d = true then .ref 10 else .ok (giveE es (numD d) x)
    | none => if 80 ≤ es.length then .ref 15 else .ok (plainE (es ++ [(p, fileD (es.length : Nat) x)]))
def addO (es : Ents) : Option (List Str) → Option Str → Out
  | none, _ => .ref 0
  | some _, none => .ref 1
  | some p, some x => match valE es p with
    | none => .ref 8
    | some d => if drawerB d = true then .ref 10 else if 40 < (txtD d).length + x.length then .ref 14 else .ok (giveE es (numD d) (txtD d ++ x))
def removeO (es : Ents) : Option (List Str) → Out
  | none => .ref 0
  | some p => if p = [] then .ref 7 else if (valE es p).isSome = false then .ref 8 else if (es.any fun e => withinB e.1 p) = true then .ref 12 else .ok (plainE (awayE es p))
def clearO (es : Ents) : Option (List Str) → Out
  | none => .ref 0
  | some p => if p = [] then .ref 7 else if (valE es p).isSome = false then .ref 8 else .ok (plainE (awayE es p))
def moveO (es : Ents) : Option (List Str) → Option (List Str) → Out
  | none, _ => .ref 0
  | some _, none => .ref 0
  | some old, some new => if old = [] then .ref 7 else if new = [] then .ref 7 else if (valE es old).isSome = false then .ref 8 else if withinB new old = true then .ref 13 else
    if drawerAt es new.dropLast = false then .ref 9 else if (valE es new).isSome = true then .ref 11 else if (es.any fun e => decide (5 < (movedP e.1 old new).length)) = true then .ref 14 else .ok (plainE (movedE es old new))
def tieO (es : Ents) : Option (List Str) → Option (List Str) → Out
  | none, _ => .ref 0
  | some _, none => .ref 0
  | some old, some new => match valE es old with
    | none => .ref 8
    | some d => if drawerB d = true then .ref 10 else if new ≠ [] ∧ drawerAt es new.dropLast = false then .ref 9 else if (valE es new).isSome = true then .ref 11 else if 80 ≤ es.length then .ref 15 else .ok (plainE (es ++ [(new, d)]))
def doO (es : Ents) (nm : Str) (op oq : Option (List Str)) (ox : Option Str) : Out :=
  if nm = "make" then makeO es op else if nm = "write" then writeO es op ox else if nm = "add" then addO es op ox else if nm = "remove" then removeO es op else if nm = "clear" then clearO es op else if nm = "move" then moveO es op oq else tieO es op oq
/-- what stands for a path, for a text -/
def PArg (K : PySem.W.Frag) (H : Hp) (v : V) (op : Option (List Str)) : Prop := (PathB K H v false ∧ op = none) ∨ ∃ a p, v = .ref a ∧ PathX H a p ∧ goodPath p = true ∧ op = some p
def TArg (u : V) (ox : Option Str) : Prop := (isTextV u = false ∧ ox = none) ∨ ∃ x, u = .str x ∧ textB x = true ∧ ox = some x
theorem PArg.ex {K : PySem.W.Frag} {H H' : Hp} {v : V} {op : Option (List Str)} (x : Ex H H') (h : PArg K H v op) : PArg K H' v op := by
  rcases h with ⟨h, e⟩ | ⟨a, p, e, h, g, e2⟩
  · exact Or.inl ⟨h.ex x, e⟩
  · exact Or.inr ⟨a, p, e, PathX.ex x h, g, e2⟩
/-- how a method ends, by its outcome -/
def OutR (cls : Nat → Addr) (K : PySem.W.Frag) (C h d : Addr) (H : Hp) (Q : VK) (E : XK) : Out → Prop
  | .ref i => Refused H E (cls i)
  | .ok es' => ∀ H' d', Fr h d H H' → (d' = d ∨ H d' = none) → HsAt K C H' h d' es' → Q .non H'
theorem OutR.of {cls : Nat → Addr} {K : PySem.W.Frag} {C h d : Addr} {H : Hp} {Q : VK} {E : XK} {o o' : Out} (q : OutR cls K C h d H Q E o) (e : o = o') : OutR cls K C h d H Q E o' := e ▸ q
section
variable {K : PySem.W.Frag} {C h d P1 P2 P3 P9 : Addr} {H : Hp} {Q : VK} {E : XK} {es : Ents} {v u : V} {op oq : Option (List Str)} {ox : Option Str} {cls : Nat → Addr}
def clsOf (C0 C1 C2 C3 C4 C5 C6 C7 C8 C9 C10 C11 C12 C13 C14 C15 C16 : Addr) : Nat → Addr
  | 0 => C0
  | 1 => C1
  | 2 => C2
  | 3 => C3
  | 4 => C4
  | 5 => C5
  | 6 => C6
  | 7 => C7
  | 8 => C8
  | 9 => C9
  | 10 => C10
  | 11 => C11
  | 12 => C12
  | 13 => C13
  | 14 => C14
  | 15 => C15
  | _ => C16
def errP (cls : Nat → Addr) : ErrsP := ⟨cls 0, cls 7, cls 9, cls 11, cls 15⟩
def errC (cls : Nat → Addr) : ErrsC := ⟨cls 0, cls 7, cls 8, cls 12⟩
def errT (cls : Nat → Addr) : ErrsT := ⟨cls 0, cls 8, cls 10, cls 9, cls 11, cls 15⟩
def errW (cls : Nat → Addr) : ErrsW := ⟨cls 0, cls 1, cls 7, cls 8, cls 9, cls 10, cls 15, cls 14⟩
def errM (cls : Nat → Addr) : Errs := ⟨cls 0, cls 7, cls 8, cls 9, cls 11, cls 13, cls 14⟩
theorem make_sp (g : HsAt K C H h d es) (t1 : TabG H P1) (t2 : TabG H P2) (hv : PArg K H v op) (o : OutR cls K C h d H Q E (makeO es op)) : spMakeM K C P1 P2 (errP cls) [.ref h, v] H Q E := by
  refine ⟨h, d, es, v, rfl, g, t1, t2, ?_⟩
  rcases hv with ⟨pb, rfl⟩ | ⟨a, p, rfl, pa, gp, rfl⟩
  · exact Or.inl ⟨pb, o⟩
  · refine Or.inr ⟨a, p, rfl, pa, gp, fun e => ?_, fun hne => ⟨fun e => ?_, fun e => ⟨fun e2 => ?_, fun e2 => ⟨fun e3 => ?_, fun e3 H' d' fr hn g' => ?_⟩⟩⟩⟩
    · exact o.of (o' := .ref 7) (by simp [makeO, e])
    · exact o.of (o' := .ref 9) (by simp [makeO, hne, e])
    · exact o.of (o' := .ref 11) (by simp [makeO, hne, e, e2])
    · exact o.of (o' := .ref 15) (by simp [makeO, hne, e, e2, e3])
    · exact o.of (o' := .ok (plainE (es ++ [(p, drD)]))) (by simp [makeO, hne, e, e2, Nat.not_le.mpr e3]) H' d' fr (Or.inr hn) g'
theorem clear_sp (g : HsAt K C H h d es) (t1 : TabG H P1) (t2 : TabG H P2) (hv : PArg K H v op) (o : OutR cls K C h d H Q E (clearO es op)) : spClearM K C P1 P2 (errC cls) [.ref h, v] H Q E := by
  refine ⟨h, d, es, v, rfl, g, t1, t2, ?_⟩
  rcases hv with ⟨pb, rfl⟩ | ⟨a, p, rfl, pa, gp, rfl⟩
  · exact Or.inl ⟨pb, o⟩
  · refine Or.inr ⟨a, p, rfl, pa, gp, fun e => ?_, fun hne => ⟨fun e => ?_, fun e H' d' fr hn g' => ?_⟩⟩
    · exact o.of (o' := .ref 7) (by simp [clearO, e])
    · exact o.of (o' := .ref 8) (by simp [clearO, hne, e])
    · exact o.of (o' := .ok (plainE (awayE es p))) (by simp [clearO, hne, Option.isSome_iff_ne_none.mp e]) H' d' fr (Or.inr hn) g'
theorem remove_sp (g : HsAt K C H h d es) (t1 : TabG H P1) (t2 : TabG H P2) (t9 : TabG H P9) (hv : PArg K H v op) (o : OutR cls K C h d H Q E (removeO es op)) : spRemoveM K C P1 P2 P9 (errC cls) [.ref h, v] H Q E := by
  refine ⟨h, d, es, v, rfl, g, t1, t2, t9, ?_⟩
  rcases hv with ⟨pb, rfl⟩ | ⟨a, p, rfl, pa, gp, rfl⟩
  · exact Or.inl ⟨pb, o⟩
  · refine Or.inr ⟨a, p, rfl, pa, gp, fun e => ?_, fun hne => ⟨fun e => ?_, fun e => ⟨fun e2 => ?_, fun e2 H' d' fr hn g' => ?_⟩⟩⟩
    · exact o.of (o' := .ref 7) (by simp [removeO, e])
    · exact o.of (o' := .ref 8) (by simp [removeO, hne, e])
    · refine o.of (o' := .ref 12) ?_
      show (if p = [] then Out.ref 7 else if (valE es p).isSome = false then .ref 8 else if (es.any fun e => withinB e.1 p) = true then .ref 12 else .ok (plainE (awayE es p))) = _
      rw [if_neg hne, if_neg (by rw [e]; decide), if_pos e2]
    · refine o.of (o' := .ok (plainE (awayE es p))) ?_ H' d' fr (Or.inr hn) g'
      show (if p = [] then Out.ref 7 else if (valE es p).isSome = false then .ref 8 else if (es.any fun e => withinB e.1 p) = true then .ref 12 else .ok (plainE (awayE es p))) = _
      rw [if_neg hne, if_neg (by rw [e]; decide), if_neg (by rw [e2]; decide)]
theorem move_sp (g : HsAt K C H h d es) (t1 : TabG H P1) (t2 : TabG H P2) (t9 : TabG H P9) (hv : PArg K H v op) (hu : PArg K H u oq) (o : OutR cls K C h d H Q E (moveO es op oq)) : spMoveM K C P1 P2 P9 (errM cls) [.ref h, v, u] H Q E := by
  refine ⟨h, d, es, v, u, rfl, g, t1, t2, t9, ?_⟩
  rcases hv with ⟨pb, rfl⟩ | ⟨a, old, rfl, pa, go, rfl⟩
  · exact Or.inl ⟨pb, o⟩
  refine Or.inr ⟨a, old, rfl, pa, go, ?_⟩
  rcases hu with ⟨pb, rfl⟩ | ⟨b, new, rfl, pb, gn, rfl⟩
  · exact Or.inl ⟨pb, o⟩
  have un : moveO es (some old) (some new) = (if old = [] then .ref 7 else if new = [] then .ref 7 else if (valE es old).isSome = false then .ref 8 else if withinB new old = true then .ref 13 else
    if drawerAt es new.dropLast = false then .ref 9 else if (valE es new).isSome = true then .ref 11 else if (es.any fun e => decide (5 < (movedP e.1 old new).length)) = true then .ref 14 else .ok (plainE (movedE es old new))) := rfl
  refine Or.inr ⟨b, new, rfl, pb, gn, fun c hc => ?_, fun M H' d' fr hn g' => ?_⟩
  · generalize ec : some c = oc at hc
    have no : ∀ {x : Addr}, some c = some x → Refused H E x → Refused H E c := fun e r => by rw [Option.some.inj e]; exact r
    cases hc with
    | root1 h1 => exact no ec (o.of (o' := .ref 7) (by rw [un, if_pos h1]))
    | root2 h1 h2 => exact no ec (o.of (o' := .ref 7) (by rw [un, if_neg h1, if_pos h2]))
    | there h1 h2 h3 => exact no ec (o.of (o' := .ref 8) (by rw [un, if_neg h1, if_neg h2, if_pos (by rw [h3]; rfl)]))
    | within h1 h2 h3 h4 => exact no ec (o.of (o' := .ref 13) (by rw [un, if_neg h1, if_neg h2, if_neg (by rw [h3]; decide), if_pos h4]))
    | drawer h1 h2 h3 h4 h5 => exact no ec (o.of (o' := .ref 9) (by rw [un, if_neg h1, if_neg h2, if_neg (by rw [h3]; decide), if_neg (by rw [h4]; decide), if_pos h5]))
    | taken h1 h2 h3 h4 h5 h6 => exact no ec (o.of (o' := .ref 11) (by rw [un, if_neg h1, if_neg h2, if_neg (by rw [h3]; decide), if_neg (by rw [h4]; decide), if_neg (by rw [h5]; decide), if_pos h6]))
    | long h1 h3 h4 h5 h6 h7 =>
      obtain ⟨e, he, h8⟩ := h7
      have h2 : new ≠ [] := fun z => by
        rw [z] at h5 h6
        have := drawer_some h5
        rw [show ([] : List Str).dropLast = [] from rfl, h6] at this
        cases this
      exact no ec (o.of (o' := .ref 14) (by rw [un, if_neg h1, if_neg h2, if_neg (by rw [h3]; decide), if_neg (by rw [h4]; decide), if_neg (by rw [h5]; decide), if_neg (by rw [h6]; decide), if_pos (List.any_eq_true.mpr ⟨e, he, decide_eq_true h8⟩)]))
    | done M => cases ec
  · have h2 := M.newne g.tree
    have h4 : withinB new old = false := by
      unfold withinB
      rw [M.out, Bool.and_false]
    have h7 : (es.any fun e => decide (5 < (movedP e.1 old new).length)) = false := List.any_eq_false.mpr fun e he => by
      have := M.five e he
      rw [decide_eq_false (by omega)]
      decide
    exact o.of (o' := .ok (plainE (movedE es old new))) (by rw [un, if_neg M.ne, if_neg h2, if_neg (by rw [M.there]; decide), if_neg (by rw [h4]; decide), if_neg (by rw [M.roof]; decide), if_neg (by rw [M.free]; decide), if_neg (by rw [h7]; decide)]) H' d' fr (Or.inr hn) g'
theorem tie_sp (g : HsAt K C H h d es) (t1 : TabG H P1) (t2 : TabG H P2) (hv : PArg K H v op) (hu : PArg K H u oq) (o : OutR cls K C h d H Q E (tieO es op oq)) : spTieM K C P1 P2 (errT cls) [.ref h, v, u] H Q E := by
  refine ⟨h, d, es, v, u, rfl, g, t1, t2, ?_⟩
  rcases hv with ⟨pb, rfl⟩ | ⟨a, old, rfl, pa, go, rfl⟩
  · exact Or.inl ⟨pb, o⟩
  refine Or.inr ⟨a, old, rfl, pa, go, ?_⟩
  rcases hu with ⟨pb, rfl⟩ | ⟨b, new, rfl, pb, gn, rfl⟩
  · exact Or.inl ⟨pb, o⟩
  have un : tieO es (some old) (some new) = (match valE es old with
    | none => .ref 8
    | some d => if drawerB d = true then .ref 10 else if new ≠ [] ∧ drawerAt es new.dropLast = false then .ref 9 else if (valE es new).isSome = true then .ref 11 else if 80 ≤ es.length then .ref 15 else .ok (plainE (es ++ [(new, d)]))) := rfl
  refine Or.inr ⟨b, new, rfl, pb, gn, fun e => ?_, fun e => ?_, fun n z e => ⟨fun e1 => ?_, fun e1 => ⟨fun e2 => ?_, fun e2 => ⟨fun e3 => ?_, fun e3 H' d' fr hn g' => ?_⟩⟩⟩⟩
  · exact o.of (o' := .ref 8) (by rw [un, e])
  · exact o.of (o' := .ref 10) (by rw [un, e]; exact if_pos drD_drawer)
  all_goals rw [un, e] at o
  all_goals have o : OutR cls K C h d H Q E (if new ≠ [] ∧ drawerAt es new.dropLast = false then .ref 9 else if (valE es new).isSome = true then .ref 11 else if 80 ≤ es.length then .ref 15 else .ok (plainE (es ++ [(new, fileD n z)]))) := o
  · rw [if_pos e1] at o; exact o
  all_goals rw [if_neg (show ¬ (new ≠ [] ∧ drawerAt es new.dropLast = false) from fun h => by
    rcases e1 with e1 | e1
    · exact h.1 e1
    · rw [h.2] at e1; cases e1)] at o
  · rw [if_pos e2] at o; exact o
  all_goals rw [if_neg (show ¬ (valE es new).isSome = true by rw [e2]; decide)] at o
  · rw [if_pos e3] at o; exact o
  · rw [if_neg (by omega)] at o
    exact o H' d' fr (Or.inr hn) g'
theorem write_sp (g : HsAt K C H h d es) (pl : PlainN es) (t1 : TabG H P1) (t2 : TabG H P2) (t3 : TabG H P3) (ak : Asked K H u) (hv : PArg K H v op) (hu : TArg u ox) (o : OutR cls K C h d H Q E (writeO es op ox)) : spWriteM K C P1 P2 P3 (errW cls) [.ref h, v, u] H Q E := by
  refine ⟨h, d, es, v, u, rfl, g, pl, t1, t2, t3, ak, ?_⟩
  rcases hv with ⟨pb, rfl⟩ | ⟨a, p, rfl, pa, gp, rfl⟩
  · exact Or.inl ⟨pb, o⟩
  refine Or.inr ⟨a, p, rfl, pa, gp, ?_⟩
  rcases hu with ⟨tb, rfl⟩ | ⟨x, rfl, tx, rfl⟩
  · exact ⟨fun _ => o, fun x e ht => by rw [e] at tb; rw [show isTextV (.str x) = true from ht] at tb; cases tb⟩
  refine ⟨fun e => (by rw [show isTextV (.str x) = true from tx] at e; cases e), fun x' e ht => ?_⟩
  cases e
  have un : writeO es (some p) (some x) = (if p = [] then .ref 7 else if drawerAt es p.dropLast = false then .ref 9 else match valE es p with
    | some d => if drawerB d = true then .ref 10 else .ok (giveE es (numD d) x)
    | none => if 80 ≤ es.length then .ref 15 else .ok (plainE (es ++ [(p, fileD (es.length : Nat) x)]))) := rfl
  rw [un] at o
  refine ⟨fun e => ?_, fun hne => ⟨fun e => ?_, fun e => ⟨fun e2 => ?_, fun n z e2 H' fr g' => ?_, fun e2 => ⟨fun e3 => ?_, fun e3 H' d' fr hn g' => ?_⟩⟩⟩⟩
  · rw [if_pos e] at o; exact o
  all_goals rw [if_neg hne] at o
  · rw [if_pos e] at o; exact o
  all_goals rw [if_neg (by rw [e]; decide), e2] at o
  · have o : OutR cls K C h d H Q E (if drawerB drD = true then .ref 10 else .ok (giveE es (numD drD) x)) := o
    rw [if_pos drD_drawer] at o; exact o
  · exact (show OutR cls K C h d H Q E (.ok (giveE es n x)) from o) H' d fr (Or.inl rfl) g'
  · have o : OutR cls K C h d H Q E (if 80 ≤ es.length then .ref 15 else .ok (plainE (es ++ [(p, fileD (es.length : Nat) x)]))) := o
    rw [if_pos e3] at o; exact o
  · have o : OutR cls K C h d H Q E (if 80 ≤ es.length then .ref 15 else .ok (plainE (es ++ [(p, fileD (es.length : Nat) x)]))) := o
    rw [if_neg (by omega)] at o
    exact o H' d' fr (Or.inr hn) g'
theorem add_sp (g : HsAt K C H h d es) (t1 : TabG H P1) (t2 : TabG H P2) (t3 : TabG H P3) (ak : Asked K H u) (hv : PArg K H v op) (hu : TArg u ox) (o : OutR cls K C h d H Q E (addO es op ox)) : spAddM K C P1 P2 P3 (errW cls) [.ref h, v, u] H Q E := by
  refine ⟨h, d, es, v, u, rfl, g, t1, t2, t3, ak, ?_⟩
  rcases hv with ⟨pb, rfl⟩ | ⟨a, p, rfl, pa, gp, rfl⟩
  · exact Or.inl ⟨pb, o⟩
  refine Or.inr ⟨a, p, rfl, pa, gp, ?_⟩
  rcases hu with ⟨tb, rfl⟩ | ⟨x, rfl, tx, rfl⟩
  · exact ⟨fun _ => o, fun x e ht => by rw [e] at tb; rw [show isTextV (.str x) = true from ht] at tb; cases tb⟩
  refine ⟨fun e => (by rw [show isTextV (.str x) = true from tx] at e; cases e), fun x' e ht => ?_⟩
  cases e
  have un : addO es (some p) (some x) = (match valE es p with
    | none => .ref 8
    | some d => if drawerB d = true then .ref 10 else if 40 < (txtD d).length + x.length then .ref 14 else .ok (giveE es (numD d) (txtD d ++ x))) := rfl
  rw [un] at o
  refine ⟨fun e => ?_, fun e => ?_, fun n z e => ⟨fun e3 => ?_, fun e3 H' fr g' => ?_⟩⟩
  all_goals rw [e] at o
  · exact o
  · have o : OutR cls K C h d H Q E (if drawerB drD = true then .ref 10 else if 40 < (txtD drD).length + x.length then .ref 14 else .ok (giveE es (numD drD) (txtD drD ++ x))) := o
    rw [if_pos drD_drawer] at o; exact o
  · have o : OutR cls K C h d H Q E (if 40 < z.length + x.length then .ref 14 else .ok (giveE es n (z ++ x))) := o
    rw [if_pos e3] at o; exact o
  · have o : OutR cls K C h d H Q E (if 40 < z.length + x.length then .ref 14 else .ok (giveE es n (z ++ x))) := o
    rw [if_neg (by omega)] at o
    exact o H' d fr (Or.inl rfl) g'
end
/-! ### which refusal it is -/
def refusals : List Str := ["NoPath", "NoText", "NoTree", "NoLayer", "NoStack", "NoHandle", "NoPower", "Root", "NotThere", "NoDrawer", "IsDrawer", "Taken", "NotEmpty", "Within", "TooLong", "Full", "Dark"]
/-- D is the class of the i-th refusal -/
structure Wh (K : PySem.W.Frag) (mg : Str → Option Value) (D : Addr) (i : Nat) : Prop where
  is : ExcC K D
  lt : i < 17
  kit : ∀ j x, refusals[j]? = some x → ∃ C, mg x = some (.ref C) ∧ PySem.W.kitOne K (.ref D) (.ref C) = some (decide (j = i))
  val : PySem.W.kitOne K (.ref D) (.type "ValueError") = some true
/-- what a refusal comes to: a pair of a word and a number -/
def RefAt (K : PySem.W.Frag) (H : Hp) (r : Addr) (i : Int) : Prop := SqT K H r [.str "refused", .int i]
def spWhich (K : PySem.W.Frag) (mg : Str → Option Value) : SpE := fun a c d vs H Q _ => ∃ D i, c = .ref D ∧ d = none ∧ vs = [.ref a] ∧ Wh K mg D i ∧
  ∀ H' r, Ex H H' → RefAt K H' r i → Q (.ref r) H'
/-- one question of the row -/
theorem isE_cons {K : PySem.W.Frag} {D a C : Addr} {b : Bool} {t : TA} {σ : L2.St} {H : Hp} {Q : List V → Hp → Prop} (h0 : σ[0]? = some (some (.ref a)))
    (e : PySem.W.kitOne K (.ref D) (.ref C) = some b) (h : t σ H fun vs G => Q (.bl b :: vs) G) :
    tCons (tCB (rIsE K D a) (tCons (tVar 0) (tCons (tC (V.ref C)) tNil))) t σ H Q := ⟨_, h0, .ref C, .ref C, b, rfl, fun _ z => z, e, h⟩
def truths (n i : Nat) : List V := (List.range n).map fun j => V.bl (decide (j = i))
theorem truths_flat (n i : Nat) : (truths n i).all flatV = true := by
  rw [List.all_eq_true]
  intro x hx
  obtain ⟨j, _, rfl⟩ := List.mem_map.mp hx
  rfl
theorem truths_get {n i j : Nat} (h : j < n) : (truths n i)[j]? = some (.bl (decide (j = i))) := by
  unfold truths
  rw [List.getElem?_map, List.getElem?_range h]
  rfl
theorem truths_count : ∀ i, i < 17 → (truths 17 i).countP (fun z => eqV z (.bl true)) = 1 := by decide +kernel
section
variable {P : Program} {w : World} {K : PySem.W.Frag} {mg : Str → Option Value} {base : Heap}
theorem scWhich : FnScope ["_law_e", "_law_own"] ["_law_e"] (defScope sWhich) := ⟨rfl, rfl, rfl, by decide +kernel, rfl, by decide +kernel, by decide +kernel⟩
theorem ok_which {f : Addr} {fd : FuncData} (F : Fun K "_law_which" "_law_which" sWhich f fd) (mI : mg "isinstance" = none) (mV : mg "ValueError" = none) : FnE P w K mg base CX0 1 f fd ["_law_e"] (spWhich K mg) := by
  refine okE F scWhich (fun a c d vs H Q E h => ?_) (fun cdv A outer s H vs Q E a oe c d hc hr h => ?_)
  · obtain ⟨D, i, _, _, rfl, _⟩ := h
    rfl
  · obtain ⟨D, i, rfl, rfl, rfl, W, k⟩ := h
    obtain ⟨C0, g0, e0⟩ := W.kit 0 "NoPath" rfl
    obtain ⟨C1, g1, e1⟩ := W.kit 1 "NoText" rfl
    obtain ⟨C2, g2, e2⟩ := W.kit 2 "NoTree" rfl
    obtain ⟨C3, g3, e3⟩ := W.kit 3 "NoLayer" rfl
    obtain ⟨C4, g4, e4⟩ := W.kit 4 "NoStack" rfl
    obtain ⟨C5, g5, e5⟩ := W.kit 5 "NoHandle" rfl
    obtain ⟨C6, g6, e6⟩ := W.kit 6 "NoPower" rfl
    obtain ⟨C7, g7, e7⟩ := W.kit 7 "Root" rfl
    obtain ⟨C8, g8, e8⟩ := W.kit 8 "NotThere" rfl
    obtain ⟨C9, g9, e9⟩ := W.kit 9 "NoDrawer" rfl
    obtain ⟨C10, g10, e10⟩ := W.kit 10 "IsDrawer" rfl
    obtain ⟨C11, g11, e11⟩ := W.kit 11 "Taken" rfl
    obtain ⟨C12, g12, e12⟩ := W.kit 12 "NotEmpty" rfl
    obtain ⟨C13, g13, e13⟩ := W.kit 13 "Within" rfl
    obtain ⟨C14, g14, e14⟩ := W.kit 14 "TooLong" rfl
    obtain ⟨C15, g15, e15⟩ := W.kit 15 "Full" rfl
    obtain ⟨C16, g16, e16⟩ := W.kit 16 "Dark" rfl
    have call := call_isP (X := cxH CX0 P w K mg base ["_law_e", "_law_own"] "_law_which" (defScope sWhich) f cdv A outer s H E (a, oe)) (a := a) (oe := oe) W.is hc (List.mem_singleton.mpr rfl)
    refine ⟨_, pss_cons (ps_set (i := 1) scWhich.nd rfl (Or.inl rfl) (pe_lst (pa_cons (pe_callB call (by rfl) mI boot_isinstance (pa_cons (pv 0) (pa_cons (pe_glob (v := .ref C0) (by rfl) g0 rfl) pa_nil))) (pa_cons (pe_callB call (by rfl) mI boot_isinstance (pa_cons (pv 0) (pa_cons (pe_glob (v := .ref C1) (by rfl) g1 rfl) pa_nil))) (pa_cons (pe_callB call (by rfl) mI boot_isinstance (pa_cons (pv 0) (pa_cons (pe_glob (v := .ref C2) (by rfl) g2 rfl) pa_nil))) (pa_cons (pe_callB call (by rfl) mI boot_isinstance (pa_cons (pv 0) (pa_cons (pe_glob (v := .ref C3) (by rfl) g3 rfl) pa_nil))) pa_nil))))))
      (pss_cons (ps_expr (pe_bm PySem.F.plainAttrs_list PySem.F.slot_list_extend PySem.F.type_list_extend mt_extend (pv 1) (pa_cons (pe_lst (pa_cons (pe_callB call (by rfl) mI boot_isinstance (pa_cons (pv 0) (pa_cons (pe_glob (v := .ref C4) (by rfl) g4 rfl) pa_nil))) (pa_cons (pe_callB call (by rfl) mI boot_isinstance (pa_cons (pv 0) (pa_cons (pe_glob (v := .ref C5) (by rfl) g5 rfl) pa_nil))) (pa_cons (pe_callB call (by rfl) mI boot_isinstance (pa_cons (pv 0) (pa_cons (pe_glob (v := .ref C6) (by rfl) g6 rfl) pa_nil))) (pa_cons (pe_callB call (by rfl) mI boot_isinstance (pa_cons (pv 0) (pa_cons (pe_glob (v := .ref C7) (by rfl) g7 rfl) pa_nil))) pa_nil))))) pa_nil)))
      (pss_cons (ps_expr (pe_bm PySem.F.plainAttrs_list PySem.F.slot_list_extend PySem.F.type_list_extend mt_extend (pv 1) (pa_cons (pe_lst (pa_cons (pe_callB call (by rfl) mI boot_isinstance (pa_cons (pv 0) (pa_cons (pe_glob (v := .ref C8) (by rfl) g8 rfl) pa_nil))) (pa_cons (pe_callB call (by rfl) mI boot_isinstance (pa_cons (pv 0) (pa_cons (pe_glob (v := .ref C9) (by rfl) g9 rfl) pa_nil))) (pa_cons (pe_callB call (by rfl) mI boot_isinstance (pa_cons (pv 0) (pa_cons (pe_glob (v := .ref C10) (by rfl) g10 rfl) pa_nil))) (pa_cons (pe_callB call (by rfl) mI boot_isinstance (pa_cons (pv 0) (pa_cons (pe_glob (v := .ref C11) (by rfl) g11 rfl) pa_nil))) pa_nil))))) pa_nil)))
      (pss_cons (ps_expr (pe_bm PySem.F.plainAttrs_list PySem.F.slot_list_extend PySem.F.type_list_extend mt_extend (pv 1) (pa_cons (pe_lst (pa_cons (pe_callB call (by rfl) mI boot_isinstance (pa_cons (pv 0) (pa_cons (pe_glob (v := .ref C12) (by rfl) g12 rfl) pa_nil))) (pa_cons (pe_callB call (by rfl) mI boot_isinstance (pa_cons (pv 0) (pa_cons (pe_glob (v := .ref C13) (by rfl) g13 rfl) pa_nil))) (pa_cons (pe_callB call (by rfl) mI boot_isinstance (pa_cons (pv 0) (pa_cons (pe_glob (v := .ref C14) (by rfl) g14 rfl) pa_nil))) (pa_cons (pe_callB call (by rfl) mI boot_isinstance (pa_cons (pv 0) (pa_cons (pe_glob (v := .ref C15) (by rfl) g15 rfl) pa_nil))) pa_nil))))) pa_nil)))
      (pss_cons (ps_expr (pe_bm PySem.F.plainAttrs_list PySem.F.slot_list_append PySem.F.type_list_append mt_append (pv 1) (pa_cons (pe_callB call (by rfl) mI boot_isinstance (pa_cons (pv 0) (pa_cons (pe_glob (v := .ref C16) (by rfl) g16 rfl) pa_nil))) pa_nil)))
      (pss_cons (ps_if (PW.pt (pw_or (pt_cmpR op_ne (pe_bm PySem.F.plainAttrs_list PySem.F.slot_list_count PySem.F.type_list_count mt_countF (pv 1) (pa_cons pe_bl pa_nil)) pe_int (nomark _))
          (pw_or1 (pt_not (pt_val (pe_callB call (by rfl) mI boot_isinstance (pa_cons (pv 0) (pa_cons (pe_bltn (v := .ty "ValueError") (by rfl) mV (by decide +kernel) rfl) pa_nil))))))))
          (pss_one (ps_ret (pe_tup (pa_cons pe_str (pa_cons (pe_un un_neg pe_int) pa_nil))))) pss_nil)
      (pss_one (ps_ret (pe_tup (pa_cons pe_str (pa_cons (pe_bm PySem.F.plainAttrs_list PySem.F.slot_list_index PySem.F.type_list_index mt_index (pv 1) (pa_cons pe_bl pa_nil)) pa_nil)))))))))), ?_⟩
    -- READ
    refine ⟨_, rfl, .ref C0, .ref C0, _, rfl, (fun _ z => z), e0, _, rfl, .ref C1, .ref C1, _, rfl, (fun _ z => z), e1, _, rfl, .ref C2, .ref C2, _, rfl, (fun _ z => z), e2, _, rfl, .ref C3, .ref C3, _, rfl, (fun _ z => z), e3, (by show 4 ≤ sizeLine; decide), fun p hp => ?_⟩
    have x0 := Ex.new (o := .lst [V.bl (decide (0 = i)), V.bl (decide (1 = i)), V.bl (decide (2 = i)), V.bl (decide (3 = i))]) hp
    have t0 : (upd H p (.lst [V.bl (decide (0 = i)), V.bl (decide (1 = i)), V.bl (decide (2 = i)), V.bl (decide (3 = i))])) p = some (.lst [V.bl (decide (0 = i)), V.bl (decide (1 = i)), V.bl (decide (2 = i)), V.bl (decide (3 = i))]) := upd_same
    generalize upd H p (.lst [V.bl (decide (0 = i)), V.bl (decide (1 = i)), V.bl (decide (2 = i)), V.bl (decide (3 = i))]) = H0 at x0 t0 ⊢
    refine ⟨_, rfl, .inl ⟨rfl, _, SqL.of t0⟩, _, rfl, .ref C4, .ref C4, _, rfl, (fun _ z => z), e4, _, rfl, .ref C5, .ref C5, _, rfl, (fun _ z => z), e5, _, rfl, .ref C6, .ref C6, _, rfl, (fun _ z => z), e6, _, rfl, .ref C7, .ref C7, _, rfl, (fun _ z => z), e7, (by show 4 ≤ sizeLine; decide), fun q0 hq0 => ?_⟩
    have nq0 : p ≠ q0 := ne_of_none t0 hq0
    refine ⟨p, q0, [V.bl (decide (0 = i)), V.bl (decide (1 = i)), V.bl (decide (2 = i)), V.bl (decide (3 = i))], [V.bl (decide (4 = i)), V.bl (decide (5 = i)), V.bl (decide (6 = i)), V.bl (decide (7 = i))], rfl, rfl, by rw [upd_ne nq0]; exact t0, upd_same, (by show 8 ≤ sizeLine; decide), ?_⟩
    have x1 : Ex H (upd (upd H0 q0 (.lst [V.bl (decide (4 = i)), V.bl (decide (5 = i)), V.bl (decide (6 = i)), V.bl (decide (7 = i))])) p (.lst [V.bl (decide (0 = i)), V.bl (decide (1 = i)), V.bl (decide (2 = i)), V.bl (decide (3 = i)), V.bl (decide (4 = i)), V.bl (decide (5 = i)), V.bl (decide (6 = i)), V.bl (decide (7 = i))])) := (x0.trans (Ex.new hq0)).put hp
    have t1 : (upd (upd H0 q0 (.lst [V.bl (decide (4 = i)), V.bl (decide (5 = i)), V.bl (decide (6 = i)), V.bl (decide (7 = i))])) p (.lst [V.bl (decide (0 = i)), V.bl (decide (1 = i)), V.bl (decide (2 = i)), V.bl (decide (3 = i)), V.bl (decide (4 = i)), V.bl (decide (5 = i)), V.bl (decide (6 = i)), V.bl (decide (7 = i))])) p = some (.lst [V.bl (decide (0 = i)), V.bl (decide (1 = i)), V.bl (decide (2 = i)), V.bl (decide (3 = i)), V.bl (decide (4 = i)), V.bl (decide (5 = i)), V.bl (decide (6 = i)), V.bl (decide (7 = i))]) := upd_same
    show tSeq _ _ _ _ (upd (upd H0 q0 (.lst [V.bl (decide (4 = i)), V.bl (decide (5 = i)), V.bl (decide (6 = i)), V.bl (decide (7 = i))])) p (.lst [V.bl (decide (0 = i)), V.bl (decide (1 = i)), V.bl (decide (2 = i)), V.bl (decide (3 = i)), V.bl (decide (4 = i)), V.bl (decide (5 = i)), V.bl (decide (6 = i)), V.bl (decide (7 = i))]))
    generalize upd (upd H0 q0 (.lst [V.bl (decide (4 = i)), V.bl (decide (5 = i)), V.bl (decide (6 = i)), V.bl (decide (7 = i))])) p (.lst [V.bl (decide (0 = i)), V.bl (decide (1 = i)), V.bl (decide (2 = i)), V.bl (decide (3 = i)), V.bl (decide (4 = i)), V.bl (decide (5 = i)), V.bl (decide (6 = i)), V.bl (decide (7 = i))]) = H1 at x1 t1 ⊢
    refine ⟨_, rfl, .inl ⟨rfl, _, SqL.of t1⟩, _, rfl, .ref C8, .ref C8, _, rfl, (fun _ z => z), e8, _, rfl, .ref C9, .ref C9, _, rfl, (fun _ z => z), e9, _, rfl, .ref C10, .ref C10, _, rfl, (fun _ z => z), e10, _, rfl, .ref C11, .ref C11, _, rfl, (fun _ z => z), e11, (by show 4 ≤ sizeLine; decide), fun q1 hq1 => ?_⟩
    have nq1 : p ≠ q1 := ne_of_none t1 hq1
    refine ⟨p, q1, [V.bl (decide (0 = i)), V.bl (decide (1 = i)), V.bl (decide (2 = i)), V.bl (decide (3 = i)), V.bl (decide (4 = i)), V.bl (decide (5 = i)), V.bl (decide (6 = i)), V.bl (decide (7 = i))], [V.bl (decide (8 = i)), V.bl (decide (9 = i)), V.bl (decide (10 = i)), V.bl (decide (11 = i))], rfl, rfl, by rw [upd_ne nq1]; exact t1, upd_same, (by show 12 ≤ sizeLine; decide), ?_⟩
    have x2 : Ex H (upd (upd H1 q1 (.lst [V.bl (decide (8 = i)), V.bl (decide (9 = i)), V.bl (decide (10 = i)), V.bl (decide (11 = i))])) p (.lst [V.bl (decide (0 = i)), V.bl (decide (1 = i)), V.bl (decide (2 = i)), V.bl (decide (3 = i)), V.bl (decide (4 = i)), V.bl (decide (5 = i)), V.bl (decide (6 = i)), V.bl (decide (7 = i)), V.bl (decide (8 = i)), V.bl (decide (9 = i)), V.bl (decide (10 = i)), V.bl (decide (11 = i))])) := (x1.trans (Ex.new hq1)).put hp
    have t2 : (upd (upd H1 q1 (.lst [V.bl (decide (8 = i)), V.bl (decide (9 = i)), V.bl (decide (10 = i)), V.bl (decide (11 = i))])) p (.lst [V.bl (decide (0 = i)), V.bl (decide (1 = i)), V.bl (decide (2 = i)), V.bl (decide (3 = i)), V.bl (decide (4 = i)), V.bl (decide (5 = i)), V.bl (decide (6 = i)), V.bl (decide (7 = i)), V.bl (decide (8 = i)), V.bl (decide (9 = i)), V.bl (decide (10 = i)), V.bl (decide (11 = i))])) p = some (.lst [V.bl (decide (0 = i)), V.bl (decide (1 = i)), V.bl (decide (2 = i)), V.bl (decide (3 = i)), V.bl (decide (4 = i)), V.bl (decide (5 = i)), V.bl (decide (6 = i)), V.bl (decide (7 = i)), V.bl (decide (8 = i)), V.bl (decide (9 = i)), V.bl (decide (10 = i)), V.bl (decide (11 = i))]) := upd_same
    show tSeq _ _ _ _ (upd (upd H1 q1 (.lst [V.bl (decide (8 = i)), V.bl (decide (9 = i)), V.bl (decide (10 = i)), V.bl (decide (11 = i))])) p (.lst [V.bl (decide (0 = i)), V.bl (decide (1 = i)), V.bl (decide (2 = i)), V.bl (decide (3 = i)), V.bl (decide (4 = i)), V.bl (decide (5 = i)), V.bl (decide (6 = i)), V.bl (decide (7 = i)), V.bl (decide (8 = i)), V.bl (decide (9 = i)), V.bl (decide (10 = i)), V.bl (decide (11 = i))]))
    generalize upd (upd H1 q1 (.lst [V.bl (decide (8 = i)), V.bl (decide (9 = i)), V.bl (decide (10 = i)), V.bl (decide (11 = i))])) p (.lst [V.bl (decide (0 = i)), V.bl (decide (1 = i)), V.bl (decide (2 = i)), V.bl (decide (3 = i)), V.bl (decide (4 = i)), V.bl (decide (5 = i)), V.bl (decide (6 = i)), V.bl (decide (7 = i)), V.bl (decide (8 = i)), V.bl (decide (9 = i)), V.bl (decide (10 = i)), V.bl (decide (11 = i))]) = H2 at x2 t2 ⊢
    refine ⟨_, rfl, .inl ⟨rfl, _, SqL.of t2⟩, _, rfl, .ref C12, .ref C12, _, rfl, (fun _ z => z), e12, _, rfl, .ref C13, .ref C13, _, rfl, (fun _ z => z), e13, _, rfl, .ref C14, .ref C14, _, rfl, (fun _ z => z), e14, _, rfl, .ref C15, .ref C15, _, rfl, (fun _ z => z), e15, (by show 4 ≤ sizeLine; decide), fun q2 hq2 => ?_⟩
    have nq2 : p ≠ q2 := ne_of_none t2 hq2
    refine ⟨p, q2, [V.bl (decide (0 = i)), V.bl (decide (1 = i)), V.bl (decide (2 = i)), V.bl (decide (3 = i)), V.bl (decide (4 = i)), V.bl (decide (5 = i)), V.bl (decide (6 = i)), V.bl (decide (7 = i)), V.bl (decide (8 = i)), V.bl (decide (9 = i)), V.bl (decide (10 = i)), V.bl (decide (11 = i))], [V.bl (decide (12 = i)), V.bl (decide (13 = i)), V.bl (decide (14 = i)), V.bl (decide (15 = i))], rfl, rfl, by rw [upd_ne nq2]; exact t2, upd_same, (by show 16 ≤ sizeLine; decide), ?_⟩
    have x3 : Ex H (upd (upd H2 q2 (.lst [V.bl (decide (12 = i)), V.bl (decide (13 = i)), V.bl (decide (14 = i)), V.bl (decide (15 = i))])) p (.lst [V.bl (decide (0 = i)), V.bl (decide (1 = i)), V.bl (decide (2 = i)), V.bl (decide (3 = i)), V.bl (decide (4 = i)), V.bl (decide (5 = i)), V.bl (decide (6 = i)), V.bl (decide (7 = i)), V.bl (decide (8 = i)), V.bl (decide (9 = i)), V.bl (decide (10 = i)), V.bl (decide (11 = i)), V.bl (decide (12 = i)), V.bl (decide (13 = i)), V.bl (decide (14 = i)), V.bl (decide (15 = i))])) := (x2.trans (Ex.new hq2)).put hp
    have t3 : (upd (upd H2 q2 (.lst [V.bl (decide (12 = i)), V.bl (decide (13 = i)), V.bl (decide (14 = i)), V.bl (decide (15 = i))])) p (.lst [V.bl (decide (0 = i)), V.bl (decide (1 = i)), V.bl (decide (2 = i)), V.bl (decide (3 = i)), V.bl (decide (4 = i)), V.bl (decide (5 = i)), V.bl (decide (6 = i)), V.bl (decide (7 = i)), V.bl (decide (8 = i)), V.bl (decide (9 = i)), V.bl (decide (10 = i)), V.bl (decide (11 = i)), V.bl (decide (12 = i)), V.bl (decide (13 = i)), V.bl (decide (14 = i)), V.bl (decide (15 = i))])) p = some (.lst [V.bl (decide (0 = i)), V.bl (decide (1 = i)), V.bl (decide (2 = i)), V.bl (decide (3 = i)), V.bl (decide (4 = i)), V.bl (decide (5 = i)), V.bl (decide (6 = i)), V.bl (decide (7 = i)), V.bl (decide (8 = i)), V.bl (decide (9 = i)), V.bl (decide (10 = i)), V.bl (decide (11 = i)), V.bl (decide (12 = i)), V.bl (decide (13 = i)), V.bl (decide (14 = i)), V.bl (decide (15 = i))]) := upd_same
    show tSeq _ _ _ _ (upd (upd H2 q2 (.lst [V.bl (decide (12 = i)), V.bl (decide (13 = i)), V.bl (decide (14 = i)), V.bl (decide (15 = i))])) p (.lst [V.bl (decide (0 = i)), V.bl (decide (1 = i)), V.bl (decide (2 = i)), V.bl (decide (3 = i)), V.bl (decide (4 = i)), V.bl (decide (5 = i)), V.bl (decide (6 = i)), V.bl (decide (7 = i)), V.bl (decide (8 = i)), V.bl (decide (9 = i)), V.bl (decide (10 = i)), V.bl (decide (11 = i)), V.bl (decide (12 = i)), V.bl (decide (13 = i)), V.bl (decide (14 = i)), V.bl (decide (15 = i))]))
    generalize upd (upd H2 q2 (.lst [V.bl (decide (12 = i)), V.bl (decide (13 = i)), V.bl (decide (14 = i)), V.bl (decide (15 = i))])) p (.lst [V.bl (decide (0 = i)), V.bl (decide (1 = i)), V.bl (decide (2 = i)), V.bl (decide (3 = i)), V.bl (decide (4 = i)), V.bl (decide (5 = i)), V.bl (decide (6 = i)), V.bl (decide (7 = i)), V.bl (decide (8 = i)), V.bl (decide (9 = i)), V.bl (decide (10 = i)), V.bl (decide (11 = i)), V.bl (decide (12 = i)), V.bl (decide (13 = i)), V.bl (decide (14 = i)), V.bl (decide (15 = i))]) = H3 at x3 t3 ⊢
    refine ⟨_, rfl, .inl ⟨rfl, _, SqL.of t3⟩, _, rfl, .ref C16, .ref C16, _, rfl, (fun _ z => z), e16, p, [V.bl (decide (0 = i)), V.bl (decide (1 = i)), V.bl (decide (2 = i)), V.bl (decide (3 = i)), V.bl (decide (4 = i)), V.bl (decide (5 = i)), V.bl (decide (6 = i)), V.bl (decide (7 = i)), V.bl (decide (8 = i)), V.bl (decide (9 = i)), V.bl (decide (10 = i)), V.bl (decide (11 = i)), V.bl (decide (12 = i)), V.bl (decide (13 = i)), V.bl (decide (14 = i)), V.bl (decide (15 = i))], _, rfl, rfl, t3, (by show 16 < sizeLine; decide), ?_⟩
    have x4 : Ex H (upd H3 p (.lst (truths 17 i))) := x3.put hp
    have t4 : (upd H3 p (.lst (truths 17 i))) p = some (.lst (truths 17 i)) := upd_same
    show tSeq _ _ _ _ (upd H3 p (.lst (truths 17 i)))
    generalize upd H3 p (.lst (truths 17 i)) = H4 at x4 t4 ⊢
    have s4 : SqL K H4 p (truths 17 i) := SqL.of t4
    refine ⟨_, rfl, .inl ⟨rfl, _, s4⟩, p, _, _, rfl, rfl, s4, rfl, truths_flat 17 i, ?_⟩
    rw [truths_count i W.lt]
    refine ⟨rfl, _, rfl, ?_⟩
    rw [show (!decide (V.int ((1 : Nat) : Int) = V.int 1)) = false from rfl]
    refine iteF ⟨_, rfl, .ty "ValueError", .type "ValueError", true, rfl, (fun _ z => z), W.val, _, rfl, ?_⟩
    refine iteF ?_
    refine ⟨_, rfl, .inl ⟨rfl, _, s4⟩, p, truths 17 i, .bl true, i, _, rfl, rfl, s4, rfl, truths_flat 17 i, truths_get W.lt, (by rw [decide_eq_true rfl]; rfl), (fun m z hm hz => ?_), (by show 2 ≤ sizeLine; decide), fun r hr => ?_⟩
    · rw [truths_get (Nat.lt_trans hm W.lt)] at hz
      cases hz
      rw [decide_eq_false (Nat.ne_of_lt hm)]
      rfl
    · exact k _ r (x4.trans (Ex.new hr)) (SqT.of upd_same)
end
/-! ### which refusal is told -/
/-- the refusal of number i is told -/
def ToldI (K : PySem.W.Frag) (H : Hp) (Q : VK) (i : Int) : Prop := ∀ H' r, Ex H H' → RefAt K H' r i → Q (.ref r) H'
theorem PathOr.map {K : PySem.W.Frag} {H H' : Hp} {v : V} {b b' : Prop} {R R' : Addr → List Str → Prop} (x : Ex H H') (h : PathOr K H v b R) (hb : b → b') (hr : ∀ a p, R a p → R' a p) : PathOr K H' v b' R' := by
  rcases h with ⟨h1, h2⟩ | ⟨a, p, h1, h2, h3, h4⟩
  · exact Or.inl ⟨h1.ex x, hb h2⟩
  · exact Or.inr ⟨a, p, h1, h2.ex x, h3, hr a p h4⟩
/-! ### _law_do -/
structure TabsD (H : Hp) (P1 P2 P3 P9 PA : Addr) : Prop where
  t1 : TabG H P1
  t2 : TabG H P2
  t3 : TabG H P3
  t9 : TabG H P9
  ta : TabG H PA
theorem TabsD.ex {H H' : Hp} {P1 P2 P3 P9 PA : Addr} (x : Ex H H') (T : TabsD H P1 P2 P3 P9 PA) : TabsD H' P1 P2 P3 P9 PA := ⟨x.tab _ T.t1, x.tab _ T.t2, x.tab _ T.t3, x.tab _ T.t9, x.tab _ T.ta⟩
theorem TabsD.fr {h d : Addr} {H H' : Hp} {P1 P2 P3 P9 PA : Addr} (x : Fr h d H H') (T : TabsD H P1 P2 P3 P9 PA) : TabsD H' P1 P2 P3 P9 PA := ⟨x.tab _ T.t1, x.tab _ T.t2, x.tab _ T.t3, x.tab _ T.t9, x.tab _ T.ta⟩
theorem TabsD.ev {tw : Addr} {H H' : Hp} {P1 P2 P3 P9 PA : Addr} (x : Ev tw H H') (T : TabsD H P1 P2 P3 P9 PA) : TabsD H' P1 P2 P3 P9 PA := ⟨x.tab _ T.t1, x.tab _ T.t2, x.tab _ T.t3, x.tab _ T.t9, x.tab _ T.ta⟩
/-- how a deed ends, by its outcome -/
def OutK (K : PySem.W.Frag) (C h d : Addr) (H : Hp) (Q : VK) : Out → Prop
  | .ref i => ToldI K H Q i
  | .ok es' => ∀ H' d', Fr h d H H' → (d' = d ∨ H d' = none) → HsAt K C H' h d' es' → Q .non H'
/-- the classes of the refusals -/
def dI : List Nat := [0, 1, 7, 8, 9, 10, 11, 12, 13, 14, 15]
structure Errs16 (K : PySem.W.Frag) (mg : Str → Option Value) (T : Addr) (cls : Nat → Addr) : Prop where
  yes : ∀ i ∈ dI, PySem.W.exmOne K (.ref (cls i)) (.ref T) = some true
  wh : ∀ i ∈ dI, Wh K mg (cls i) i
def Out.lt : Out → Prop
  | .ref i => i ∈ dI
  | .ok _ => True
def spDo (K : PySem.W.Frag) (C P1 P2 P3 P9 PA : Addr) : Sp := fun vs H Q _ => ∃ h d es a nm v u t op oq ox, vs = [.ref h, .ref a] ∧ HsAt K C H h d es ∧ plainE es = es ∧ TabsD H P1 P2 P3 P9 PA ∧ SqT K H a [.str nm, v, u, t] ∧
  PArg K H v op ∧ PArg K H u oq ∧ Asked K H t ∧ TArg t ox ∧ OutK K C h d H Q (doO es nm op oq ox)
theorem makeO_lt {es : Ents} {op : Option (List Str)} : (makeO es op).lt := by
  unfold makeO
  (repeat' split) <;> simp [Out.lt, dI]
theorem writeO_lt {es : Ents} {op : Option (List Str)} {ox : Option Str} : (writeO es op ox).lt := by
  unfold writeO
  (repeat' split) <;> simp [Out.lt, dI]
theorem addO_lt {es : Ents} {op : Option (List Str)} {ox : Option Str} : (addO es op ox).lt := by
  unfold addO
  (repeat' split) <;> simp [Out.lt, dI]
theorem removeO_lt {es : Ents} {op : Option (List Str)} : (removeO es op).lt := by
  unfold removeO
  (repeat' split) <;> simp [Out.lt, dI]
theorem clearO_lt {es : Ents} {op : Option (List Str)} : (clearO es op).lt := by
  unfold clearO
  (repeat' split) <;> simp [Out.lt, dI]
theorem moveO_lt {es : Ents} {op oq : Option (List Str)} : (moveO es op oq).lt := by
  unfold moveO
  (repeat' split) <;> simp [Out.lt, dI]
theorem tieO_lt {es : Ents} {op oq : Option (List Str)} : (tieO es op oq).lt := by
  unfold tieO
  (repeat' split) <;> simp [Out.lt, dI]
section
variable {P : Program} {w : World} {K : PySem.W.Frag} {mg : Str → Option Value} {base : Heap}
abbrev doN : List Str := ["_law_house", "_law_deed", "_law_name", "_law_path_here", "_law_other", "_law_word", "_law_e"]
theorem scDo : FnScope doN ["_law_house", "_law_deed"] (defScope sDo) := ⟨rfl, rfl, rfl, by decide +kernel, rfl, by decide +kernel, by decide +kernel⟩
theorem ok_do {f fMk fWr fAd fRm fCl fMv fTi fW C T P1 P2 P3 P9 PA : Addr} {cls : Nat → Addr} {fd fdMk fdWr fdAd fdRm fdCl fdMv fdTi fdW : FuncData} (F : Fun K "_law_do" "_law_do" sDo f fd) (HH : HT K mg C) (gT : mg "TreeError" = some (.ref T)) (EE : Errs16 K mg T cls)
    (mMk : Meth K C "make" fMk) (GMk : FnOk P w K mg base (L2.CX P w) 10 fMk fdMk ["self", "path"] (spMakeM K C P1 P2 (errP cls))) (bMk : Binds K fdMk ["self", "path"] [])
    (mWr : Meth K C "write" fWr) (GWr : FnOk P w K mg base (L2.CX P w) 9 fWr fdWr ["self", "path", "text"] (spWriteM K C P1 P2 P3 (errW cls))) (bWr : KBn K fdWr ["self", "path", "text"] 2 ["text"] (fun us ws => us ++ ws) (fun vs zs => vs ++ zs))
    (mAd : Meth K C "add" fAd) (GAd : FnOk P w K mg base (L2.CX P w) 9 fAd fdAd ["self", "path", "text"] (spAddM K C P1 P2 P3 (errW cls))) (bAd : KBn K fdAd ["self", "path", "text"] 2 ["text"] (fun us ws => us ++ ws) (fun vs zs => vs ++ zs))
    (mRm : Meth K C "remove" fRm) (GRm : FnOk P w K mg base (L2.CX P w) 9 fRm fdRm ["self", "path"] (spRemoveM K C P1 P2 P9 (errC cls))) (bRm : Binds K fdRm ["self", "path"] [])
    (mCl : Meth K C "clear" fCl) (GCl : FnOk P w K mg base (L2.CX P w) 7 fCl fdCl ["self", "path"] (spClearM K C P1 P2 (errC cls))) (bCl : Binds K fdCl ["self", "path"] [])
    (mMv : Meth K C "move" fMv) (GMv : FnOk P w K mg base (L2.CX P w) 10 fMv fdMv ["self", "old", "new"] (spMoveM K C P1 P2 PA (errM cls))) (bMv : Binds K fdMv ["self", "old", "new"] [])
    (mTi : Meth K C "tie" fTi) (GTi : FnOk P w K mg base (L2.CX P w) 10 fTi fdTi ["self", "old", "new"] (spTieM K C P1 P2 (errT cls))) (bTi : Binds K fdTi ["self", "old", "new"] [])
    (GW : FnE P w K mg base CX0 1 fW fdW ["_law_e"] (spWhich K mg)) (mW : mg "_law_which" = some (.ref fW)) (kW : PySem.W.keepIn K (.ref fW) = true) (bW : Binds K fdW ["_law_e"] []) :
    FnOk P w K mg base CX0 12 f fd ["_law_house", "_law_deed"] (spDo K C P1 P2 P3 P9 PA) := by
  refine F.ok scDo (fun vs H Q E h => ?_) (fun cdv A outer s H vs Q E hr h => ?_)
  · obtain ⟨h, d, es, a, nm, v, u, t, op, oq, ox, rfl, _⟩ := h
    rfl
  · obtain ⟨h, d, es, a, nm, v, u, t, op, oq, ox, rfl, g, pl, TD, sq, hv, hu, ak, ht, k⟩ := h
    have r10 := hr.mono (show 10 ≤ 11 by decide)
    have r9 := hr.mono (show 9 ≤ 11 by decide)
    have r7 := hr.mono (show 7 ≤ 11 by decide)
    refine ⟨_, pss_cons (ps_asg (pv 1) (pg_tup rfl (pgs_cons (pg_name (i := 2) scDo.nd rfl (Or.inl rfl)) (pgs_cons (pg_name (i := 3) scDo.nd rfl (Or.inl rfl)) (pgs_cons (pg_name (i := 4) scDo.nd rfl (Or.inl rfl)) (pgs_cons (pg_name (i := 5) scDo.nd rfl (Or.inl rfl)) pgs_nil))))))
      (pss_one (ps_try_as (i := 6) (ts := fun a cls d => tRet (tCallS (spWhich K mg a cls d) (fun _ _ _ _ => False) (tCons (tVar 6) tNil))) (Wout := fun _ _ _ _ => False) rfl rfl scDo.nd rfl rfl ⟨rfl, by decide, Or.inl gT⟩ takes0
      (fun W pn xe tk _ => pss_cons (ps_if (pt_cmpR op_eq (pv 2) pe_str (nomark _)) (pss_one (ps_ret (pe_methE (E := WE W) (pv 0) HH.cl mMk GMk r10 bMk (fun σ => passAt tk σ) (pa_cons (pv 3) pa_nil)))) pss_nil)
        (pss_cons (ps_if (pt_cmpR op_eq (pv 2) pe_str (nomark _)) (pss_one (ps_ret (pe_methKE (E := WE W) (pv 0) HH.cl mWr GWr r9 bWr (fun σ => passAt tk σ) (pa_cons (pv 3) pa_nil) (pk_cons (pv 5) pk_nil)))) pss_nil)
        (pss_cons (ps_if (pt_cmpR op_eq (pv 2) pe_str (nomark _)) (pss_one (ps_ret (pe_methKE (E := WE W) (pv 0) HH.cl mAd GAd r9 bAd (fun σ => passAt tk σ) (pa_cons (pv 3) pa_nil) (pk_cons (pv 5) pk_nil)))) pss_nil)
        (pss_cons (ps_if (pt_cmpR op_eq (pv 2) pe_str (nomark _)) (pss_one (ps_ret (pe_methE (E := WE W) (pv 0) HH.cl mRm GRm r9 bRm (fun σ => passAt tk σ) (pa_cons (pv 3) pa_nil)))) pss_nil)
        (pss_cons (ps_if (pt_cmpR op_eq (pv 2) pe_str (nomark _)) (pss_one (ps_ret (pe_methE (E := WE W) (pv 0) HH.cl mCl GCl r7 bCl (fun σ => passAt tk σ) (pa_cons (pv 3) pa_nil)))) pss_nil)
        (pss_one (ps_ret (pe_ifExp (pt_cmpR op_eq (pv 2) pe_str (nomark _)) (pe_methE (E := WE W) (pv 0) HH.cl mMv GMv r10 bMv (fun σ => passAt tk σ) (pa_cons (pv 3) (pa_cons (pv 4) pa_nil)))
          (pe_methE (E := WE W) (pv 0) HH.cl mTi GTi r10 bTi (fun σ => passAt tk σ) (pa_cons (pv 3) (pa_cons (pv 4) pa_nil)))))))))))
      (fun a oe cls d pn hz hf => pss_one (ps_ret (pe_callE GW (by have r1 : Room 1 _ := hr.mono (by decide); exact ⟨r1.dp, r1.un⟩) ⟨hz, hf⟩ List.mem_cons_self (by rfl) mW kW bW (fun _ _ _ _ _ _ _ z => z.elim) (pa_cons (pv 6) pa_nil)))))), ?_⟩
    refine ⟨_, rfl, a, _, rfl, sq, rfl, _, _, rfl, _, _, rfl, _, _, rfl, _, _, rfl, rfl, ?_⟩
    obtain ⟨dx, ob⟩ := id g.ob
    -- a refusal is told
    have conv : ∀ (o : Out), o.lt → OutK K C h d H Q o → OutR cls K C h d H Q (WE (wAs K (.ref T) 6 (fun a cls d => tRet (tCallS (spWhich K mg a cls d) (fun _ _ _ _ => False) (tCons (tVar 6) tNil))) (fun _ _ _ _ => False)
        { nx := fun _ G => Q .non G, rt := Q }) [some (.ref h), some (.ref a), some (.str nm), some v, some u, some t, none]) o := fun o hl hk => by
      cases o with
      | ok es' => exact hk
      | ref i =>
        intro H1 x1
        exact ⟨true, EE.yes i hl, fun _ a' _ => ⟨_, rfl, cls i, i, rfl, rfl, rfl, EE.wh i hl, fun H3 r x3 hr => hk H3 r (x1.trans x3) hr⟩, fun z => nomatch z⟩
    unfold doO at k
    refine ⟨_, rfl, rfl, _, rfl, ?_⟩
    by_cases e1 : nm = "make"
    · rw [if_pos e1] at k
      rw [decide_eq_true (show V.str nm = V.str "make" by rw [e1])]
      exact iteT ⟨_, rfl, h, dx, _, rfl, ob, fl_no d (by decide +kernel), _, rfl, make_sp g TD.t1 TD.t2 hv (conv _ makeO_lt k)⟩
    rw [if_neg e1] at k
    rw [decide_eq_false (show ¬ V.str nm = V.str "make" from fun z => e1 (V.str.inj z))]
    refine iteF ⟨_, rfl, rfl, _, rfl, ?_⟩
    by_cases e2 : nm = "write"
    · rw [if_pos e2] at k
      rw [decide_eq_true (show V.str nm = V.str "write" by rw [e2])]
      have pn : PlainN es := by
        have := plainN_plain g.tree
        rwa [pl] at this
      exact iteT ⟨_, rfl, h, dx, _, rfl, ob, fl_no d (by decide +kernel), _, rfl, _, rfl, rfl, rfl, write_sp g pn TD.t1 TD.t2 TD.t3 ak hv ht (conv _ writeO_lt k)⟩
    rw [if_neg e2] at k
    rw [decide_eq_false (show ¬ V.str nm = V.str "write" from fun z => e2 (V.str.inj z))]
    refine iteF ⟨_, rfl, rfl, _, rfl, ?_⟩
    by_cases e3 : nm = "add"
    · rw [if_pos e3] at k
      rw [decide_eq_true (show V.str nm = V.str "add" by rw [e3])]
      exact iteT ⟨_, rfl, h, dx, _, rfl, ob, fl_no d (by decide +kernel), _, rfl, _, rfl, rfl, rfl, add_sp g TD.t1 TD.t2 TD.t3 ak hv ht (conv _ addO_lt k)⟩
    rw [if_neg e3] at k
    rw [decide_eq_false (show ¬ V.str nm = V.str "add" from fun z => e3 (V.str.inj z))]
    refine iteF ⟨_, rfl, rfl, _, rfl, ?_⟩
    by_cases e4 : nm = "remove"
    · rw [if_pos e4] at k
      rw [decide_eq_true (show V.str nm = V.str "remove" by rw [e4])]
      exact iteT ⟨_, rfl, h, dx, _, rfl, ob, fl_no d (by decide +kernel), _, rfl, remove_sp g TD.t1 TD.t2 TD.t9 hv (conv _ removeO_lt k)⟩
    rw [if_neg e4] at k
    rw [decide_eq_false (show ¬ V.str nm = V.str "remove" from fun z => e4 (V.str.inj z))]
    refine iteF ⟨_, rfl, rfl, _, rfl, ?_⟩
    by_cases e5 : nm = "clear"
    · rw [if_pos e5] at k
      rw [decide_eq_true (show V.str nm = V.str "clear" by rw [e5])]
      exact iteT ⟨_, rfl, h, dx, _, rfl, ob, fl_no d (by decide +kernel), _, rfl, clear_sp g TD.t1 TD.t2 hv (conv _ clearO_lt k)⟩
    rw [if_neg e5] at k
    rw [decide_eq_false (show ¬ V.str nm = V.str "clear" from fun z => e5 (V.str.inj z))]
    refine iteF ⟨_, rfl, rfl, _, rfl, ?_⟩
    by_cases e6 : nm = "move"
    · rw [if_pos e6] at k
      rw [decide_eq_true (show V.str nm = V.str "move" by rw [e6])]
      exact iteT ⟨_, rfl, h, dx, _, rfl, ob, fl_no d (by decide +kernel), _, rfl, _, rfl, move_sp g TD.t1 TD.t2 TD.ta hv hu (conv _ moveO_lt k)⟩
    rw [if_neg e6] at k
    rw [decide_eq_false (show ¬ V.str nm = V.str "move" from fun z => e6 (V.str.inj z))]
    exact iteF ⟨_, rfl, h, dx, _, rfl, ob, fl_no d (by decide +kernel), _, rfl, _, rfl, tie_sp g TD.t1 TD.t2 hv hu (conv _ tieO_lt k)⟩
end
/-! ### literals -/
/-- a tuple of texts written out; one of flat things -/
inductive LitKA : TA → List Str → Prop
  | nil : LitKA tNil []
  | cons {a : TA} {p : List Str} {z : Str} (h : LitKA a p) : LitKA (tCons (tC (.str z)) a) (z :: p)
inductive LitK : TE → List Str → Prop
  | mk {a : TA} {p : List Str} (h : LitKA a p) : LitK (tTup a) p
inductive LitA : TA → List PyData → Prop
  | nil : LitA tNil []
  | str {a : TA} {ds : List PyData} {z : Str} (h : LitA a ds) : LitA (tCons (tC (.str z)) a) (.str z :: ds)
  | int {a : TA} {ds : List PyData} {i : Int} (h : LitA a ds) : LitA (tCons (tC (.int i)) a) (.int i :: ds)
  | bl {a : TA} {ds : List PyData} {b : Bool} (h : LitA a ds) : LitA (tCons (tC (.bl b)) a) (.bool b :: ds)
  | non {a : TA} {ds : List PyData} (h : LitA a ds) : LitA (tCons (tC .non) a) (.none :: ds)
  | mul {a : TA} {ds : List PyData} {z : Str} {n : Int} (m : MulOk z n) (h : LitA a ds) : LitA (tCons (tOp (fun x y H Q => ∃ (z : Str) (n : Int), x = .str z ∧ y = .int n ∧ MulOk z n ∧ Q (.str (Txt.mul z n)) H) (tC (.str z)) (tC (.int n))) a) (.str (Txt.mul z n) :: ds)
inductive LitT : TE → List PyData → Prop
  | mk {a : TA} {ds : List PyData} (h : LitA a ds) : LitT (tTup a) ds
theorem LitKA.run {σ : L2.St} {H : Hp} {a : TA} {p : List Str} (l : LitKA a p) : ∀ {Q : List V → Hp → Prop}, Q (p.map V.str) H → a σ H Q := by
  induction l with
  | nil => exact fun h => h
  | cons _ ih => exact fun {Q} h => ih (Q := fun xs H2 => Q (_ :: xs) H2) h
theorem LitK.run {σ : L2.St} {H : Hp} {Q : VK} {t : TE} {p : List Str} (l : LitK t p) (hl : p.length ≤ 100) (h : ∀ b, H b = none → Q (.ref b) (upd H b (.tup (p.map V.str)))) : t σ H Q := by
  cases l with
  | mk l => exact l.run ⟨by rw [List.length_map]; exact Nat.le_trans hl (by decide), h⟩
def vOf : PyData → V
  | .bool b => .bl b
  | .int i => .int i
  | .str z => .str z
  | _ => .non
def flatP : PyData → Bool
  | .none | .bool _ | .int _ | .str _ => true
  | _ => false
theorem dp_flat {K : PySem.W.Frag} {H : Hp} {d : PyData} (h : flatP d = true) : Dp K H (vOf d) d := by
  cases d <;> first | exact .non | exact .bl _ | exact .int _ | exact .str _ | exact absurd (show false = true from h) Bool.false_ne_true
theorem dpAll_flat {K : PySem.W.Frag} {H : Hp} : ∀ {ds : List PyData}, ds.all flatP = true → DpAll K H (ds.map vOf) ds
  | [], _ => .nil
  | d :: ds, h => by
    rw [List.all_cons, Bool.and_eq_true] at h
    exact .cons (dp_flat h.1) (dpAll_flat h.2)
theorem LitA.run {σ : L2.St} {H : Hp} {a : TA} {ds : List PyData} (l : LitA a ds) : ∀ {Q : List V → Hp → Prop}, Q (ds.map vOf) H → a σ H Q := by
  induction l with
  | nil => exact fun h => h
  | str _ ih => exact fun {Q} h => ih (Q := fun xs H2 => Q (_ :: xs) H2) h
  | int _ ih => exact fun {Q} h => ih (Q := fun xs H2 => Q (_ :: xs) H2) h
  | bl _ ih => exact fun {Q} h => ih (Q := fun xs H2 => Q (_ :: xs) H2) h
  | non _ ih => exact fun {Q} h => ih (Q := fun xs H2 => Q (_ :: xs) H2) h
  | mul m _ ih => exact fun {Q} h => ⟨_, _, rfl, rfl, m, ih (Q := fun xs H2 => Q (_ :: xs) H2) h⟩
theorem LitA.flat {a : TA} {ds : List PyData} (l : LitA a ds) : ds.all flatP = true := by
  induction l with
  | nil => rfl
  | str _ ih => exact ih
  | int _ ih => exact ih
  | bl _ ih => exact ih
  | non _ ih => exact ih
  | mul _ _ ih => exact ih
theorem LitT.run {σ : L2.St} {H : Hp} {Q : VK} {t : TE} {ds : List PyData} (l : LitT t ds) (hl : ds.length ≤ 100) (h : ∀ b, H b = none → Q (.ref b) (upd H b (.tup (ds.map vOf)))) : t σ H Q := by
  cases l with
  | mk l => exact l.run ⟨by rw [List.length_map]; exact Nat.le_trans hl (by decide), h⟩
theorem LitT.flat {t : TE} {ds : List PyData} (l : LitT t ds) : ds.all flatP = true := by
  cases l with
  | mk l => exact l.flat
/-- what a literal dict of paths has -/
abbrev Lits := List (List Str × List PyData)
def litE (es : Lits) : Ents := es.map fun e => (e.1, .tuple e.2)
inductive LitPs : List (TE × TE) → Lits → Prop
  | nil : LitPs [] []
  | cons {tk tv : TE} {r : List (TE × TE)} {p : List Str} {ds : List PyData} {es : Lits} (hk : LitK tk p) (hv : LitT tv ds) (h : LitPs r es) : LitPs ((tk, tv) :: r) ((p, ds) :: es)
def litOk (es : Lits) : Bool := es.all fun e => decide (e.1.length ≤ 100) && decide (e.2.length ≤ 100)
theorem LitPs.run {K : PySem.W.Frag} {σ : L2.St} {trs : List (TE × TE)} {es : Lits} (l : LitPs trs es) : ∀ {G : Hp} {R : List (V × V) → Hp → Prop}, litOk es = true →
    (∀ G' qs kvs, Ex G G' → LD.PairsT G' qs kvs → RowE K G' kvs (litE es) → R qs G') → tPairs trs σ G R := by
  induction l with
  | nil => exact fun {G R} _ h => h G [] [] (Ex.refl G) .nil .nil
  | @cons tk tv r p0 ds es hk hv _ ih =>
    intro G R ok h
    unfold litOk at ok
    rw [List.all_cons, Bool.and_eq_true] at ok
    obtain ⟨o1, o2⟩ := ok
    simp only [Bool.and_eq_true, decide_eq_true_eq] at o1
    show tk σ G fun x H1 => tv σ H1 fun y H2 => tPairs r σ H2 fun ps H3 => R ((x, y) :: ps) H3
    refine hk.run o1.1 fun p hp => hv.run o1.2 fun q hq => ?_
    have x1 := Ex.new (o := .tup (p0.map V.str)) hp
    have x2 := Ex.new (o := .tup (ds.map vOf)) hq
    have p1 : PathX (upd G p (.tup (p0.map V.str))) p p0 := upd_same
    have q1 : (upd (upd G p (.tup (p0.map V.str))) q (.tup (ds.map vOf))) q = some (.tup (ds.map vOf)) := upd_same
    refine ih o2 fun G' qs kvs x hp2 row => ?_
    refine h G' ((.ref p, .ref q) :: qs) ((p0.map Sum.inr, .ref q) :: kvs) ((x1.trans x2).trans x) (.cons ⟨⟨p, rfl, ?_⟩, rfl⟩ hp2) (.cons ⟨rfl, ?_⟩ row)
    · exact (PathX.ex (x2.trans x) p1).key
    · exact .tup (SqT.of (x.keep _ _ q1 (fun ps z => by cases z))) (dpAll_flat hv.flat)
theorem merge_new : ∀ {more acc : List (List L2.Key × V)}, ((acc ++ more).map (·.1)).Nodup → LD.mergeT acc more = acc ++ more
  | [], acc, _ => (List.append_nil _).symm
  | kv :: more, acc, nd => by
    have hn : valV acc kv.1 = none := by
      cases h : valV acc kv.1 with
      | none => rfl
      | some v =>
        exfalso
        rw [List.map_append, List.nodup_append] at nd
        have : ∃ x ∈ acc, x.1 = kv.1 := by
          unfold valV at h
          obtain ⟨x, hx, _⟩ := Option.map_eq_some_iff.mp h
          have h2 := List.find?_some hx
          exact ⟨x, List.mem_of_find?_eq_some hx, of_decide_eq_true h2⟩
        obtain ⟨x, hx, ex⟩ := this
        exact nd.2.2 x.1 (List.mem_map.mpr ⟨x, hx, rfl⟩) kv.1 (List.mem_map.mpr ⟨kv, List.mem_cons_self .., rfl⟩) ex
    show LD.mergeT (putK acc kv.1 kv.2) more = _
    rw [putK_new _ hn, merge_new (by rw [List.append_assoc]; exact nd), List.append_assoc]
    rfl
theorem nodup_inr {ps : List (List Str)} (h : ps.Nodup) : (ps.map fun p => p.map (Sum.inr : Str → L2.Key)).Nodup := by
  refine List.pairwise_map.mpr (List.Pairwise.imp ?_ h)
  intro a b hab e
  have := congrArg pathOf e
  rw [pathOf_inr, pathOf_inr] at this
  exact hab this
/-- a literal dict of paths -/
theorem disp_lit {K : PySem.W.Frag} {σ : L2.St} {H : Hp} {Q : VK} {trs : List (TE × TE)} {es : Lits} (l : LitPs trs es) (ok : litOk es = true) (nd : (es.map (·.1)).Nodup) (hl : es.length ≤ 15)
    (h : ∀ H' p kvs, Ex H H' → H p = none → H' p = some (.dT kvs) → RowE K H' kvs (litE es) → Q (.ref p) H') : LD.tDispT trs σ H Q := by
  intro p hp
  have x1 := Ex.new (o := .dT []) hp
  have e1 : (upd H p (.dT [])) p = some (.dT []) := upd_same
  refine l.run (K := K) ok fun G qs kvs x hq row => ?_
  have eG := x.keep _ _ e1 (fun ps z => by cases z)
  have hk : kvs.map (·.1) = (es.map (·.1)).map fun q => q.map Sum.inr := by
    have := RowE.keys row
    unfold LS.KeysP at this
    rw [this]
    unfold litE
    rw [List.map_map, List.map_map, List.map_map]
    rfl
  have hnd : ((([] : List (List L2.Key × V)) ++ kvs).map (·.1)).Nodup := by
    rw [List.nil_append, hk]
    exact nodup_inr nd
  have hlen : kvs.length = es.length := by
    have := row.len
    unfold litE at this
    rwa [List.length_map] at this
  refine ⟨eG, kvs, hq, by omega, ?_⟩
  rw [merge_new hnd, List.nil_append]
  exact h _ p kvs ((x1.trans x).put hp) hp upd_same (mv_row (mv_upd (u := .dT kvs) eG (fun q => q)) row)
theorem disp_facts {K : PySem.W.Frag} {H G : Hp} {p : Addr} {kvs : List (List L2.Key × V)} {es : Lits} (x : Ex (upd H p (.dT [])) G) (row : RowE K G kvs (litE es)) (nd : (es.map (·.1)).Nodup) (hl : es.length ≤ 15) (hp : H p = none) :
    G p = some (.dT []) ∧ kvs.length ≤ 15 ∧ LD.mergeT [] kvs = kvs ∧ Ex H (upd G p (.dT kvs)) ∧ RowE K (upd G p (.dT kvs)) kvs (litE es) := by
  have x1 := Ex.new (o := .dT []) hp
  have eG := x.keep _ _ (show (upd H p (.dT [])) p = some (.dT []) from upd_same) (fun ps z => by cases z)
  have hk : kvs.map (·.1) = (es.map (·.1)).map fun q => q.map Sum.inr := by
    have := RowE.keys row
    unfold LS.KeysP at this
    rw [this]
    unfold litE
    rw [List.map_map, List.map_map, List.map_map]
    rfl
  have hnd : ((([] : List (List L2.Key × V)) ++ kvs).map (·.1)).Nodup := by
    rw [List.nil_append, hk]
    exact nodup_inr nd
  have hlen : kvs.length = es.length := by
    have := row.len
    unfold litE at this
    rwa [List.length_map] at this
  exact ⟨eG, by omega, by rw [merge_new hnd, List.nil_append], (x1.trans x).put hp, mv_row (mv_upd (u := .dT kvs) eG (fun q => q)) row⟩
theorem valE_cases {es : Ents} (t : treeB es = true) (q : List Str) : valE es q = none ∨ valE es q = some drD ∨ ∃ m z, valE es q = some (fileD m z) := by
  cases h : valE es q with
  | none => exact Or.inl rfl
  | some d =>
    obtain ⟨x, hx, _, rfl⟩ := valE_mem h
    rcases tree_thing t x hx with e | ⟨m, z, e⟩
    · exact Or.inr (Or.inl (by rw [e]))
    · exact Or.inr (Or.inr ⟨m, z, congrArg some e⟩)
/-! ### what a plain tree has at a path -/
theorem plain_file {es : Ents} (t : treeB es = true) (nd : (es.map (·.1)).Nodup) {q : List Str} {m : Int} {z : Str} (h : valE es q = some (fileD m z)) :
    m ∈ (renOf (upE es)).1 ∧ valE (plainE es) q = some (fileD (((renOf (upE es)).1.idxOf m : Nat) : Int) z) := by
  obtain ⟨x, hx, rfl, hd⟩ := valE_mem h
  refine ⟨?_, ?_⟩
  · have hk : x.1 ∈ keysUpE es := (keysUpE_perm es).mem_iff.mpr (List.mem_map.mpr ⟨x, hx, rfl⟩)
    refine fold_in (upE es) ([], []) (x.1, (valE es x.1).getD .none) (List.mem_map.mpr ⟨x.1, hk, rfl⟩) m z ?_
    rw [h]
    rfl
  · rw [valE_plain (tree_thing t) nd, h]
    exact congrArg some renD_file.1
theorem plain_dr {es : Ents} (t : treeB es = true) (nd : (es.map (·.1)).Nodup) {q : List Str} (h : valE es q = some drD) : valE (plainE es) q = some drD := by
  rw [valE_plain (tree_thing t) nd, h]
  exact congrArg some (renD_oth (w := "drawer") (ds := []) (by decide +kernel)).1
theorem plain_none {es : Ents} (t : treeB es = true) (nd : (es.map (·.1)).Nodup) {q : List Str} : (valE (plainE es) q).isSome = (valE es q).isSome := by
  rw [valE_plain (tree_thing t) nd]
  cases valE es q <;> rfl
theorem plain_dr_iff {es : Ents} (t : treeB es = true) (nd : (es.map (·.1)).Nodup) {q : List Str} : valE (plainE es) q = some drD ↔ valE es q = some drD := by
  refine ⟨fun h => ?_, plain_dr t nd⟩
  rcases valE_cases t q with e | e | ⟨m, z, e⟩
  · have := plain_none t nd (q := q)
    rw [h, e] at this; cases this
  · exact e
  · rw [(plain_file t nd e).2] at h; cases h
theorem plain_file_iff {es : Ents} (t : treeB es = true) (nd : (es.map (·.1)).Nodup) {q p : List Str} {n : Int} {y x : Str} (hp : valE es p = some (fileD n y)) :
    valE (plainE es) q = some (fileD (((renOf (upE es)).1.idxOf n : Nat) : Int) x) ↔ valE es q = some (fileD n x) := by
  refine ⟨fun h => ?_, fun h => (plain_file t nd h).2⟩
  rcases valE_cases t q with e | e | ⟨m, z, e⟩
  · have := plain_none t nd (q := q)
    rw [h, e] at this; cases this
  · rw [plain_dr t nd e] at h; cases h
  · obtain ⟨h1, h2⟩ := plain_file t nd e
    rw [h2] at h
    obtain ⟨e1, e2⟩ := fileD_inj (Option.some.inj h)
    have := idxI_inj h1 (plain_file t nd hp).1 (by omega)
    rw [e, this, e2]
/-! ### what a deed leaves is plain -/
theorem giveD_thing {n : Int} {x : Str} {d : PyData} (h : thingD d) : thingD (giveD n x d) := by
  rcases h with rfl | ⟨m, z, rfl⟩
  · exact Or.inl giveD_dr
  · rw [show PyData.tuple [.str "file", .int m, .str z] = fileD m z from rfl, giveD_file]
    by_cases e : m = n
    · rw [if_pos e]; exact Or.inr ⟨n, x, rfl⟩
    · rw [if_neg e]; exact Or.inr ⟨m, z, rfl⟩
theorem give_seen {n : Int} {x : Str} {s : List Int} {d : PyData} (h : thingD d) : seenD s (giveD n x d) = seenD s d := by
  rcases h with rfl | ⟨m, z, rfl⟩
  · rw [giveD_dr]
  · rw [show PyData.tuple [.str "file", .int m, .str z] = fileD m z from rfl, giveD_file]
    by_cases e : m = n
    · rw [if_pos e, e]
      exact (renD_file (n := n) (z := x)).2.trans (renD_file (n := n) (z := z)).2.symm
    · rw [if_neg e]
theorem fold_give {n : Int} {x : Str} : ∀ (us : Ents) (st st' : List Int × Ents), (∀ e ∈ us, thingD e.2) → st.1 = st'.1 → ((us.map fun e => (e.1, giveD n x e.2)).foldl renStep st).1 = (us.foldl renStep st').1
  | [], _, _, _, h => h
  | e :: us, st, st', th, h => by
    rw [List.map_cons, List.foldl_cons, List.foldl_cons]
    refine fold_give us _ _ (fun y hy => th y (List.mem_cons_of_mem _ hy)) ?_
    show seenD st.1 (giveD n x e.2) = seenD st'.1 e.2
    rw [give_seen (th e (List.mem_cons_self ..)), h]
theorem upE_give {es : Ents} (nd : (es.map (·.1)).Nodup) (n : Int) (x : Str) : upE (giveE es n x) = (upE es).map fun e => (e.1, giveD n x e.2) := by
  have hk : keysUpE (giveE es n x) = keysUpE es := by
    unfold keysUpE
    rw [give_keys]
  unfold upE
  rw [hk, List.map_map]
  refine List.map_congr_left fun p _ => ?_
  show (p, (valE (giveE es n x) p).getD .none) = (p, giveD n x ((valE es p).getD .none))
  rw [valE_give nd]
  cases valE es p <;> rfl
theorem plain_up {es : Ents} (nd : (es.map (·.1)).Nodup) (th : ∀ e ∈ es, thingD e.2) (pl : plainE es = es) : ∀ e ∈ upE es, e.2 = renD (renOf (upE es)).1 e.2 ∧ thingD e.2 := fun e he => by
  have h1 : (e.1, renD (renOf (upE es)).1 e.2) ∈ es := by
    have h := plain_eq th
    rw [pl] at h
    have h2 : (e.1, renD (renOf (upE es)).1 e.2) ∈ (upE es).map fun e => (e.1, renD (renOf (upE es)).1 e.2) := List.mem_map.mpr ⟨e, he, rfl⟩
    rwa [← h] at h2
  have h2 : e.2 = (valE es e.1).getD .none := by
    obtain ⟨p, _, rfl⟩ := List.mem_map.mp he
    rfl
  have h3 := valE_nd nd h1
  have h4 : e.2 = renD (renOf (upE es)).1 e.2 := by
    refine h2.trans ?_
    rw [show valE es e.1 = some (renD (renOf (upE es)).1 e.2) from h3]
    rfl
  exact ⟨h4, by rw [h4]; exact th _ h1⟩
theorem plain_give {es : Ents} (nd : (es.map (·.1)).Nodup) (th : ∀ e ∈ es, thingD e.2) (pl : plainE es = es) (n : Int) (x : Str) : plainE (giveE es n x) = giveE es n x := by
  have up := plain_up nd th pl
  have th2 : ∀ e ∈ giveE es n x, thingD e.2 := fun e he => by
    obtain ⟨y, hy, rfl⟩ := List.mem_map.mp he
    exact giveD_thing (th y hy)
  rw [plain_eq th2, upE_give nd]
  have hR : (renOf ((upE es).map fun e => (e.1, giveD n x e.2))).1 = (renOf (upE es)).1 := fold_give (upE es) ([], []) ([], []) (fun e he => (up e he).2) rfl
  rw [hR, List.map_map]
  have h2 : giveE es n x = ((upE es).map fun e => (e.1, renD (renOf (upE es)).1 e.2)).map fun e => (e.1, giveD n x e.2) := by
    have h := plain_eq th
    rw [pl] at h
    show es.map (fun e => (e.1, giveD n x e.2)) = _
    rw [← h]
  rw [h2, List.map_map]
  refine List.map_congr_left fun e he => ?_
  show (e.1, renD (renOf (upE es)).1 (giveD n x e.2)) = (e.1, giveD n x (renD (renOf (upE es)).1 e.2))
  obtain ⟨h3, h4⟩ := up e he
  rw [← h3]
  rcases h4 with hd | ⟨m, z, hd⟩
  · rw [hd] at h3 ⊢
    rw [giveD_dr]
    exact congrArg _ h3.symm
  · have hd : e.2 = fileD m z := hd
    rw [hd] at h3 ⊢
    rw [giveD_file]
    by_cases em : m = n
    · rw [if_pos em]
      subst em
      have h5 : fileD m z = fileD (((renOf (upE es)).1.idxOf m : Nat) : Int) z := h3.trans (renD_file (n := m) (z := z)).1
      have h6 := (fileD_inj h5).1
      have h7 : renD (renOf (upE es)).1 (fileD m x) = fileD (((renOf (upE es)).1.idxOf m : Nat) : Int) x := (renD_file (n := m) (z := x)).1
      rw [h7, ← h6]
    · rw [if_neg em]
      exact congrArg _ h3.symm
/-! ### a deed that is done -/
section
variable {es es' : Ents} {op oq : Option (List Str)} {ox : Option Str}
theorem makeO_ok (h : makeO es op = .ok es') : ∃ p, op = some p ∧ p ≠ [] ∧ drawerAt es p.dropLast = true ∧ valE es p = none ∧ es.length < 80 ∧ es' = plainE (es ++ [(p, drD)]) := by
  cases op with
  | none => cases h
  | some p =>
    change (if p = [] then Out.ref 7 else if drawerAt es p.dropLast = false then .ref 9 else if (valE es p).isSome = true then .ref 11 else if 80 ≤ es.length then .ref 15 else .ok (plainE (es ++ [(p, drD)]))) = _ at h
    by_cases h1 : p = []
    · rw [if_pos h1] at h; cases h
    rw [if_neg h1] at h
    by_cases h2 : drawerAt es p.dropLast = false
    · rw [if_pos h2] at h; cases h
    rw [if_neg h2] at h
    by_cases h3 : (valE es p).isSome = true
    · rw [if_pos h3] at h; cases h
    rw [if_neg h3] at h
    by_cases h4 : 80 ≤ es.length
    · rw [if_pos h4] at h; cases h
    rw [if_neg h4] at h
    exact ⟨p, rfl, h1, by simpa using h2, by simpa using h3, by omega, (Out.ok.inj h).symm⟩
theorem writeO_ok (h : writeO es op ox = .ok es') : ∃ p x, op = some p ∧ ox = some x ∧ p ≠ [] ∧ drawerAt es p.dropLast = true ∧ ((∃ d, valE es p = some d ∧ drawerB d = false ∧ es' = giveE es (numD d) x) ∨ (valE es p = none ∧ es.length < 80 ∧ es' = plainE (es ++ [(p, fileD (es.length : Nat) x)]))) := by
  cases op with
  | none => cases h
  | some p =>
    cases ox with
    | none => cases h
    | some x =>
      change (if p = [] then Out.ref 7 else if drawerAt es p.dropLast = false then .ref 9 else match valE es p with
        | some d => if drawerB d = true then .ref 10 else .ok (giveE es (numD d) x)
        | none => if 80 ≤ es.length then .ref 15 else .ok (plainE (es ++ [(p, fileD (es.length : Nat) x)]))) = _ at h
      by_cases h1 : p = []
      · rw [if_pos h1] at h; cases h
      rw [if_neg h1] at h
      by_cases h2 : drawerAt es p.dropLast = false
      · rw [if_pos h2] at h; cases h
      rw [if_neg h2] at h
      refine ⟨p, x, rfl, rfl, h1, by simpa using h2, ?_⟩
      cases hv : valE es p with
      | some d =>
        rw [hv] at h
        change (if drawerB d = true then Out.ref 10 else .ok (giveE es (numD d) x)) = _ at h
        by_cases h3 : drawerB d = true
        · rw [if_pos h3] at h; cases h
        rw [if_neg h3] at h
        exact Or.inl ⟨d, rfl, by simpa using h3, (Out.ok.inj h).symm⟩
      | none =>
        rw [hv] at h
        change (if 80 ≤ es.length then Out.ref 15 else .ok (plainE (es ++ [(p, fileD (es.length : Nat) x)]))) = _ at h
        by_cases h3 : 80 ≤ es.length
        · rw [if_pos h3] at h; cases h
        rw [if_neg h3] at h
        exact Or.inr ⟨rfl, by omega, (Out.ok.inj h).symm⟩
theorem addO_ok (h : addO es op ox = .ok es') : ∃ p x d, op = some p ∧ ox = some x ∧ valE es p = some d ∧ drawerB d = false ∧ (txtD d).length + x.length ≤ 40 ∧ es' = giveE es (numD d) (txtD d ++ x) := by
  cases op with
  | none => cases h
  | some p =>
    cases ox with
    | none => cases h
    | some x =>
      change (match valE es p with
        | none => Out.ref 8
        | some d => if drawerB d = true then .ref 10 else if 40 < (txtD d).length + x.length then .ref 14 else .ok (giveE es (numD d) (txtD d ++ x))) = _ at h
      cases hv : valE es p with
      | none => rw [hv] at h; cases h
      | some d =>
        rw [hv] at h
        change (if drawerB d = true then Out.ref 10 else if 40 < (txtD d).length + x.length then .ref 14 else .ok (giveE es (numD d) (txtD d ++ x))) = _ at h
        by_cases h3 : drawerB d = true
        · rw [if_pos h3] at h; cases h
        rw [if_neg h3] at h
        by_cases h4 : 40 < (txtD d).length + x.length
        · rw [if_pos h4] at h; cases h
        rw [if_neg h4] at h
        exact ⟨p, x, d, rfl, rfl, hv, by simpa using h3, by omega, (Out.ok.inj h).symm⟩
theorem removeO_ok (h : removeO es op = .ok es') : ∃ p, op = some p ∧ p ≠ [] ∧ (valE es p).isSome = true ∧ (es.any fun e => withinB e.1 p) = false ∧ es' = plainE (awayE es p) := by
  cases op with
  | none => cases h
  | some p =>
    change (if p = [] then Out.ref 7 else if (valE es p).isSome = false then .ref 8 else if (es.any fun e => withinB e.1 p) = true then .ref 12 else .ok (plainE (awayE es p))) = _ at h
    by_cases h1 : p = []
    · rw [if_pos h1] at h; cases h
    rw [if_neg h1] at h
    by_cases h2 : (valE es p).isSome = false
    · rw [if_pos h2] at h; cases h
    rw [if_neg h2] at h
    by_cases h3 : (es.any fun e => withinB e.1 p) = true
    · rw [if_pos h3] at h; cases h
    rw [if_neg h3] at h
    refine ⟨p, rfl, h1, ?_, ?_, (Out.ok.inj h).symm⟩
    · cases hb : (valE es p).isSome with
      | true => rfl
      | false => exact absurd hb h2
    · cases hb : (es.any fun e => withinB e.1 p) with
      | true => exact absurd hb h3
      | false => rfl
theorem clearO_ok (h : clearO es op = .ok es') : ∃ p, op = some p ∧ p ≠ [] ∧ (valE es p).isSome = true ∧ es' = plainE (awayE es p) := by
  cases op with
  | none => cases h
  | some p =>
    change (if p = [] then Out.ref 7 else if (valE es p).isSome = false then .ref 8 else .ok (plainE (awayE es p))) = _ at h
    by_cases h1 : p = []
    · rw [if_pos h1] at h; cases h
    rw [if_neg h1] at h
    by_cases h2 : (valE es p).isSome = false
    · rw [if_pos h2] at h; cases h
    rw [if_neg h2] at h
    refine ⟨p, rfl, h1, ?_, (Out.ok.inj h).symm⟩
    cases hb : (valE es p).isSome with
      | true => rfl
      | false => exact absurd hb h2
theorem moveO_ok (t : treeB es = true) (hoq : ∀ p, oq = some p → goodPath p = true) (h : moveO es op oq = .ok es') : ∃ old new, op = some old ∧ oq = some new ∧ MoveOk es old new ∧ es' = plainE (movedE es old new) := by
  cases op with
  | none => cases h
  | some old =>
    cases oq with
    | none => cases h
    | some new =>
      change (if old = [] then Out.ref 7 else if new = [] then .ref 7 else if (valE es old).isSome = false then .ref 8 else if withinB new old = true then .ref 13 else
        if drawerAt es new.dropLast = false then .ref 9 else if (valE es new).isSome = true then .ref 11 else if (es.any fun e => decide (5 < (movedP e.1 old new).length)) = true then .ref 14 else .ok (plainE (movedE es old new))) = _ at h
      by_cases h1 : old = []
      · rw [if_pos h1] at h; cases h
      rw [if_neg h1] at h
      by_cases h2 : new = []
      · rw [if_pos h2] at h; cases h
      rw [if_neg h2] at h
      by_cases h3 : (valE es old).isSome = false
      · rw [if_pos h3] at h; cases h
      rw [if_neg h3] at h
      by_cases h4 : withinB new old = true
      · rw [if_pos h4] at h; cases h
      rw [if_neg h4] at h
      by_cases h5 : drawerAt es new.dropLast = false
      · rw [if_pos h5] at h; cases h
      rw [if_neg h5] at h
      by_cases h6 : (valE es new).isSome = true
      · rw [if_pos h6] at h; cases h
      rw [if_neg h6] at h
      by_cases h7 : (es.any fun e => decide (5 < (movedP e.1 old new).length)) = true
      · rw [if_pos h7] at h; cases h
      rw [if_neg h7] at h
      have h3 : (valE es old).isSome = true := by
        cases hb : (valE es old).isSome with
        | true => rfl
        | false => exact absurd hb h3
      have h6 : valE es new = none := by simpa using h6
      refine ⟨old, new, rfl, rfl, ⟨h3, h1, h6, by simpa using h5, ?_, hoq new rfl, fun e he => ?_⟩, (Out.ok.inj h).symm⟩
      · cases hb : beginsB new old with
        | false => rfl
        | true =>
          exfalso
          refine h4 ?_
          unfold withinB
          rw [hb, Bool.and_true]
          exact decide_eq_true fun z => by rw [z, ] at h6; rw [h6] at h3; cases h3
      · have h7 : (es.any fun e => decide (5 < (movedP e.1 old new).length)) = false := by
          cases hb : es.any fun e => decide (5 < (movedP e.1 old new).length) with
          | true => exact absurd hb h7
          | false => rfl
        have := List.any_eq_false.mp h7 e he
        have : ¬ 5 < (movedP e.1 old new).length := fun z => this (decide_eq_true z)
        omega
theorem tieO_ok (h : tieO es op oq = .ok es') : ∃ old new d, op = some old ∧ oq = some new ∧ valE es old = some d ∧ drawerB d = false ∧ (new = [] ∨ drawerAt es new.dropLast = true) ∧ valE es new = none ∧ es.length < 80 ∧ es' = plainE (es ++ [(new, d)]) := by
  cases op with
  | none => cases h
  | some old =>
    cases oq with
    | none => cases h
    | some new =>
      change (match valE es old with
        | none => Out.ref 8
        | some d => if drawerB d = true then .ref 10 else if new ≠ [] ∧ drawerAt es new.dropLast = false then .ref 9 else if (valE es new).isSome = true then .ref 11 else if 80 ≤ es.length then .ref 15 else .ok (plainE (es ++ [(new, d)]))) = _ at h
      cases hv : valE es old with
      | none => rw [hv] at h; cases h
      | some d =>
        rw [hv] at h
        change (if drawerB d = true then Out.ref 10 else if new ≠ [] ∧ drawerAt es new.dropLast = false then .ref 9 else if (valE es new).isSome = true then .ref 11 else if 80 ≤ es.length then .ref 15 else .ok (plainE (es ++ [(new, d)]))) = _ at h
        by_cases h1 : drawerB d = true
        · rw [if_pos h1] at h; cases h
        rw [if_neg h1] at h
        by_cases h2 : new ≠ [] ∧ drawerAt es new.dropLast = false
        · rw [if_pos h2] at h; cases h
        rw [if_neg h2] at h
        by_cases h3 : (valE es new).isSome = true
        · rw [if_pos h3] at h; cases h
        rw [if_neg h3] at h
        by_cases h4 : 80 ≤ es.length
        · rw [if_pos h4] at h; cases h
        rw [if_neg h4] at h
        refine ⟨old, new, d, rfl, rfl, hv, by simpa using h1, ?_, by simpa using h3, by omega, (Out.ok.inj h).symm⟩
        by_cases e : new = []
        · exact Or.inl e
        · refine Or.inr ?_
          cases hb : drawerAt es new.dropLast with
          | true => rfl
          | false => exact absurd ⟨e, hb⟩ h2
theorem file_of {es : Ents} (t : treeB es = true) {p : List Str} {d : PyData} (h : valE es p = some d) (hd : drawerB d = false) : ∃ n z, d = fileD n z := by
  rcases valE_cases t p with e | e | ⟨n, z, e⟩
  · rw [h] at e; cases e
  · rw [h] at e
    rw [Option.some.inj e, drD_drawer] at hd
    cases hd
  · rw [h] at e
    exact ⟨n, z, Option.some.inj e⟩
theorem doO_pl {nm : Str} (t : treeB es = true) (nd : (es.map (·.1)).Nodup) (pl : plainE es = es) (hop : ∀ p, op = some p → goodPath p = true) (hoq : ∀ p, oq = some p → goodPath p = true) (hox : ∀ x, ox = some x → textB x = true)
    (h : doO es nm op oq ox = .ok es') : plainE es' = es' := by
  have th := tree_thing t
  have pn : PlainN es := by
    have := plainN_plain t
    rwa [pl] at this
  unfold doO at h
  by_cases e1 : nm = "make"
  · rw [if_pos e1] at h
    obtain ⟨p, rfl, h1, h2, h3, h4, rfl⟩ := makeO_ok h
    have M : PutOk es p drD := ⟨hop p rfl, h2, h3, h4, Or.inl drD_drawer, fun n y z e => by cases e⟩
    exact plain_idem (snoc_tree t nd M) (valE_snoc nd M.free (q := [])).1
  rw [if_neg e1] at h
  by_cases e2 : nm = "write"
  · rw [if_pos e2] at h
    obtain ⟨p, x, rfl, rfl, h1, h2, ⟨d, h3, h4, rfl⟩ | ⟨h3, h4, rfl⟩⟩ := writeO_ok h
    · exact plain_give nd th pl _ _
    · have M := write_ok t pn (hop p rfl) (Or.inr h2) h3 h4 (hox x rfl)
      exact plain_idem (snoc_tree t nd M) (valE_snoc nd M.free (q := [])).1
  rw [if_neg e2] at h
  by_cases e3 : nm = "add"
  · rw [if_pos e3] at h
    obtain ⟨p, x, d, rfl, rfl, h1, h2, h3, rfl⟩ := addO_ok h
    exact plain_give nd th pl _ _
  rw [if_neg e3] at h
  by_cases e4 : nm = "remove"
  · rw [if_pos e4] at h
    obtain ⟨p, rfl, h1, h2, h3, rfl⟩ := removeO_ok h
    exact plain_idem (away_tree t nd h1) (away_nd nd p)
  rw [if_neg e4] at h
  by_cases e5 : nm = "clear"
  · rw [if_pos e5] at h
    obtain ⟨p, rfl, h1, h2, rfl⟩ := clearO_ok h
    exact plain_idem (away_tree t nd h1) (away_nd nd p)
  rw [if_neg e5] at h
  by_cases e6 : nm = "move"
  · rw [if_pos e6] at h
    obtain ⟨old, new, rfl, rfl, M, rfl⟩ := moveO_ok t hoq h
    exact plain_idem (movedE_tree M t nd) (movedE_nd M t nd)
  rw [if_neg e6] at h
  obtain ⟨old, new, d, rfl, rfl, h1, h2, h3, h4, h5, rfl⟩ := tieO_ok h
  obtain ⟨n, z, rfl⟩ := file_of t h1 h2
  have M := tie_ok t h1 (hoq new rfl) h3 h4 h5
  exact plain_idem (snoc_tree t nd M) (valE_snoc nd M.free (q := [])).1
end
/-! ### refusals as data -/
def refD (i : Int) : PyData := .tuple [.str "refused", .int i]
theorem RefAt.dp {K : PySem.W.Frag} {H : Hp} {r : Addr} {i : Int} (h : RefAt K H r i) : Dp K H (.ref r) (refD i) := .tup h (.cons (.str _) (.cons (.int _) .nil))
theorem RefAt.ex {K : PySem.W.Frag} {H H' : Hp} {r : Addr} {i : Int} (x : Ex H H') (h : RefAt K H r i) : RefAt K H' r i := Ex.tup x h
theorem shaped_ref (i : Int) : SeqAt.shaped (refD i) = true := by
  have hs : PyData.strOk "refused" = true := by decide +kernel
  simp [SeqAt.shaped, refD, PyData.canLay0, PyData.canLayAll0, PyData.depth, PyData.depthAll, hs]
theorem dpAll_refs {K : PySem.W.Frag} {H : Hp} {i : Int} : ∀ {rs : List Addr}, (∀ r ∈ rs, RefAt K H r i) → DpAll K H (rs.map V.ref) (List.replicate rs.length (refD i))
  | [], _ => .nil
  | r :: rs, h => .cons (h r (List.mem_cons_self ..)).dp (dpAll_refs fun q hq => h q (List.mem_cons_of_mem _ hq))
/-! ### deeds written out -/
def DeedAt (K : PySem.W.Frag) (H : Hp) (a : Addr) (nm : Str) (p q : List Str) (x : Str) : Prop := ∃ b c, SqT K H a [.str nm, .ref b, .ref c, .str x] ∧ PathX H b p ∧ PathX H c q
theorem DeedAt.ex {K : PySem.W.Frag} {H H' : Hp} {a : Addr} {nm x : Str} {p q : List Str} (v : Ex H H') (h : DeedAt K H a nm p q x) : DeedAt K H' a nm p q x := by
  obtain ⟨b, c, h1, h2, h3⟩ := h
  exact ⟨b, c, Ex.tup v h1, PathX.ex v h2, PathX.ex v h3⟩
theorem deed_mk {K : PySem.W.Frag} {H : Hp} {a b c : Addr} {pv qv : List V} (nm : Str) (p q : List Str) (x : Str) (hb : H b = none) (hc : (upd H b (.tup pv)) c = none) (ha : (upd (upd H b (.tup pv)) c (.tup qv)) a = none) (ep : pv = p.map V.str := by rfl) (eq : qv = q.map V.str := by rfl) :
    Ex H (upd (upd (upd H b (.tup pv)) c (.tup qv)) a (.tup [.str nm, .ref b, .ref c, .str x])) ∧ DeedAt K (upd (upd (upd H b (.tup pv)) c (.tup qv)) a (.tup [.str nm, .ref b, .ref c, .str x])) a nm p q x := by
  subst ep eq
  have x1 := Ex.new (o := .tup (p.map V.str)) hb
  have x2 := Ex.new (o := .tup (q.map V.str)) hc
  have x3 := Ex.new (o := .tup [V.str nm, .ref b, .ref c, .str x]) ha
  have pb : PathX (upd H b (.tup (p.map V.str))) b p := upd_same
  have pc : PathX (upd (upd H b (.tup (p.map V.str))) c (.tup (q.map V.str))) c q := upd_same
  exact ⟨(x1.trans x2).trans x3, b, c, SqT.of upd_same, PathX.ex (x2.trans x3) pb, PathX.ex x3 pc⟩
theorem text_asked {K : PySem.W.Frag} {H : Hp} {x : Str} (tx : textB x = true) : Asked K H (.str x) := by
  refine ⟨"str", .str x, fun y e => ?_⟩
  cases e
  have := textB_len tx
  rw [sizeLine_eq]
  omega
theorem do_lit {K : PySem.W.Frag} {C P1 P2 P3 P9 PA h d a : Addr} {H : Hp} {Q : VK} {E : XK} {es : Ents} {nm x : Str} {p q : List Str} (g : HsAt K C H h d es) (pl : plainE es = es) (TD : TabsD H P1 P2 P3 P9 PA)
    (D : DeedAt K H a nm p q x) (gp : goodPath p = true) (gq : goodPath q = true) (tx : textB x = true) {o : Out} (e : doO es nm (some p) (some q) (some x) = o) (k : OutK K C h d H Q o) : spDo K C P1 P2 P3 P9 PA [.ref h, .ref a] H Q E := by
  obtain ⟨b, c, sq, pb, pc⟩ := D
  exact ⟨h, d, es, a, nm, .ref b, .ref c, .str x, some p, some q, some x, rfl, g, pl, TD, sq, Or.inr ⟨b, p, rfl, pb, gp, rfl⟩, Or.inr ⟨c, q, rfl, pc, gq, rfl⟩, text_asked tx, Or.inr ⟨x, rfl, tx, rfl⟩, e ▸ k⟩
theorem OutK.of {K : PySem.W.Frag} {C h d : Addr} {H : Hp} {Q : VK} {o o' : Out} (e : o = o') (k : OutK K C h d H Q o') : OutK K C h d H Q o := e ▸ k
structure TabsW (H : Hp) (P1 P2 P3 P4 P5 P9 PA : Addr) : Prop where
  t : Tabs5 H P1 P2 P3 P4 P5
  t9 : TabG H P9
  ta : TabG H PA
theorem TabsW.d {H : Hp} {P1 P2 P3 P4 P5 P9 PA : Addr} (T : TabsW H P1 P2 P3 P4 P5 P9 PA) : TabsD H P1 P2 P3 P9 PA := ⟨T.t.t1, T.t.t2, T.t.t3, T.t9, T.ta⟩
theorem TabsW.ex {H H' : Hp} {P1 P2 P3 P4 P5 P9 PA : Addr} (x : Ex H H') (T : TabsW H P1 P2 P3 P4 P5 P9 PA) : TabsW H' P1 P2 P3 P4 P5 P9 PA := ⟨T.t.ex x, x.tab _ T.t9, x.tab _ T.ta⟩
theorem TabsW.ev {tw : Addr} {H H' : Hp} {P1 P2 P3 P4 P5 P9 PA : Addr} (v : Ev tw H H') (T : TabsW H P1 P2 P3 P4 P5 P9 PA) : TabsW H' P1 P2 P3 P4 P5 P9 PA :=
  ⟨⟨v.tab _ T.t.t1, v.tab _ T.t.t2, v.tab _ T.t.t3, v.tab _ T.t.t4, v.tab _ T.t.t5⟩, v.tab _ T.t9, v.tab _ T.ta⟩
theorem TabsW.fr {h d : Addr} {H H' : Hp} {P1 P2 P3 P4 P5 P9 PA : Addr} (v : Fr h d H H') (T : TabsW H P1 P2 P3 P4 P5 P9 PA) : TabsW H' P1 P2 P3 P4 P5 P9 PA :=
  ⟨⟨v.tab _ T.t.t1, v.tab _ T.t.t2, v.tab _ T.t.t3, v.tab _ T.t.t4, v.tab _ T.t.t5⟩, v.tab _ T.t9, v.tab _ T.ta⟩
def tabsOf (H : Hp) (P1 P2 P3 P4 P5 P9 PA : Addr) : Prop := TabG H P1 ∧ TabG H P2 ∧ TabG H P3 ∧ TabG H P4 ∧ TabG H P5 ∧ TabG H P9 ∧ TabG H PA
def spLawW (K : PySem.W.Frag) (P1 P2 P3 P4 P5 P9 PA : Addr) : Sp := fun vs H Q _ => ∃ (a : Addr) (ns : List Int), vs = [.ref a] ∧ SqL K H a (ns.map V.int) ∧ ns.length ≤ 63 ∧ TabG H P1 ∧ TabG H P2 ∧ TabG H P3 ∧ TabG H P4 ∧ TabG H P5 ∧ TabG H P9 ∧ TabG H PA ∧ ∀ H', Q (.bl true) H'
theorem Lw.dset {K : PySem.W.Frag} {H : Hp} {sc tw d : Addr} {ns : List Int} {kvs : List (List L2.Key × V)} {o : HO} (L : Lw K H sc tw ns) (hd : H d = some (.dT kvs)) : Lw K (upd H d o) sc tw ns := by
  refine ⟨?_, ?_, L.len⟩
  · rcases L.at_ with ⟨h1 | ⟨u, h1⟩, h2⟩ | h
    · exact Or.inl ⟨Or.inl (by rw [upd_ne (ne_of h1 hd (fun z => by cases z))]; exact h1), h2⟩
    · exact Or.inl ⟨Or.inr ⟨u, by rw [upd_ne (ne_of h1 hd (fun z => by cases z))]; exact h1⟩, h2⟩
    · exact Or.inr h
  · obtain ⟨t0, t1, h0, e⟩ := L.town
    exact ⟨t0, t1, h0, by rw [upd_ne (ne_of e hd (fun z => by cases z))]; exact e⟩
theorem TabG.dset {H : Hp} {d P : Addr} {kvs : List (List L2.Key × V)} {o : HO} (hd : H d = some (.dT kvs)) (h : TabG H P) : TabG (upd H d o) P := by
  obtain ⟨ps, e, t⟩ := h
  exact ⟨ps, by rw [upd_ne (ne_of e hd (fun z => by cases z))]; exact e, t⟩
theorem TabsW.dset {H : Hp} {d P1 P2 P3 P4 P5 P9 PA : Addr} {kvs : List (List L2.Key × V)} {o : HO} (T : TabsW H P1 P2 P3 P4 P5 P9 PA) (hd : H d = some (.dT kvs)) : TabsW (upd H d o) P1 P2 P3 P4 P5 P9 PA :=
  ⟨⟨TabG.dset hd T.t.t1, TabG.dset hd T.t.t2, TabG.dset hd T.t.t3, TabG.dset hd T.t.t4, TabG.dset hd T.t.t5⟩, TabG.dset hd T.t9, TabG.dset hd T.ta⟩
theorem cutVV {R : V → V → Hp → Prop} {Q : Prop} (Good : V → V → Hp → Prop) (a : (∀ x y G, Good x y G → R x y G) → Q) (b : ∀ x y G, Good x y G → R x y G) : Q := a b
theorem cutP {R : Hp → Prop} {Q : Prop} (Good : Hp → Prop) (a : (∀ G, Good G → R G) → Q) (b : ∀ G, Good G → R G) : Q := a b
theorem shaped_refs (cs : List Int) : SeqAt.shaped (.list (cs.map refD)) = true := by
  have h : ∀ cs : List Int, PyData.canLayAll0 (cs.map refD) = true ∧ PyData.depthAll (cs.map refD) ≤ 1 := fun cs => by
    induction cs with
    | nil => exact ⟨by simp [PyData.canLayAll0], by simp [PyData.depthAll]⟩
    | cons c cs ih =>
      have := shaped_ref c
      unfold SeqAt.shaped at this
      rw [Bool.and_eq_true] at this
      refine ⟨by simp only [List.map_cons, PyData.canLayAll0, this.1, ih.1, Bool.and_self], ?_⟩
      have e : PyData.depth (refD c) = 1 := by simp [refD, PyData.depth, PyData.depthAll]
      rw [List.map_cons, PyData.depthAll, e]
      omega
  obtain ⟨h1, h2⟩ := h cs
  unfold SeqAt.shaped
  rw [Bool.and_eq_true]
  refine ⟨by simp only [PyData.canLay0]; exact h1, ?_⟩
  simp only [PyData.depth]
  exact decide_eq_true (by omega)
theorem dpAll_codes {K : PySem.W.Frag} {H : Hp} : ∀ {rs : List Addr} {cs : List Int}, Paired (fun r c => RefAt K H r c) rs cs → DpAll K H (rs.map V.ref) (cs.map refD)
  | _, _, .nil => .nil
  | _, _, .cons a b => .cons a.dp (dpAll_codes b)
theorem codes_ex {K : PySem.W.Frag} {H H' : Hp} (x : Ex H H') {rs : List Addr} {cs : List Int} (h : Paired (fun r c => RefAt K H r c) rs cs) : Paired (fun r c => RefAt K H' r c) rs cs := pairImp (fun _ _ q => q.ex x) h
theorem sqT_ev {K : PySem.W.Frag} {tw b : Addr} {H H' : Hp} {xs : List V} (ht : Town tw H) (v : Ev tw H H') (h : SqT K H b xs) : SqT K H' b xs := by
  obtain ⟨u0, u1, _, et⟩ := ht
  rcases h with (h | ⟨o, h⟩) | h
  · exact Or.inl (Or.inl (v.keep _ _ (fun z => by rw [z, et] at h; cases h) h (fun ps z => by cases z)))
  · exact Or.inl (Or.inr ⟨o, v.keep _ _ (fun z => by rw [z, et] at h; cases h) h (fun ps z => by cases z)⟩)
  · exact Or.inr h
theorem row_tup {K : PySem.W.Frag} {H H' : Hp} (k : ∀ b xs, SqT K H b xs → SqT K H' b xs) : ∀ {kvs : List (List L2.Key × V)} {es : Ents}, RowE K H kvs es → (∀ e ∈ es, thingD e.2) → RowE K H' kvs es
  | _, _, .nil, _ => .nil
  | kv :: kvs, e :: es, .cons a b, th => by
    refine .cons ⟨a.1, ?_⟩ (row_tup k b fun x hx => th x (List.mem_cons_of_mem _ hx))
    obtain ⟨r, xs, er, hs, h⟩ := dp_thing a.2 (th e (List.mem_cons_self ..))
    rw [er]
    rcases h with ⟨ed, rfl⟩ | ⟨n, z, ed, rfl⟩
    · rw [ed]
      exact .tup (k _ _ hs) (.cons (.str _) .nil)
    · rw [ed]
      exact .tup (k _ _ hs) (.cons (.str _) (.cons (.int _) (.cons (.str _) .nil)))
theorem HsAt.ev {K : PySem.W.Frag} {C tw h d : Addr} {H H' : Hp} {es : Ents} (ht : Town tw H) (v : Ev tw H H') (g : HsAt K C H h d es) : HsAt K C H' h d es := by
  obtain ⟨⟨dx, h1⟩, ⟨kvs, h2, h3⟩, h4, h5, h6⟩ := id g
  have th := g.thing
  obtain ⟨u0, u1, u2, et⟩ := id ht
  exact ⟨⟨dx, v.keep _ _ (fun z => by rw [z, et] at h1; cases h1) h1 (fun ps z => by cases z)⟩, ⟨kvs, v.keep _ _ (fun z => by rw [z, et] at h2; cases h2) h2 (fun ps z => by cases z), row_tup (fun b xs q => sqT_ev ht v q) h3 th⟩, h4, h5, h6⟩
theorem PathX.evx {tw : Addr} {H H' : Hp} {a : Addr} {p : List Str} (ht : Town tw H) (v : Ev tw H H') (h : PathX H a p) : PathX H' a p := by
  obtain ⟨u0, u1, _, et⟩ := ht
  refine v.keep _ _ (fun z => ?_) h (fun ps z => by cases z)
  have h : H a = some (.tup (p.map V.str)) := h
  rw [z, et] at h
  cases h
theorem Lw.fr {K : PySem.W.Frag} {C h d sc tw : Addr} {H H' : Hp} {es : Ents} {ns : List Int} (L : Lw K H sc tw ns) (g : HsAt K C H h d es) (f : Fr h d H H') : Lw K H' sc tw ns := by
  obtain ⟨dx, ob⟩ := id g.ob
  obtain ⟨kvs, hd, _⟩ := id g.dc
  have kp : ∀ b o, H b = some o → (∀ C dx fs, o ≠ .ins C dx fs) → (∀ k, o ≠ .dT k) → (∀ ps, o ≠ .tbl ps) → H' b = some o := fun b o e n1 n2 n3 =>
    f.keep b o (fun z => n1 _ _ _ (Option.some.inj (e.symm.trans ((congrArg H z).trans ob)))) (fun z => n2 _ (Option.some.inj (e.symm.trans ((congrArg H z).trans hd)))) e n3
  refine ⟨?_, ?_, L.len⟩
  · rcases L.at_ with ⟨h1 | ⟨o, h1⟩, h2⟩ | h
    · exact Or.inl ⟨Or.inl (kp _ _ h1 (fun _ _ _ z => by cases z) (fun _ z => by cases z) (fun _ z => by cases z)), h2⟩
    · exact Or.inl ⟨Or.inr ⟨o, kp _ _ h1 (fun _ _ _ z => by cases z) (fun _ z => by cases z) (fun _ z => by cases z)⟩, h2⟩
    · exact Or.inr h
  · obtain ⟨t0, t1, h0, e⟩ := L.town
    exact ⟨t0, t1, h0, kp _ _ e (fun _ _ _ z => by cases z) (fun _ z => by cases z) (fun _ z => by cases z)⟩
/-! ### a path, a deed, drawn -/
theorem slice_toX {K : PySem.W.Frag} {H : Hp} {a : Addr} {p : List Str} (n : Nat) (pa : PathX H a p) {R : VK} (h : ∀ H' r, Ex H H' → PathX H' r (p.take n) → R (.ref r) H') : rSlA K (.ref a) none (some (n : Int)) H R := by
  refine ⟨a, _, rfl, pa.at (K := K), fun hw => h H a (Ex.refl H) ?_, fun _ r hr => h _ r (Ex.new hr) ?_⟩
  · have h2 := hw.2
    rw [HT.sIx_nat, List.length_map] at h2
    rw [List.take_of_length_le (by omega)]
    exact pa
  · show _ = some (HO.tup ((p.take n).map V.str))
    rw [upd_same]
    have e : cutV (p.map V.str) none (some (n : Int)) = (p.take n).map V.str := by rw [cutV_to, List.map_take]
    exact congrArg (fun l => some (HO.tup l)) e
theorem slice_lastX {K : PySem.W.Frag} {H : Hp} {a : Addr} {p : List Str} (pa : PathX H a p) {R : VK} (h : ∀ H' r, Ex H H' → PathX H' r p.dropLast → R (.ref r) H') : rSlA K (.ref a) none (some (-1)) H R := by
  refine ⟨a, _, rfl, pa.at (K := K), fun hw => h H a (Ex.refl H) ?_, fun _ r hr => h _ r (Ex.new hr) ?_⟩
  · have h2 := hw.2
    rw [sIx_last, List.length_map] at h2
    have : p = [] := List.eq_nil_of_length_eq_zero (by omega)
    rw [this] at pa ⊢
    exact pa
  · show _ = some (HO.tup (p.dropLast.map V.str))
    rw [upd_same]
    have e : cutV (p.map V.str) none (some (-1)) = p.dropLast.map V.str := by rw [cutV_last, List.map_dropLast]
    exact congrArg (fun l => some (HO.tup l)) e
theorem cutA {R : Addr → Hp → Prop} {Q : Prop} (Good : Addr → Hp → Prop) (a : (∀ q G, Good q G → R q G) → Q) (b : ∀ q G, Good q G → R q G) : Q := a b
def LP (ps : List (List Str)) (p : List Str) : Prop := ∀ z ∈ p, z ∈ ltrs ∨ ∃ q ∈ ps, z ∈ q
def PNm (ps : List (List Str)) (n : Nat) (p : List Str) : Prop := p.length ≤ n ∧ (∀ z ∈ p, nameB z = true) ∧ LP ps p
theorem PNm.mono {ps : List (List Str)} {n m : Nat} {p : List Str} (h : PNm ps n p) (l : n ≤ m) : PNm ps m p := ⟨Nat.le_trans h.1 l, h.2⟩
theorem PNm.app {ps : List (List Str)} {n m : Nat} {p q : List Str} (h : PNm ps n p) (h2 : PNm ps m q) : PNm ps (n + m) (p ++ q) := by
  refine ⟨by rw [List.length_append]; exact Nat.add_le_add h.1 h2.1, fun z hz => ?_, fun z hz => ?_⟩
  · rcases List.mem_append.mp hz with h3 | h3
    · exact h.2.1 z h3
    · exact h2.2.1 z h3
  · rcases List.mem_append.mp hz with h3 | h3
    · exact h.2.2 z h3
    · exact h2.2.2 z h3
theorem PNm.sub {ps : List (List Str)} {n : Nat} {p q : List Str} (h : PNm ps n p) (s : q.Sublist p) : PNm ps n q := ⟨Nat.le_trans s.length_le h.1, fun z hz => h.2.1 z (s.subset hz), fun z hz => h.2.2 z (s.subset hz)⟩
theorem PNm.one {ps : List (List Str)} {z : Str} (h1 : nameB z = true) (h2 : z ∈ ltrs) : PNm ps 1 [z] := ⟨Nat.le_refl _, fun y hy => by rw [List.mem_singleton.mp hy]; exact h1, fun y hy => by rw [List.mem_singleton.mp hy]; exact Or.inl h2⟩
theorem PNm.good {ps : List (List Str)} {n : Nat} {p : List Str} (h : PNm ps n p) : goodPath (p.take 5) = true := by
  unfold goodPath
  rw [Bool.and_eq_true, decide_eq_true_eq, List.all_eq_true]
  exact ⟨by rw [List.length_take]; omega, fun z hz => h.2.1 z (List.mem_of_mem_take hz)⟩
def spLPath (K : PySem.W.Frag) : Sp := fun vs H Q _ => ∃ (sc tw d : Addr) (ns : List Int) (kvs : List (List L2.Key × V)) (ps : List (List Str)), vs = [.ref sc, .ref tw, .ref d] ∧ Lw K H sc tw ns ∧ H d = some (.dT kvs) ∧ LS.KeysP kvs ps ∧ ps.length ≤ 100 ∧ ps ≠ [] ∧ (∀ p ∈ ps, goodPath p = true) ∧
  ∀ H' r p, Ev tw H H' → PathX H' r p → goodPath p = true → LP ps p → Q (.ref r) H'
def deedNames : List Str := ["make", "write", "write", "add", "remove", "clear", "move", "move", "tie", "tie"]
def spChosen (K : PySem.W.Frag) : Sp := fun vs H Q _ => ∃ (sc tw d : Addr) (ns : List Int) (kvs : List (List L2.Key × V)) (ps : List (List Str)), vs = [.ref sc, .ref tw, .ref d] ∧ Lw K H sc tw ns ∧ H d = some (.dT kvs) ∧ LS.KeysP kvs ps ∧ ps.length ≤ 100 ∧ ps ≠ [] ∧ (∀ p ∈ ps, goodPath p = true) ∧
  ∀ H' a nm p q x, Ev tw H H' → DeedAt K H' a nm p q x → goodPath p = true → goodPath q = true → textB x = true → nm ∈ deedNames → LP ps p → LP ps q → Q (.ref a) H'
section
variable {P : Program} {w : World} {K : PySem.W.Frag} {mg : Str → Option Value} {base : Heap}
theorem scLPath : FnScope ["_law_script", "_law_town", "_law_tree_here", "_law_path_here", "_law_what"] ["_law_script", "_law_town", "_law_tree_here"] (defScope sLPath) := ⟨rfl, rfl, rfl, by decide +kernel, rfl, by decide +kernel, by decide +kernel⟩
theorem ok_lpath {f fD fP fL : Addr} {fd fdD fdP fdL : FuncData} (F : Fun K "_law_path" "_law_path" sLPath f fd) (mS : mg "sorted" = none)
    (GD : FnOk P w K mg base CX0 1 fD fdD ["_law_script", "_law_town", "_law_many"] (spDraw K)) (mD : mg "_law_draw" = some (.ref fD)) (kD : PySem.W.keepIn K (.ref fD) = true) (bD : Binds K fdD ["_law_script", "_law_town", "_law_many"] [])
    (GP : FnOk P w K mg base CX0 2 fP fdP ["_law_script", "_law_town", "_law_some"] (spPick K)) (mP : mg "_law_pick" = some (.ref fP)) (kP : PySem.W.keepIn K (.ref fP) = true) (bP : Binds K fdP ["_law_script", "_law_town", "_law_some"] [])
    (GL : FnOk P w K mg base CX0 3 fL fdL ["_law_script", "_law_town"] (spLetter K)) (mL : mg "_law_letter" = some (.ref fL)) (kL : PySem.W.keepIn K (.ref fL) = true) (bL : Binds K fdL ["_law_script", "_law_town"] []) :
    FnOk P w K mg base CX0 4 f fd ["_law_script", "_law_town", "_law_tree_here"] (spLPath K) := by
  refine F.ok scLPath (fun vs H Q E h => ?_) (fun cdv A outer s H vs Q E hr h => ?_)
  · obtain ⟨sc, tw, d, ns, kvs, ps, rfl, _⟩ := h
    rfl
  · obtain ⟨sc, tw, d, ns, kvs, ps, rfl, L, hd, hk, hl, hne, hg, k⟩ := h
    have r2 := hr.mono (show 2 ≤ 3 by decide)
    have r1 := hr.mono (show 1 ≤ 3 by decide)
    have hu3 : (A.deeper (envOfC "_law_path" (defScope sLPath) s.heap.objs.size f cdv)).units + 3 < cLine := by have := hr.units; omega
    refine ⟨_, pss_cons (ps_set (i := 3) scLPath.nd rfl (Or.inl rfl) (pe_call (E := E0) GP r2 (by rfl) mP kP bP .nil pass0 (pa_cons (pv 0) (pa_cons (pv 1) (pa_cons (pe_callB (LS.cr_sortD rfl hu3) (by rfl) mS (by decide +kernel) (pa_cons (pv 2) pa_nil)) pa_nil)))))
      (pss_cons (ps_set (i := 4) scLPath.nd rfl (Or.inl rfl) (pe_call (E := E0) GD r1 (by rfl) mD kD bD .nil pass0 (pa_cons (pv 0) (pa_cons (pv 1) (pa_cons pe_int pa_nil)))))
      (pss_cons (ps_if (pt_cmpR op_eq (pv 4) pe_int (nomark _)) (pss_one (ps_set (i := 3) scLPath.nd rfl (Or.inl rfl) (pe_op (r := rCatA K) op_catA (pv 3) (pe_tup (pa_cons (pe_call (E := E0) GL hr (by rfl) mL kL bL .nil pass0 (pa_cons (pv 0) (pa_cons (pv 1) pa_nil))) pa_nil))))) pss_nil)
      (pss_cons (ps_if (pt_cmpR op_eq (pv 4) pe_int (nomark _)) (pss_one (ps_set (i := 3) scLPath.nd rfl (Or.inl rfl) (pe_op (r := rCatA K) op_catA (pe_slice (r := rSlA K) sl_tupA (pv 3) po_none (po_some (pe_un un_neg pe_int))) (pe_tup (pa_cons (pe_call (E := E0) GL hr (by rfl) mL kL bL .nil pass0 (pa_cons (pv 0) (pa_cons (pv 1) pa_nil))) pa_nil))))) pss_nil)
      (pss_cons (ps_if (PW.pt (pw_and (pt_cmpR op_eq (pv 4) pe_int (nomark _)) (pw_and1 (pt_cmpR op_eq (pe_call (E := E0) GD r1 (by rfl) mD kD bD .nil pass0 (pa_cons (pv 0) (pa_cons (pv 1) (pa_cons pe_int pa_nil)))) pe_int (nomark _)))))
        (pss_one (ps_set (i := 3) scLPath.nd rfl (Or.inl rfl) (pe_op (r := rCatA K) op_catA (pv 3) (pe_tup (pa_cons (pe_call (E := E0) GL hr (by rfl) mL kL bL .nil pass0 (pa_cons (pv 0) (pa_cons (pv 1) pa_nil))) (pa_cons (pe_call (E := E0) GL hr (by rfl) mL kL bL .nil pass0 (pa_cons (pv 0) (pa_cons (pv 1) pa_nil))) pa_nil)))))) pss_nil)
      (pss_one (ps_ret (pe_slice (r := rSlA K) sl_tupA (pv 3) po_none (po_some pe_int)))))))), ?_⟩
    refine ⟨_, rfl, _, rfl, _, rfl, d, kvs, ps, rfl, Or.inl hd, hk, fun l ys py _ hpx hl2 => ?_⟩
    have x1 := Ex.new (o := .lst (LS.addrs ys)) hl2
    have L1 := L.ex x1
    have el : (upd H l (.lst (LS.addrs ys))) l = some (.lst (LS.addrs ys)) := upd_same
    have hlt : l ≠ tw := L.town.ne hl2
    have hpx1 : ∀ z ∈ ys, PathX (upd H l (.lst (LS.addrs ys))) z.1 z.2 := fun z hz => PathX.ex x1 (hpx z hz)
    have hyl : ys.length = ps.length := by
      have := py.length_eq
      rwa [List.length_map] at this
    have hp0 : 0 < ps.length := List.length_pos_iff.mpr hne
    have v1 := x1.ev L.town
    generalize upd H l (.lst (LS.addrs ys)) = H1 at L1 el hpx1 v1 ⊢
    refine ⟨sc, tw, l, ns, _, rfl, L1, SqL.of el, hlt, (by unfold LS.addrs; rw [List.length_map]; omega), (by unfold LS.addrs; rw [List.length_map]; omega), fun H2 u v2 hu => ?_⟩
    obtain ⟨z, hz, rfl⟩ := List.mem_map.mp hu
    have L2 := L1.ev v2
    have pz := PathX.evx L1.town v2 (hpx1 z hz)
    have hzp : z.2 ∈ ps := py.mem_iff.mp (List.mem_map.mpr ⟨z, hz, rfl⟩)
    have N2 : PNm ps 5 z.2 := ⟨(goodPath_names (hg _ hzp)).1, (goodPath_names (hg _ hzp)).2, fun y hy => Or.inr ⟨_, hzp, hy⟩⟩
    have v12 := v1.trans v2
    clear v1 v2 x1 el hpx1 L1 hu
    refine ⟨_, rfl, _, rfl, sc, tw, ns, 4, rfl, L2, (by decide), (by decide), fun H3 r v3 r0 r1 => ⟨_, rfl, rfl, _, rfl, ?_⟩⟩
    have L3 := L2.ev v3
    have p3 := PathX.evx L2.town v3 pz
    have v13 := v12.trans v3
    clear v12 v3 L2 pz
    -- a letter more
    have letter : ∀ {G : Hp} {q : Addr} {p : List Str} {R : VK} {n : Nat}, Lw K G sc tw ns → PathX G q p → PNm ps n p → n ≤ 20 → (∀ G' q' p', Ev tw G G' → PathX G' q' p' → PNm ps (n + 1) p' → R (.ref q') G') →
        spLetter K [.ref sc, .ref tw] G (fun x H2 => (fun xs H3 => xs.length ≤ sizeLine ∧ ∀ r, H3 r = none → rCatA K (.ref q) (.ref r) (upd H3 r (.tup xs)) R) [x] H2) E0 := by
      intro G q p R n LG pq Np hn kk
      refine ⟨sc, tw, ns, rfl, LG, fun G1 z v1 hz hm => ⟨(by show 1 ≤ sizeLine; decide), fun b hb => ?_⟩⟩
      have x2 := Ex.new (o := .tup [V.str z]) hb
      have pb : PathX (upd G1 b (.tup [V.str z])) b [z] := upd_same
      have pq2 := PathX.ex x2 (PathX.evx LG.town v1 pq)
      refine cat_pathX pq2 pb (by have := Np.1; rw [List.length_singleton]; omega) fun G3 q' x3 pq3 => ?_
      exact kk G3 q' _ (v1.trans ((x2.trans x3).ev (LG.ev v1).town)) pq3 (Np.app (PNm.one hz hm))
    apply cutA (fun q G => Ev tw H G ∧ ∃ p, PathX G q p ∧ PNm ps 6 p)
    · intro done
      by_cases hr0 : r = 0
      · rw [decide_eq_true (show V.int r = V.int 0 by rw [hr0])]
        refine iteT ⟨_, rfl, _, rfl, _, rfl, ?_⟩
        exact letter L3 p3 N2 (by decide) fun G' q' p' v' pq' N' => done q' G' ⟨v13.trans v', p', pq', N'⟩
      · rw [decide_eq_false (show ¬ V.int r = V.int 0 from fun e => hr0 (V.int.inj e))]
        exact iteF (done z.1 H3 ⟨v13, z.2, p3, N2.mono (by decide)⟩)
    clear v13 L3 p3 N2
    rintro q4 H4 ⟨v4, p4, pq4, N4⟩
    have L4 := L.ev v4
    refine ⟨_, rfl, rfl, _, rfl, ?_⟩
    apply cutA (fun q G => Ev tw H G ∧ ∃ p, PathX G q p ∧ PNm ps 7 p)
    · intro done
      by_cases hr1 : r = 1
      · rw [decide_eq_true (show V.int r = V.int 1 by rw [hr1])]
        refine iteT ⟨_, rfl, 1, rfl, _, rfl, ?_⟩
        refine slice_lastX pq4 fun H5 q5 x5 pq5 => ⟨_, rfl, _, rfl, ?_⟩
        have L5 := L4.ex x5
        exact letter L5 pq5 (N4.sub (List.dropLast_sublist _)) (by decide) fun G' q' p' v' pq' N' => done q' G' ⟨(v4.trans (x5.ev L4.town)).trans v', p', pq', N'⟩
      · rw [decide_eq_false (show ¬ V.int r = V.int 1 from fun e => hr1 (V.int.inj e))]
        exact iteF (done q4 H4 ⟨v4, p4, pq4, N4.mono (by decide)⟩)
    clear v4 L4 pq4 N4
    rintro q5 H5 ⟨v5, p5, pq5, N5⟩
    have L5 := L.ev v5
    refine ⟨_, rfl, rfl, _, rfl, ?_⟩
    apply cutA (fun q G => Ev tw H G ∧ ∃ p, PathX G q p ∧ PNm ps 9 p)
    · intro done
      by_cases hr2 : r = 2
      · rw [decide_eq_true (show V.int r = V.int 2 by rw [hr2])]
        refine iteT ⟨_, rfl, _, rfl, sc, tw, ns, 4, rfl, L5, (by decide), (by decide), fun H6 r6 v6 _ _ => ⟨rfl, _, rfl, ?_⟩⟩
        have L6 := L5.ev v6
        have pq6 := PathX.evx L5.town v6 pq5
        have v56 := v5.trans v6
        by_cases h6 : r6 = 0
        · rw [decide_eq_true (show V.int r6 = V.int 0 by rw [h6])]
          refine iteT ⟨_, rfl, _, rfl, _, rfl, sc, tw, ns, rfl, L6, fun H7 z1 v7 hz1 hm1 => ⟨_, rfl, _, rfl, sc, tw, ns, rfl, L6.ev v7, fun H8 z2 v8 hz2 hm2 => ⟨(by show 2 ≤ sizeLine; decide), fun b hb => ?_⟩⟩⟩
          have v78 := v7.trans v8
          have x9 := Ex.new (o := .tup [V.str z1, V.str z2]) hb
          have pb : PathX (upd H8 b (.tup [V.str z1, V.str z2])) b [z1, z2] := upd_same
          refine cat_pathX (PathX.ex x9 (PathX.evx L6.town v78 pq6)) pb (by have := N5.1; show _ + 2 ≤ 100; omega) fun G3 q' x10 pq' => done q' G3 ⟨(v56.trans v78).trans ((x9.trans x10).ev (L6.ev v78).town), _, pq', ?_⟩
          exact N5.app ((PNm.one hz1 hm1).app (PNm.one hz2 hm2))
        · rw [decide_eq_false (show ¬ V.int r6 = V.int 0 from fun e => h6 (V.int.inj e))]
          exact iteF (done q5 H6 ⟨v56, p5, pq6, N5.mono (by decide)⟩)
      · rw [decide_eq_false (show ¬ V.int r = V.int 2 from fun e => hr2 (V.int.inj e))]
        exact iteF (iteF (done q5 H5 ⟨v5, p5, pq5, N5.mono (by decide)⟩))
    rintro q6 H6 ⟨v6, p6, pq6, N6⟩
    refine ⟨_, rfl, _, rfl, ?_⟩
    exact slice_toX 5 pq6 fun H7 q7 x7 pq7 => k H7 q7 _ (v6.trans (x7.ev (L.ev v6).town)) pq7 N6.good (fun z hz => N6.2.2 z (List.mem_of_mem_take hz))
theorem scChosen : FnScope ["_law_script", "_law_town", "_law_tree_here", "_law_name"] ["_law_script", "_law_town", "_law_tree_here"] (defScope sChosen) := ⟨rfl, rfl, rfl, by decide +kernel, rfl, by decide +kernel, by decide +kernel⟩
theorem ok_chosen {f fP fA fX : Addr} {fd fdP fdA fdX : FuncData} (F : Fun K "_law_chosen" "_law_chosen" sChosen f fd)
    (GP : FnOk P w K mg base CX0 2 fP fdP ["_law_script", "_law_town", "_law_some"] (spPick K)) (mP : mg "_law_pick" = some (.ref fP)) (kP : PySem.W.keepIn K (.ref fP) = true) (bP : Binds K fdP ["_law_script", "_law_town", "_law_some"] [])
    (GA : FnOk P w K mg base CX0 4 fA fdA ["_law_script", "_law_town", "_law_tree_here"] (spLPath K)) (mA : mg "_law_path" = some (.ref fA)) (kA : PySem.W.keepIn K (.ref fA) = true) (bA : Binds K fdA ["_law_script", "_law_town", "_law_tree_here"] [])
    (GX : FnOk P w K mg base CX0 3 fX fdX ["_law_script", "_law_town"] (spLText K)) (mX : mg "_law_text" = some (.ref fX)) (kX : PySem.W.keepIn K (.ref fX) = true) (bX : Binds K fdX ["_law_script", "_law_town"] []) :
    FnOk P w K mg base CX0 5 f fd ["_law_script", "_law_town", "_law_tree_here"] (spChosen K) := by
  refine F.ok scChosen (fun vs H Q E h => ?_) (fun cdv A outer s H vs Q E hr h => ?_)
  · obtain ⟨sc, tw, d, ns, kvs, ps, rfl, _⟩ := h
    rfl
  · obtain ⟨sc, tw, d, ns, kvs, ps, rfl, L, hd, hk, hl, hne, hg, k⟩ := h
    have r3 := hr.mono (show 3 ≤ 4 by decide)
    have r2 := hr.mono (show 2 ≤ 4 by decide)
    refine ⟨_, pss_cons (ps_set (i := 3) scChosen.nd rfl (Or.inl rfl) (pe_call (E := E0) GP r2 (by rfl) mP kP bP .nil pass0 (pa_cons (pv 0) (pa_cons (pv 1) (pa_cons (pe_lst (pa_cons pe_str (pa_cons pe_str (pa_cons pe_str (pa_cons pe_str (pa_cons pe_str (pa_cons pe_str (pa_cons pe_str (pa_cons pe_str (pa_cons pe_str (pa_cons pe_str pa_nil))))))))))) pa_nil)))))
      (pss_one (ps_ret (pe_tup (pa_cons (pv 3) (pa_cons (pe_call (E := E0) GA hr (by rfl) mA kA bA .nil pass0 (pa_cons (pv 0) (pa_cons (pv 1) (pa_cons (pv 2) pa_nil)))) (pa_cons (pe_call (E := E0) GA hr (by rfl) mA kA bA .nil pass0 (pa_cons (pv 0) (pa_cons (pv 1) (pa_cons (pv 2) pa_nil))))
        (pa_cons (pe_call (E := E0) GX r3 (by rfl) mX kX bX .nil pass0 (pa_cons (pv 0) (pa_cons (pv 1) pa_nil))) pa_nil))))))), ?_⟩
    refine ⟨_, rfl, _, rfl, (by show 10 ≤ sizeLine; decide), fun lp hlp => ?_⟩
    have x1 := Ex.new (o := .lst (deedNames.map V.str)) hlp
    have elp : (upd H lp (.lst (deedNames.map V.str))) lp = some (.lst (deedNames.map V.str)) := upd_same
    have lpt : lp ≠ tw := L.town.ne hlp
    have L1 := L.ex x1
    have hd1 := x1.keep _ _ hd (fun ps z => by cases z)
    have v1 := x1.ev L.town
    change spPick K [.ref sc, .ref tw, .ref lp] (upd H lp (.lst (deedNames.map V.str))) _ E0
    generalize upd H lp (.lst (deedNames.map V.str)) = H1 at elp L1 hd1 v1 ⊢
    have hdt : d ≠ tw := fun z => by
      obtain ⟨_, _, _, et⟩ := L.town
      rw [z, et] at hd; cases hd
    refine ⟨sc, tw, lp, ns, _, rfl, L1, SqL.of elp, lpt, (by decide), (by decide), fun H2 u v2 hu => ?_⟩
    obtain ⟨nm, hnm, rfl⟩ := List.mem_map.mp hu
    have L2 := L1.ev v2
    have hd2 := v2.keep _ _ hdt hd1 (fun ps z => by cases z)
    refine ⟨_, rfl, _, rfl, _, rfl, _, rfl, sc, tw, d, ns, kvs, ps, rfl, L2, hd2, hk, hl, hne, hg, fun H3 b p v3 pb gp lp3 => ?_⟩
    have L3 := L2.ev v3
    have hd3 := v3.keep _ _ hdt hd2 (fun ps z => by cases z)
    refine ⟨_, rfl, _, rfl, _, rfl, sc, tw, d, ns, kvs, ps, rfl, L3, hd3, hk, hl, hne, hg, fun H4 c q v4 pc gq lq => ?_⟩
    have L4 := L3.ev v4
    refine ⟨_, rfl, _, rfl, sc, tw, ns, rfl, L4, fun H5 x v5 tx => ⟨(by show 4 ≤ sizeLine; decide), fun a ha => ?_⟩⟩
    have L5 := L4.ev v5
    have x6 := Ex.new (o := .tup [V.str nm, V.ref b, V.ref c, V.str x]) ha
    have pb5 := PathX.evx L3.town (v4.trans v5) pb
    have pc5 := PathX.evx L4.town v5 pc
    refine k _ a nm p q x (((((v1.trans v2).trans v3).trans v4).trans v5).trans (x6.ev L5.town)) ⟨b, c, SqT.of upd_same, PathX.ex x6 pb5, PathX.ex x6 pc5⟩ gp gq tx hnm lp3 lq
end
theorem things_shaped {es : Ents} (t : treeB es = true) : ∀ e ∈ es, SeqAt.shaped e.2 = true := fun e he => by
  rcases tree_form ((treeB_parts t).2.2.1 e he) with h | ⟨n, z, h, _, hz⟩
  · rw [h]; decide +kernel
  · rw [h]
    have hz := text_ok hz
    have hf : PyData.strOk "file" = true := by decide +kernel
    simp [SeqAt.shaped, PyData.canLay0, PyData.canLayAll0, PyData.depth, PyData.depthAll, hz, hf]
/-! ### a deed's answer as data, and what stands behind it -/
theorem HsAt.fr {K : PySem.W.Frag} {C h d h2 d2 : Addr} {H H' : Hp} {es fs : Ents} (g : HsAt K C H h d es) (f : Fr h d H H') (g2 : HsAt K C H h2 d2 fs) (n1 : h2 ≠ h) (n2 : d2 ≠ d) : HsAt K C H' h2 d2 fs := by
  obtain ⟨⟨dx, h1⟩, ⟨kvs, h3, h4⟩, h5, h6, h7⟩ := g2
  obtain ⟨dxh, obh⟩ := id g.ob
  obtain ⟨kh, hdh, _⟩ := id g.dc
  refine ⟨⟨dx, f.keep _ _ n1 (fun z => by rw [z, hdh] at h1; cases h1) h1 (fun ps z => by cases z)⟩, ⟨kvs, f.keep _ _ (fun z => by rw [z, obh] at h3; cases h3) n2 h3 (fun ps z => by cases z), mv_row (Fr.seq g f) h4⟩, h5, h6, h7⟩
theorem Fr.sqT {K : PySem.W.Frag} {C h d : Addr} {H H' : Hp} {es : Ents} (g : HsAt K C H h d es) (f : Fr h d H H') {b : Addr} {xs : List V} (q : SqT K H b xs) : SqT K H' b xs := by
  rcases q with (q | ⟨o, q⟩) | q
  · exact Or.inl (Or.inl (Fr.seq g f _ _ q trivial))
  · exact Or.inl (Or.inr ⟨o, Fr.seq g f _ _ q trivial⟩)
  · exact Or.inr q
theorem HsAt.dset {K : PySem.W.Frag} {C h d x : Addr} {H : Hp} {es : Ents} {kvs : List (List L2.Key × V)} {o : HO} (g : HsAt K C H h d es) (hx : H x = some (.dT kvs)) (ne : d ≠ x) : HsAt K C (upd H x o) h d es := by
  obtain ⟨⟨dx, h1⟩, ⟨ks, h3, h4⟩, h5, h6, h7⟩ := g
  exact ⟨⟨dx, by rw [upd_ne (ne_of h1 hx (fun z => by cases z))]; exact h1⟩, ⟨ks, by rw [upd_ne ne]; exact h3, mv_row (mv_upd (u := o) hx (fun q => q)) h4⟩, h5, h6, h7⟩
theorem DeedAt.fr {K : PySem.W.Frag} {C h d a : Addr} {H H' : Hp} {es : Ents} {nm x : Str} {p q : List Str} (g : HsAt K C H h d es) (f : Fr h d H H') (D : DeedAt K H a nm p q x) : DeedAt K H' a nm p q x := by
  obtain ⟨b, c, h1, h2, h3⟩ := D
  exact ⟨b, c, Fr.sqT g f h1, Fr.seq g f _ _ h2 trivial, Fr.seq g f _ _ h3 trivial⟩
theorem DeedAt.ev {K : PySem.W.Frag} {tw a : Addr} {H H' : Hp} {nm x : Str} {p q : List Str} (ht : Town tw H) (v : Ev tw H H') (D : DeedAt K H a nm p q x) : DeedAt K H' a nm p q x := by
  obtain ⟨b, c, h1, h2, h3⟩ := D
  exact ⟨b, c, sqT_ev ht v h1, PathX.evx ht v h2, PathX.evx ht v h3⟩
theorem DeedAt.dset {K : PySem.W.Frag} {a d : Addr} {H : Hp} {nm x : Str} {p q : List Str} {kvs : List (List L2.Key × V)} {o : HO} (hd : H d = some (.dT kvs)) (D : DeedAt K H a nm p q x) : DeedAt K (upd H d o) a nm p q x := by
  obtain ⟨b, c, h1, h2, h3⟩ := D
  refine ⟨b, c, ?_, ?_, ?_⟩
  · rcases h1 with (h | ⟨u, h⟩) | h
    · exact Or.inl (Or.inl (by rw [upd_ne (ne_of h hd (fun z => by cases z))]; exact h))
    · exact Or.inl (Or.inr ⟨u, by rw [upd_ne (ne_of h hd (fun z => by cases z))]; exact h⟩)
    · exact Or.inr h
  · show upd _ _ _ _ = _
    rw [upd_ne (ne_of h2 hd (fun z => by cases z))]
    exact h2
  · show upd _ _ _ _ = _
    rw [upd_ne (ne_of h3 hd (fun z => by cases z))]
    exact h3
def ansD : Out → PyData
  | .ref i => refD i
  | .ok _ => .none
def nextE (es : Ents) : Out → Ents
  | .ref _ => es
  | .ok es' => es'
/-- the answer v stands for the outcome -/
def AnsAt (K : PySem.W.Frag) (H : Hp) (v : V) : Out → Prop
  | .ref i => ∃ r, v = .ref r ∧ RefAt K H r i
  | .ok _ => v = .non
theorem AnsAt.dp {K : PySem.W.Frag} {H : Hp} {v : V} {o : Out} (h : AnsAt K H v o) : Dp K H v (ansD o) := by
  cases o with
  | ref i =>
    obtain ⟨r, rfl, h⟩ := h
    exact h.dp
  | ok es =>
    have h : v = .non := h
    rw [h]
    exact .non
theorem AnsAt.keep {K : PySem.W.Frag} {H H' : Hp} {v : V} {o : Out} (k : ∀ b xs, SqT K H b xs → SqT K H' b xs) (h : AnsAt K H v o) : AnsAt K H' v o := by
  cases o with
  | ref i =>
    obtain ⟨r, e, h⟩ := h
    exact ⟨r, e, k _ _ h⟩
  | ok es => exact h
theorem shaped_ans (o : Out) : SeqAt.shaped (ansD o) = true ∧ PyData.depth (ansD o) ≤ 1 := by
  cases o with
  | ref i => exact ⟨shaped_ref i, by simp [ansD, refD, PyData.depth, PyData.depthAll]⟩
  | ok es => exact ⟨(by show SeqAt.shaped .none = true; decide +kernel), (by show PyData.depth .none ≤ 1; decide +kernel)⟩
theorem shaped_anss (os : List Out) : SeqAt.shaped (.list (os.map ansD)) = true := by
  have h : ∀ os : List Out, PyData.canLayAll0 (os.map ansD) = true ∧ PyData.depthAll (os.map ansD) ≤ 1 := fun os => by
    induction os with
    | nil => exact ⟨by simp [PyData.canLayAll0], by simp [PyData.depthAll]⟩
    | cons c cs ih =>
      obtain ⟨h1, h2⟩ := shaped_ans c
      unfold SeqAt.shaped at h1
      rw [Bool.and_eq_true] at h1
      refine ⟨by simp only [List.map_cons, PyData.canLayAll0, h1.1, ih.1, Bool.and_self], ?_⟩
      rw [List.map_cons, PyData.depthAll]
      omega
  obtain ⟨h1, h2⟩ := h os
  unfold SeqAt.shaped
  rw [Bool.and_eq_true]
  refine ⟨by simp only [PyData.canLay0]; exact h1, ?_⟩
  simp only [PyData.depth]
  exact decide_eq_true (by omega)
theorem dpAll_anss {K : PySem.W.Frag} {H : Hp} : ∀ {vs : List V} {os : List Out}, Paired (fun v o => AnsAt K H v o) vs os → DpAll K H vs (os.map ansD)
  | _, _, .nil => .nil
  | _, _, .cons a b => .cons a.dp (dpAll_anss b)
theorem do_run {K : PySem.W.Frag} {C P1 P2 P3 P9 PA h d a : Addr} {H : Hp} {Q : VK} {E : XK} {es : Ents} {nm x : Str} {p q : List Str} (g : HsAt K C H h d es) (pl : plainE es = es) (TD : TabsD H P1 P2 P3 P9 PA)
    (D : DeedAt K H a nm p q x) (gp : goodPath p = true) (gq : goodPath q = true) (tx : textB x = true)
    (k : ∀ H' v d', Fr h d H H' → (d' = d ∨ H d' = none) → HsAt K C H' h d' (nextE es (doO es nm (some p) (some q) (some x))) → AnsAt K H' v (doO es nm (some p) (some q) (some x)) → Q v H') : spDo K C P1 P2 P3 P9 PA [.ref h, .ref a] H Q E := by
  refine do_lit g pl TD D gp gq tx rfl ?_
  generalize doO es nm (some p) (some q) (some x) = o at k
  cases o with
  | ref i => exact fun H' r x hr => k H' (.ref r) d (Ex.fr x) (Or.inl rfl) (g.ex x) ⟨r, rfl, hr⟩
  | ok es' => exact fun H' d' fr hd g' => k H' .non d' fr hd g' rfl
/-- the names are the law's own -/
def NamesE (es : Ents) : Prop := ∀ e ∈ es, ∀ z ∈ e.1, z ∈ ltrs
theorem names_plain {es : Ents} (N : NamesE es) : NamesE (plainE es) := fun e he z hz => by
  obtain ⟨y, hy, ey⟩ := List.mem_map.mp (plainE_key he)
  rw [← ey] at hz
  exact N y hy z hz
theorem doO_names {es es' : Ents} {nm x : Str} {p q : List Str} (t : treeB es = true) (N : NamesE es) (gq : goodPath q = true) (hp : ∀ z ∈ p, z ∈ ltrs) (hq : ∀ z ∈ q, z ∈ ltrs) (h : doO es nm (some p) (some q) (some x) = .ok es') : NamesE es' := by
  have snoc : ∀ {r : List Str} {D : PyData}, (∀ z ∈ r, z ∈ ltrs) → NamesE (es ++ [(r, D)]) := fun hr e he z hz => by
    rcases List.mem_append.mp he with h | h
    · exact N e h z hz
    · rw [List.mem_singleton.mp h] at hz
      exact hr z hz
  have giv : ∀ n y, NamesE (giveE es n y) := fun n y e he z hz => by
    obtain ⟨u, hu, rfl⟩ := List.mem_map.mp he
    exact N u hu z hz
  have awy : ∀ r, NamesE (awayE es r) := fun r e he z hz => N e (mem_away.mp he).1 z hz
  unfold doO at h
  by_cases e1 : nm = "make"
  · rw [if_pos e1] at h
    obtain ⟨p', ep, h1, h2, h3, h4, rfl⟩ := makeO_ok h
    cases ep
    exact names_plain (snoc hp)
  rw [if_neg e1] at h
  by_cases e2 : nm = "write"
  · rw [if_pos e2] at h
    obtain ⟨p', x', ep, _, h1, h2, ⟨d, h3, h4, rfl⟩ | ⟨h3, h4, rfl⟩⟩ := writeO_ok h
    · exact giv _ _
    · cases ep
      exact names_plain (snoc hp)
  rw [if_neg e2] at h
  by_cases e3 : nm = "add"
  · rw [if_pos e3] at h
    obtain ⟨p', x', d, _, _, h1, h2, h3, rfl⟩ := addO_ok h
    exact giv _ _
  rw [if_neg e3] at h
  by_cases e4 : nm = "remove"
  · rw [if_pos e4] at h
    obtain ⟨p', _, h1, h2, h3, rfl⟩ := removeO_ok h
    exact names_plain (awy _)
  rw [if_neg e4] at h
  by_cases e5 : nm = "clear"
  · rw [if_pos e5] at h
    obtain ⟨p', _, h1, h2, rfl⟩ := clearO_ok h
    exact names_plain (awy _)
  rw [if_neg e5] at h
  by_cases e6 : nm = "move"
  · rw [if_pos e6] at h
    obtain ⟨old, new, _, en, M, rfl⟩ := moveO_ok t (fun p hp => by cases hp; exact gq) h
    cases en
    refine names_plain fun e he z hz => ?_
    obtain ⟨u, hu, rfl⟩ := List.mem_map.mp he
    have hz : z ∈ movedP u.1 old q := hz
    unfold movedP at hz
    by_cases hb : beginsB u.1 old = true
    · rw [if_pos hb] at hz
      rcases List.mem_append.mp hz with h | h
      · exact hq z h
      · exact N u hu z (List.mem_of_mem_drop h)
    · rw [if_neg hb] at hz
      exact N u hu z hz
  rw [if_neg e6] at h
  obtain ⟨old, new, d, _, en, h1, h2, h3, h4, h5, rfl⟩ := tieO_ok h
  cases en
  exact names_plain (snoc hq)
/-- deeds in a row -/
structure Dd where
  nm : Str
  p : List Str
  q : List Str
  x : Str
def Dd.o (d : Dd) (es : Ents) : Out := doO es d.nm (some d.p) (some d.q) (some d.x)
def Dd.ok (d : Dd) : Prop := goodPath d.p = true ∧ goodPath d.q = true ∧ textB d.x = true
def rowO : Ents → List Dd → List Out × Ents
  | es, [] => ([], es)
  | es, d :: ds => (d.o es :: (rowO (nextE es (d.o es)) ds).1, (rowO (nextE es (d.o es)) ds).2)
theorem rowO_snoc : ∀ (ds : List Dd) (es : Ents) (d : Dd), rowO es (ds ++ [d]) = ((rowO es ds).1 ++ [d.o (rowO es ds).2], nextE (rowO es ds).2 (d.o (rowO es ds).2))
  | [], es, d => rfl
  | c :: ds, es, d => by
    show (c.o es :: (rowO (nextE es (c.o es)) (ds ++ [d])).1, (rowO (nextE es (c.o es)) (ds ++ [d])).2) = _
    rw [rowO_snoc ds]
    rfl
theorem next_pl {es : Ents} {d : Dd} (t : treeB es = true) (nd : (es.map (·.1)).Nodup) (pl : plainE es = es) (hd : d.ok) : plainE (nextE es (d.o es)) = nextE es (d.o es) := by
  cases ho : d.o es with
  | ref i => exact pl
  | ok es' => exact doO_pl t nd pl (fun p hp => by cases hp; exact hd.1) (fun p hp => by cases hp; exact hd.2.1) (fun x hx => by cases hx; exact hd.2.2) ho
theorem next_names {es : Ents} {d : Dd} (t : treeB es = true) (N : NamesE es) (hd : d.ok) (hp : ∀ z ∈ d.p, z ∈ ltrs) (hq : ∀ z ∈ d.q, z ∈ ltrs) : NamesE (nextE es (d.o es)) := by
  cases ho : d.o es with
  | ref i => exact N
  | ok es' => exact doO_names t N hd.2.1 hp hq ho
theorem LP.ltrs {es : Ents} {p : List Str} (N : NamesE es) (h : LP (es.map (·.1)) p) : ∀ z ∈ p, z ∈ ltrs := fun z hz => by
  rcases h z hz with h | ⟨q, hq, hz⟩
  · exact h
  · obtain ⟨e, he, rfl⟩ := List.mem_map.mp hq
    exact N e he z hz
theorem DeedAt.lset {K : PySem.W.Frag} {a l : Addr} {H : Hp} {nm x : Str} {p q : List Str} {xs : List V} {o : HO} (hl : H l = some (.lst xs)) (D : DeedAt K H a nm p q x) : DeedAt K (upd H l o) a nm p q x := by
  obtain ⟨b, c, h1, h2, h3⟩ := D
  refine ⟨b, c, sqT_put h1 hl, ?_, ?_⟩
  · show upd _ _ _ _ = _
    rw [upd_ne (ne_of h2 hl (fun z => by cases z))]
    exact h2
  · show upd _ _ _ _ = _
    rw [upd_ne (ne_of h3 hl (fun z => by cases z))]
    exact h3
theorem HsAt.lset {K : PySem.W.Frag} {C l h d : Addr} {H : Hp} {es : Ents} {xs : List V} {o : HO} (g : HsAt K C H h d es) (hl : H l = some (.lst xs)) : HsAt K C (upd H l o) h d es := by
  obtain ⟨⟨dx, h1⟩, ⟨kvs, h2, h3⟩, h4, h5, h6⟩ := id g
  have th := g.thing
  exact ⟨⟨dx, by rw [upd_ne (ne_of h1 hl (fun z => by cases z))]; exact h1⟩, ⟨kvs, by rw [upd_ne (ne_of h2 hl (fun z => by cases z))]; exact h2, row_tup (fun b xs q => sqT_put q hl) h3 th⟩, h4, h5, h6⟩
theorem TabG.lset {H : Hp} {l P : Addr} {xs : List V} {o : HO} (hl : H l = some (.lst xs)) (h : TabG H P) : TabG (upd H l o) P := by
  obtain ⟨ps, e, t⟩ := h
  exact ⟨ps, by rw [upd_ne (ne_of e hl (fun z => by cases z))]; exact e, t⟩
theorem TabsW.lset {H : Hp} {l P1 P2 P3 P4 P5 P9 PA : Addr} {xs : List V} {o : HO} (T : TabsW H P1 P2 P3 P4 P5 P9 PA) (hl : H l = some (.lst xs)) : TabsW (upd H l o) P1 P2 P3 P4 P5 P9 PA :=
  ⟨⟨TabG.lset hl T.t.t1, TabG.lset hl T.t.t2, TabG.lset hl T.t.t3, TabG.lset hl T.t.t4, TabG.lset hl T.t.t5⟩, TabG.lset hl T.t9, TabG.lset hl T.ta⟩
/-- the script is not at l -/
def ScNe (K : PySem.W.Frag) (sc l : Addr) (ns : List Int) : Prop := sc ≠ l ∨ ∀ G : Hp, SqL K G sc (ns.map V.int)
theorem Lw.scne {K : PySem.W.Frag} {H : Hp} {sc tw l : Addr} {ns : List Int} (L : Lw K H sc tw ns) (h : H l = none) : ScNe K sc l ns := by
  rcases L.at_ with ⟨h1 | ⟨o, h1⟩, _⟩ | h2
  · exact Or.inl (ne_of_none h1 h)
  · exact Or.inl (ne_of_none h1 h)
  · exact Or.inr h2
theorem Lw.lset {K : PySem.W.Frag} {H : Hp} {sc tw l : Addr} {ns : List Int} {o : HO} (L : Lw K H sc tw ns) (hs : ScNe K sc l ns) (ht : l ≠ tw) : Lw K (upd H l o) sc tw ns := by
  refine ⟨?_, ?_, L.len⟩
  · rcases hs with hs | hs
    · rcases L.at_ with ⟨h1 | ⟨u, h1⟩, h2⟩ | h
      · exact Or.inl ⟨Or.inl (by rw [upd_ne hs]; exact h1), h2⟩
      · exact Or.inl ⟨Or.inr ⟨u, by rw [upd_ne hs]; exact h1⟩, h2⟩
      · exact Or.inr h
    · exact Or.inr hs
  · obtain ⟨t0, t1, h0, e⟩ := L.town
    exact ⟨t0, t1, h0, by rw [upd_ne (Ne.symm ht)]; exact e⟩
theorem AnsAt.lset {K : PySem.W.Frag} {H : Hp} {l : Addr} {xs : List V} {o : HO} {v : V} {u : Out} (hl : H l = some (.lst xs)) (h : AnsAt K H v u) : AnsAt K (upd H l o) v u := h.keep fun b xs q => sqT_put q hl
/-! ### listed -/
theorem PathX.or {K : PySem.W.Frag} {H : Hp} {v : V} {bad : Prop} {R : Addr → List Str → Prop} (h : PathOrX K H v bad R) : PathOr K H v bad fun a p => PathX H a p ∧ R a p := by
  rcases h with h | ⟨a, p, e, pa, g, r⟩
  · exact Or.inl h
  · exact Or.inr ⟨a, p, e, pa.at, g, pa, r⟩
def spListedM (K : PySem.W.Frag) (C P1 P2 P3 P4 P5 CP CN CD : Addr) : Sp := fun vs H Q E => ∃ h d es v, vs = [.ref h, v] ∧ HsAt K C H h d es ∧ Tabs5 H P1 P2 P3 P4 P5 ∧ es.length < 64 ∧
  PathOrX K H v (Refused H E CP) fun _ p => (valE es p = none → Refused H E CN) ∧ (∀ n z, valE es p = some (fileD n z) → Refused H E CD) ∧
    (valE es p = some drD → ∀ H' l ys, Ex H H' → H l = none → H' l = some (.lst (ys.map V.str)) → ys.Perm (namesIn es p) → sortedS ys = true → Q (.ref l) H')
section
variable {P : Program} {w : World} {K : PySem.W.Frag} {mg : Str → Option Value} {base : Heap}
theorem scListedM : FnScope ["self", "path"] ["self", "path"] (defScope mListed) := ⟨rfl, rfl, rfl, by decide +kernel, rfl, by decide +kernel, by decide +kernel⟩
theorem ok_listedM {f C fN P1 P2 P3 P4 P5 CT CP CN CD : Addr} {fd fdN : FuncData} (F : Fun K "listed" "House.listed" mListed f fd) (T : HT K mg C)
    (GN : FnOk P w K mg base (L2.CX P w) 11 fN fdN ["tree", "path"] (spNamesIn K P1 P2 P3 P4 P5 CT CP CN CD)) (mN : mg "names_in" = some (.ref fN)) (kN : PySem.W.keepIn K (.ref fN) = true) (bN : Binds K fdN ["tree", "path"] []) :
    FnOk P w K mg base (L2.CX P w) 12 f fd ["self", "path"] (spListedM K C P1 P2 P3 P4 P5 CP CN CD) := by
  refine F.okX scListedM (fun vs H Q E h => ?_) (fun cdv A outer s H vs Q E hr h => ?_)
  · obtain ⟨h, d, es, v, rfl, _⟩ := h
    rfl
  · obtain ⟨h, d, es, v, rfl, g, TB, hl, hp⟩ := h
    refine ⟨_, pss_one (ps_ret (pe_call (E := E) GN hr (by rfl) mN kN bN .nil (passes_call (takes_of rfl rfl rfl rfl) (fun _ _ _ _ h => h)) (pa_cons (pe_fld (pv 0) rfl) (pa_cons (pv 1) pa_nil)))), ?_⟩
    obtain ⟨dx, ob⟩ := id g.ob
    refine ⟨_, rfl, h, C, dx, _, _, rfl, ob, T.cl, T.nT, fl_get d, _, rfl, .ref d, v, rfl, TB, .inr ⟨d, es, rfl, g.tr, g.small, hl, g.tree, PathX.or ?_⟩⟩
    rcases hp with hb | ⟨a, p, e, pa, gp, k1, k2, k3⟩
    · exact Or.inl hb
    refine Or.inr ⟨a, p, e, pa, gp, ?_⟩
    rcases valE_cases g.tree p with e | e | ⟨n, z, e⟩
    · rw [e]; exact k1 e
    · rw [e]
      show if drawerB drD = true then _ else _
      rw [if_pos drD_drawer]
      exact k3 e
    · rw [e]
      show if drawerB (fileD n z) = true then _ else _
      rw [if_neg (by rw [fileD_noDrawer]; decide)]
      exact k2 n z e
end
/-! ### what a house tells -/
def ViewK (K : PySem.W.Frag) (H : Hp) (Q : VK) (es : Ents) (p : List Str) : Nat → Prop
  | 0 => ∀ H', Ex H H' → Q (kindV es p) H'
  | 1 => (valE es p = none → ToldI K H Q 8) ∧ (valE es p = some drD → ToldI K H Q 10) ∧ ∀ n z, valE es p = some (fileD n z) → ∀ H', Ex H H' → Q (.str z) H'
  | 2 => (valE es p = none → ToldI K H Q 8) ∧ (∀ n z, valE es p = some (fileD n z) → ToldI K H Q 9) ∧ (valE es p = some drD → ∀ H' l ys, Ex H H' → H l = none → H' l = some (.lst (ys.map V.str)) → ys.Perm (namesIn es p) → sortedS ys = true → Q (.ref l) H')
  | _ => (valE es p = none → ToldI K H Q 8) ∧ (valE es p = some drD → ToldI K H Q 10) ∧
    ∀ n z, valE es p = some (fileD n z) → ∀ H' l ys, Ex H H' → H l = none → H' l = some (.lst (LS.addrs ys)) → (ys.map (·.2)).Perm (tiedE es n) → LS.Rising ys → (∀ u ∈ ys, PathX H' u.1 u.2) → Q (.ref l) H'
def spView (K : PySem.W.Frag) (C P1 P2 P3 P4 P5 : Addr) : Sp := fun vs H Q _ => ∃ (h d : Addr) (es : Ents) (n : Nat) (v : V), vs = [.ref h, .int (n : Nat), v] ∧ n < 4 ∧ HsAt K C H h d es ∧ Tabs5 H P1 P2 P3 P4 P5 ∧ es.length < 64 ∧
  PathOrX K H v (ToldI K H Q 0) fun _ p => ViewK K H Q es p n
section
variable {P : Program} {w : World} {K : PySem.W.Frag} {mg : Str → Option Value} {base : Heap}
abbrev vwN : List Str := ["_law_house", "_law_what", "_law_path_here", "_law_e"]
theorem scView : FnScope vwN ["_law_house", "_law_what", "_law_path_here"] (defScope sView) := ⟨rfl, rfl, rfl, by decide +kernel, rfl, by decide +kernel, by decide +kernel⟩
theorem ok_view {f fKd fRd fLs fTd fW C T P1 P2 P3 P4 P5 : Addr} {cls : Nat → Addr} {fd fdKd fdRd fdLs fdTd fdW : FuncData} (F : Fun K "_law_view" "_law_view" sView f fd) (HH : HT K mg C) (gT : mg "TreeError" = some (.ref T)) (EE : Errs16 K mg T cls)
    (mKd : Meth K C "kind" fKd) (GKd : FnOk P w K mg base (L2.CX P w) 7 fKd fdKd ["self", "path"] (spKindM K C P1 P2 (cls 0))) (bKd : Binds K fdKd ["self", "path"] [])
    (mRd : Meth K C "read" fRd) (GRd : FnOk P w K mg base (L2.CX P w) 7 fRd fdRd ["self", "path"] (spReadM K C P1 P2 (cls 0) (cls 8) (cls 10))) (bRd : Binds K fdRd ["self", "path"] [])
    (mLs : Meth K C "listed" fLs) (GLs : FnOk P w K mg base (L2.CX P w) 12 fLs fdLs ["self", "path"] (spListedM K C P1 P2 P3 P4 P5 (cls 0) (cls 8) (cls 9))) (bLs : Binds K fdLs ["self", "path"] [])
    (mTd : Meth K C "tied" fTd) (GTd : FnOk P w K mg base (L2.CX P w) 7 fTd fdTd ["self", "path"] (spTiedM K C P1 P2 (cls 0) (cls 8) (cls 10))) (bTd : Binds K fdTd ["self", "path"] [])
    (GW : FnE P w K mg base CX0 1 fW fdW ["_law_e"] (spWhich K mg)) (mW : mg "_law_which" = some (.ref fW)) (kW : PySem.W.keepIn K (.ref fW) = true) (bW : Binds K fdW ["_law_e"] []) :
    FnOk P w K mg base CX0 13 f fd ["_law_house", "_law_what", "_law_path_here"] (spView K C P1 P2 P3 P4 P5) := by
  refine F.ok scView (fun vs H Q E h => ?_) (fun cdv A outer s H vs Q E hr h => ?_)
  · obtain ⟨h, d, es, n, v, rfl, _⟩ := h
    rfl
  · obtain ⟨h, d, es, n, v, rfl, hn, g, TB, hl, hp⟩ := h
    have r7 := hr.mono (show 7 ≤ 12 by decide)
    refine ⟨_, pss_one (ps_try_as (i := 3) (ts := fun a cls d => tRet (tCallS (spWhich K mg a cls d) (fun _ _ _ _ => False) (tCons (tVar 3) tNil))) (Wout := fun _ _ _ _ => False) rfl rfl scView.nd rfl rfl ⟨rfl, by decide, Or.inl gT⟩ takes0
      (fun W pn xe tk _ => pss_cons (ps_if (pt_cmpR op_eq (pv 1) pe_int (nomark _)) (pss_one (ps_ret (pe_methE (E := WE W) (pv 0) HH.cl mKd GKd r7 bKd (fun σ => passAt tk σ) (pa_cons (pv 2) pa_nil)))) pss_nil)
        (pss_cons (ps_if (pt_cmpR op_eq (pv 1) pe_int (nomark _)) (pss_one (ps_ret (pe_methE (E := WE W) (pv 0) HH.cl mRd GRd r7 bRd (fun σ => passAt tk σ) (pa_cons (pv 2) pa_nil)))) pss_nil)
        (pss_one (ps_ret (pe_ifExp (pt_cmpR op_eq (pv 1) pe_int (nomark _)) (pe_methE (E := WE W) (pv 0) HH.cl mLs GLs hr bLs (fun σ => passAt tk σ) (pa_cons (pv 2) pa_nil))
          (pe_methE (E := WE W) (pv 0) HH.cl mTd GTd r7 bTd (fun σ => passAt tk σ) (pa_cons (pv 2) pa_nil)))))))
      (fun a oe cls d pn hz hf => pss_one (ps_ret (pe_callE GW (by have r1 : Room 1 _ := hr.mono (by decide); exact ⟨r1.dp, r1.un⟩) ⟨hz, hf⟩ List.mem_cons_self (by rfl) mW kW bW (fun _ _ _ _ _ _ _ z => z.elim) (pa_cons (pv 3) pa_nil))))), ?_⟩
    obtain ⟨dx, ob⟩ := id g.ob
    have conv : ∀ i, i ∈ dI → ToldI K H Q i → Refused H (WE (wAs K (.ref T) 3 (fun a cls d => tRet (tCallS (spWhich K mg a cls d) (fun _ _ _ _ => False) (tCons (tVar 3) tNil))) (fun _ _ _ _ => False)
        { nx := fun _ G => Q .non G, rt := Q }) [some (.ref h), some (.int (n : Nat)), some v, none]) (cls i) := fun i hl hk H1 x1 =>
      ⟨true, EE.yes i hl, fun _ a' _ => ⟨_, rfl, cls i, i, rfl, rfl, rfl, EE.wh i hl, fun H3 r x3 hr => hk H3 r (x1.trans x3) hr⟩, fun z => nomatch z⟩
    have m0 : 0 ∈ dI := by decide
    have m8 : 8 ∈ dI := by decide
    have m9 : 9 ∈ dI := by decide
    have m10 : 10 ∈ dI := by decide
    refine ⟨_, rfl, rfl, _, rfl, ?_⟩
    match n, hn, hp with
    | 0, _, hp =>
      refine iteT ⟨_, rfl, h, dx, _, rfl, ob, fl_no d (by decide +kernel), _, rfl, h, d, es, v, rfl, g, TB.t1, TB.t2, ?_⟩
      exact hp.imp (fun hb => ⟨hb.1, conv 0 m0 hb.2⟩) fun hp => hp
    | 1, _, hp =>
      refine iteF ⟨_, rfl, rfl, _, rfl, iteT ⟨_, rfl, h, dx, _, rfl, ob, fl_no d (by decide +kernel), _, rfl, h, d, es, v, rfl, g, TB.t1, TB.t2, ?_⟩⟩
      exact hp.imp (fun hb => ⟨hb.1, conv 0 m0 hb.2⟩) fun ⟨a, p, e, pa, gp, k1, k2, k3⟩ => ⟨a, p, e, pa, gp, fun e => conv 8 m8 (k1 e), fun e => conv 10 m10 (k2 e), k3⟩
    | 2, _, hp =>
      refine iteF ⟨_, rfl, rfl, _, rfl, iteF ⟨_, rfl, rfl, _, rfl, iteT ⟨_, rfl, h, dx, _, rfl, ob, fl_no d (by decide +kernel), _, rfl, h, d, es, v, rfl, g, TB, hl, ?_⟩⟩⟩
      exact hp.imp (fun hb => ⟨hb.1, conv 0 m0 hb.2⟩) fun ⟨a, p, e, pa, gp, k1, k2, k3⟩ => ⟨a, p, e, pa, gp, fun e => conv 8 m8 (k1 e), fun n z e => conv 9 m9 (k2 n z e), k3⟩
    | 3, _, hp =>
      refine iteF ⟨_, rfl, rfl, _, rfl, iteF ⟨_, rfl, rfl, _, rfl, iteF ⟨_, rfl, h, dx, _, rfl, ob, fl_no d (by decide +kernel), _, rfl, h, d, es, v, rfl, g, TB.t1, TB.t2, ?_⟩⟩⟩
      exact hp.imp (fun hb => ⟨hb.1, conv 0 m0 hb.2⟩) fun ⟨a, p, e, pa, gp, k1, k2, k3⟩ => ⟨a, p, e, pa, gp, fun e => conv 8 m8 (k1 e), fun e => conv 10 m10 (k2 e), k3⟩
end
end LK

namespace LK
open PySem PySem.Spec PyProof.Rows L2 GA LT LE L2H LD
/-! ### the law's own names -/
theorem ltc_tr {a b c : Str} (h1 : ltCps b.cps.toList a.cps.toList = false) (h2 : ltCps c.cps.toList b.cps.toList = false) : ltCps c.cps.toList a.cps.toList = false := by
  rw [ltCps_eq] at h1 h2 ⊢
  have h1' : a.cps.toList ≤ b.cps.toList := of_decide_eq_false h1
  have h2' : b.cps.toList ≤ c.cps.toList := of_decide_eq_false h2
  exact decide_eq_false (List.not_lt.mpr (List.le_trans h1' h2'))
theorem risingS_pw : ∀ {p : Str} {l : List Str}, risingS p l = true → (p :: l).Pairwise fun a b => ltCps b.cps.toList a.cps.toList = false
  | p, [], _ => List.pairwise_singleton _ _
  | p, x :: r, h => by
    have h : (!ltCps x.cps.toList p.cps.toList && risingS x r) = true := h
    rw [Bool.and_eq_true] at h
    have h1 : ltCps x.cps.toList p.cps.toList = false := by
      have := h.1
      cases q : ltCps x.cps.toList p.cps.toList with
      | false => rfl
      | true => rw [q] at this; cases this
    have ih := risingS_pw h.2
    refine List.pairwise_cons.mpr ⟨fun y hy => ?_, ih⟩
    rcases List.mem_cons.mp hy with rfl | hy
    · exact h1
    · exact ltc_tr h1 ((List.pairwise_cons.mp ih).1 y hy)
theorem sortedS_pw : ∀ {l : List Str}, sortedS l = true → l.Pairwise fun a b => ltCps b.cps.toList a.cps.toList = false
  | [], _ => List.Pairwise.nil
  | x :: r, h => risingS_pw h
theorem sortedS_uniq {l m : List Str} (h : l.Perm m) (hl : sortedS l = true) (hm : sortedS m = true) : l = m := by
  refine List.Perm.eq_of_pairwise (le := fun a b => ltCps b.cps.toList a.cps.toList = false) (fun a b _ _ h1 h2 => ?_) (sortedS_pw hl) (sortedS_pw hm) h
  rw [ltCps_eq] at h1 h2
  have h1' : a.cps.toList ≤ b.cps.toList := of_decide_eq_false h1
  have h2' : b.cps.toList ≤ a.cps.toList := of_decide_eq_false h2
  exact LS.cps_inj (List.le_antisymm h1' h2')
def ownB (q p : List Str) : Bool := decide (q.length = p.length + 1) && decide (q.take p.length = p)
theorem own_cond (q p : List Str) : (!decide (q = []) && decide (q.dropLast = p)) = ownB q p := by
  unfold ownB
  by_cases hq : q = []
  · subst hq
    simp
  · have hl : 0 < q.length := List.length_pos_iff.mpr hq
    rw [decide_eq_false hq, Bool.not_false, Bool.true_and, List.dropLast_eq_take]
    by_cases h : q.length = p.length + 1
    · rw [decide_eq_true h, Bool.true_and, show q.length - 1 = p.length by omega]
    · rw [decide_eq_false h, Bool.false_and]
      refine decide_eq_false fun e => h ?_
      have := congrArg List.length e
      rw [List.length_take] at this
      omega
theorem own_val {q p : List Str} (h : q.length = p.length + 1) : q.getLastD "" = q.getD p.length "" := by
  have hl : p.length < q.length := by omega
  have hq : q ≠ [] := fun e => by rw [e] at h; cases h
  rw [List.getLastD_eq_getLast?, List.getLast?_eq_getElem?, show q.length - 1 = p.length by omega, List.getD_eq_getElem?_getD]
theorem own_names (es : Ents) (p : List Str) : ((es.map (·.1)).filter fun q => ownB q p).map (fun q => q.getD p.length "") = namesIn es p := by
  unfold namesIn
  rw [List.filter_map, List.map_map]
  have e1 : (es.filter ((fun q => ownB q p) ∘ fun x => x.1)) = es.filter fun e => !decide (e.1 = []) && decide (e.1.dropLast = p) := by
    refine List.filter_congr fun e _ => ?_
    rw [own_cond]
    rfl
  rw [e1]
  refine List.map_congr_left fun e he => ?_
  have h := (List.mem_filter.mp he).2
  rw [own_cond] at h
  unfold ownB at h
  rw [Bool.and_eq_true] at h
  exact (own_val (of_decide_eq_true h.1)).symm
/-! ### trees that a house shows -/
def RowS (K : PySem.W.Frag) (H : Hp) (kvs : List (List L2.Key × V)) (t : Tr) : Prop := Paired (fun kv e => kv.1 = e.1.map Sum.inr ∧ ∃ r, kv.2 = .ref r ∧ SqT K H r e.2.xs) kvs t
theorem RowS.keep {K : PySem.W.Frag} {H H' : Hp} {kvs : List (List L2.Key × V)} {t : Tr} (k : ∀ b xs, SqT K H b xs → SqT K H' b xs) (h : RowS K H kvs t) : RowS K H' kvs t := pairImp (fun _ _ ⟨q1, r, q2, q3⟩ => ⟨q1, r, q2, k r _ q3⟩) h
def TrS (K : PySem.W.Frag) (H : Hp) (d : Addr) (t : Tr) : Prop := ∃ kvs, Rd H d (.dT kvs) ∧ RowS K H kvs t
theorem RowS.val {K : PySem.W.Frag} {H : Hp} {p : List Str} : ∀ {kvs : List (List L2.Key × V)} {t : Tr}, RowS K H kvs t →
    (valV kvs (p.map Sum.inr) = none ∧ valT t p = none) ∨ ∃ r h, valV kvs (p.map Sum.inr) = some (.ref r) ∧ valT t p = some h ∧ SqT K H r h.xs
  | _, _, .nil => Or.inl ⟨rfl, rfl⟩
  | kv :: kvs, e :: t, .cons a b => by
    obtain ⟨a1, r, a2, a3⟩ := a
    by_cases h : e.1 = p
    · refine Or.inr ⟨r, e.2, ?_, ?_, a3⟩
      · rw [valV_pos (by rw [a1, h]), a2]
      · unfold valT
        rw [List.find?_cons, decide_eq_true h]
        rfl
    · have h2 : ¬ kv.1 = p.map Sum.inr := fun z => h (inr_inj (a1.symm.trans z))
      have e1 : valT (e :: t) p = valT t p := by
        unfold valT
        rw [List.find?_cons, decide_eq_false h]
      rw [valV_neg h2, e1]
      exact RowS.val b
theorem RowS.keys {K : PySem.W.Frag} {H : Hp} : ∀ {kvs : List (List L2.Key × V)} {t : Tr}, RowS K H kvs t → LS.KeysP kvs (t.map (·.1))
  | _, _, .nil => rfl
  | kv :: kvs, e :: t, .cons a b => by
    have := RowS.keys b
    unfold LS.KeysP at this ⊢
    rw [List.map_cons, List.map_cons, List.map_cons, this, a.1]
theorem RowS.of {K : PySem.W.Frag} {H : Hp} : ∀ {kvs : List (List L2.Key × V)} {t : Tr}, RowE K H kvs (entsT t) → RowS K H kvs t
  | [], [], _ => .nil
  | kv :: kvs, e :: t, .cons a b => by
    refine .cons ⟨a.1, ?_⟩ (RowS.of b)
    have dv : Dp K H kv.2 e.2.d := a.2
    cases he : e.2 with
    | dr =>
      rw [he] at dv
      obtain ⟨r, xs, er, hs, h⟩ := dp_thing dv (Or.inl rfl)
      rcases h with ⟨_, rfl⟩ | ⟨n, z, ed, _⟩
      · exact ⟨r, er, hs⟩
      · exact absurd ed (by unfold Th.d fileD; simp)
    | fl n z =>
      rw [he] at dv
      obtain ⟨r, xs, er, hs, h⟩ := dp_thing dv (Or.inr ⟨n, z, rfl⟩)
      rcases h with ⟨ed, _⟩ | ⟨n', z', ed, rfl⟩
      · exact absurd ed (by unfold Th.d drD; simp)
      · obtain ⟨h1, h2⟩ := fileD_inj (show fileD n z = fileD n' z' from ed)
        subst h1 h2
        exact ⟨r, er, hs⟩
theorem TrS.ex {K : PySem.W.Frag} {H H' : Hp} {d : Addr} {t : Tr} (x : Ex H H') (h : TrS K H d t) : TrS K H' d t := by
  obtain ⟨kvs, hd, r⟩ := h
  exact ⟨kvs, x.rd hd (fun ps z => by cases z), r.keep fun b xs e => x.tup e⟩
theorem ex_t : ∀ {es : Ents}, (∀ e ∈ es, thingD e.2) → ∃ t, entsT t = es
  | [], _ => ⟨[], rfl⟩
  | e :: es, h => by
    obtain ⟨t, rfl⟩ := ex_t fun x hx => h x (List.mem_cons_of_mem _ hx)
    rcases h e (List.mem_cons_self ..) with hd | ⟨n, z, hd⟩
    · exact ⟨(e.1, .dr) :: t, by rw [show e = (e.1, e.2) from rfl, hd]; rfl⟩
    · exact ⟨(e.1, .fl n z) :: t, by rw [show e = (e.1, e.2) from rfl, hd]; rfl⟩
/-! ### the law's groups, of trees with any numbers -/
/-- keys stand once, not too many -/
def Fine (t : Tr) : Prop := (t.map (·.1)).Nodup ∧ t.length ≤ 1000
def spGroup (K : PySem.W.Frag) : Sp := fun vs H Q _ => ∃ d a t p n, vs = [.ref d, .ref a] ∧ TrS K H d t ∧ Fine t ∧ PathX H a p ∧ numAt t p = some n ∧ ∀ H' l, Ex H H' → PathsX H' l (groupOf t n) → Q (.ref l) H'
section
variable {P : Program} {w : World} {K : PySem.W.Frag} {mg : Str → Option Value} {base : Heap}
abbrev lgN : List Str := ["_law_tree_here", "_law_path_here", "_law_one"]
theorem scGroup : FnScope lgN ["_law_tree_here", "_law_path_here"] (defScope sGroup) := ⟨rfl, rfl, rfl, by decide +kernel, rfl, by decide +kernel, by decide +kernel⟩
theorem ok_group {f : Addr} {fd : FuncData} (F : Fun K "_law_group" "_law_group" sGroup f fd) (mS : mg "sorted" = none) : FnOk P w K mg base CX0 1 f fd ["_law_tree_here", "_law_path_here"] (spGroup K) := by
  refine F.ok scGroup (fun vs H Q E h => ?_) (fun cdv A outer s H vs Q E hr h => ?_)
  · obtain ⟨d, a, t, p, n, rfl, _⟩ := h
    rfl
  · obtain ⟨d, a, t, p, n, rfl, ht, good, pp, hnum, k⟩ := h
    have hu1 : (A.deeper (envOfC "_law_group" (defScope sGroup) s.heap.objs.size f cdv)).units + 1 < cLine := by have := hr.units; omega
    have hu3 : (A.deeper (envOfC "_law_group" (defScope sGroup) s.heap.objs.size f cdv)).units + 3 < cLine := by have := hr.units; omega
    refine ⟨_, pss_one (ps_ret (pe_lc (own := [("_law_one", 2)]) (g := gName 2)
        (tt := tAnd (tTest (tOp rEq (tOp (rIxT K) (tDGet (tVar 0) (tVar 2)) (tC (.int 0))) (tC (.str "file")))) (tTest (tOp rEq (tOp (rIxT K) (tDGet (tVar 0) (tVar 2)) (tC (.int 1))) (tOp (rIxT K) (tDGet (tVar 0) (tVar 1)) (tC (.int 1))))))
        rfl scGroup.nd (pi_list (pe_callB (LS.cr_sortD rfl hu3) (by rfl) mS (by decide +kernel) (pa_cons (pv 0) pa_nil))) (blkOk_by (N := lgN) (sc := defScope sGroup) (by decide +kernel)) (fun _ _ _ _ _ => pg_name (i := 2) scGroup.nd rfl (Or.inl rfl))
        (fun _ _ _ _ _ => pts_one (PW.pt (pw_and (pt_cmpR op_eq (pe_ix (r := rIxT K) ix_tup (pe_dget hu1 (pv 0) (pv 2) (fun _ _ => rfl)) pe_int (fun _ _ => rfl)) pe_str (nomark _))
          (pw_and1 (pt_cmpR op_eq (pe_ix (r := rIxT K) ix_tup (pe_dget hu1 (pv 0) (pv 2) (fun _ _ => rfl)) pe_int (fun _ _ => rfl)) (pe_ix (r := rIxT K) ix_tup (pe_dget hu1 (pv 0) (pv 1) (fun _ _ => rfl)) pe_int (fun _ _ => rfl)) (nomark _))))))
        (fun _ _ _ _ _ => pv 2))), ?_⟩
    obtain ⟨kvs, hd, row⟩ := ht
    have h80 : (entsT t).length ≤ 1000 := by unfold entsT; rw [List.length_map]; exact good.2
    have e80 : (entsT t).length = t.length := by unfold entsT; rw [List.length_map]
    refine ⟨_, rfl, d, kvs, t.map (·.1), rfl, hd, row.keys, fun l ys py hr hpx hl => ⟨l, rfl, ⟨_, SqL.of upd_same⟩, fun D hD => ?_⟩⟩
    have hup := keysUp_of py hr
    have x1 := Ex.new (o := .lst (LS.addrs ys)) hl
    have l1 : (upd H l (.lst (LS.addrs ys))) l = some (.lst (LS.addrs ys)) := upd_same
    have hyl : ys.length = t.length := by
      have := py.length_eq
      rwa [List.length_map, List.length_map] at this
    generalize upd H l (.lst (LS.addrs ys)) = H1 at x1 l1 hD ⊢
    have hd1 : Rd H1 d (.dT kvs) := x1.rd hd (fun ps z => by cases z)
    have row1 := row.keep (H' := H1) fun b xs e => x1.tup e
    refine lc_it (walk_list (K := K) (a := l) (xs := LS.addrs ys)) (fun j G => Ex H1 G ∧ ∃ rs : List Addr, G D = some (.lst (rs.map V.ref)) ∧ rs.length ≤ j ∧ Paired (fun r q => PathX G r q) rs (((ys.take j).map (·.2)).filter fun q => decide (numAt t q = some n)))
      ⟨Ex.new hD, [], upd_same, Nat.le_refl _, by rw [List.take_zero]; exact .nil⟩ (fun j G _ h => SqL.of (h.1.keep _ _ l1 (fun ps z => by cases z))) ?_ ?_
    · rintro j y G G' hj ⟨xg, rs, hrs, hrl, hp⟩ ⟨rfl, hy⟩
      unfold LS.addrs at hy hj
      rw [List.getElem?_map] at hy
      rw [List.length_map] at hj
      obtain ⟨z, hz, rfl⟩ := Option.map_eq_some_iff.mp hy
      have hzm := List.mem_of_getElem? hz
      have etake : (ys.take (j + 1)).map (·.2) = (ys.take j).map (·.2) ++ [z.2] := by rw [List.take_add_one, hz, List.map_append]; rfl
      have pz : PathX G' z.1 z.2 := PathX.ex (x1.trans xg) (hpx z hzm)
      have pa : PathX G' a p := PathX.ex (x1.trans xg) pp
      have hk : z.2 ∈ t.map (·.1) := py.mem_iff.mp (List.mem_map.mpr ⟨z, hzm, rfl⟩)
      have hd2 : Rd G' d (.dT kvs) := xg.rd hd1 (fun ps z => by cases z)
      have row2 := row1.keep (H' := G') fun b xs e => xg.tup e
      rcases row2.val (p := z.2) with ⟨_, e2⟩ | ⟨rr, h, e1, e2, e3⟩
      · obtain ⟨h, eh⟩ := valT_some hk
        rw [e2] at eh
        cases eh
      have dg : DGet G' d (.ref z.1) (some (.ref rr)) := by
        have := get_tr hd2 pz
        rwa [e1] at this
      have lenok : (rs.map V.ref).length < sizeLine := by
        rw [List.length_map, sizeLine_eq]
        omega
      have skip : numAt t z.2 ≠ some n → Ex H1 G' ∧ ∃ rs : List Addr, G' D = some (.lst (rs.map V.ref)) ∧ rs.length ≤ j + 1 ∧ Paired (fun r q => PathX G' r q) rs (((ys.take (j + 1)).map (·.2)).filter fun q => decide (numAt t q = some n)) := fun hno => by
        refine ⟨xg, rs, hrs, by omega, ?_⟩
        rw [etake, List.filter_append, List.filter_cons_of_neg (by rw [decide_eq_false hno]; decide), List.filter_nil, List.append_nil]
        exact hp
      have n1 : numAt t z.2 = match some h with
        | some (.fl n _) => some n
        | _ => none := by
        unfold numAt
        rw [e2]
        try rfl
      cases h with
      | dr =>
        refine ⟨rfl, _, rfl, _, rfl, d, .ref rr, rfl, dg, rr, _, 0, .str "drawer", rfl, rfl, e3, rfl, rfl, _, rfl, ?_⟩
        rw [show decide (V.str "drawer" = V.str "file") = false by decide +kernel]
        exact iteF (iteF (skip (by rw [n1]; intro e; cases e)))
      | fl n' z' =>
        have n1 : numAt t z.2 = some n' := n1
        obtain ⟨ra, na, za, ea1, ea2, ea3⟩ : ∃ ra na za, valV kvs (p.map Sum.inr) = some (.ref ra) ∧ na = n ∧ SqT K G' ra (Th.fl na za).xs := by
          rcases row2.val (p := p) with ⟨_, f2⟩ | ⟨ra, h, f1, f2, f3⟩
          · unfold numAt at hnum
            rw [f2] at hnum
            cases hnum
          · unfold numAt at hnum
            rw [f2] at hnum
            cases h with
            | dr => cases hnum
            | fl na za => exact ⟨ra, na, za, f1, Option.some.inj hnum, f3⟩
        subst ea2
        have dga : DGet G' d (.ref a) (some (.ref ra)) := by
          have := get_tr hd2 pa
          rwa [ea1] at this
        refine ⟨rfl, _, rfl, _, rfl, d, .ref rr, rfl, dg, rr, _, 0, .str "file", rfl, rfl, e3, rfl, rfl, _, rfl, ?_⟩
        rw [decide_eq_true rfl]
        refine iteT ⟨_, rfl, _, rfl, d, .ref rr, rfl, dg, rr, _, 1, .int n', rfl, rfl, e3, rfl, _, rfl, _, rfl, d, .ref ra, rfl, dga, ra, _, 1, .int na, rfl, rfl, ea3, rfl, rfl, _, rfl, ?_⟩
        by_cases hnn : n' = na
        · rw [decide_eq_true (by rw [hnn])]
          refine iteT ⟨_, rfl, rs.map V.ref, hrs, lenok, xg.put hD, rs ++ [z.1], ?_, ?_, ?_⟩
          · rw [upd_same, List.map_append]
            rfl
          · rw [List.length_append, List.length_singleton]
            omega
          · rw [etake, List.filter_append, List.filter_cons_of_pos (by rw [n1, hnn]; exact decide_eq_true rfl), List.filter_nil]
            have stay : ∀ {u : Addr} {q : List Str}, PathX G' u q → PathX (upd G' D (.lst (rs.map V.ref ++ [.ref z.1]))) u q := fun {u q} h => by
              show upd _ _ _ _ = _
              rw [upd_ne (ne_of h hrs (fun z => by cases z))]
              exact h
            exact pairSnoc (F := fun r q => PathX _ r q) (stay pz) (pairImp (fun u q h => stay h) hp)
        · rw [decide_eq_false (by intro e; injection e with e; exact hnn e)]
          exact iteF (skip (by rw [n1]; intro e; exact hnn (Option.some.inj e)))
    · rintro G ⟨xg, rs, hrs, hrl, hp⟩
      have hle : (LS.addrs ys).length = ys.length := by unfold LS.addrs; rw [List.length_map]
      rw [hle, List.take_length, hup] at hp
      exact k G D (x1.trans xg) ⟨rs, hrs, hp⟩
end
/-! ### the law's own plain trees -/
theorem Eb.unlock {l d : Addr} {H H' : Hp} {od : Obj} {kvs : List (List L2.Key × V)} (hd : H d = some (.dT kvs)) (x : Eb l (upd H d (.frz od (.dT kvs))) H') : Eb l H (upd H' d (.dT kvs)) := by
  constructor
  · intro b o hb e n
    by_cases hbd : b = d
    · rw [hbd] at e ⊢
      rw [upd_same, ← hd, e]
    · rw [upd_ne hbd]
      exact x.keep b o hb (by rw [upd_ne hbd]; exact e) n
  · rintro b ⟨ps, e, t⟩
    have hb : b ≠ d := fun z => by
      rw [z, hd] at e
      cases e
    obtain ⟨qs, e2, t2⟩ := x.tab b ⟨ps, by rw [upd_ne hb]; exact e, t⟩
    exact ⟨qs, by rw [upd_ne hb]; exact e2, t2⟩
  · intro b e
    by_cases hb : b = d
    · rw [hb, upd_same] at e
      cases e
    · rw [upd_ne hb] at e
      have := x.free b e
      rwa [upd_ne hb] at this
theorem lock_goB {t : TS} {D : Ends} {σ : L2.St} {H : Hp} {d pm : Addr} {kvs : List (List L2.Key × V)} (hd : Rd H d (.dT kvs)) (hne : d ≠ pm)
    (h : ∀ (H1 : Hp) (od : Obj) (R : Ends), (∀ b o, H b = some o → b ≠ d → H1 b = some o) → (∀ b, TabG H b → TabG H1 b) → (∀ b, H1 b = none → H b = none) → H1 d = some (.frz od (.dT kvs)) →
      (∀ σ' H', Eb pm H1 H' → (∀ H2, Eb pm H H2 → (∀ b o, H' b = some o → b ≠ d → H2 b = some o) → D.nx σ' H2) → R.nx σ' H') → t R σ H1) : tLockS t D σ H := by
  rcases hd with hd | ⟨od, hd⟩
  · refine Or.inl ⟨d, _, hd, trivial, fun od => ?_⟩
    refine h _ od _ (fun b o e hb => by rw [upd_ne hb]; exact e) (fun b => ?_) (fun b e => ?_) upd_same fun v H' x q => ⟨x.keep _ _ hne upd_same (fun ps z => by cases z), q _ (Eb.unlock hd x) fun b o e hb => by rw [upd_ne hb]; exact e⟩
    · rintro ⟨ps, e, t⟩
      refine ⟨ps, ?_, t⟩
      rw [upd_ne (fun z => by
        rw [z, hd] at e
        cases e)]
      exact e
    · by_cases hb : b = d
      · rw [hb, upd_same] at e
        cases e
      · rwa [upd_ne hb] at e
  · exact Or.inr (h H od D (fun b o e _ => e) (fun b t => t) (fun b e => e) hd fun v H' x q => q H' x fun b o e _ => e)
theorem Eb.set {l : Addr} {H : Hp} {o u : HO} (h : H l = some u) (n : ∀ ps, u ≠ .tbl ps) : Eb l H (upd H l o) := by
  constructor
  · intro b v hb e _
    rw [upd_ne hb]; exact e
  · rintro b ⟨ps, e2, t⟩
    exact ⟨ps, by rw [upd_ne (fun z => by rw [z, h] at e2; cases e2; exact n ps rfl)]; exact e2, t⟩
  · intro b e2
    by_cases hb : b = l
    · rw [hb, upd_same] at e2; cases e2
    · rw [upd_ne hb] at e2; exact e2
/-- what was not there may be written: the whole is an Ex -/
theorem Eb.ex {l : Addr} {H H1 H' : Hp} (x : Ex H H1) (h : H l = none) (y : Eb l H1 H') : Ex H H' :=
  ⟨fun b o e n => y.keep b o (ne_of_none e h) (x.keep b o e n) n, fun b t => y.tab b (x.tab b t), fun b e => x.free b (y.free b e)⟩
theorem putK_last {kvs : List (List L2.Key × V)} {k : List L2.Key} {v u : V} (h : valV kvs k = none) : putK (kvs ++ [(k, v)]) k u = kvs ++ [(k, u)] := by
  have hk : ∀ p ∈ kvs, ¬ p.1 = k := by
    intro p hp e
    have : ∀ {l : List (List L2.Key × V)}, p ∈ l → valV l k ≠ none := by
      intro l
      induction l with
      | nil => intro h; cases h
      | cons x l ih =>
        intro hp
        by_cases hx : x.1 = k
        · rw [valV_pos hx]; simp
        · rw [valV_neg hx]
          rcases List.mem_cons.mp hp with rfl | hp
          · exact absurd e hx
          · exact ih hp
    exact this hp h
  have hm : kvs.map (fun p => if p.1 = k then (p.1, u) else p) = kvs := by
    have : kvs.map (fun p => if p.1 = k then (p.1, u) else p) = kvs.map id := List.map_congr_left fun p hp => if_neg (hk p hp)
    rw [this, List.map_id]
  unfold putK
  rw [if_pos (by simp)]
  rw [List.map_append, hm]
  simp
def fstOf (t : Tr) (n : Int) : List Str := (groupOf t n).headD []
def firstsOf (t : Tr) : List (List Str) := (keysUp t).filter fun p => match numAt t p with
  | some n => decide (fstOf t n = p)
  | none => false
def lplainTh (t : Tr) : Th → Th
  | .dr => .dr
  | .fl n z => .fl (((firstsOf t).idxOf (fstOf t n) : Nat) : Int) z
def lplain (t : Tr) : Tr := t.map fun e => (e.1, lplainTh t e.2)
theorem group_ne {t : Tr} {p : List Str} {n : Int} (h : numAt t p = some n) : groupOf t n ≠ [] := by
  intro e
  have hk : p ∈ keysUp t := by
    refine (keysUp_perm t).mem_iff.mpr ?_
    unfold numAt at h
    cases hv : valT t p with
    | none => rw [hv] at h; cases h
    | some x => exact List.mem_map.mpr ⟨(p, x), valT_mem hv, rfl⟩
  have : p ∈ groupOf t n := List.mem_filter.mpr ⟨hk, decide_eq_true h⟩
  rw [e] at this
  cases this
theorem fst_mem {t : Tr} {p : List Str} {n : Int} (h : numAt t p = some n) : fstOf t n ∈ groupOf t n := by
  unfold fstOf
  cases e : groupOf t n with
  | nil => exact absurd e (group_ne h)
  | cons x l => exact List.mem_cons_self ..
theorem fst_first {t : Tr} {p : List Str} {n : Int} (h : numAt t p = some n) : fstOf t n ∈ firstsOf t := by
  have hm := List.mem_filter.mp (fst_mem h)
  have hn : numAt t (fstOf t n) = some n := of_decide_eq_true hm.2
  refine List.mem_filter.mpr ⟨hm.1, ?_⟩
  rw [hn]
  exact decide_eq_true rfl
theorem valT_nd {t : Tr} (nd : (t.map (·.1)).Nodup) {e : List Str × Th} (h : e ∈ t) : valT t e.1 = some e.2 := by
  unfold valT
  induction t with
  | nil => cases h
  | cons x es ih =>
    rw [List.map_cons, List.nodup_cons] at nd
    rw [List.find?_cons]
    by_cases hx : x.1 = e.1
    · rw [decide_eq_true hx]
      rcases List.mem_cons.mp h with rfl | h
      · rfl
      · exact absurd (List.mem_map.mpr ⟨e, h, hx.symm⟩) nd.1
    · rw [decide_eq_false hx]
      rcases List.mem_cons.mp h with rfl | h
      · exact absurd rfl hx
      · exact ih nd.2 h
theorem idx_spec {x : List Str} : ∀ {l : List (List Str)}, x ∈ l → l[l.idxOf x]? = some x ∧ ∀ m z, m < l.idxOf x → l[m]? = some z → z ≠ x
  | [], h => by cases h
  | y :: l, h => by
    rw [List.idxOf_cons]
    by_cases e : y = x
    · subst e
      rw [beq_self_eq_true]
      exact ⟨rfl, fun m z hm _ => absurd hm (Nat.not_lt_zero _)⟩
    · rw [beq_false_of_ne e]
      have hm : x ∈ l := (List.mem_cons.mp h).resolve_left (fun q => e q.symm)
      obtain ⟨h1, h2⟩ := idx_spec hm
      refine ⟨h1, fun m z hlt hz => ?_⟩
      cases m with
      | zero => exact fun q => e ((Option.some.inj hz).trans q)
      | succ m => exact h2 m z (Nat.lt_of_succ_lt_succ hlt) hz
def spLPlain (K : PySem.W.Frag) : Sp := fun vs H Q _ => ∃ d t, vs = [.ref d] ∧ TrS K H d t ∧ Fine t ∧ (∀ e ∈ t, goodPath e.1 = true) ∧ ∀ H' l kvs, Ex H H' → H l = none → H' l = some (.dT kvs) → RowT H' kvs (lplain t) → Q (.ref l) H'
section
variable {P : Program} {w : World} {K : PySem.W.Frag} {mg : Str → Option Value} {base : Heap}
abbrev lpN : List Str := ["_law_tree_here", "_law_firsts", "_law_made", "_law_path_here"]
theorem scLPlain : FnScope lpN ["_law_tree_here"] (defScope sLPlain) := ⟨rfl, rfl, rfl, by decide +kernel, rfl, by decide +kernel, by decide +kernel⟩
theorem ok_lplain {f fG : Addr} {fd fdG : FuncData} (F : Fun K "_law_plain" "_law_plain" sLPlain f fd) (mS : mg "sorted" = none)
    (GG : FnOk P w K mg base CX0 1 fG fdG ["_law_tree_here", "_law_path_here"] (spGroup K)) (mG : mg "_law_group" = some (.ref fG)) (kG : PySem.W.keepIn K (.ref fG) = true) (bG : Binds K fdG ["_law_tree_here", "_law_path_here"] []) :
    FnOk P w K mg base CX0 2 f fd ["_law_tree_here"] (spLPlain K) := by
  refine F.ok scLPlain (fun vs H Q E h => ?_) (fun cdv A outer s H vs Q E hr h => ?_)
  · obtain ⟨d, t, rfl, _⟩ := h
    rfl
  · obtain ⟨d, t, rfl, ⟨kvs, hd, row⟩, fine, hgp, k⟩ := h
    have hu1 : (A.deeper (envOfC "_law_plain" (defScope sLPlain) s.heap.objs.size f cdv)).units + 1 < cLine := by have := hr.units; omega
    have hu3 : (A.deeper (envOfC "_law_plain" (defScope sLPlain) s.heap.objs.size f cdv)).units + 3 < cLine := by have := hr.units; omega
    have hu65 : (A.deeper (envOfC "_law_plain" (defScope sLPlain) s.heap.objs.size f cdv)).units + 65 < cLine := by have := hr.un; omega
    refine ⟨_, pss_cons (ps_setLc (i := 1) (own := [("_law_path_here", 3)]) (g := gName 3)
        (tt := tAnd (tTest (tOp rEq (tOp (rIxT K) (tDGet (tVar 0) (tVar 3)) (tC (.int 0))) (tC (.str "file")))) (tTest (tOp (rEqD K) (tOp (rIxL K) (tCall (spGroup K) [] E0 (tCons (tVar 0) (tCons (tVar 3) tNil))) (tC (.int 0))) (tVar 3))))
        (by rfl) scLPlain.nd rfl rfl (sw_true rfl rfl rfl (by decide +kernel)) (pi_list (pe_callB (LS.cr_sortD rfl hu3) (by rfl) mS (by decide +kernel) (pa_cons (pv 0) pa_nil)))
        (blkOk_by (N := lpN) (sc := defScope sLPlain) (by decide +kernel)) (fun _ _ _ _ _ => pg_name (i := 3) scLPlain.nd rfl (Or.inl rfl))
        (fun _ _ _ _ _ => pts_one (PW.pt (pw_and (pt_cmpR op_eq (pe_ix (r := rIxT K) ix_tup (pe_dget hu1 (pv 0) (pv 3) (fun _ _ => rfl)) pe_int (fun _ _ => rfl)) pe_str (nomark _))
          (pw_and1 (pt_cmpR (op_eqD hr.units) (pe_ix (r := rIxL K) ix_list (pe_call (E := E0) GG hr (by rfl) mG kG bG .nil pass0 (pa_cons (pv 0) (pa_cons (pv 3) pa_nil))) pe_int (fun _ _ => rfl)) (pv 3) (nomark _))))))
        (fun _ _ _ _ _ => pv 3))
      (pss_cons (ps_set (i := 2) scLPlain.nd rfl (Or.inl rfl) pe_dnewT)
      (pss_cons (ps_lockS (ps_for PassesOwn.never rfl (pi_keys (pv 0)) (pg_name (i := 3) scLPlain.nd rfl (Or.inl rfl))
        (pss_cons (ps_dput hu1 (pv 2) (pv 3) (pe_tup (pa_cons pe_str pa_nil)) rfl)
        (pss_one (ps_if (pt_cmpR op_eq (pe_ix ix_tup (pe_dget hu1 (pv 0) (pv 3) (fun _ _ => rfl)) pe_int (fun _ _ => rfl)) pe_str (nomark _))
          (pss_one (ps_dput hu1 (pv 2) (pv 3) (pe_tup (pa_cons pe_str (pa_cons (pe_bm PySem.F.plainAttrs_list PySem.F.slot_list_index PySem.F.type_list_index (mt_indexD hu65) (pv 1) (pa_cons (pe_ix (r := rIxL K) ix_list (pe_call (E := E0) GG hr (by rfl) mG kG bG .nil pass0 (pa_cons (pv 0) (pa_cons (pv 3) pa_nil))) pe_int (fun _ _ => rfl)) pa_nil))
            (pa_cons (pe_ix ix_tup (pe_dget hu1 (pv 0) (pv 3) (fun _ _ => rfl)) pe_int (fun _ _ => rfl)) pa_nil)))) rfl)) pss_nil)))))
      (pss_one (ps_ret (pv 2))))), ?_⟩
    -- the first paths
    refine ⟨_, rfl, d, kvs, t.map (·.1), rfl, hd, row.keys, fun l ys py hr2 hpx hl => ⟨l, rfl, ⟨_, SqL.of upd_same⟩, fun D hD => ?_⟩⟩
    have hup := keysUp_of py hr2
    have x1 := Ex.new (o := .lst (LS.addrs ys)) hl
    have l1 : (upd H l (.lst (LS.addrs ys))) l = some (.lst (LS.addrs ys)) := upd_same
    have px1 : ∀ z ∈ ys, PathX (upd H l (.lst (LS.addrs ys))) z.1 z.2 := fun z hz => PathX.ex x1 (hpx z hz)
    have hyl : ys.length = t.length := by
      have := py.length_eq
      rwa [List.length_map, List.length_map] at this
    generalize upd H l (.lst (LS.addrs ys)) = H1 at x1 l1 px1 hD ⊢
    have tx : ∀ G, Ex H1 G → TrS K G d t := fun G x => ⟨kvs, (x1.trans x).rd hd (fun ps z => by cases z), row.keep fun b xs e => (x1.trans x).tup e⟩
    refine lc_it (walk_list (K := K) (a := l) (xs := LS.addrs ys)) (fun j G => Ex H1 G ∧ ∃ rs : LS.Zs, G D = some (.lst (LS.addrs rs)) ∧ rs.length ≤ j ∧ (∀ z ∈ rs, PathX G z.1 z.2) ∧ rs.map (·.2) = ((ys.take j).map (·.2)).filter fun p => match numAt t p with | some n => decide (fstOf t n = p) | none => false)
      ⟨Ex.new hD, [], upd_same, Nat.le_refl _, (fun z hz => nomatch hz), rfl⟩ (fun j G _ h => SqL.of (h.1.keep _ _ l1 (fun ps z => by cases z))) ?_ ?_
    · rintro j y G G' hj ⟨xg, rs, hrs, hrl, hra, hrm⟩ ⟨rfl, hy⟩
      unfold LS.addrs at hy hj
      rw [List.getElem?_map] at hy
      rw [List.length_map] at hj
      obtain ⟨z, hz, rfl⟩ := Option.map_eq_some_iff.mp hy
      have hzm := List.mem_of_getElem? hz
      have etake : ys.take (j + 1) = ys.take j ++ [z] := by rw [List.take_add_one, hz]; rfl
      have pz : PathX G' z.1 z.2 := (px1 z hzm).ex xg
      have hk : z.2 ∈ t.map (·.1) := py.mem_iff.mp (List.mem_map.mpr ⟨z, hzm, rfl⟩)
      have gz : goodPath z.2 = true := by
        obtain ⟨e, he, ee⟩ := List.mem_map.mp hk
        rw [← ee]
        exact hgp e he
      have tG := tx _ xg
      obtain ⟨kv, hdG, rowG⟩ := id tG
      rcases rowG.val (p := z.2) with ⟨_, e2⟩ | ⟨rr, h, e1, e2, e3⟩
      · obtain ⟨h, eh⟩ := valT_some hk
        rw [e2] at eh
        cases eh
      have dg : DGet G' d (.ref z.1) (some (.ref rr)) := by
        have := get_tr hdG pz
        rwa [e1] at this
      have skip : ∀ G2, Ex G' G2 → (match numAt t z.2 with | some n => decide (fstOf t n = z.2) | none => false) = false → Ex H1 G2 ∧ ∃ rs : LS.Zs, G2 D = some (.lst (LS.addrs rs)) ∧ rs.length ≤ j + 1 ∧ (∀ z ∈ rs, PathX G2 z.1 z.2) ∧ rs.map (·.2) = ((ys.take (j + 1)).map (·.2)).filter fun p => match numAt t p with | some n => decide (fstOf t n = p) | none => false := fun G2 x2 hf => by
        refine ⟨xg.trans x2, rs, x2.keep _ _ hrs (fun ps z => by cases z), by omega, fun u hu => PathX.ex x2 (hra u hu), ?_⟩
        rw [etake, List.map_append, List.filter_append, ← hrm]
        have : ([z].map (·.2)).filter (fun p => match numAt t p with | some n => decide (fstOf t n = p) | none => false) = [] := List.filter_cons_of_neg (by rw [hf]; decide)
        rw [this, List.append_nil]
      cases h with
      | dr =>
        refine ⟨rfl, _, rfl, _, rfl, d, .ref rr, rfl, dg, rr, _, 0, .str "drawer", rfl, rfl, e3, rfl, rfl, _, rfl, ?_⟩
        rw [show decide (V.str "drawer" = V.str "file") = false by decide +kernel]
        refine iteF (iteF (skip _ (Ex.refl _) ?_))
        have : numAt t z.2 = none := by unfold numAt; rw [e2]
        rw [this]
      | fl n tz =>
        have hn : numAt t z.2 = some n := by unfold numAt; rw [e2]
        refine ⟨rfl, _, rfl, _, rfl, d, .ref rr, rfl, dg, rr, _, 0, .str "file", rfl, rfl, e3, rfl, rfl, _, rfl, ?_⟩
        rw [decide_eq_true rfl]
        refine iteT ⟨_, rfl, _, rfl, d, z.1, t, z.2, n, rfl, tG, fine, pz, hn, fun G2 l2 x2 hl2 => ?_⟩
        obtain ⟨gs, egs, pgs⟩ := hl2
        have hge : groupOf t n = fstOf t n :: (groupOf t n).tail := by
          unfold fstOf
          cases e : groupOf t n with
          | nil => exact absurd e (group_ne hn)
          | cons x r => rfl
        have hpos : 0 < gs.length := by rw [pgs.length, hge]; exact Nat.succ_pos _
        obtain ⟨g0, hg0⟩ : ∃ g0, gs[0]? = some g0 := ⟨gs[0], List.getElem?_eq_getElem hpos⟩
        obtain ⟨q0, hq0, pq0⟩ := paired_get pgs hg0
        have hq0 : q0 = fstOf t n := by
          rw [hge] at hq0
          exact (Option.some.inj hq0).symm
        subst hq0
        have gq0 : goodPath (fstOf t n) = true := by
          have hm := (List.mem_filter.mp (fst_mem hn)).1
          obtain ⟨e, he, ee⟩ := List.mem_map.mp ((keysUp_perm t).mem_iff.mp hm)
          rw [← ee]
          exact hgp e he
        refine ⟨l2, gs.map V.ref, 0, .ref g0, rfl, rfl, SqL.of egs, at_of (j := 0) rfl (by rw [List.getElem?_map, hg0]; rfl), _, rfl, ?_⟩
        have pz2 := PathX.ex x2 pz
        refine ⟨_, _, (pq0.at (K := K)).dp, (pz2.at (K := K)).dp, shaped_path (goodPath_ok gq0), shaped_path (goodPath_ok gz), _, rfl, ?_⟩
        rw [eqv_path]
        have hrs2 := x2.keep _ _ hrs (fun ps z => by cases z)
        by_cases he : fstOf t n = z.2
        · rw [decide_eq_true he]
          have stay : ∀ {u : Addr} {q : List Str}, PathX G2 u q → PathX (upd G2 D (.lst (LS.addrs rs ++ [.ref z.1]))) u q := fun {u q} h => by
            show upd _ _ _ _ = _
            rw [upd_ne (ne_of h hrs2 (fun z => by cases z))]
            exact h
          refine iteT ⟨_, rfl, LS.addrs rs, hrs2, ?_, (xg.trans x2).put hD, rs ++ [z], ?_, ?_, fun u hu => ?_, ?_⟩
          · unfold LS.addrs
            rw [List.length_map, sizeLine_eq]
            have := fine.2
            omega
          · rw [upd_same]
            unfold LS.addrs
            rw [List.map_append]
            rfl
          · rw [List.length_append, List.length_singleton]
            omega
          · rcases List.mem_append.mp hu with hu | hu
            · exact stay (PathX.ex x2 (hra u hu))
            · rw [List.mem_singleton.mp hu]
              exact stay pz2
          · rw [List.map_append, hrm, etake, List.map_append, List.filter_append]
            congr 1
            exact (List.filter_cons_of_pos (p := fun p => match numAt t p with | some n => decide (fstOf t n = p) | none => false) (a := z.2) (l := []) (by show (match numAt t z.2 with | some n => decide (fstOf t n = z.2) | none => false) = true; rw [hn]; exact decide_eq_true he)).symm
        · rw [decide_eq_false he]
          refine iteF (skip G2 x2 ?_)
          rw [hn]
          exact decide_eq_false he
    rintro G ⟨xg, rs, hrs, hrl, hra, hrm⟩
    have hle : (LS.addrs ys).length = ys.length := by unfold LS.addrs; rw [List.length_map]
    rw [hle, List.take_length, hup] at hrm
    have hrm : rs.map (·.2) = firstsOf t := hrm
    rw [hle] at hrl
    -- the new dict
    intro pm hpm
    have x2 := x1.trans xg
    have hpmH : H pm = none := x2.free _ hpm
    have xn := Ex.new (o := .dT []) hpm
    have x0 := x2.trans xn
    have hrs0 := xn.keep _ _ hrs (fun ps z => by cases z)
    have hra0 : ∀ z ∈ rs, PathX (upd G pm (.dT [])) z.1 z.2 := fun z hz => PathX.ex xn (hra z hz)
    have tG0 := tx _ (xg.trans xn)
    have ep : (upd G pm (.dT [])) pm = some (.dT []) := upd_same
    obtain ⟨kv0, hd0, row0⟩ := tG0
    have hne : d ≠ pm := fun z => by
      have hd2 := x2.rd hd (fun ps z => by cases z)
      rw [z] at hd2
      rcases hd2 with h | ⟨o, h⟩
      · rw [hpm] at h; cases h
      · rw [hpm] at h; cases h
    generalize upd G pm (.dT []) = G0 at x0 hrs0 hra0 ep hd0 row0 ⊢
    clear xn hrs hra xg x1 l1 px1 tx hD hrl hle
    have hDp : D ≠ pm := fun z => by rw [z, ep] at hrs0; cases hrs0
    refine lock_goB hd0 hne fun HL od R lk lt lf ld hR => ?_
    have hDd : D ≠ d := fun z => by
      rcases hd0 with h | ⟨o, h⟩
      · rw [z, h] at hrs0; cases hrs0
      · rw [z, h] at hrs0; cases hrs0
    have tupd : ∀ b xs, G0 b = some (.tup xs) → b ≠ d := fun b xs e z => by
      rcases hd0 with h | ⟨o, h⟩
      · rw [z, h] at e; cases e
      · rw [z, h] at e; cases e
    have rowL : RowS K HL kv0 t := row0.keep fun b xs e => lk_sqT hd0 lk e
    have epL : HL pm = some (.dT []) := lk _ _ ep (Ne.symm hne)
    have hrsL := lk _ _ hrs0 hDd
    have hraL : ∀ z ∈ rs, PathX HL z.1 z.2 := fun z hz => lk _ _ (hra0 z hz) (tupd _ _ (hra0 z hz))
    have tk : ∀ {G2 : Hp}, Eb pm HL G2 → ∀ b xs, HL b = some (.tup xs) → G2 b = some (.tup xs) := fun x b xs e => x.keep b _ (ne_of e epL (fun z => by cases z)) e (fun ps z => by cases z)
    have tkS : ∀ {G2 : Hp}, Eb pm HL G2 → ∀ b xs, SqT K HL b xs → SqT K G2 b xs := fun x b xs e => by
      rcases e with (e | ⟨o, e⟩) | e
      · exact Or.inl (Or.inl (x.keep b _ (ne_of e epL (fun z => by cases z)) e (fun ps z => by cases z)))
      · exact Or.inl (Or.inr ⟨o, x.keep b _ (ne_of e epL (fun z => by cases z)) e (fun ps z => by cases z)⟩)
      · exact Or.inr e
    have gfirst : ∀ q ∈ firstsOf t, goodPath q = true := fun q hq => by
      obtain ⟨e, he, ee⟩ := List.mem_map.mp ((keysUp_perm t).mem_iff.mp (List.mem_filter.mp hq).1)
      rw [← ee]
      exact hgp e he
    refine ⟨_, rfl, d, od, rfl, .inr ⟨kv0, ld, for_it walk_keysT (fun i σ G2 => (∃ v3, σ = [some (.ref d), some (.ref D), some (.ref pm), v3]) ∧ Eb pm HL G2 ∧ ∃ km, G2 pm = some (.dT km) ∧ RowT G2 km ((lplain t).take i))
      ⟨⟨_, rfl⟩, Eb.refl _, [], epL, .nil⟩ (fun i σ G2 _ h => h.2.1.keep _ _ hne ld (fun ps z => by cases z)) ?_ ?_⟩⟩
    · rintro i x σ G2 G2' hi ⟨⟨v3, rfl⟩, xg, km, hkm, rkm⟩ ⟨rfl, kk, v, q, hk, rfl, hq⟩
      obtain ⟨en, hen, ek, r0, ev0, er0⟩ := paired_get rowL hk
      have ek : kk = en.1.map Sum.inr := ek
      rw [ek] at hq
      have pq : PathX G2' q en.1 := PathX.of_key hq
      have hmem := List.mem_of_getElem? hen
      have gp := hgp en hmem
      have hval : valT t en.1 = some en.2 := valT_nd fine.1 hmem
      have etake : (lplain t).take (i + 1) = (lplain t).take i ++ [(en.1, lplainTh t en.2)] := by
        unfold lplain
        rw [List.take_add_one, List.getElem?_map, hen]
        rfl
      have hnew : valV km (en.1.map Sum.inr) = none := by
        rcases rkm.val (p := en.1) with ⟨e1, _⟩ | ⟨_, h, _, e2, _⟩
        · exact e1
        · exfalso
          have hm := valT_mem e2
          unfold lplain at hm
          rw [← List.map_take] at hm
          obtain ⟨e', he', ee⟩ := List.mem_map.mp hm
          have e1 : e'.1 = en.1 := (Prod.mk.inj ee).1
          obtain ⟨j, hj, rfl⟩ := List.mem_iff_getElem.mp he'
          rw [List.length_take] at hj
          rw [List.getElem_take] at e1
          obtain ⟨hil, hie⟩ := List.getElem?_eq_some_iff.mp hen
          have h1 : (t.map (·.1))[j]'(by rw [List.length_map]; omega) = (t.map (·.1))[i]'(by rw [List.length_map]; exact hil) := by
            rw [List.getElem_map, List.getElem_map, hie]
            exact e1
          have := (List.getElem_inj fine.1).mp h1
          omega
      have hkl : km.length < sizeLine := by
        have h1 := rkm.length
        have h2 := fine.2
        unfold lplain at h1
        rw [List.length_take, List.length_map] at h1
        rw [sizeLine_eq]
        omega
      -- a drawer first
      refine ⟨(by show 1 ≤ sizeLine; decide), fun q1 hq1 => ?_⟩
      have xq := Ex.new (o := .tup [V.str "drawer"]) hq1
      have tq1 : (upd G2' q1 (.tup [V.str "drawer"])) q1 = some (.tup Th.dr.xs) := upd_same
      have pq1 := PathX.ex xq pq
      have hkm1 := xq.keep _ _ hkm (fun ps z => by cases z)
      have rkm1 : RowT (upd G2' q1 (.tup [V.str "drawer"])) km ((lplain t).take i) := rkm.keep fun b xs e => xq.keep _ _ e (fun ps z => by cases z)
      have xg1 := xg.trans (ex_eb xq)
      generalize upd G2' q1 (.tup [V.str "drawer"]) = G3 at tq1 pq1 hkm1 rkm1 xg1 ⊢
      refine ⟨_, rfl, _, rfl, pm, _, rfl, DPut.t (k := en.1.map Sum.inr) (v := .ref q1) hkm1 pq1.key hkl, ?_⟩
      rw [putK_new _ hnew]
      have xs1 := Eb.set (o := .dT (km ++ [(en.1.map Sum.inr, V.ref q1)])) hkm1 (fun ps z => by cases z)
      have mv := mv_upd (u := .dT (km ++ [(en.1.map Sum.inr, V.ref q1)])) hkm1 (fun q => q)
      have tq2 := mv _ _ tq1 trivial
      have pq2 : PathX (upd G3 pm (.dT (km ++ [(en.1.map Sum.inr, V.ref q1)]))) q en.1 := mv _ _ pq1 trivial
      have hkm2 : (upd G3 pm (.dT (km ++ [(en.1.map Sum.inr, V.ref q1)]))) pm = some (.dT (km ++ [(en.1.map Sum.inr, V.ref q1)])) := upd_same
      have rkm2 : RowT (upd G3 pm (.dT (km ++ [(en.1.map Sum.inr, V.ref q1)]))) km ((lplain t).take i) := rkm1.keep fun b xs e => mv _ _ e trivial
      have xg2 := xg1.trans xs1
      generalize upd G3 pm (.dT (km ++ [(en.1.map Sum.inr, V.ref q1)])) = G4 at tq2 pq2 hkm2 rkm2 xg2 ⊢
      have ld4 := xg2.keep _ _ hne ld (fun ps z => by cases z)
      have row4 := rowL.keep (tkS xg2)
      have tG4 : TrS K G4 d t := ⟨kv0, Or.inr ⟨od, ld4⟩, row4⟩
      rcases row4.val (p := en.1) with ⟨_, e2⟩ | ⟨rr, h, e1, e2, e3⟩
      · rw [hval] at e2
        cases e2
      rw [hval] at e2
      have e2 := Option.some.inj e2
      subst e2
      have dg : DGet G4 d (.ref q) (some (.ref rr)) := by
        have := get_tr (Or.inr ⟨od, ld4⟩) pq2
        rwa [e1] at this
      cases hth : en.2 with
      | dr =>
        rw [hth] at e3
        refine ⟨_, rfl, _, rfl, d, .ref rr, rfl, dg, rr, _, 0, .str "drawer", rfl, rfl, e3, rfl, rfl, _, rfl, ?_⟩
        rw [show decide (V.str "drawer" = V.str "file") = false by decide +kernel]
        refine iteF ⟨⟨_, rfl⟩, xg2, _, hkm2, ?_⟩
        rw [etake, hth]
        exact rkm2.snoc tq2
      | fl n tz =>
        rw [hth] at e3
        have hn : numAt t en.1 = some n := by
          unfold numAt
          rw [hval, hth]
          try rfl
        refine ⟨_, rfl, _, rfl, d, .ref rr, rfl, dg, rr, _, 0, .str "file", rfl, rfl, e3, rfl, rfl, _, rfl, ?_⟩
        rw [decide_eq_true rfl]
        have hD4 := xg2.keep _ _ hDp hrsL (fun ps z => by cases z)
        refine iteT ⟨_, rfl, .inl ⟨rfl, _, SqL.of hD4⟩, _, rfl, _, rfl, d, q, t, en.1, n, rfl, tG4, fine, pq2, hn, fun G5 l2 x5 hl2 => ?_⟩
        obtain ⟨gs, egs, pgs⟩ := hl2
        have hge : groupOf t n = fstOf t n :: (groupOf t n).tail := by
          unfold fstOf
          cases e : groupOf t n with
          | nil => exact absurd e (group_ne hn)
          | cons x r => rfl
        have hpos : 0 < gs.length := by rw [pgs.length, hge]; exact Nat.succ_pos _
        obtain ⟨g0, hg0⟩ : ∃ g0, gs[0]? = some g0 := ⟨gs[0], List.getElem?_eq_getElem hpos⟩
        obtain ⟨q0, hq0, pq0⟩ := paired_get pgs hg0
        have hq0 : q0 = fstOf t n := by
          rw [hge] at hq0
          exact (Option.some.inj hq0).symm
        subst hq0
        obtain ⟨ix1, ix2⟩ := idx_spec (fst_first hn)
        have hD5 := x5.keep _ _ hD4 (fun ps z => by cases z)
        have pat : ∀ {ws : LS.Zs}, (∀ z ∈ ws, PathX G5 z.1 z.2) → DpAll K G5 (LS.addrs ws) ((ws.map (·.2)).map pathD) := by
          intro ws
          induction ws with
          | nil => exact fun _ => .nil
          | cons z ws ih => exact fun h => .cons ((h z (List.mem_cons_self ..)).at (K := K)).dp (ih fun u hu => h u (List.mem_cons_of_mem _ hu))
        have dl : Dp K G5 (.ref D) (.list ((firstsOf t).map pathD)) := by
          rw [← hrm]
          exact .lst (SqL.of hD5) (pat fun z hz => PathX.ex x5 (tk xg2 _ _ (hraL z hz)))
        refine ⟨l2, gs.map V.ref, 0, .ref g0, rfl, rfl, SqL.of egs, at_of (j := 0) rfl (by rw [List.getElem?_map, hg0]; rfl), ?_⟩
        refine ⟨D, .ref g0, pathD (fstOf t n), (firstsOf t).map pathD, (firstsOf t).idxOf (fstOf t n), pathD (fstOf t n), rfl, rfl, dl, (pq0.at (K := K)).dp, shaped_paths gfirst, shaped_path (goodPath_ok (gfirst _ (fst_first hn))), by rw [List.getElem?_map, ix1]; rfl, by rw [eqv_path]; exact decide_eq_true rfl, fun m z' hm hz' => ?_, ?_⟩
        · rw [List.getElem?_map] at hz'
          obtain ⟨u, hu, rfl⟩ := Option.map_eq_some_iff.mp hz'
          rw [eqv_path]
          exact decide_eq_false (ix2 m u hm hu)
        have dg5 : DGet G5 d (.ref q) (some (.ref rr)) := by
          have := get_tr (Or.inr ⟨od, x5.keep _ _ ld4 (fun ps z => by cases z)⟩) (PathX.ex x5 pq2)
          rwa [e1] at this
        refine ⟨_, rfl, _, rfl, d, .ref rr, rfl, dg5, rr, _, 2, .str tz, rfl, rfl, x5.tup e3, rfl, (by show 3 ≤ sizeLine; decide), fun q2 hq2 => ?_⟩
        have xq2 := Ex.new (o := .tup [V.str "file", V.int (((firstsOf t).idxOf (fstOf t n) : Nat) : Int), V.str tz]) hq2
        have tq3 : (upd G5 q2 (.tup [V.str "file", V.int (((firstsOf t).idxOf (fstOf t n) : Nat) : Int), V.str tz])) q2 = some (.tup (lplainTh t (.fl n tz)).xs) := upd_same
        have x46 := x5.trans xq2
        have pq6 := PathX.ex x46 pq2
        have hkm6 := x46.keep _ _ hkm2 (fun ps z => by cases z)
        have rkm6 : RowT (upd G5 q2 (.tup [V.str "file", V.int (((firstsOf t).idxOf (fstOf t n) : Nat) : Int), V.str tz])) km ((lplain t).take i) := rkm2.keep fun b xs e => x46.keep _ _ e (fun ps z => by cases z)
        have xg6 := xg2.trans (ex_eb x46)
        generalize upd G5 q2 (.tup [V.str "file", V.int (((firstsOf t).idxOf (fstOf t n) : Nat) : Int), V.str tz]) = G6 at tq3 pq6 hkm6 rkm6 xg6 ⊢
        have hkl2 : (km ++ [(en.1.map Sum.inr, V.ref q1)]).length < sizeLine := by
          have h1 := rkm.length
          have h2 := fine.2
          unfold lplain at h1
          rw [List.length_take, List.length_map] at h1
          rw [List.length_append, List.length_singleton, sizeLine_eq]
          omega
        refine ⟨_, rfl, _, rfl, pm, _, rfl, DPut.t (k := en.1.map Sum.inr) (v := .ref q2) hkm6 pq6.key hkl2, ?_⟩
        rw [putK_last hnew]
        have mv2 := mv_upd (u := .dT (km ++ [(en.1.map Sum.inr, V.ref q2)])) hkm6 (fun q => q)
        refine ⟨⟨_, rfl⟩, xg6.trans (Eb.set hkm6 (fun ps z => by cases z)), _, upd_same, ?_⟩
        rw [etake, hth]
        exact (rkm6.keep fun b xs e => mv2 _ _ e trivial).snoc (mv2 _ _ tq3 trivial)
    · rintro σ G2 ⟨⟨v3, rfl⟩, xg, km, hkm, rkm⟩
      refine hR _ G2 xg fun H2 y2 kp => ?_
      have hlen : kv0.length = (lplain t).length := by
        unfold lplain
        rw [List.length_map]
        exact rowL.length
      rw [hlen, List.take_length] at rkm
      have hpd : pm ≠ d := Ne.symm hne
      refine ⟨_, rfl, k H2 pm km (Eb.ex x0 hpmH y2) hpmH (kp _ _ hkm hpd) (rkm.keep fun b xs e => kp b _ e fun z => ?_)⟩
      have := xg.keep _ _ hne ld (fun ps z => by cases z)
      rw [z, this] at e
      cases e
end
/-! ### what is due at a path -/
def dueD (es : Ents) (p : List Str) (ys : List Str) (gs : List (List Str)) : List PyData := match valE es p with
  | none => [.none, refD 8, refD 8, refD 8]
  | some d => if drawerB d = true then [.str "drawer", refD 10, .list (ys.map PyData.str), refD 10] else [.str "file", .str (txtD d), refD 9, .list (gs.map pathD)]
theorem due_none {es : Ents} {p : List Str} {ys : List Str} {gs : List (List Str)} (h : valE es p = none) : dueD es p ys gs = [.none, refD 8, refD 8, refD 8] := by
  unfold dueD; rw [h]
theorem due_dr {es : Ents} {p : List Str} {ys : List Str} {gs : List (List Str)} (h : valE es p = some drD) : dueD es p ys gs = [.str "drawer", refD 10, .list (ys.map PyData.str), refD 10] := by
  unfold dueD; rw [h]; exact if_pos drD_drawer
theorem due_file {es : Ents} {p : List Str} {ys : List Str} {gs : List (List Str)} {n : Int} {z : Str} (h : valE es p = some (fileD n z)) : dueD es p ys gs = [.str "file", .str z, refD 9, .list (gs.map pathD)] := by
  unfold dueD; rw [h]; exact if_neg (by rw [fileD_noDrawer]; decide)
theorem drD_ne_file {n : Int} {z : Str} : drD ≠ fileD n z := by
  intro e
  have := drD_drawer
  rw [e, fileD_noDrawer] at this
  cases this
theorem dp_strs {K : PySem.W.Frag} {H : Hp} : ∀ {ys : List Str}, DpAll K H (ys.map V.str) (ys.map PyData.str)
  | [] => .nil
  | y :: ys => .cons (.str y) dp_strs
theorem dp_paths {K : PySem.W.Frag} {H : Hp} : ∀ {zs : LS.Zs}, (∀ z ∈ zs, PathX H z.1 z.2) → DpAll K H (LS.addrs zs) ((zs.map (·.2)).map pathD)
  | [], _ => .nil
  | z :: zs, h => .cons ((h z (List.mem_cons_self ..)).at (K := K)).dp (dp_paths fun u hu => h u (List.mem_cons_of_mem _ hu))
structure DueOk (es : Ents) (p : List Str) (ys : List Str) (gs : List (List Str)) : Prop where
  y : valE es p = some drD → ys.Perm (namesIn es p) ∧ sortedS ys = true
  g : ∀ n z, valE es p = some (fileD n z) → gs.Perm (tiedE es n) ∧ RisingP gs
theorem view_due {K : PySem.W.Frag} {H : Hp} {Q : VK} {es : Ents} {p : List Str} {n : Nat} {ys : List Str} {gs : List (List Str)} (t : treeB es = true) (hn : n < 4) (O : DueOk es p ys gs)
    (k : ∀ H' v D, (dueD es p ys gs)[n]? = some D → Ex H H' → (∀ D0 y0 us, H' D0 = some (.lst y0) → H D0 ≠ none → Dp K (upd H' D0 (.lst us)) v D) → Q v H') : ViewK K H Q es p n := by
  rcases valE_cases t p with e | e | ⟨m, z, e⟩
  · rw [due_none e] at k
    have told : ∀ i : Nat, (∀ H' v, Ex H H' → (∀ D0 y0 us, H' D0 = some (.lst y0) → H D0 ≠ none → Dp K (upd H' D0 (.lst us)) v (refD i)) → Q v H') → ToldI K H Q i := fun i f H' r x hr => f H' _ x fun D0 y0 us e0 _ => RefAt.dp (sqT_put hr e0)
    match n, hn with
    | 0, _ => exact fun H' x => k H' _ .none rfl x (fun _ _ _ _ _ => by unfold kindV; rw [e]; exact .non)
    | 1, _ => exact ⟨fun _ => told 8 fun H' v x d => k H' v _ rfl x d, fun e2 => (by rw [e] at e2; cases e2), fun _ _ e2 => (by rw [e] at e2; cases e2)⟩
    | 2, _ => exact ⟨fun _ => told 8 fun H' v x d => k H' v _ rfl x d, fun _ _ e2 => (by rw [e] at e2; cases e2), fun e2 => (by rw [e] at e2; cases e2)⟩
    | 3, _ => exact ⟨fun _ => told 8 fun H' v x d => k H' v _ rfl x d, fun e2 => (by rw [e] at e2; cases e2), fun _ _ e2 => (by rw [e] at e2; cases e2)⟩
  · rw [due_dr e] at k
    have told : ∀ i : Nat, (∀ H' v, Ex H H' → (∀ D0 y0 us, H' D0 = some (.lst y0) → H D0 ≠ none → Dp K (upd H' D0 (.lst us)) v (refD i)) → Q v H') → ToldI K H Q i := fun i f H' r x hr => f H' _ x fun D0 y0 us e0 _ => RefAt.dp (sqT_put hr e0)
    match n, hn with
    | 0, _ => exact fun H' x => k H' _ _ rfl x (fun D0 y0 us _ _ => by unfold kindV; rw [e]; show Dp K (upd H' D0 (.lst us)) (if drawerB drD = true then _ else _) _; rw [if_pos drD_drawer]; exact .str _)
    | 1, _ => exact ⟨fun e2 => (by rw [e] at e2; cases e2), fun _ => told 10 fun H' v x d => k H' v _ rfl x d, fun _ _ e2 => (by rw [e] at e2; exact absurd (Option.some.inj e2) drD_ne_file)⟩
    | 2, _ =>
      refine ⟨fun e2 => (by rw [e] at e2; cases e2), fun _ _ e2 => (by rw [e] at e2; exact absurd (Option.some.inj e2) drD_ne_file), fun _ H' l us x hln el pm so => ?_⟩
      obtain ⟨hy, hs⟩ := O.y e
      have : us = ys := sortedS_uniq (pm.trans hy.symm) so hs
      subst this
      exact k H' _ _ rfl x (fun D0 y0 ws e0 hn0 => .lst (SqL.of (by rw [upd_ne (fun z => hn0 (by rw [← z]; exact hln))]; exact el)) dp_strs)
    | 3, _ => exact ⟨fun e2 => (by rw [e] at e2; cases e2), fun _ => told 10 fun H' v x d => k H' v _ rfl x d, fun _ _ e2 => (by rw [e] at e2; exact absurd (Option.some.inj e2) drD_ne_file)⟩
  · rw [due_file e] at k
    have told : ∀ i : Nat, (∀ H' v, Ex H H' → (∀ D0 y0 us, H' D0 = some (.lst y0) → H D0 ≠ none → Dp K (upd H' D0 (.lst us)) v (refD i)) → Q v H') → ToldI K H Q i := fun i f H' r x hr => f H' _ x fun D0 y0 us e0 _ => RefAt.dp (sqT_put hr e0)
    match n, hn with
    | 0, _ => exact fun H' x => k H' _ _ rfl x (fun D0 y0 us _ _ => by unfold kindV; rw [e]; show Dp K (upd H' D0 (.lst us)) (if drawerB (fileD m z) = true then _ else _) _; rw [if_neg (by rw [fileD_noDrawer]; decide)]; exact .str _)
    | 1, _ =>
      refine ⟨fun e2 => (by rw [e] at e2; cases e2), fun e2 => (by rw [e] at e2; exact absurd (Option.some.inj e2).symm drD_ne_file), fun n' z' e2 H' x => ?_⟩
      rw [e] at e2
      obtain ⟨_, rfl⟩ := fileD_inj (Option.some.inj e2)
      exact k H' _ _ rfl x (fun _ _ _ _ _ => .str _)
    | 2, _ => exact ⟨fun e2 => (by rw [e] at e2; cases e2), fun _ _ _ => told 9 fun H' v x d => k H' v _ rfl x d, fun e2 => (by rw [e] at e2; exact absurd (Option.some.inj e2).symm drD_ne_file)⟩
    | 3, _ =>
      refine ⟨fun e2 => (by rw [e] at e2; cases e2), fun e2 => (by rw [e] at e2; exact absurd (Option.some.inj e2).symm drD_ne_file), fun n' z' e2 H' l zs x hln el pm ri px => ?_⟩
      rw [e] at e2
      obtain ⟨rfl, _⟩ := fileD_inj (Option.some.inj e2)
      obtain ⟨hg, hr⟩ := O.g _ _ e
      have : zs.map (·.2) = gs := rising_uniq (pm.trans hg.symm) (List.pairwise_map.mpr ri) hr
      rw [← this] at k
      exact k H' _ _ rfl x (fun D0 y0 ws e0 hn0 => .lst (SqL.of (by rw [upd_ne (fun z => hn0 (by rw [← z]; exact hln))]; exact el)) (dp_paths fun u hu => by
        show upd _ _ _ _ = _
        rw [upd_ne (ne_of (px u hu) e0 (fun z => by cases z))]
        exact px u hu))
theorem shaped_list {xs : List PyData} (h : ∀ x ∈ xs, SeqAt.shaped x = true ∧ PyData.depth x ≤ 3) : SeqAt.shaped (.list xs) = true := by
  have h2 : ∀ {xs : List PyData}, (∀ x ∈ xs, SeqAt.shaped x = true ∧ PyData.depth x ≤ 3) → PyData.canLayAll0 xs = true ∧ PyData.depthAll xs ≤ 3 := fun {xs} h => by
    induction xs with
    | nil => exact ⟨by simp [PyData.canLayAll0], by simp [PyData.depthAll]⟩
    | cons c cs ih =>
      obtain ⟨h3, h4⟩ := h c (List.mem_cons_self ..)
      obtain ⟨h5, h6⟩ := ih fun x hx => h x (List.mem_cons_of_mem _ hx)
      unfold SeqAt.shaped at h3
      rw [Bool.and_eq_true] at h3
      refine ⟨by simp only [PyData.canLayAll0, h3.1, h5, Bool.and_self], ?_⟩
      simp only [PyData.depthAll]
      omega
  obtain ⟨h3, h4⟩ := h2 h
  unfold SeqAt.shaped
  rw [Bool.and_eq_true]
  refine ⟨by simp only [PyData.canLay0]; exact h3, ?_⟩
  simp only [PyData.depth]
  exact decide_eq_true (by omega)
theorem shaped_strd {z : Str} (h : PyData.strOk z = true) : SeqAt.shaped (.str z) = true ∧ PyData.depth (.str z) ≤ 3 := by
  refine ⟨by simp [SeqAt.shaped, PyData.canLay0, PyData.depth, h], by simp [PyData.depth]⟩
theorem names_ok {es : Ents} (t : treeB es = true) {p : List Str} {z : Str} (hz : z ∈ namesIn es p) : PyData.strOk z = true := by
  unfold namesIn at hz
  obtain ⟨e, he, rfl⟩ := List.mem_map.mp hz
  obtain ⟨h1, h2⟩ := List.mem_filter.mp he
  rw [Bool.and_eq_true] at h2
  have hne : e.1 ≠ [] := by simpa using h2.1
  have hg := (treeB_parts t).2.1 e h1
  refine goodPath_ok hg _ ?_
  rw [List.getLastD_eq_getLast?, List.getLast?_eq_getLast hne]
  exact List.getLast_mem hne
theorem depth_strs (ys : List Str) : PyData.depthAll (ys.map PyData.str) = 0 := by
  induction ys with
  | nil => simp [PyData.depthAll]
  | cons y ys ih => simp only [List.map_cons, PyData.depthAll, PyData.depth, ih]; rfl
theorem shaped_due {es : Ents} {p : List Str} {ys : List Str} {gs : List (List Str)} (t : treeB es = true) (O : DueOk es p ys gs) : SeqAt.shaped (.list (dueD es p ys gs)) = true := by
  have hr : ∀ i : Int, SeqAt.shaped (refD i) = true ∧ PyData.depth (refD i) ≤ 3 := fun i => ⟨shaped_ref i, by simp [refD, PyData.depth, PyData.depthAll]⟩
  have hs : ∀ z : Str, PyData.strOk z = true → SeqAt.shaped (.str z) = true ∧ PyData.depth (.str z) ≤ 3 := fun z h => shaped_strd h
  refine shaped_list fun x hx => ?_
  rcases valE_cases t p with e | e | ⟨m, z, e⟩
  · rw [due_none e] at hx
    simp only [List.mem_cons, List.not_mem_nil, or_false] at hx
    rcases hx with rfl | rfl | rfl | rfl
    · exact ⟨by decide +kernel, by simp [PyData.depth]⟩
    · exact hr 8
    · exact hr 8
    · exact hr 8
  · rw [due_dr e] at hx
    simp only [List.mem_cons, List.not_mem_nil, or_false] at hx
    rcases hx with rfl | rfl | rfl | rfl
    · exact hs _ (by decide +kernel)
    · exact hr 10
    · refine ⟨shaped_list fun y hy => ?_, by simp [PyData.depth, depth_strs]⟩
      obtain ⟨z, hz, rfl⟩ := List.mem_map.mp hy
      exact hs z (names_ok t ((O.y e).1.mem_iff.mp hz))
    · exact hr 10
  · rw [due_file e] at hx
    obtain ⟨y, hy, _, ed⟩ := valE_mem e
    simp only [List.mem_cons, List.not_mem_nil, or_false] at hx
    rcases hx with rfl | rfl | rfl | rfl
    · exact hs _ (by decide +kernel)
    · obtain ⟨h2, _⟩ := tree_fit t y hy m z ed
      exact hs z (text_ok h2)
    · exact hr 9
    · have hd : ∀ q : List Str, PyData.depth (pathD q) = 1 := fun q => by
        show PyData.depth (.tuple (q.map PyData.str)) = 1
        simp [PyData.depth, depth_strs]
      have hda : ∀ gs : List (List Str), PyData.depthAll (gs.map pathD) ≤ 1 := fun gs => by
        induction gs with
        | nil => simp [PyData.depthAll]
        | cons g gs ih => simp only [List.map_cons, PyData.depthAll, hd]; omega
      refine ⟨shaped_list fun y hy => ?_, by simp only [PyData.depth]; have := hda gs; omega⟩
      obtain ⟨q, hq, rfl⟩ := List.mem_map.mp hy
      have : q ∈ es.map (·.1) := by
        have := (O.g m z e).1.mem_iff.mp hq
        unfold tiedE at this
        obtain ⟨e2, he2, rfl⟩ := List.mem_map.mp this
        exact List.mem_map.mpr ⟨e2, (List.mem_filter.mp he2).1, rfl⟩
      obtain ⟨e2, he2, rfl⟩ := List.mem_map.mp this
      exact ⟨shaped_path (goodPath_ok ((treeB_parts t).2.1 e2 he2)), by rw [hd]; decide⟩
theorem group_tied {t : Tr} (nd : (t.map (·.1)).Nodup) (n : Int) : (groupOf t n).Perm (tiedE (entsT t) n) ∧ RisingP (groupOf t n) := by
  refine ⟨?_, (keysUp_rising t).filter _⟩
  unfold groupOf
  refine ((keysUp_perm t).filter _).trans ?_
  have h : ∀ e ∈ t, decide (numAt t e.1 = some n) = numOfD e.2.d n := fun e he => by
    unfold numAt
    rw [valT_nd nd he]
    cases e.2 with
    | dr => rw [show numOfD Th.dr.d n = false from rfl]; exact decide_eq_false (fun z => nomatch z)
    | fl m z =>
      show decide (some m = some n) = decide (m = n)
      exact decide_eq_decide.mpr ⟨fun e => Option.some.inj e, fun e => congrArg some e⟩
  unfold tiedE entsT
  rw [List.filter_map, List.filter_map, List.map_map]
  refine List.Perm.of_eq ?_
  have : t.filter ((fun q => decide (numAt t q = some n)) ∘ fun e => e.1) = t.filter ((fun e : List Str × PyData => numOfD e.2 n) ∘ fun e => (e.1, e.2.d)) := List.filter_congr fun e he => h e he
  rw [this]
  rfl
theorem dp_group {K : PySem.W.Frag} {H : Hp} : ∀ {gs : List Addr} {ps : List (List Str)}, Paired (fun r q => PathX H r q) gs ps → DpAll K H (gs.map V.ref) (ps.map pathD)
  | _, _, .nil => .nil
  | _, _, .cons h r => .cons ((h.at (K := K)).dp) (dp_group r)
theorem Ex.both {H H' : Hp} {D : Addr} {us : List V} (x : Ex H H') : Ex (upd H D (.lst us)) (upd H' D (.lst us)) := by
  refine ⟨fun b o e n => ?_, fun b => ?_, fun b e => ?_⟩
  · by_cases hb : b = D
    · rw [hb, upd_same] at e ⊢; exact e
    · rw [upd_ne hb] at e ⊢; exact x.keep b o e n
  · rintro ⟨ps, e, t⟩
    have hb : b ≠ D := fun z => by rw [z, upd_same] at e; cases e
    rw [upd_ne hb] at e
    obtain ⟨qs, e2, t2⟩ := x.tab b ⟨ps, e, t⟩
    exact ⟨qs, by rw [upd_ne hb]; exact e2, t2⟩
  · by_cases hb : b = D
    · rw [hb, upd_same] at e; cases e
    · rw [upd_ne hb] at e ⊢; exact x.free b e
theorem dpAll_exx {K : PySem.W.Frag} {H H' : Hp} (x : Ex H H') : ∀ {vs : List V} {ds : List PyData}, DpAll K H vs ds → DpAll K H' vs ds
  | _, _, .nil => .nil
  | _, _, .cons a b => .cons (Dp_ex x a) (dpAll_exx x b)
theorem dpAll_app {K : PySem.W.Frag} {H : Hp} {v : V} {d : PyData} (h2 : Dp K H v d) : ∀ {vs : List V} {ds : List PyData}, DpAll K H vs ds → DpAll K H (vs ++ [v]) (ds ++ [d])
  | _, _, .nil => .cons h2 .nil
  | _, _, .cons a b => .cons a (dpAll_app h2 b)
/-! ### whether all views tell what a tree has -/
theorem cutVO {R : V → V → Option V → Hp → Prop} {Q : Prop} (Good : V → V → Option V → Hp → Prop) (a : (∀ t x y G, Good t x y G → R t x y G) → Q) (b : ∀ t x y G, Good t x y G → R t x y G) : Q := a b
def spViewsRight (K : PySem.W.Frag) (C P1 P2 P3 P4 P5 : Addr) : Sp := fun vs H Q _ => ∃ (h d dT l : Addr) (es : Ents) (t : Tr) (zs : LS.Zs), vs = [.ref h, .ref dT, .ref l] ∧ HsAt K C H h d es ∧ Tabs5 H P1 P2 P3 P4 P5 ∧ TrS K H dT t ∧ entsT t = es ∧ es.length < 64 ∧
  H l = some (.lst (LS.addrs zs)) ∧ (∀ z ∈ zs, PathX H z.1 z.2 ∧ goodPath z.2 = true) ∧ ∀ H', Ex H H' → Q (.bl true) H'
section
variable {P : Program} {w : World} {K : PySem.W.Frag} {mg : Str → Option Value} {base : Heap}
abbrev vrN : List Str := ["_law_house", "_law_tree_here", "_law_paths", "_law_path_here", "_law_thing", "_law_due", "_law_names", "_law_one", "_law_what"]
theorem scViewsRight : FnScope vrN ["_law_house", "_law_tree_here", "_law_paths"] (defScope sViewsRight) := ⟨rfl, rfl, rfl, by decide +kernel, rfl, by decide +kernel, by decide +kernel⟩
theorem ok_viewsRight {f fV fG C P1 P2 P3 P4 P5 : Addr} {fd fdV fdG : FuncData} (F : Fun K "_law_views_right" "_law_views_right" sViewsRight f fd) (M : Mg mg) (mS : mg "sorted" = none)
    (GV : FnOk P w K mg base CX0 13 fV fdV ["_law_house", "_law_what", "_law_path_here"] (spView K C P1 P2 P3 P4 P5)) (mV : mg "_law_view" = some (.ref fV)) (kV : PySem.W.keepIn K (.ref fV) = true) (bV : Binds K fdV ["_law_house", "_law_what", "_law_path_here"] [])
    (GG : FnOk P w K mg base CX0 1 fG fdG ["_law_tree_here", "_law_path_here"] (spGroup K)) (mG : mg "_law_group" = some (.ref fG)) (kG : PySem.W.keepIn K (.ref fG) = true) (bG : Binds K fdG ["_law_tree_here", "_law_path_here"] []) :
    FnOk P w K mg base CX0 14 f fd ["_law_house", "_law_tree_here", "_law_paths"] (spViewsRight K C P1 P2 P3 P4 P5) := by
  refine F.ok scViewsRight (fun vs H Q E h => ?_) (fun cdv A outer s H vs Q E hr h => ?_)
  · obtain ⟨h, d, dT, l, es, t, zs, rfl, _⟩ := h
    rfl
  · obtain ⟨h, d, dT, l, es, t, zs, rfl, g, TB, tS, et, h64, el, hz, k⟩ := h
    have r1 := hr.mono (show 1 ≤ 13 by decide)
    have hu1 : (A.deeper (envOfC "_law_views_right" (defScope sViewsRight) s.heap.objs.size f cdv)).units + 1 < cLine := by have := hr.units; omega
    refine ⟨_, pss_cons (ps_for PassesOwn.never rfl (pi_list (pv 2)) (pg_name (i := 3) scViewsRight.nd rfl (Or.inr rfl))
        (pss_cons (ps_set (i := 4) scViewsRight.nd rfl (Or.inl rfl) (pe_dget1 hu1 (pv 1) (pv 3) ⟨rfl, rfl, rfl, rfl⟩))
        (pss_cons (ps_if (pt_cmpR op_isN (pv 4) pe_non (nomark _))
          (pss_one (ps_set (i := 5) scViewsRight.nd rfl (Or.inl rfl) (pe_lst (pa_cons pe_non (pa_cons (pe_tup (pa_cons pe_str (pa_cons pe_int pa_nil))) (pa_cons (pe_tup (pa_cons pe_str (pa_cons pe_int pa_nil))) (pa_cons (pe_tup (pa_cons pe_str (pa_cons pe_int pa_nil))) pa_nil)))))))
          (pss_one (ps_if (pt_cmpR (op_eqD hr.units) (pv 4) (pe_tup (pa_cons pe_str pa_nil)) (nomark _))
            (pss_cons (ps_set (i := 6) scViewsRight.nd rfl (Or.inl rfl) (pe_callB cr_sortedS (by rfl) mS (by decide +kernel) (pa_cons (pe_lockR (pe_lc (own := [("_law_one", 7)]) (g := gName 7)
              (tt := tAnd (tTest (tOp rEq (tCB (rLenSeq K) (tCons (tVar 7) tNil)) (tOp (rI0 fun i j => V.int (i + j)) (tCB (rLenSeq K) (tCons (tVar 3) tNil)) (tC (.int 1)))))
                (tTest (tOp (rEqD K) (L2.tSl (rSlA K) (tVar 7) tNoPart (tPart (tCB (rLenSeq K) (tCons (tVar 3) tNil)))) (tVar 3))))
              rfl scViewsRight.nd (pi_keys (pv 1)) (blkOk_by (N := vrN) (sc := defScope sViewsRight) (by decide +kernel)) (fun _ _ _ _ _ => pg_name (i := 7) scViewsRight.nd rfl (Or.inl rfl))
              (fun _ _ _ _ _ => pts_one (PW.pt (pw_and (pt_cmpR op_eq (pe_callB (r := rLenSeq K) call_lenS (by rfl) M.len PySem.boot_len (pa_cons (pv 7) pa_nil)) (pe_op op_add (pe_callB (r := rLenSeq K) call_lenS (by rfl) M.len PySem.boot_len (pa_cons (pv 3) pa_nil)) pe_int) (nomark _))
                (pw_and1 (pt_cmpR (op_eqD hr.units) (pe_slice (r := rSlA K) sl_tupA (pv 7) po_none (po_some (pe_callB (r := rLenSeq K) call_lenS (by rfl) M.len PySem.boot_len (pa_cons (pv 3) pa_nil)))) (pv 3) (nomark _))))))
              (fun _ _ _ _ _ => pe_ix (r := rIxT K) ix_tup (pv 7) (pe_callB (r := rLenSeq K) call_lenS (by rfl) M.len PySem.boot_len (pa_cons (pv 3) pa_nil)) (fun _ _ => rfl)))) pa_nil)))
            (pss_one (ps_set (i := 5) scViewsRight.nd rfl (Or.inl rfl) (pe_lst (pa_cons pe_str (pa_cons (pe_tup (pa_cons pe_str (pa_cons pe_int pa_nil))) (pa_cons (pv 6) (pa_cons (pe_tup (pa_cons pe_str (pa_cons pe_int pa_nil))) pa_nil))))))))
            (pss_one (ps_set (i := 5) scViewsRight.nd rfl (Or.inl rfl) (pe_lst (pa_cons pe_str (pa_cons (pe_ix (r := rIxT K) ix_tup (pv 4) pe_int (fun _ _ => rfl)) (pa_cons (pe_tup (pa_cons pe_str (pa_cons pe_int pa_nil))) (pa_cons (pe_call (E := E0) GG r1 (by rfl) mG kG bG .nil pass0 (pa_cons (pv 1) (pa_cons (pv 3) pa_nil))) pa_nil))))))))))
        (pss_one (ps_if (pt_cmpR (op_neD hr.units) (pe_lc (own := [("_law_what", 8)]) (g := gName 8) (tt := tYes) rfl scViewsRight.nd (pi_range1 (by rfl) M.range (pa_cons pe_int pa_nil)) (blkOk_by (N := vrN) (sc := defScope sViewsRight) (by decide +kernel)) (fun _ _ _ _ _ => pg_name (i := 8) scViewsRight.nd rfl (Or.inl rfl)) (fun _ _ _ _ _ => pts_nil)
            (fun _ _ _ _ _ => pe_call (E := E0) GV hr (by rfl) mV kV bV .nil pass0 (pa_cons (pv 0) (pa_cons (pv 8) (pa_cons (pv 3) pa_nil))))) (pv 5) (nomark _)) (pss_one (ps_ret pe_bl)) pss_nil)))))
      (pss_one (ps_ret pe_bl)), ?_⟩
    have nd : (t.map (·.1)).Nodup := by
      have := g.nd
      rw [← et] at this
      unfold entsT at this
      rwa [List.map_map] at this
    have fine : Fine t := ⟨nd, by
      rw [← et] at h64
      unfold entsT at h64
      rw [List.length_map] at h64
      omega⟩
    refine ⟨_, rfl, l, rfl, ⟨_, SqL.of el⟩, for_it (walk_list (K := K) (a := l) (xs := LS.addrs zs)) (fun i σ G => ∃ v3 v4 v5 v6, σ = [some (.ref h), some (.ref dT), some (.ref l), v3, v4, v5, v6, none, none] ∧ Ex H G)
      ⟨none, none, none, none, rfl, Ex.refl _⟩ (fun i σ G _ ⟨_, _, _, _, _, x⟩ => SqL.of (x.keep _ _ el (fun ps z => by cases z))) ?_ ?_⟩
    rotate_left
    · rintro σ G ⟨_, _, _, _, rfl, x⟩
      exact k G x
    rintro i x σ G G' hi ⟨v3, v4, v5, v6, rfl, xg⟩ ⟨rfl, hx⟩
    unfold LS.addrs at hx
    rw [List.getElem?_map] at hx
    obtain ⟨z, hzi, rfl⟩ := Option.map_eq_some_iff.mp hx
    obtain ⟨pz0, gz⟩ := hz z (List.mem_of_getElem? hzi)
    obtain ⟨q, p⟩ := z
    have pz : PathX G' q p := PathX.ex xg pz0
    have gz : goodPath p = true := gz
    have g' := g.ex xg
    have tS' := tS.ex xg
    have TB' := TB.ex xg
    clear pz0 hx hzi hi
    obtain ⟨kvs, hd, row⟩ := id tS'
    have isd : IsD G' dT := Or.inr ⟨kvs, hd⟩
    have vE0 : valE es p = (valT t p).map Th.d := by rw [← et]; exact valT_ents t p
    have tre := g.tree
    refine ⟨_, rfl, dT, rfl, isd, _, rfl, _, get_tr hd pz, ?_⟩
    apply cutVO (fun _ vd _ G2 => Ex G' G2 ∧ ∃ ys gs, DueOk es p ys gs ∧ Dp K G2 vd (.list (dueD es p ys gs)))
    · intro done
      rcases row.val (p := p) with ⟨e1, e2⟩ | ⟨rr, hth, e1, e2, e3⟩
      · have vE : valE es p = none := by rw [vE0, e2]; rfl
        rw [e1]
        obtain ⟨v4', ev4⟩ : ∃ v, v = Option.getD (none : Option V) V.non := ⟨_, rfl⟩
        rw [← ev4]
        refine ⟨_, rfl, rfl, _, rfl, ?_⟩
        rw [decide_eq_true (show v4' = V.non from ev4)]
        refine iteT ⟨(by show 2 ≤ sizeLine; decide), fun q1 h1 => ⟨(by show 2 ≤ sizeLine; decide), fun q2 h2 => ⟨(by show 2 ≤ sizeLine; decide), fun q3 h3 => ⟨(by show 4 ≤ sizeLine; decide), fun ld hld => ?_⟩⟩⟩⟩
        have x1 := Ex.new (o := .tup [V.str "refused", V.int 8]) h1
        have r1' : RefAt K (upd G' q1 (.tup [V.str "refused", V.int 8])) q1 8 := SqT.of upd_same
        generalize upd G' q1 (.tup [V.str "refused", V.int 8]) = Ga at x1 r1' h2 h3 hld ⊢
        have x2 := Ex.new (o := .tup [V.str "refused", V.int 8]) h2
        have r2' : RefAt K (upd Ga q2 (.tup [V.str "refused", V.int 8])) q2 8 := SqT.of upd_same
        generalize upd Ga q2 (.tup [V.str "refused", V.int 8]) = Gb at x2 r2' h3 hld ⊢
        have x3 := Ex.new (o := .tup [V.str "refused", V.int 8]) h3
        have r3' : RefAt K (upd Gb q3 (.tup [V.str "refused", V.int 8])) q3 8 := SqT.of upd_same
        generalize upd Gb q3 (.tup [V.str "refused", V.int 8]) = Gc at x3 r3' hld ⊢
        have x4 := Ex.new (o := .lst [V.non, .ref q1, .ref q2, .ref q3]) hld
        have dv : Dp K (upd Gc ld (.lst [V.non, .ref q1, .ref q2, .ref q3])) (.ref ld) (.list (dueD es p [] [])) := by
          rw [due_none vE]
          exact .lst (SqL.of upd_same) (.cons .non (.cons (r1'.ex ((x2.trans x3).trans x4)).dp (.cons (r2'.ex (x3.trans x4)).dp (.cons (r3'.ex x4).dp .nil))))
        have xx := ((x1.trans x2).trans x3).trans x4
        generalize upd Gc ld (.lst [V.non, .ref q1, .ref q2, .ref q3]) = Gd at dv xx ⊢
        obtain ⟨vd, evd⟩ : ∃ vd, vd = V.ref ld := ⟨_, rfl⟩
        rw [← evd] at dv ⊢
        generalize v6 = o6
        exact done v4' vd o6 Gd ⟨xx, [], [], ⟨fun e => (by rw [vE] at e; cases e), fun _ _ e => (by rw [vE] at e; cases e)⟩, dv⟩
      have vE : valE es p = some hth.d := by rw [vE0, e2]; rfl
      rw [e1]
      refine ⟨_, rfl, rfl, _, rfl, ?_⟩
      rw [show decide ((some (V.ref rr)).getD V.non = V.non) = false from decide_eq_false (fun z => nomatch z)]
      refine iteF ⟨_, rfl, (by show 1 ≤ sizeLine; decide), fun tp htp => ?_⟩
      have x5 := Ex.new (o := .tup [V.str "drawer"]) htp
      have dq : Dp K (upd G' tp (.tup [V.str "drawer"])) (.ref tp) (.tuple [.str "drawer"]) := .tup (SqT.of upd_same) (.cons (.str _) .nil)
      have pz5 := PathX.ex x5 pz
      have e35 := x5.tup e3
      have tS5 := tS'.ex x5
      have dh : Dp K (upd G' tp (.tup [V.str "drawer"])) (.ref rr) hth.d := by
        cases hth with
        | dr => exact .tup e35 (.cons (.str _) .nil)
        | fl n z => exact .tup e35 (.cons (.str _) (.cons (.int _) (.cons (.str _) .nil)))
      generalize upd G' tp (.tup [V.str "drawer"]) = G5 at x5 dq pz5 e35 tS5 dh ⊢
      have shh : SeqAt.shaped hth.d = true := by
        obtain ⟨y, hy, _, ey⟩ := valE_mem vE
        rw [← ey]
        exact things_shaped tre y hy
      refine ⟨hth.d, _, dh, dq, shh, by decide +kernel, _, rfl, ?_⟩
      rw [Th.eqv_dr]
      clear dq dh htp shh
      cases hth with
      | dr =>
        rw [decide_eq_true rfl]
        refine iteT ?_
        have gg : treeB (entsT t) = true := by rw [et]; exact tre
        have hgp : ∀ e ∈ t, goodPath e.1 = true := fun e he => (treeB_parts gg).2.1 (e.1, e.2.d) (List.mem_map.mpr ⟨e, he, rfl⟩)
        have hd5 : Rd G5 dT (.dT kvs) := x5.rd hd (fun ps z => by cases z)
        have hkeys : kvs.map (·.1) = (t.map (·.1)).map fun p => p.map (Sum.inr : Str → L2.Key) := row.keys
        have hkl : kvs.length = t.length := by
          have := congrArg List.length hkeys
          rwa [List.length_map, List.length_map, List.length_map] at this
        refine lock_go hd5 fun H3 od R lk lt lf ld hR => ⟨_, rfl, dT, od, rfl, .inr ⟨kvs, ld, fun D hD => ?_⟩⟩
        have hDd : D ≠ dT := fun z => by
          rw [z, ld] at hD
          cases hD
        have px3 : PathX H3 q p := lk q _ pz5 fun z => by
          have h5 : G5 q = some (.tup (p.map V.str)) := pz5
          rw [z] at h5
          rcases hd5 with h' | ⟨o, h'⟩
          · rw [h5] at h'; cases h'
          · rw [h5] at h'; cases h'
        refine lc_it walk_keysT (fun j G => Ex H3 G ∧ ∃ ys : List Str, G D = some (.lst (ys.map V.str)) ∧ ys.length ≤ j ∧ ys = (((t.take j).map (·.1)).filter fun z => ownB z p).map fun z => z.getD p.length "")
          ⟨Ex.new hD, [], upd_same, Nat.le_refl _, by rw [List.take_zero]; rfl⟩ (fun j G _ h => h.1.keep _ _ ld (fun ps z => by cases z)) ?_ ?_
        · rintro j x G6 G6' hj ⟨x6, ys, hys, hlen, hye⟩ ⟨rfl, kk, v, q2, hk, rfl, hq⟩
          obtain ⟨e, he, ekk⟩ : ∃ e, t[j]? = some e ∧ kk = e.1.map Sum.inr := by
            have h1 : (kvs.map (·.1))[j]? = some kk := by rw [List.getElem?_map, hk]; rfl
            rw [hkeys, List.getElem?_map, List.getElem?_map] at h1
            obtain ⟨y, hy, e⟩ := Option.map_eq_some_iff.mp h1
            obtain ⟨e', he', rfl⟩ := Option.map_eq_some_iff.mp hy
            exact ⟨e', he', e.symm⟩
          subst ekk
          rw [LS.kV_strs] at hq
          have pq : PathX G6' q2 e.1 := hq
          have pp := PathX.ex x6 px3
          have gq := hgp e (List.mem_of_getElem? he)
          have etake : ((t.take (j + 1)).map (·.1)) = ((t.take j).map (·.1)) ++ [e.1] := by rw [List.take_add_one, he, List.map_append]; rfl
          have no : ownB e.1 p = false → (((t.take (j + 1)).map (·.1)).filter fun z => ownB z p).map (fun z => z.getD p.length "") = ys := fun hb => by
            rw [etake, List.filter_append, List.filter_cons_of_neg (by rw [hb]; decide), List.filter_nil, List.append_nil]
            exact hye.symm
          have yes : ownB e.1 p = true → (((t.take (j + 1)).map (·.1)).filter fun z => ownB z p).map (fun z => z.getD p.length "") = ys ++ [e.1.getD p.length ""] := fun hb => by
            rw [etake, List.filter_append, List.filter_cons_of_pos (p := fun z => ownB z p) hb, List.filter_nil, List.map_append, hye]
            rfl
          refine ⟨rfl, _, rfl, q2, e.1.map V.str, rfl, .inr (pq.at (K := K)), _, rfl, q, p.map V.str, rfl, .inr (pp.at (K := K)), _, _, rfl, rfl, rfl, _, rfl, ?_⟩
          have hdec : decide (V.int (((e.1.map V.str).length : Nat) : Int) = V.int ((((p.map V.str).length : Nat) : Int) + 1)) = decide (e.1.length = p.length + 1) := by
            rw [List.length_map, List.length_map]
            exact decide_eq_decide.mpr ⟨fun h => by injection h with h; omega, fun h => congrArg V.int (by omega)⟩
          rw [hdec]
          by_cases hl : e.1.length = p.length + 1
          · rw [decide_eq_true hl]
            refine iteT ⟨_, rfl, _, rfl, q, p.map V.str, rfl, .inr (pp.at (K := K)), _, rfl, ?_⟩
            rw [List.length_map]
            refine slice_to p.length (pq.at (K := K)) fun G7 r x7 pr => ?_
            refine ⟨_, rfl, pathD (e.1.take p.length), pathD p, pr.dp, ((PathX.ex x7 pp).at (K := K)).dp, shaped_path (goodPath_ok (goodPath_take gq _)), shaped_path (goodPath_ok gz), _, rfl, ?_⟩
            rw [eqv_path]
            have hys7 := x7.keep _ _ hys (fun ps z => by cases z)
            by_cases ht : e.1.take p.length = p
            · rw [decide_eq_true ht]
              have hb : ownB e.1 p = true := by unfold ownB; rw [decide_eq_true hl, decide_eq_true ht]; rfl
              refine iteT ⟨_, rfl, _, rfl, q, p.map V.str, rfl, .inr ((PathX.ex x7 pp).at (K := K)), q2, e.1.map V.str, _, .str (e.1.getD p.length ""), rfl, rfl, (PathX.ex x7 pq).at (K := K), atI_nat ?_, ys.map V.str, hys7, ?_, (x6.trans x7).put hD, ys ++ [e.1.getD p.length ""], ?_, by rw [List.length_append, List.length_singleton]; omega, (yes hb).symm⟩
              · rw [List.length_map, List.getElem?_map, List.getD_eq_getElem?_getD, List.getElem?_eq_getElem (show p.length < e.1.length by omega)]
                rfl
              · have hj : j < kvs.length := hj
                have := fine.2
                rw [List.length_map, sizeLine_eq]
                omega
              · rw [upd_same, List.map_append]
                rfl
            · rw [decide_eq_false ht]
              have hb : ownB e.1 p = false := by unfold ownB; rw [decide_eq_false ht, Bool.and_false]
              exact iteF ⟨x6.trans x7, ys, hys7, by omega, (no hb).symm⟩
          · rw [decide_eq_false hl]
            have hb : ownB e.1 p = false := by unfold ownB; rw [decide_eq_false hl, Bool.false_and]
            exact iteF (iteF ⟨x6, ys, hys, by omega, (no hb).symm⟩)
        · rintro G6 ⟨x6, ys, hys, hlen, hye⟩
          have hye : ys = namesIn es p := by
            rw [hye, hkl, List.take_length, ← et, ← own_names]
            unfold entsT
            rw [List.map_map]
            rfl
          have hlt : t.length < 64 := by
            have h := h64
            rw [← et] at h
            unfold entsT at h
            rwa [List.length_map] at h
          refine hR (.ref D) G6 x6 fun H4 x4 kp => ?_
          have hD4 := kp D _ hys hDd
          refine ⟨D, ys, rfl, SqL.of hD4, by omega, fun us l2 perm srt hl2 => ?_⟩
          have x7 := Ex.new (o := .lst (us.map V.str)) hl2
          have l7 : (upd H4 l2 (.lst (us.map V.str))) l2 = some (.lst (us.map V.str)) := upd_same
          have x57 := (x5.trans x4).trans x7
          generalize upd H4 l2 (.lst (us.map V.str)) = G7 at l7 x57 ⊢
          refine ⟨(by show 2 ≤ sizeLine; decide), fun q1 h1 => ⟨_, rfl, (by show 2 ≤ sizeLine; decide), fun q3 h3 => ⟨(by show 4 ≤ sizeLine; decide), fun ld2 hld => ?_⟩⟩⟩
          have y1 := Ex.new (o := .tup [V.str "refused", V.int 10]) h1
          have r1' : RefAt K (upd G7 q1 (.tup [V.str "refused", V.int 10])) q1 10 := SqT.of upd_same
          generalize upd G7 q1 (.tup [V.str "refused", V.int 10]) = Ga at y1 r1' h3 hld ⊢
          have y3 := Ex.new (o := .tup [V.str "refused", V.int 10]) h3
          have r3' : RefAt K (upd Ga q3 (.tup [V.str "refused", V.int 10])) q3 10 := SqT.of upd_same
          generalize upd Ga q3 (.tup [V.str "refused", V.int 10]) = Gc at y3 r3' hld ⊢
          have y4 := Ex.new (o := .lst [V.str "drawer", .ref q1, .ref l2, .ref q3]) hld
          have dv : Dp K (upd Gc ld2 (.lst [V.str "drawer", .ref q1, .ref l2, .ref q3])) (.ref ld2) (.list (dueD es p us [])) := by
            rw [due_dr vE]
            exact .lst (SqL.of upd_same) (.cons (.str _) (.cons (r1'.ex (y3.trans y4)).dp (.cons (.lst (SqL.of (((y1.trans y3).trans y4).keep _ _ l7 (fun ps z => by cases z))) dp_strs) (.cons (r3'.ex y4).dp .nil))))
          refine done _ _ _ _ ⟨((x57.trans y1).trans y3).trans y4, us, [], ⟨fun _ => ⟨by rw [← hye]; exact perm, srt⟩, fun n z e => ?_⟩, dv⟩
          rw [vE] at e
          exact absurd (Option.some.inj e) drD_ne_file
      | fl n z =>
        rw [decide_eq_false (fun z => nomatch z)]
        have hnum : numAt t p = some n := by unfold numAt; rw [e2]
        refine iteF ⟨_, rfl, rr, _, 2, .str z, rfl, rfl, e35, rfl, (by show 2 ≤ sizeLine; decide), fun q1 h1 => ?_⟩
        have x6 := Ex.new (o := .tup [V.str "refused", V.int 9]) h1
        have r6 : RefAt K (upd G5 q1 (.tup [V.str "refused", V.int 9])) q1 9 := SqT.of upd_same
        generalize upd G5 q1 (.tup [V.str "refused", V.int 9]) = G6 at x6 r6 ⊢
        refine ⟨_, rfl, _, rfl, dT, q, t, p, n, rfl, tS5.ex x6, fine, PathX.ex x6 pz5, hnum, fun G7 lg x7 ⟨gs, egs, pgs⟩ => ⟨(by show 4 ≤ sizeLine; decide), fun ld hld => ?_⟩⟩
        have dgs : DpAll K G7 (gs.map V.ref) ((groupOf t n).map pathD) := dp_group pgs
        have x8 := Ex.new (o := .lst [V.str "file", .str z, .ref q1, .ref lg]) hld
        have dv : Dp K (upd G7 ld (.lst [V.str "file", .str z, .ref q1, .ref lg])) (.ref ld) (.list (dueD es p [] (groupOf t n))) := by
          rw [due_file (n := n) (z := z) vE]
          exact .lst (SqL.of upd_same) (.cons (.str _) (.cons (.str _) (.cons (r6.ex (x7.trans x8)).dp (.cons (Dp_ex x8 (.lst (SqL.of egs) dgs)) .nil))))
        have xx := ((x5.trans x6).trans x7).trans x8
        generalize upd G7 ld (.lst [V.str "file", .str z, .ref q1, .ref lg]) = Gd at dv xx ⊢
        obtain ⟨vd, evd⟩ : ∃ vd, vd = V.ref ld := ⟨_, rfl⟩
        rw [← evd] at dv ⊢
        refine done _ vd v6 Gd ⟨xx, [], _, ⟨fun e => (by rw [vE] at e; exact absurd (Option.some.inj e).symm drD_ne_file), fun n' z' e => ?_⟩, dv⟩
        rw [vE] at e
        obtain ⟨e, _⟩ := fileD_inj (show fileD n z = fileD n' z' from Option.some.inj e)
        rw [← e, ← et]
        exact group_tied nd n
    clear isd vE0 row hd kvs
    rintro v4' vd o6 G2 ⟨x2, ys, gs, O, dv⟩
    have g2 := g'.ex x2
    have TB2 := TB'.ex x2
    have pz2 := PathX.ex x2 pz
    have xg2 := xg.trans x2
    have sh := shaped_due tre O
    refine ⟨_, rfl, by decide, by decide, fun D hD => ?_⟩
    refine lc_range (lo := 0) (n := 4) (fun i G3 => Ex G2 G3 ∧ ∃ vs : List V, G3 D = some (.lst vs) ∧ vs.length = i ∧ ∀ us, DpAll K (upd G3 D (.lst us)) vs ((dueD es p ys gs).take i)) ⟨Ex.new hD, [], upd_same, rfl, fun _ => .nil⟩ ?_ ?_
    · rintro i G3 hi ⟨x3, vs, hl, hn, hp⟩
      refine ⟨rfl, ?_⟩
      unfold tYes
      refine iteT ⟨_, rfl, _, rfl, _, rfl, h, d, es, i, .ref q, (by rw [Int.zero_add]; rfl), hi, g2.ex x3, TB2.ex x3, h64, .inr ⟨q, p, rfl, PathX.ex x3 pz2, gz, view_due tre hi O fun G4 v D4 hD4 x4 dv4 => ?_⟩⟩
      have hl4 := x4.keep _ _ hl (fun ps z => by cases z)
      refine ⟨vs, hl4, by rw [hn]; exact Nat.lt_trans hi (by decide), (x3.trans x4).put hD, vs ++ [v], upd_same, by rw [List.length_append, hn]; rfl, fun us => ?_⟩
      rw [List.take_add_one, hD4]
      have eu : upd (upd G4 D (.lst (vs ++ [v]))) D (.lst us) = upd G4 D (.lst us) := by
        funext b
        by_cases hb : b = D
        · rw [hb, upd_same, upd_same]
        · rw [upd_ne hb, upd_ne hb, upd_ne hb]
      rw [eu]
      exact dpAll_app (dv4 D vs us hl4 (by rw [hl]; exact fun z => nomatch z)) (dpAll_exx (Ex.both x4) (hp us))
    · rintro G3 ⟨x3, vs, hl, hn, hp⟩
      have e4 : (dueD es p ys gs).length = 4 := by
        unfold dueD
        (repeat' split) <;> rfl
      have hp := hp vs
      rw [List.take_of_length_le (by omega), show upd G3 D (.lst vs) = G3 by
        funext b
        by_cases hb : b = D
        · rw [hb, upd_same, hl]
        · rw [upd_ne hb]] at hp
      refine ⟨_, rfl, _, _, .lst (SqL.of hl) hp, Dp_ex x3 dv, sh, sh, _, rfl, ?_⟩
      rw [eqv_same _ sh]
      exact iteF ⟨_, _, _, _, rfl, xg2.trans x3⟩
end
/-! ### the law's own plain tree -/
theorem valT_map (g : Th → Th) (t : Tr) (p : List Str) : valT (t.map fun e => (e.1, g e.2)) p = (valT t p).map g := by
  unfold valT
  rw [List.find?_map, Option.map_map, Option.map_map]
  rfl
theorem valT_lplain (t : Tr) (p : List Str) : valT (lplain t) p = (valT t p).map (lplainTh t) := valT_map _ t p
def seenK (num : List Str → Option Int) : List Int → List (List Str) → List Int
  | s, [] => s
  | s, p :: r => match num p with
    | some n => seenK num (if n ∈ s then s else s ++ [n]) r
    | none => seenK num s r
theorem seenK_firsts {t : Tr} (nd : (keysUp t).Nodup) : ∀ (r l : List (List Str)) (s : List Int), keysUp t = l ++ r → (∀ n, n ∈ s ↔ ∃ q ∈ l, numAt t q = some n) →
    Paired (fun p n => numAt t p = some n ∧ fstOf t n = p) (l.filter fun p => match numAt t p with
      | some n => decide (fstOf t n = p)
      | none => false) s → Paired (fun p n => numAt t p = some n ∧ fstOf t n = p) (firstsOf t) (seenK (numAt t) s r)
  | [], l, s, e, _, h => by
    rw [List.append_nil] at e
    unfold firstsOf
    rw [e]
    exact h
  | p :: r, l, s, e, hs, h => by
    have e2 : keysUp t = (l ++ [p]) ++ r := by rw [e, List.append_assoc]; rfl
    have step : ∀ s', (∀ n, n ∈ s' ↔ ∃ q ∈ l ++ [p], numAt t q = some n) → Paired (fun p n => numAt t p = some n ∧ fstOf t n = p) ((l ++ [p]).filter fun p => match numAt t p with
      | some n => decide (fstOf t n = p)
      | none => false) s' → Paired (fun p n => numAt t p = some n ∧ fstOf t n = p) (firstsOf t) (seenK (numAt t) s' r) := fun s' => seenK_firsts nd r (l ++ [p]) s' e2
    unfold seenK
    cases hn : numAt t p with
    | none =>
      refine step s (fun n => ?_) ?_
      · rw [hs n]
        constructor
        · rintro ⟨q, hq, e3⟩
          exact ⟨q, List.mem_append_left _ hq, e3⟩
        · rintro ⟨q, hq, e3⟩
          rcases List.mem_append.mp hq with hq | hq
          · exact ⟨q, hq, e3⟩
          · rw [List.mem_singleton.mp hq, hn] at e3
            cases e3
      · rw [List.filter_append, List.filter_cons_of_neg (by rw [hn]; exact fun z => by cases z), List.filter_nil, List.append_nil]
        exact h
    | some n =>
      have hf : fstOf t n = p ↔ n ∉ s := by
        have hg : groupOf t n = (l.filter fun q => decide (numAt t q = some n)) ++ p :: r.filter fun q => decide (numAt t q = some n) := by
          unfold groupOf
          rw [e, List.filter_append, List.filter_cons_of_pos (by exact decide_eq_true hn)]
        unfold fstOf
        rw [hg]
        cases hl : l.filter fun q => decide (numAt t q = some n) with
        | nil =>
          refine ⟨fun _ hm => ?_, fun _ => rfl⟩
          obtain ⟨q, hq, e3⟩ := (hs n).mp hm
          have : q ∈ l.filter fun q => decide (numAt t q = some n) := List.mem_filter.mpr ⟨hq, decide_eq_true e3⟩
          rw [hl] at this
          cases this
        | cons x xs =>
          have hx : x ∈ l.filter fun q => decide (numAt t q = some n) := by rw [hl]; exact List.mem_cons_self ..
          obtain ⟨hx1, hx2⟩ := List.mem_filter.mp hx
          refine ⟨fun z => ?_, fun hno => absurd ((hs n).mpr ⟨x, hx1, of_decide_eq_true hx2⟩) hno⟩
          exfalso
          have z : x = p := z
          rw [e] at nd
          exact (List.nodup_append.mp nd).2.2 x hx1 p (List.mem_cons_self ..) z
      show Paired _ _ (seenK (numAt t) (if n ∈ s then s else s ++ [n]) r)
      by_cases hm : n ∈ s
      · rw [if_pos hm]
        refine step s (fun k => ?_) ?_
        · rw [hs k]
          constructor
          · rintro ⟨q, hq, e3⟩
            exact ⟨q, List.mem_append_left _ hq, e3⟩
          · rintro ⟨q, hq, e3⟩
            rcases List.mem_append.mp hq with hq | hq
            · exact ⟨q, hq, e3⟩
            · rw [List.mem_singleton.mp hq, hn] at e3
              exact (hs k).mp (Option.some.inj e3 ▸ hm)
        · rw [List.filter_append, List.filter_cons_of_neg (by rw [hn]; exact fun z => hf.mp (of_decide_eq_true z) hm), List.filter_nil, List.append_nil]
          exact h
      · rw [if_neg hm]
        refine step (s ++ [n]) (fun k => ?_) ?_
        · rw [List.mem_append, List.mem_singleton, hs k]
          constructor
          · rintro (⟨q, hq, e3⟩ | rfl)
            · exact ⟨q, List.mem_append_left _ hq, e3⟩
            · exact ⟨p, List.mem_append_right _ (List.mem_singleton.mpr rfl), hn⟩
          · rintro ⟨q, hq, e3⟩
            rcases List.mem_append.mp hq with hq | hq
            · exact Or.inl ⟨q, hq, e3⟩
            · rw [List.mem_singleton.mp hq, hn] at e3
              exact Or.inr (Option.some.inj e3).symm
        · rw [List.filter_append, List.filter_cons_of_pos (by rw [hn]; exact decide_eq_true (hf.mpr hm)), List.filter_nil]
          exact Paired.snoc h ⟨hn, hf.mpr hm⟩

theorem keysUpE_T (t : Tr) : keysUpE (entsT t) = keysUp t := by
  unfold keysUpE keysUp entsT
  rw [List.map_map]
  rfl
theorem seen_T (t : Tr) : ∀ (ks : List (List Str)) (st : List Int × Ents), ((ks.map fun p => (p, (valE (entsT t) p).getD .none)).foldl renStep st).1 = seenK (numAt t) st.1 ks
  | [], _ => rfl
  | p :: ks, st => by
    rw [List.map_cons, List.foldl_cons, seen_T t ks]
    have hr : seenK (numAt t) st.1 (p :: ks) = match numAt t p with
        | some n => seenK (numAt t) (if n ∈ st.1 then st.1 else st.1 ++ [n]) ks
        | none => seenK (numAt t) st.1 ks := rfl
    rw [hr]
    show seenK (numAt t) (seenD st.1 ((valE (entsT t) p).getD .none)) ks = _
    rw [valT_ents]
    unfold numAt
    cases hv : valT t p with
    | none => rfl
    | some x =>
      cases x with
      | dr => rfl
      | fl n z =>
        show seenK (numAt t) (seenD st.1 (.tuple [.str "file", .int n, .str z])) ks = _
        rw [renD_file.2]
        rfl
theorem idx_two {t : Tr} {n : Int} (hn : numAt t (fstOf t n) = some n) : ∀ {l : List (List Str)} {s : List Int}, Paired (fun p n => numAt t p = some n ∧ fstOf t n = p) l s → l.idxOf (fstOf t n) = s.idxOf n
  | _, _, .nil => rfl
  | p :: l, k :: s, .cons a r => by
    have ih := idx_two hn r
    rw [List.idxOf_cons, List.idxOf_cons, ih]
    by_cases c : k = n
    · rw [show (k == n) = true from beq_iff_eq.mpr c, show (p == fstOf t n) = true from beq_iff_eq.mpr (by rw [← a.2, c])]
    · rw [show (k == n) = false from beq_eq_false_iff_ne.mpr c, show (p == fstOf t n) = false from beq_eq_false_iff_ne.mpr fun z => c (by
        have := a.1
        rw [z, hn] at this
        exact (Option.some.inj this).symm)]
theorem plain_law {t : Tr} (nd : (t.map (·.1)).Nodup) (p : List Str) : valE (plainE (entsT t)) p = valE (entsT (lplain t)) p := by
  have ndk : (keysUp t).Nodup := (keysUp_perm t).nodup_iff.mpr nd
  have hpair := seenK_firsts ndk (keysUp t) [] [] rfl (fun n => ⟨fun h => (nomatch h), fun ⟨q, hq, _⟩ => (nomatch hq)⟩) .nil
  have hth : ∀ e ∈ upE (entsT t), thingD e.2 := by
    intro e he
    obtain ⟨q, hq, rfl⟩ := List.mem_map.mp he
    rw [keysUpE_T] at hq
    obtain ⟨x, hx, rfl⟩ := List.mem_map.mp ((keysUp_perm t).mem_iff.mp hq)
    show thingD ((valE (entsT t) x.1).getD .none)
    rw [valT_ents, valT_nd nd hx]
    cases hx2 : x.2 with
    | dr => exact Or.inl rfl
    | fl n z => exact Or.inr ⟨n, z, rfl⟩
  have hs : (renOf (upE (entsT t))).1 = seenK (numAt t) [] (keysUp t) := by
    unfold renOf upE
    rw [keysUpE_T, seen_T]
  have hpl : plainE (entsT t) = (keysUp t).map fun q => (q, renD (seenK (numAt t) [] (keysUp t)) ((valE (entsT t) q).getD .none)) := by
    have h1 := fold_final (upE (entsT t)) ([], []) hth
    have h2 : plainE (entsT t) = (upE (entsT t)).map fun e => (e.1, renD (renOf (upE (entsT t))).1 e.2) := by
      unfold plainE
      exact h1
    rw [h2, hs]
    unfold upE
    rw [List.map_map, keysUpE_T]
    rfl
  rw [hpl, valE_tab, valT_ents, valT_ents, valT_lplain]
  cases hv : valT t p with
  | none =>
    rw [if_neg]
    · rfl
    · intro hm
      obtain ⟨x, hx, rfl⟩ := List.mem_map.mp ((keysUp_perm t).mem_iff.mp hm)
      rw [valT_nd nd hx] at hv
      cases hv
  | some x =>
    have hm : p ∈ keysUp t := (keysUp_perm t).mem_iff.mpr (List.mem_map.mpr ⟨(p, x), valT_mem hv, rfl⟩)
    rw [if_pos hm]
    cases x with
    | dr => exact congrArg some (renD_oth (w := "drawer") (ds := []) (by decide +kernel)).1
    | fl n z =>
      have hn : numAt t p = some n := by
        unfold numAt
        rw [hv]
      have hnf : numAt t (fstOf t n) = some n := of_decide_eq_true (List.mem_filter.mp (fst_mem hn)).2
      show some (renD _ (.tuple [.str "file", .int n, .str z])) = some (.tuple [.str "file", .int (((firstsOf t).idxOf (fstOf t n) : Nat) : Int), .str z])
      rw [renD_file.1, idx_two hnf hpair]

theorem rowT_new {H : Hp} {km : List (List L2.Key × V)} {u : Tr} {p : List Str} (r : RowT H km u) (h : p ∉ u.map (·.1)) : valV km (p.map Sum.inr) = none := by
  rcases r.val (p := p) with ⟨e1, _⟩ | ⟨_, x, _, e2, _⟩
  · exact e1
  · exact absurd (List.mem_map.mpr ⟨_, valT_mem e2, rfl⟩) h
/-! ### k09 -/
theorem doO_len {es es' : Ents} {nm : Str} {op oq : Option (List Str)} {ox : Option Str} (t : treeB es = true) (hoq : ∀ p, oq = some p → goodPath p = true) (h : doO es nm op oq ox = .ok es') : es'.length ≤ es.length + 1 := by
  have sn : ∀ (p : List Str) (D : PyData), (plainE (es ++ [(p, D)])).length ≤ es.length + 1 := fun p D => by
    rw [plainE_len, List.length_append]
    exact Nat.le_refl _
  have gv : ∀ n x, (giveE es n x).length ≤ es.length + 1 := fun n x => by
    unfold giveE
    rw [List.length_map]
    omega
  have aw : ∀ p, (plainE (awayE es p)).length ≤ es.length + 1 := fun p => by
    rw [plainE_len]
    have : (awayE es p).length ≤ es.length := List.length_filter_le _ _
    omega
  unfold doO at h
  by_cases e1 : nm = "make"
  · rw [if_pos e1] at h
    obtain ⟨p, rfl, _, _, _, _, rfl⟩ := makeO_ok h
    exact sn _ _
  rw [if_neg e1] at h
  by_cases e2 : nm = "write"
  · rw [if_pos e2] at h
    obtain ⟨p, x, rfl, rfl, _, _, ⟨d, _, _, rfl⟩ | ⟨_, _, rfl⟩⟩ := writeO_ok h
    · exact gv _ _
    · exact sn _ _
  rw [if_neg e2] at h
  by_cases e3 : nm = "add"
  · rw [if_pos e3] at h
    obtain ⟨p, x, d, rfl, rfl, _, _, _, rfl⟩ := addO_ok h
    exact gv _ _
  rw [if_neg e3] at h
  by_cases e4 : nm = "remove"
  · rw [if_pos e4] at h
    obtain ⟨p, rfl, _, _, _, rfl⟩ := removeO_ok h
    exact aw _
  rw [if_neg e4] at h
  by_cases e5 : nm = "clear"
  · rw [if_pos e5] at h
    obtain ⟨p, rfl, _, _, rfl⟩ := clearO_ok h
    exact aw _
  rw [if_neg e5] at h
  by_cases e6 : nm = "move"
  · rw [if_pos e6] at h
    obtain ⟨old, new, rfl, rfl, M, rfl⟩ := moveO_ok t hoq h
    rw [plainE_len]
    unfold movedE
    rw [List.length_map]
    omega
  rw [if_neg e6] at h
  obtain ⟨old, new, d, rfl, rfl, _, _, _, _, _, rfl⟩ := tieO_ok h
  exact sn _ _
theorem next_len {es : Ents} {d : Dd} (t : treeB es = true) (hd : d.ok) : (nextE es (d.o es)).length ≤ es.length + 1 := by
  cases ho : d.o es with
  | ref i => exact Nat.le_succ _
  | ok es' => exact doO_len t (fun p hp => by cases hp; exact hd.2.1) ho
section
variable {P : Program} {w : World} {K : PySem.W.Frag} {mg : Str → Option Value} {base : Heap}
/-- where the law stands -/
structure K09 (K : PySem.W.Frag) (C P1 P2 P3 P4 P5 P9 PA sc tw hh : Addr) (ns : List Int) (d : Addr) (es : Ents) (G : Hp) : Prop where
  lw : Lw K G sc tw ns
  tb : TabsW G P1 P2 P3 P4 P5 P9 PA
  g : HsAt K C G hh d es
  pl : plainE es = es
theorem K09.ev {K : PySem.W.Frag} {C P1 P2 P3 P4 P5 P9 PA sc tw hh d : Addr} {ns : List Int} {es : Ents} {G G' : Hp} (s : K09 K C P1 P2 P3 P4 P5 P9 PA sc tw hh ns d es G) (v : Ev tw G G') : K09 K C P1 P2 P3 P4 P5 P9 PA sc tw hh ns d es G' := ⟨s.lw.ev v, s.tb.ev v, s.g.ev s.lw.town v, s.pl⟩
theorem K09.ex {K : PySem.W.Frag} {C P1 P2 P3 P4 P5 P9 PA sc tw hh d : Addr} {ns : List Int} {es : Ents} {G G' : Hp} (s : K09 K C P1 P2 P3 P4 P5 P9 PA sc tw hh ns d es G) (x : Ex G G') : K09 K C P1 P2 P3 P4 P5 P9 PA sc tw hh ns d es G' := s.ev (x.ev s.lw.town)
theorem K09.keys {K : PySem.W.Frag} {C P1 P2 P3 P4 P5 P9 PA sc tw hh d : Addr} {ns : List Int} {es : Ents} {G : Hp} (s : K09 K C P1 P2 P3 P4 P5 P9 PA sc tw hh ns d es G) : (es.map (·.1)).length ≤ 100 ∧ es.map (·.1) ≠ [] ∧ (∀ p ∈ es.map (·.1), goodPath p = true) := by
  have h80 := s.g.len
  obtain ⟨_, h2, _, h4, _⟩ := treeB_parts s.g.tree
  refine ⟨by rw [List.length_map]; omega, fun e => ?_, fun p hp => ?_⟩
  · have e : es = [] := List.map_eq_nil_iff.mp e
    rw [e] at h4
    exact absurd h4 (by decide)
  · obtain ⟨e, he, rfl⟩ := List.mem_map.mp hp
    exact h2 e he
abbrev lawN : List Str := ["_law_script", "_law_town", "_law_house", "_law_k", "_law_tree_here"]
theorem scLaw : FnScope lawN ["_law_script"] (defScope sLaw) := ⟨rfl, rfl, rfl, by decide +kernel, rfl, by decide +kernel, by decide +kernel⟩
theorem ok_law {f fT fI fC fDo fR fP fV fL C P1 P2 P3 P4 P5 P9 PA CT : Addr} {fd fdT fdI fdC fdDo fdR fdP fdV fdL : FuncData} (F : Fun K "law" "law" sLaw f fd) (T : HT K mg C) (MK : Mk K C fI) (M : Mg mg) (mS : mg "sorted" = none)
    (GT : FnOk P w K mg base CX0 4 fT fdT ["_law_script", "_law_town", "_law_many"] (spTree K)) (mT : mg "_law_tree" = some (.ref fT)) (kT : PySem.W.keepIn K (.ref fT) = true) (bT : Binds K fdT ["_law_script", "_law_town", "_law_many"] [])
    (GI : FnOk P w K mg base (L2.CX P w) 12 fI fdI ["self", "tree"] (spInit K C P1 P2 P3 P4 P5 CT)) (bI : Binds K fdI ["self", "tree"] [])
    (GC : FnOk P w K mg base CX0 5 fC fdC ["_law_script", "_law_town", "_law_tree_here"] (spChosen K)) (mC : mg "_law_chosen" = some (.ref fC)) (kC : PySem.W.keepIn K (.ref fC) = true) (bC : Binds K fdC ["_law_script", "_law_town", "_law_tree_here"] [])
    (GO : FnOk P w K mg base CX0 12 fDo fdDo ["_law_house", "_law_deed"] (spDo K C P1 P2 P3 P9 PA)) (mO : mg "_law_do" = some (.ref fDo)) (kO : PySem.W.keepIn K (.ref fDo) = true) (bO : Binds K fdDo ["_law_house", "_law_deed"] [])
    (mR : Meth K C "tree" fR) (GR : FnOk P w K mg base CX0 2 fR fdR ["self"] (spTreeM K C)) (bR : Binds K fdR ["self"] [])
    (GP : FnOk P w K mg base CX0 2 fP fdP ["_law_tree_here"] (spLPlain K)) (mP : mg "_law_plain" = some (.ref fP)) (kP : PySem.W.keepIn K (.ref fP) = true) (bP : Binds K fdP ["_law_tree_here"] [])
    (GV : FnOk P w K mg base CX0 14 fV fdV ["_law_house", "_law_tree_here", "_law_paths"] (spViewsRight K C P1 P2 P3 P4 P5)) (mV : mg "_law_views_right" = some (.ref fV)) (kV : PySem.W.keepIn K (.ref fV) = true) (bV : Binds K fdV ["_law_house", "_law_tree_here", "_law_paths"] [])
    (GL : FnOk P w K mg base CX0 4 fL fdL ["_law_script", "_law_town", "_law_tree_here"] (spLPath K)) (mL : mg "_law_path" = some (.ref fL)) (kL : PySem.W.keepIn K (.ref fL) = true) (bL : Binds K fdL ["_law_script", "_law_town", "_law_tree_here"] []) :
    FnOk P w K mg base CX0 15 f fd ["_law_script"] (spLawW K P1 P2 P3 P4 P5 P9 PA) := by
  refine F.ok scLaw (fun vs H Q E h => ?_) (fun cdv A outer s H vs Q E hr h => ?_)
  · obtain ⟨a, ns, rfl, _⟩ := h
    rfl
  · obtain ⟨sc, ns, rfl, hsq, h63, hT1, hT2, hT3, hT4, hT5, hT9, hTA, k⟩ := h
    have r13 := hr.mono (show 13 ≤ 14 by decide)
    have r12 := hr.mono (show 12 ≤ 14 by decide)
    have r5 := hr.mono (show 5 ≤ 14 by decide)
    have r4 := hr.mono (show 4 ≤ 14 by decide)
    have r2 := hr.mono (show 2 ≤ 14 by decide)
    have hu1 : (A.deeper (envOfC "law" (defScope sLaw) s.heap.objs.size f cdv)).units + 1 < cLine := by have := hr.units; omega
    have hu3 : (A.deeper (envOfC "law" (defScope sLaw) s.heap.objs.size f cdv)).units + 3 < cLine := by have := hr.units; omega
    have hu66 : (A.deeper (envOfC "law" (defScope sLaw) s.heap.objs.size f cdv)).units + 66 < cLine := by have := hr.un; omega
    refine ⟨_, pss_cons (ps_set (i := 1) scLaw.nd rfl (Or.inr rfl) (pe_lst (pa_cons pe_int (pa_cons pe_int pa_nil))))
      (pss_cons (ps_set (i := 2) scLaw.nd rfl (Or.inl rfl) (pe_make (E := E0) MK GI r13 (by rfl) T.gC bI .nil passL (pa_cons (pe_call (E := E0) GT r4 (by rfl) mT kT bT .nil pass0 (pa_cons (pv 0) (pa_cons (pv 1) (pa_cons pe_int pa_nil)))) pa_nil)))
      (pss_cons (ps_for PassesOwn.never rfl (pi_range1 (by rfl) M.range (pa_cons pe_int pa_nil)) (pg_name (i := 3) scLaw.nd rfl (Or.inl rfl))
        (pss_one (ps_expr (pe_call (E := E0) GO r12 (by rfl) mO kO bO .nil pass0 (pa_cons (pv 2) (pa_cons (pe_call (E := E0) GC r5 (by rfl) mC kC bC .nil pass0 (pa_cons (pv 0) (pa_cons (pv 1) (pa_cons (pe_meth0 (E := E0) (pv 2) T.cl mR GR r2 bR .nil pass0) pa_nil)))) pa_nil))))))
      (pss_cons (ps_set (i := 4) scLaw.nd rfl (Or.inr rfl) (pe_meth0 (E := E0) (pv 2) T.cl mR GR r2 bR .nil pass0))
      (pss_cons (ps_if (pt_cmpR (LD.op_neT hu66) (pe_call (E := E0) GP r2 (by rfl) mP kP bP .nil pass0 (pa_cons (pv 4) pa_nil)) (pv 4) (nomark _)) (pss_one (ps_ret pe_bl)) pss_nil)
      (pss_one (ps_ret (pe_call (E := E0) GV hr (by rfl) mV kV bV .nil pass0 (pa_cons (pv 2) (pa_cons (pv 4) (pa_cons
        (pe_op op_cat (pe_callB (LS.cr_sortD rfl hu3) (by rfl) mS (by decide +kernel) (pa_cons (pv 4) pa_nil))
          (pe_lc (own := [("_law_k", 3)]) (g := gName 3) (tt := tYes) rfl scLaw.nd (pi_range1 (by rfl) M.range (pa_cons pe_int pa_nil)) (blkOk_by (N := lawN) (sc := defScope sLaw) (by decide +kernel)) (fun _ _ _ _ _ => pg_name (i := 3) scLaw.nd rfl (Or.inl rfl)) (fun _ _ _ _ _ => pts_nil)
            (fun _ _ _ _ _ => pe_call (E := E0) GL r4 (by rfl) mL kL bL .nil pass0 (pa_cons (pv 0) (pa_cons (pv 1) (pa_cons (pv 4) pa_nil)))))) pa_nil)))))))))), ?_⟩
    refine ⟨(by show 2 ≤ sizeLine; decide), fun tw htw => ?_⟩
    have xa := Ex.new (o := .lst [.int 0, .int 0]) htw
    have L1 : Lw K (upd H tw (.lst [.int 0, .int 0])) sc tw ns := Lw.make hsq h63 htw
    have T1 : TabsW (upd H tw (.lst [.int 0, .int 0])) P1 P2 P3 P4 P5 P9 PA := ⟨⟨xa.tab _ hT1, xa.tab _ hT2, xa.tab _ hT3, xa.tab _ hT4, xa.tab _ hT5⟩, xa.tab _ hT9, xa.tab _ hTA⟩
    generalize upd H tw (.lst [.int 0, .int 0]) = H1 at L1 T1 ⊢
    clear xa hsq hT1 hT2 hT3 hT4 hT5 hT9 hTA htw
    refine ⟨_, rfl, _, rfl, sc, tw, ns, 7, rfl, L1, by decide, fun H2 dt kvs t v2 hn2 hdt row good ltr lenT => ?_⟩
    have L2 := L1.ev v2
    have T2 := T1.ev v2
    clear L1 T1 v2 hn2
    -- the house
    refine fun hh dx hhn hdn hne => ?_
    have xe1 := Ex.new (o := .own hh) hdn
    have xe := xe1.trans (Ex.new (o := .ins C dx []) (show upd H2 dx (.own hh) hh = none by rw [upd_ne (Ne.symm hne)]; exact hhn))
    have eob : (upd (upd H2 dx (.own hh)) hh (.ins C dx [])) hh = some (.ins C dx []) := upd_same
    generalize upd (upd H2 dx (.own hh)) hh (.ins C dx []) = Hx at xe eob ⊢
    have hdX := xe.keep _ _ hdt (fun ps z => by cases z)
    have rowX : RowT Hx kvs t := row.keep fun b xs e => xe.keep _ _ e (fun ps z => by cases z)
    have nd0 : ((entsT t).map (·.1)).Nodup := by
      have := good.nd
      unfold entsT
      rwa [List.map_map]
    refine ⟨hh, dx, .ref dt, rfl, eob, T2.t.ex xe, .inr (.inr ⟨dt, entsT t, rfl, ⟨⟨kvs, Or.inl hdX, rowX.row⟩, good_small good, good.tree, nd0⟩, fun H4 d fr hdn4 g4 => ⟨rfl, ?_⟩⟩)⟩
    have x4 : Ex H2 H4 := ⟨fun b o e n => fr.keep b o (fun z => by rw [z, hhn] at e; cases e) (fun z => by rw [z, hhn] at e; cases e) (xe.keep b o e n) n, fun b q => fr.tab b (xe.tab b q), fun b e => xe.free b (fr.free b e)⟩
    have S4 : K09 K C P1 P2 P3 P4 P5 P9 PA sc tw hh ns d (plainE (entsT t)) H4 := ⟨L2.ex x4, T2.ex x4, g4, plain_idem good.tree nd0⟩
    have len4 : (plainE (entsT t)).length ≤ 8 := by
      rw [plainE_len]
      unfold entsT
      rw [List.length_map]
      exact lenT
    generalize plainE (entsT t) = es at S4 len4
    clear x4 fr xe eob L2 T2 hdt row rowX hhn hdn hne xe1 hdn4 good ltr lenT nd0 g4 hdX
    -- four deeds
    refine ⟨4, rfl, (by decide), (by decide), for_it walk_range (fun i σ G => ∃ v3, σ = [some (.ref sc), some (.ref tw), some (.ref hh), v3, none] ∧ ∃ d es, K09 K C P1 P2 P3 P4 P5 P9 PA sc tw hh ns d es G ∧ es.length ≤ 8 + i)
      ⟨none, rfl, d, es, S4, len4⟩ (fun _ _ _ _ _ => trivial) ?_ ?_⟩
    · clear S4 len4
      rintro i x σ G G' hi ⟨v4, rfl, d, es, S, len⟩ ⟨rfl, rfl⟩
      obtain ⟨dx1, ob1⟩ := id S.g.ob
      refine ⟨_, rfl, _, rfl, _, rfl, _, rfl, hh, dx1, _, rfl, ob1, fl_no d (by decide +kernel), hh, d, es, rfl, S.g, fun G1 l kl x1 el hl rl => ?_⟩
      rw [S.pl] at rl
      have S1 := S.ex x1
      obtain ⟨hk1, hk2, hk3⟩ := S1.keys
      refine ⟨sc, tw, l, ns, kl, es.map (·.1), rfl, S1.lw, el, rl.keys, hk1, hk2, hk3, fun G2 a nm p q x v2 D gp gq tx _ lp lq => ?_⟩
      have S2 := S1.ev v2
      refine do_run (E := E0) S2.g S2.pl S2.tb.d D gp gq tx fun G3 v d3 fr3 _ g3 _ => ?_
      have dok : (Dd.mk nm p q x).ok := ⟨gp, gq, tx⟩
      have nl := next_len (d := ⟨nm, p, q, x⟩) S2.g.tree dok
      exact ⟨_, rfl, d3, _, ⟨Lw.fr S2.lw S2.g fr3, S2.tb.fr fr3, g3, next_pl (d := ⟨nm, p, q, x⟩) S2.g.tree S2.g.nd S2.pl dok⟩, Nat.le_trans nl (by omega)⟩
    clear S4 len4 d es
    rintro σ G ⟨v3, rfl, d, es, S, len⟩
    have len : es.length ≤ 12 := len
    -- the tree
    obtain ⟨dx1, ob1⟩ := id S.g.ob
    refine ⟨_, rfl, hh, dx1, _, rfl, ob1, fl_no d (by decide +kernel), hh, d, es, rfl, S.g, fun G1 l kl x1 el hl rl => ?_⟩
    rw [S.pl] at rl
    have S1 := S.ex x1
    obtain ⟨t2, et⟩ := ex_t S.g.thing
    clear x1 hl ob1 S
    have fine : Fine t2 := by
      have hn := S1.g.nd
      have hl2 := len
      rw [← et] at hn hl2
      unfold entsT at hn hl2
      rw [List.map_map] at hn
      rw [List.length_map] at hl2
      exact ⟨hn, by omega⟩
    have gpt : ∀ e ∈ t2, goodPath e.1 = true := fun e he => by
      have := (treeB_parts S1.g.tree).2.1
      rw [← et] at this
      exact this (e.1, e.2.d) (List.mem_map.mpr ⟨e, he, rfl⟩)
    have tS1 : TrS K G1 l t2 := ⟨kl, Or.inl el, RowS.of (by rw [et]; exact rl)⟩
    refine ⟨_, rfl, l, t2, rfl, tS1, fine, gpt, fun G2 lq kq x2 hlq eq rq => ?_⟩
    -- it is plain
    have S2 := S1.ex x2
    have el2 := x2.keep _ _ el (fun ps z => by cases z)
    have rl2 := rl.ex x2
    have shp := things_shaped S2.g.tree
    have ndq : ((entsT (lplain t2)).map (·.1)).Nodup := by
      have := fine.1
      unfold entsT lplain
      rw [List.map_map, List.map_map]
      exact this
    have same0 : ∀ p, valE (entsT (lplain t2)) p = valE es p := fun p => by
      rw [← plain_law fine.1, et, S1.pl]
    have shq : ∀ e ∈ entsT (lplain t2), SeqAt.shaped e.2 = true := fun e he => by
      have h1 := valE_nd ndq he
      rw [same0] at h1
      obtain ⟨y, hy, _, ey⟩ := valE_mem h1
      rw [← ey]
      exact shp y hy
    have same : LD.sameE (entsT (lplain t2)) es = true := sameE_of ndq S2.g.nd same0 shq
    refine ⟨_, rfl, _, es, ⟨lq, kq, rfl, Or.inl eq, rq.row, shq⟩, ⟨l, kl, rfl, Or.inl el2, rl2, shp⟩, _, rfl, ?_⟩
    rw [same]
    have tS2 := tS1.ex x2
    clear x2 hlq eq rq same shq same0 ndq shp S1 tS1 rl el
    -- the paths
    refine iteF ⟨_, rfl, _, rfl, _, rfl, l, kl, es.map (·.1), rfl, Or.inl el2, rl2.keys, fun ls ys py hr2 hpx hls => ⟨4, rfl, (by decide), (by decide), fun E1 hE1 => ?_⟩⟩
    have xs := Ex.new (o := .lst (LS.addrs ys)) hls
    have els : (upd G2 ls (.lst (LS.addrs ys))) ls = some (.lst (LS.addrs ys)) := upd_same
    have S3 := S2.ex xs
    have el3 := xs.keep _ _ el2 (fun ps z => by cases z)
    have rl3 := rl2.ex xs
    have tS3 := tS2.ex xs
    have gys : ∀ z ∈ ys, PathX (upd G2 ls (.lst (LS.addrs ys))) z.1 z.2 ∧ goodPath z.2 = true := fun z hz => by
      refine ⟨PathX.ex xs (hpx z hz), ?_⟩
      have h1 : z.2 ∈ es.map (·.1) := py.mem_iff.mp (List.mem_map.mpr ⟨z, hz, rfl⟩)
      exact S2.keys.2.2 _ h1
    have hlt : ls ≠ tw := S2.lw.town.ne hls
    have hyl : ys.length = es.length := by
      have := py.length_eq
      rwa [List.length_map, List.length_map] at this
    generalize upd G2 ls (.lst (LS.addrs ys)) = Gs at els S3 el3 rl3 tS3 gys hE1 ⊢
    clear xs S2 el2 rl2 tS2 hpx hls py hr2
    have hltw : l ≠ tw := fun z => by
      obtain ⟨_, _, _, et2⟩ := S3.lw.town
      rw [z, et2] at el3; cases el3
    have hE1t : E1 ≠ tw := S3.lw.town.ne hE1
    refine lc_it walk_range (fun i G => Ev tw Gs G ∧ ∃ ws : LS.Zs, ws.length = i ∧ G E1 = some (.lst (LS.addrs ws)) ∧ ∀ z ∈ ws, PathX G z.1 z.2 ∧ goodPath z.2 = true)
      ⟨(Ex.new hE1).ev S3.lw.town, [], rfl, upd_same, fun z hz => nomatch hz⟩ (fun _ _ _ _ => trivial) ?_ ?_
    · rintro i y G G' hi ⟨vg, ws, hwl, hws, hwp⟩ ⟨rfl, rfl⟩
      have hi4 : i < 4 := hi
      have S7 := S3.ev vg
      have el7 := vg.keep _ _ hltw el3 (fun ps z => by cases z)
      have rl7 := row_tup (fun b xs q => sqT_ev S3.lw.town vg q) rl3 (tree_thing S3.g.tree)
      obtain ⟨hk1, hk2, hk3⟩ := S7.keys
      refine ⟨rfl, ?_⟩
      unfold tYes
      refine iteT ⟨_, rfl, _, rfl, _, rfl, sc, tw, l, ns, kl, es.map (·.1), rfl, S7.lw, el7, rl7.keys, hk1, hk2, hk3, fun G8 r p v8 pr gp _ => ?_⟩
      have hws8 := v8.keep _ _ hE1t hws (fun ps z => by cases z)
      refine ⟨LS.addrs ws, hws8, ?_, Ev.put S3.lw.town (vg.trans v8) hE1, ws ++ [(r, p)], by rw [List.length_append, hwl]; rfl, ?_, fun z hz => ?_⟩
      · unfold LS.addrs
        rw [List.length_map, hwl, sizeLine_eq]
        omega
      · rw [upd_same]
        unfold LS.addrs
        rw [List.map_append]
        rfl
      · have stay : ∀ {u : Addr} {q : List Str}, PathX G8 u q → PathX (upd G8 E1 (.lst (LS.addrs ws ++ [V.ref r]))) u q := fun {u q} h => by
          show upd _ _ _ _ = _
          rw [upd_ne (ne_of h hws8 (fun z => by cases z))]
          exact h
        rcases List.mem_append.mp hz with h | h
        · exact ⟨stay (PathX.evx S7.lw.town v8 (hwp z h).1), (hwp z h).2⟩
        · rw [List.mem_singleton.mp h]
          exact ⟨stay pr, gp⟩
    rintro G ⟨vg, ws, hwl, hws, hwp⟩
    have hwl : ws.length = 4 := hwl
    have S7 := S3.ev vg
    have els7 := vg.keep _ _ hlt els (fun ps z => by cases z)
    have el7 := vg.keep _ _ hltw el3 (fun ps z => by cases z)
    have gys7 : ∀ z ∈ ys, PathX G z.1 z.2 ∧ goodPath z.2 = true := fun z hz => ⟨PathX.evx S3.lw.town vg (gys z hz).1, (gys z hz).2⟩
    have rl7 := row_tup (fun b xs q => sqT_ev S3.lw.town vg q) rl3 (tree_thing S3.g.tree)
    have tS7 : TrS K G l t2 := ⟨kl, Or.inl el7, RowS.of (by rw [et]; exact rl7)⟩
    refine ⟨ls, E1, _, _, rfl, rfl, els7, hws, ?_, fun lp hlp => ?_⟩
    · unfold LS.addrs
      rw [List.length_map, List.length_map, hyl, hwl, sizeLine_eq]
      omega
    have xp := Ex.new (o := .lst (LS.addrs ys ++ LS.addrs ws)) hlp
    refine ⟨hh, d, l, lp, es, t2, ys ++ ws, rfl, S7.g.ex xp, S7.tb.t.ex xp, tS7.ex xp, et, by omega, ?_, fun z hz => ?_, fun H' _ => k H'⟩
    · rw [upd_same]
      unfold LS.addrs
      rw [List.map_append]
    · rcases List.mem_append.mp hz with h | h
      · exact ⟨PathX.ex xp (gys7 z h).1, (gys7 z h).2⟩
      · exact ⟨PathX.ex xp (hwp z h).1, (hwp z h).2⟩
end
end LK

namespace LK
open PySem PySem.Spec PyProof.Rows L2 GA LT LE L2H LD
/-! ### what the top has written -/
theorem walk_tabsY {l : PySem.W.OpenLaw} {n k : Nat} {q : Program} {loose : List Str} {XP : (Str → Option Value) → Heap → Prop} {YP : World → Heap → Prop} {d : DefRec} {K : Params → PySem.W.Frag} {CX : World → CXT} {x : Str}
    (hn : l.most = some n) (hn2 : n ≤ sizeLine) (hdf : d.params.defaults = []) (hr : Room k callerA) (hY : ∀ (w : World) (h : Heap), YP w h → (K w.params).In h)
    (F : ∀ (w : World) (mg : Str → Option Value) (fa : Addr) (h : Heap), YP w h → (K w.params).In h → h.Ns mainGlobals mg → mg d.name = some (.ref fa) → TabsOf q (K w.params) h → LamX.LawAtS l w (K w.params) (CX w) k n x mg fa h)
    (hCX : ∀ (w : World) (H : Hp) (s : Shared) (e : Value) (s' : Shared), CX w [] H s (fun _ _ _ => False) e s' → False) :
    PySem.W.WalkO q loose XP YP l.row.toRowW d [] (fun f vs => PySem.call f vs) := by
  refine Att.attach_callB hn hdf ?_
  intro w s₀ s₁ mg mb fa o pm cd doc a vs ns G Y ho hd hcd hmg hobj hints hlen hbits hg
  have KX := hY w _ Y
  have tabs : TabsOf q (K w.params) s₁.heap := fun x d c P h1 h2 => PySem.W.tab_of G.T KX h1 h2
  obtain ⟨fd, cs, sp, hT, nT, C, hb, hsp, hF⟩ := F w mg fa _ Y KX G.T.g hmg tabs
  refine LamX.law_callTs KX G.T.g G.T.b G.T.builtins G.T.nolimit hg hT nT C G.T.bmain hobj hints (Nat.le_trans hlen hn2) hr hF hb ?_ ?_
  · intro H hH hS
    exact hsp H a ns hlen hbits hH hS
  · intro H e s'
    exact hCX w H s₁ e s'
theorem all_mk {l : PySem.W.OpenLaw} {q : Program} {w : World} {K : PySem.W.Frag} {h : Heap} {mg : Str → Option Value} {fz fa f0 f1 f2 f3 f4 f5 f6 f7 f8 f9 f10 f11 f12 f13 f14 f15 f16 f17 f18 f19 f20 f21 f22 f23 f24 f25 f26 f27 f28 f29 f30 f31 f32 f33 f34 f35 f36 f37 f38 f39 f40 f41 f42 f43 f44 f45 f46 f47 f48 f49 f50 f51 f52 f53 f54 f55 cP1 P1 cP2 P2 cP3 P3 cP4 P4 cP5 P5 cP9 P9 cP10 P10 C0 C1 C2 C3 C4 C5 C6 C7 C8 C9 C10 C11 C12 C13 C14 C15 C16 TE CH aDR aDF : Addr} {g1 g2 g3 g4 g5 g9 g6 : Tok} (X : K.In h) (G : h.Ns mainGlobals mg) (hfa : mg "law" = some (.ref fz)) (TT : TabsOf q K h)
    {od0 an0 od1 an1 od2 an2 od3 an3 od4 an4 od5 an5 od6 an6 od7 an7 od8 an8 od9 an9 od10 an10 od11 an11 od12 an12 od13 an13 od14 an14 od15 an15 od16 an16 od17 an17 od18 an18 od19 an19 od20 an20 od21 an21 od22 an22 od23 an23 od24 an24 od25 an25 od26 an26 od27 an27 od28 an28 od29 an29 od30 an30 od31 an31 od32 an32 od33 an33 od34 an34 od35 an35 od36 an36 od37 an37 od38 an38 od39 an39 od40 an40 od41 an41 od42 an42 od43 an43 od44 an44 od45 an45 od46 an46 od47 an47 od48 an48 od49 an49 od50 an50 od51 an51 od52 an52 od53 an53 od54 an54 od55 an55 od56 an56 xd1 xd2 xd3 xd4 xd5 xd9 xd10 : Option Addr} {sl0 sl1 sl2 sl3 sl4 sl5 sl6 sl7 sl8 sl9 sl10 sl11 sl12 sl13 sl14 sl15 sl16 sl17 sl18 sl19 sl20 sl21 sl22 sl23 sl24 sl25 sl26 sl27 sl28 sl29 sl30 sl31 sl32 sl33 sl34 sl35 sl36 sl37 sl38 sl39 sl40 sl41 sl42 sl43 sl44 sl45 sl46 sl47 sl48 sl49 sl50 sl51 sl52 sl53 sl54 sl55 sl56 xs1 xs2 xs3 xs4 xs5 xs9 xs10 : Array (Option Value)}
    {xv1 xv2 xv3 xv4 xv5 xv9 xv10 : Array Value}
    {oc0 kV0 dc0 pm0 ct0 oc1 kV1 dc1 pm1 ct1 oc2 kV2 dc2 pm2 ct2 oc3 kV3 dc3 pm3 ct3 oc4 kV4 dc4 pm4 ct4 oc5 kV5 dc5 pm5 ct5 oc6 kV6 dc6 pm6 ct6 oc7 kV7 dc7 pm7 ct7 cd7 oc8 kV8 dc8 pm8 ct8 cd8 oc9 kV9 dc9 pm9 ct9 cd9 oc10 kV10 dc10 pm10 ct10 cd10 oc11 kV11 dc11 pm11 ct11 cd11 oc12 kV12 dc12 pm12 ct12 cd12 oc13 kV13 dc13 pm13 ct13 cd13 oc14 kV14 dc14 pm14 ct14 cd14 oc15 kV15 dc15 pm15 ct15 cd15 oc16 kV16 dc16 pm16 ct16 cd16 oc17 kV17 dc17 pm17 ct17 cd17 oc18 kV18 dc18 pm18 ct18 cd18 oc19 kV19 dc19 pm19 ct19 cd19 oc20 kV20 dc20 pm20 ct20 cd20 oc21 kV21 dc21 pm21 ct21 cd21 oc22 kV22 dc22 pm22 ct22 cd22 oc23 kV23 dc23 pm23 ct23 cd23 oc24 kV24 dc24 pm24 ct24 cd24 oc25 kV25 dc25 pm25 ct25 cd25 oc26 kV26 dc26 pm26 ct26 cd26 oc27 kV27 dc27 pm27 ct27 cd27 oc28 kV28 dc28 pm28 ct28 cd28 oc29 kV29 dc29 pm29 ct29 cd29 oc30 kV30 dc30 pm30 ct30 cd30 oc31 kV31 dc31 pm31 ct31 cd31 oc32 kV32 dc32 pm32 ct32 cd32 oc33 kV33 dc33 pm33 ct33 cd33 oc34 kV34 dc34 pm34 ct34 cd34 oc35 kV35 dc35 pm35 ct35 cd35 oc36 kV36 dc36 pm36 ct36 cd36 oc37 kV37 dc37 pm37 ct37 cd37 oc38 kV38 dc38 pm38 ct38 cd38 oc39 kV39 dc39 pm39 ct39 cd39 oc40 kV40 dc40 pm40 ct40 cd40 oc41 kV41 dc41 pm41 ct41 cd41 oc42 kV42 dc42 pm42 ct42 cd42 oc43 kV43 dc43 pm43 ct43 cd43 oc44 kV44 dc44 pm44 ct44 cd44 oc45 kV45 dc45 pm45 ct45 cd45 oc46 kV46 dc46 pm46 ct46 cd46 oc47 kV47 dc47 pm47 ct47 cd47 oc48 kV48 dc48 pm48 ct48 cd48 oc49 kV49 dc49 pm49 ct49 cd49 oc50 kV50 dc50 pm50 ct50 cd50 oc51 kV51 dc51 pm51 ct51 cd51 oc52 kV52 dc52 pm52 ct52 cd52 oc53 kV53 dc53 pm53 ct53 cd53 oc54 kV54 dc54 pm54 ct54 cd54 oc55 kV55 dc55 pm55 ct55 cd55 oc56 kV56 dc56 pm56 ct56 cd56 xo1 xo2 xo3 xo4 xo5 xo9 xo10 : Value} {cDF : Value} {gDR : Tok} {nDR nDF : Nat} {oDR oDF : Option Addr} {sDR sDF : Array (Option Value)}
    (gH : PySem.W.nsIn K mainGlobals "House" = some (some (.ref CH)))
    (clpg : PySem.W.plainGet K CH Str.empty = true)
    (clhd : PySem.W.hasDictIn K CH = true)
    (clpo : PySem.W.plainOver K CH = true)
    (clsa : PySem.W.findIn K (.ref CH) "__setattr__" = some (some (.builtin "object.__setattr__")))
    (clnt : PySem.W.findIn K (.ref CH) "_tree" = some none)
    (clmk : PySem.W.makesIn K CH = true)
    (clkp : PySem.W.keepIn K (.ref CH) = true)
    (a0 : PySem.W.nsIn K mainGlobals "is_name" = some (some (.ref f0)))
    (l0 : K.lookup f0 = some ⟨oc0, od0, .func (PySem.W.fnOf "is_name" "is_name" (defArgs sIsName) (defBody sIsName) (defScope sIsName) .none kV0 dc0 pm0 an0 (.ref cP1) ct0), sl0⟩)
    (c0 : PySem.W.codeIn K (.ref cP1) "is_name" = true)
    (k0 : PySem.W.keepIn K (.ref f0) = true)
    (a1 : PySem.W.nsIn K mainGlobals "is_path" = some (some (.ref f1)))
    (l1 : K.lookup f1 = some ⟨oc1, od1, .func (PySem.W.fnOf "is_path" "is_path" (defArgs sIsPath) (defBody sIsPath) (defScope sIsPath) .none kV1 dc1 pm1 an1 (.ref cP2) ct1), sl1⟩)
    (c1 : PySem.W.codeIn K (.ref cP2) "is_path" = true)
    (k1 : PySem.W.keepIn K (.ref f1) = true)
    (a2 : PySem.W.nsIn K mainGlobals "is_text" = some (some (.ref f2)))
    (l2 : K.lookup f2 = some ⟨oc2, od2, .func (PySem.W.fnOf "is_text" "is_text" (defArgs sIsText) (defBody sIsText) (defScope sIsText) .none kV2 dc2 pm2 an2 (.ref cP3) ct2), sl2⟩)
    (c2 : PySem.W.codeIn K (.ref cP3) "is_text" = true)
    (k2 : PySem.W.keepIn K (.ref f2) = true)
    (a3 : PySem.W.nsIn K mainGlobals "has_drawers_above" = some (some (.ref f3)))
    (l3 : K.lookup f3 = some ⟨oc3, od3, .func (PySem.W.fnOf "has_drawers_above" "has_drawers_above" (defArgs sHasDrawers) (defBody sHasDrawers) (defScope sHasDrawers) .none kV3 dc3 pm3 an3 (.ref cP4) ct3), sl3⟩)
    (c3 : PySem.W.codeIn K (.ref cP4) "has_drawers_above" = true)
    (k3 : PySem.W.keepIn K (.ref f3) = true)
    (a4 : PySem.W.nsIn K mainGlobals "is_tree" = some (some (.ref f4)))
    (l4 : K.lookup f4 = some ⟨oc4, od4, .func (PySem.W.fnOf "is_tree" "is_tree" (defArgs sIsTree) (defBody sIsTree) (defScope sIsTree) .none kV4 dc4 pm4 an4 (.ref cP5) ct4), sl4⟩)
    (c4 : PySem.W.codeIn K (.ref cP5) "is_tree" = true)
    (k4 : PySem.W.keepIn K (.ref f4) = true)
    (a5 : PySem.W.findIn K (.ref CH) "remove" = some (some (.ref f5)))
    (l5 : K.lookup f5 = some ⟨oc5, od5, .func (PySem.W.fnOf "remove" "House.remove" (defArgs mRemove) (defBody mRemove) (defScope mRemove) .none kV5 dc5 pm5 an5 (.ref cP9) ct5), sl5⟩)
    (c5 : PySem.W.codeIn K (.ref cP9) "House.remove" = true)
    (k5 : PySem.W.keepIn K (.ref f5) = true)
    (fn5 : PySem.W.isFn K (.ref f5) = true)
    (a6 : PySem.W.findIn K (.ref CH) "move" = some (some (.ref f6)))
    (l6 : K.lookup f6 = some ⟨oc6, od6, .func (PySem.W.fnOf "move" "House.move" (defArgs mMove) (defBody mMove) (defScope mMove) .none kV6 dc6 pm6 an6 (.ref cP10) ct6), sl6⟩)
    (c6 : PySem.W.codeIn K (.ref cP10) "House.move" = true)
    (k6 : PySem.W.keepIn K (.ref f6) = true)
    (fn6 : PySem.W.isFn K (.ref f6) = true)
    (a7 : PySem.W.nsIn K mainGlobals "check_path" = some (some (.ref f7)))
    (l7 : K.lookup f7 = some ⟨oc7, od7, .func (PySem.W.fnOf "check_path" "check_path" (defArgs sCheckPath) (defBody sCheckPath) (defScope sCheckPath) .none kV7 dc7 pm7 an7 cd7 ct7), sl7⟩)
    (c7 : PySem.W.codeIn K cd7 "check_path" = true)
    (k7 : PySem.W.keepIn K (.ref f7) = true)
    (a8 : PySem.W.nsIn K mainGlobals "check_text" = some (some (.ref f8)))
    (l8 : K.lookup f8 = some ⟨oc8, od8, .func (PySem.W.fnOf "check_text" "check_text" (defArgs sCheckText) (defBody sCheckText) (defScope sCheckText) .none kV8 dc8 pm8 an8 cd8 ct8), sl8⟩)
    (c8 : PySem.W.codeIn K cd8 "check_text" = true)
    (k8 : PySem.W.keepIn K (.ref f8) = true)
    (a9 : PySem.W.nsIn K mainGlobals "above" = some (some (.ref f9)))
    (l9 : K.lookup f9 = some ⟨oc9, od9, .func (PySem.W.fnOf "above" "above" (defArgs sAbove) (defBody sAbove) (defScope sAbove) .none kV9 dc9 pm9 an9 cd9 ct9), sl9⟩)
    (c9 : PySem.W.codeIn K cd9 "above" = true)
    (k9 : PySem.W.keepIn K (.ref f9) = true)
    (a10 : PySem.W.nsIn K mainGlobals "begins_with" = some (some (.ref f10)))
    (l10 : K.lookup f10 = some ⟨oc10, od10, .func (PySem.W.fnOf "begins_with" "begins_with" (defArgs sBegins) (defBody sBegins) (defScope sBegins) .none kV10 dc10 pm10 an10 cd10 ct10), sl10⟩)
    (c10 : PySem.W.codeIn K cd10 "begins_with" = true)
    (k10 : PySem.W.keepIn K (.ref f10) = true)
    (a11 : PySem.W.nsIn K mainGlobals "is_within" = some (some (.ref f11)))
    (l11 : K.lookup f11 = some ⟨oc11, od11, .func (PySem.W.fnOf "is_within" "is_within" (defArgs sWithin) (defBody sWithin) (defScope sWithin) .none kV11 dc11 pm11 an11 cd11 ct11), sl11⟩)
    (c11 : PySem.W.codeIn K cd11 "is_within" = true)
    (k11 : PySem.W.keepIn K (.ref f11) = true)
    (a12 : PySem.W.nsIn K mainGlobals "is_number" = some (some (.ref f12)))
    (l12 : K.lookup f12 = some ⟨oc12, od12, .func (PySem.W.fnOf "is_number" "is_number" (defArgs sIsNumber) (defBody sIsNumber) (defScope sIsNumber) .none kV12 dc12 pm12 an12 cd12 ct12), sl12⟩)
    (c12 : PySem.W.codeIn K cd12 "is_number" = true)
    (k12 : PySem.W.keepIn K (.ref f12) = true)
    (a13 : PySem.W.nsIn K mainGlobals "is_kind" = some (some (.ref f13)))
    (l13 : K.lookup f13 = some ⟨oc13, od13, .func (PySem.W.fnOf "is_kind" "is_kind" (defArgs sIsKind) (defBody sIsKind) (defScope sIsKind) .none kV13 dc13 pm13 an13 cd13 ct13), sl13⟩)
    (c13 : PySem.W.codeIn K cd13 "is_kind" = true)
    (k13 : PySem.W.keepIn K (.ref f13) = true)
    (a14 : PySem.W.nsIn K mainGlobals "is_drawer" = some (some (.ref f14)))
    (l14 : K.lookup f14 = some ⟨oc14, od14, .func (PySem.W.fnOf "is_drawer" "is_drawer" (defArgs sIsDrawer) (defBody sIsDrawer) (defScope sIsDrawer) .none kV14 dc14 pm14 an14 cd14 ct14), sl14⟩)
    (c14 : PySem.W.codeIn K cd14 "is_drawer" = true)
    (k14 : PySem.W.keepIn K (.ref f14) = true)
    (a15 : PySem.W.nsIn K mainGlobals "is_file" = some (some (.ref f15)))
    (l15 : K.lookup f15 = some ⟨oc15, od15, .func (PySem.W.fnOf "is_file" "is_file" (defArgs sIsFile) (defBody sIsFile) (defScope sIsFile) .none kV15 dc15 pm15 an15 cd15 ct15), sl15⟩)
    (c15 : PySem.W.codeIn K cd15 "is_file" = true)
    (k15 : PySem.W.keepIn K (.ref f15) = true)
    (a16 : PySem.W.nsIn K mainGlobals "has_one_text_each" = some (some (.ref f16)))
    (l16 : K.lookup f16 = some ⟨oc16, od16, .func (PySem.W.fnOf "has_one_text_each" "has_one_text_each" (defArgs sHasOneText) (defBody sHasOneText) (defScope sHasOneText) .none kV16 dc16 pm16 an16 cd16 ct16), sl16⟩)
    (c16 : PySem.W.codeIn K cd16 "has_one_text_each" = true)
    (k16 : PySem.W.keepIn K (.ref f16) = true)
    (a17 : PySem.W.nsIn K mainGlobals "check_tree" = some (some (.ref f17)))
    (l17 : K.lookup f17 = some ⟨oc17, od17, .func (PySem.W.fnOf "check_tree" "check_tree" (defArgs sCheckTree) (defBody sCheckTree) (defScope sCheckTree) .none kV17 dc17 pm17 an17 cd17 ct17), sl17⟩)
    (c17 : PySem.W.codeIn K cd17 "check_tree" = true)
    (k17 : PySem.W.keepIn K (.ref f17) = true)
    (a18 : PySem.W.nsIn K mainGlobals "renumbered" = some (some (.ref f18)))
    (l18 : K.lookup f18 = some ⟨oc18, od18, .func (PySem.W.fnOf "renumbered" "renumbered" (defArgs sRenumbered) (defBody sRenumbered) (defScope sRenumbered) .none kV18 dc18 pm18 an18 cd18 ct18), sl18⟩)
    (c18 : PySem.W.codeIn K cd18 "renumbered" = true)
    (k18 : PySem.W.keepIn K (.ref f18) = true)
    (a19 : PySem.W.nsIn K mainGlobals "plain" = some (some (.ref f19)))
    (l19 : K.lookup f19 = some ⟨oc19, od19, .func (PySem.W.fnOf "plain" "plain" (defArgs sPlain) (defBody sPlain) (defScope sPlain) .none kV19 dc19 pm19 an19 cd19 ct19), sl19⟩)
    (c19 : PySem.W.codeIn K cd19 "plain" = true)
    (k19 : PySem.W.keepIn K (.ref f19) = true)
    (a20 : PySem.W.nsIn K mainGlobals "_check_not_root" = some (some (.ref f20)))
    (l20 : K.lookup f20 = some ⟨oc20, od20, .func (PySem.W.fnOf "_check_not_root" "_check_not_root" (defArgs sNotRoot) (defBody sNotRoot) (defScope sNotRoot) .none kV20 dc20 pm20 an20 cd20 ct20), sl20⟩)
    (c20 : PySem.W.codeIn K cd20 "_check_not_root" = true)
    (k20 : PySem.W.keepIn K (.ref f20) = true)
    (a21 : PySem.W.nsIn K mainGlobals "_moved" = some (some (.ref f21)))
    (l21 : K.lookup f21 = some ⟨oc21, od21, .func (PySem.W.fnOf "_moved" "_moved" (defArgs sMoved) (defBody sMoved) (defScope sMoved) .none kV21 dc21 pm21 an21 cd21 ct21), sl21⟩)
    (c21 : PySem.W.codeIn K cd21 "_moved" = true)
    (k21 : PySem.W.keepIn K (.ref f21) = true)
    (a22 : PySem.W.findIn K (.ref CH) "__init__" = some (some (.ref f22)))
    (l22 : K.lookup f22 = some ⟨oc22, od22, .func (PySem.W.fnOf "__init__" "House.__init__" (defArgs mInit) (defBody mInit) (defScope mInit) (.ref aDF) kV22 dc22 pm22 an22 cd22 ct22), sl22⟩)
    (c22 : PySem.W.codeIn K cd22 "House.__init__" = true)
    (k22 : PySem.W.keepIn K (.ref f22) = true)
    (fn22 : PySem.W.isFn K (.ref f22) = true)
    (a23 : PySem.W.findIn K (.ref CH) "make" = some (some (.ref f23)))
    (l23 : K.lookup f23 = some ⟨oc23, od23, .func (PySem.W.fnOf "make" "House.make" (defArgs mMake) (defBody mMake) (defScope mMake) .none kV23 dc23 pm23 an23 cd23 ct23), sl23⟩)
    (c23 : PySem.W.codeIn K cd23 "House.make" = true)
    (k23 : PySem.W.keepIn K (.ref f23) = true)
    (fn23 : PySem.W.isFn K (.ref f23) = true)
    (a24 : PySem.W.findIn K (.ref CH) "write" = some (some (.ref f24)))
    (l24 : K.lookup f24 = some ⟨oc24, od24, .func (PySem.W.fnOf "write" "House.write" (defArgs mWrite) (defBody mWrite) (defScope mWrite) .none kV24 dc24 pm24 an24 cd24 ct24), sl24⟩)
    (c24 : PySem.W.codeIn K cd24 "House.write" = true)
    (k24 : PySem.W.keepIn K (.ref f24) = true)
    (fn24 : PySem.W.isFn K (.ref f24) = true)
    (a25 : PySem.W.findIn K (.ref CH) "add" = some (some (.ref f25)))
    (l25 : K.lookup f25 = some ⟨oc25, od25, .func (PySem.W.fnOf "add" "House.add" (defArgs mAdd) (defBody mAdd) (defScope mAdd) .none kV25 dc25 pm25 an25 cd25 ct25), sl25⟩)
    (c25 : PySem.W.codeIn K cd25 "House.add" = true)
    (k25 : PySem.W.keepIn K (.ref f25) = true)
    (fn25 : PySem.W.isFn K (.ref f25) = true)
    (a26 : PySem.W.findIn K (.ref CH) "clear" = some (some (.ref f26)))
    (l26 : K.lookup f26 = some ⟨oc26, od26, .func (PySem.W.fnOf "clear" "House.clear" (defArgs mClear) (defBody mClear) (defScope mClear) .none kV26 dc26 pm26 an26 cd26 ct26), sl26⟩)
    (c26 : PySem.W.codeIn K cd26 "House.clear" = true)
    (k26 : PySem.W.keepIn K (.ref f26) = true)
    (fn26 : PySem.W.isFn K (.ref f26) = true)
    (a27 : PySem.W.findIn K (.ref CH) "tie" = some (some (.ref f27)))
    (l27 : K.lookup f27 = some ⟨oc27, od27, .func (PySem.W.fnOf "tie" "House.tie" (defArgs mTie) (defBody mTie) (defScope mTie) .none kV27 dc27 pm27 an27 cd27 ct27), sl27⟩)
    (c27 : PySem.W.codeIn K cd27 "House.tie" = true)
    (k27 : PySem.W.keepIn K (.ref f27) = true)
    (fn27 : PySem.W.isFn K (.ref f27) = true)
    (a28 : PySem.W.findIn K (.ref CH) "kind" = some (some (.ref f28)))
    (l28 : K.lookup f28 = some ⟨oc28, od28, .func (PySem.W.fnOf "kind" "House.kind" (defArgs mKind) (defBody mKind) (defScope mKind) .none kV28 dc28 pm28 an28 cd28 ct28), sl28⟩)
    (c28 : PySem.W.codeIn K cd28 "House.kind" = true)
    (k28 : PySem.W.keepIn K (.ref f28) = true)
    (fn28 : PySem.W.isFn K (.ref f28) = true)
    (a29 : PySem.W.findIn K (.ref CH) "read" = some (some (.ref f29)))
    (l29 : K.lookup f29 = some ⟨oc29, od29, .func (PySem.W.fnOf "read" "House.read" (defArgs mRead) (defBody mRead) (defScope mRead) .none kV29 dc29 pm29 an29 cd29 ct29), sl29⟩)
    (c29 : PySem.W.codeIn K cd29 "House.read" = true)
    (k29 : PySem.W.keepIn K (.ref f29) = true)
    (fn29 : PySem.W.isFn K (.ref f29) = true)
    (a30 : PySem.W.findIn K (.ref CH) "tied" = some (some (.ref f30)))
    (l30 : K.lookup f30 = some ⟨oc30, od30, .func (PySem.W.fnOf "tied" "House.tied" (defArgs mTied) (defBody mTied) (defScope mTied) .none kV30 dc30 pm30 an30 cd30 ct30), sl30⟩)
    (c30 : PySem.W.codeIn K cd30 "House.tied" = true)
    (k30 : PySem.W.keepIn K (.ref f30) = true)
    (fn30 : PySem.W.isFn K (.ref f30) = true)
    (a31 : PySem.W.findIn K (.ref CH) "tree" = some (some (.ref f31)))
    (l31 : K.lookup f31 = some ⟨oc31, od31, .func (PySem.W.fnOf "tree" "House.tree" (defArgs mTree) (defBody mTree) (defScope mTree) .none kV31 dc31 pm31 an31 cd31 ct31), sl31⟩)
    (c31 : PySem.W.codeIn K cd31 "House.tree" = true)
    (k31 : PySem.W.keepIn K (.ref f31) = true)
    (fn31 : PySem.W.isFn K (.ref f31) = true)
    (a32 : PySem.W.findIn K (.ref CH) "__len__" = some (some (.ref f32)))
    (l32 : K.lookup f32 = some ⟨oc32, od32, .func (PySem.W.fnOf "__len__" "House.__len__" (defArgs mLen) (defBody mLen) (defScope mLen) .none kV32 dc32 pm32 an32 cd32 ct32), sl32⟩)
    (c32 : PySem.W.codeIn K cd32 "House.__len__" = true)
    (k32 : PySem.W.keepIn K (.ref f32) = true)
    (fn32 : PySem.W.isFn K (.ref f32) = true)
    (a33 : PySem.W.findIn K (.ref CH) "_check_there" = some (some (.ref f33)))
    (l33 : K.lookup f33 = some ⟨oc33, od33, .func (PySem.W.fnOf "_check_there" "House._check_there" (defArgs mThere) (defBody mThere) (defScope mThere) .none kV33 dc33 pm33 an33 cd33 ct33), sl33⟩)
    (c33 : PySem.W.codeIn K cd33 "House._check_there" = true)
    (k33 : PySem.W.keepIn K (.ref f33) = true)
    (fn33 : PySem.W.isFn K (.ref f33) = true)
    (a34 : PySem.W.findIn K (.ref CH) "_check_above" = some (some (.ref f34)))
    (l34 : K.lookup f34 = some ⟨oc34, od34, .func (PySem.W.fnOf "_check_above" "House._check_above" (defArgs mAboveOk) (defBody mAboveOk) (defScope mAboveOk) .none kV34 dc34 pm34 an34 cd34 ct34), sl34⟩)
    (c34 : PySem.W.codeIn K cd34 "House._check_above" = true)
    (k34 : PySem.W.keepIn K (.ref f34) = true)
    (fn34 : PySem.W.isFn K (.ref f34) = true)
    (a35 : PySem.W.findIn K (.ref CH) "_check_place" = some (some (.ref f35)))
    (l35 : K.lookup f35 = some ⟨oc35, od35, .func (PySem.W.fnOf "_check_place" "House._check_place" (defArgs mPlace) (defBody mPlace) (defScope mPlace) .none kV35 dc35 pm35 an35 cd35 ct35), sl35⟩)
    (c35 : PySem.W.codeIn K cd35 "House._check_place" = true)
    (k35 : PySem.W.keepIn K (.ref f35) = true)
    (fn35 : PySem.W.isFn K (.ref f35) = true)
    (a36 : PySem.W.findIn K (.ref CH) "_check_room" = some (some (.ref f36)))
    (l36 : K.lookup f36 = some ⟨oc36, od36, .func (PySem.W.fnOf "_check_room" "House._check_room" (defArgs mRoom) (defBody mRoom) (defScope mRoom) .none kV36 dc36 pm36 an36 cd36 ct36), sl36⟩)
    (c36 : PySem.W.codeIn K cd36 "House._check_room" = true)
    (k36 : PySem.W.keepIn K (.ref f36) = true)
    (fn36 : PySem.W.isFn K (.ref f36) = true)
    (a37 : PySem.W.findIn K (.ref CH) "_file_at" = some (some (.ref f37)))
    (l37 : K.lookup f37 = some ⟨oc37, od37, .func (PySem.W.fnOf "_file_at" "House._file_at" (defArgs mFileAt) (defBody mFileAt) (defScope mFileAt) .none kV37 dc37 pm37 an37 cd37 ct37), sl37⟩)
    (c37 : PySem.W.codeIn K cd37 "House._file_at" = true)
    (k37 : PySem.W.keepIn K (.ref f37) = true)
    (fn37 : PySem.W.isFn K (.ref f37) = true)
    (a38 : PySem.W.findIn K (.ref CH) "_put" = some (some (.ref f38)))
    (l38 : K.lookup f38 = some ⟨oc38, od38, .func (PySem.W.fnOf "_put" "House._put" (defArgs mPut) (defBody mPut) (defScope mPut) .none kV38 dc38 pm38 an38 cd38 ct38), sl38⟩)
    (c38 : PySem.W.codeIn K cd38 "House._put" = true)
    (k38 : PySem.W.keepIn K (.ref f38) = true)
    (fn38 : PySem.W.isFn K (.ref f38) = true)
    (a39 : PySem.W.findIn K (.ref CH) "_give" = some (some (.ref f39)))
    (l39 : K.lookup f39 = some ⟨oc39, od39, .func (PySem.W.fnOf "_give" "House._give" (defArgs mGive) (defBody mGive) (defScope mGive) .none kV39 dc39 pm39 an39 cd39 ct39), sl39⟩)
    (c39 : PySem.W.codeIn K cd39 "House._give" = true)
    (k39 : PySem.W.keepIn K (.ref f39) = true)
    (fn39 : PySem.W.isFn K (.ref f39) = true)
    (a40 : PySem.W.findIn K (.ref CH) "_take_away" = some (some (.ref f40)))
    (l40 : K.lookup f40 = some ⟨oc40, od40, .func (PySem.W.fnOf "_take_away" "House._take_away" (defArgs mTakeAway) (defBody mTakeAway) (defScope mTakeAway) .none kV40 dc40 pm40 an40 cd40 ct40), sl40⟩)
    (c40 : PySem.W.codeIn K cd40 "House._take_away" = true)
    (k40 : PySem.W.keepIn K (.ref f40) = true)
    (fn40 : PySem.W.isFn K (.ref f40) = true)
    (a41 : PySem.W.nsIn K mainGlobals "_law_draw" = some (some (.ref f41)))
    (l41 : K.lookup f41 = some ⟨oc41, od41, .func (PySem.W.fnOf "_law_draw" "_law_draw" (defArgs sDraw) (defBody sDraw) (defScope sDraw) .none kV41 dc41 pm41 an41 cd41 ct41), sl41⟩)
    (c41 : PySem.W.codeIn K cd41 "_law_draw" = true)
    (k41 : PySem.W.keepIn K (.ref f41) = true)
    (a42 : PySem.W.nsIn K mainGlobals "_law_pick" = some (some (.ref f42)))
    (l42 : K.lookup f42 = some ⟨oc42, od42, .func (PySem.W.fnOf "_law_pick" "_law_pick" (defArgs sPick) (defBody sPick) (defScope sPick) .none kV42 dc42 pm42 an42 cd42 ct42), sl42⟩)
    (c42 : PySem.W.codeIn K cd42 "_law_pick" = true)
    (k42 : PySem.W.keepIn K (.ref f42) = true)
    (a43 : PySem.W.nsIn K mainGlobals "_law_which" = some (some (.ref f43)))
    (l43 : K.lookup f43 = some ⟨oc43, od43, .func (PySem.W.fnOf "_law_which" "_law_which" (defArgs sWhich) (defBody sWhich) (defScope sWhich) .none kV43 dc43 pm43 an43 cd43 ct43), sl43⟩)
    (c43 : PySem.W.codeIn K cd43 "_law_which" = true)
    (k43 : PySem.W.keepIn K (.ref f43) = true)
    (a44 : PySem.W.nsIn K mainGlobals "_law_do" = some (some (.ref f44)))
    (l44 : K.lookup f44 = some ⟨oc44, od44, .func (PySem.W.fnOf "_law_do" "_law_do" (defArgs sDo) (defBody sDo) (defScope sDo) .none kV44 dc44 pm44 an44 cd44 ct44), sl44⟩)
    (c44 : PySem.W.codeIn K cd44 "_law_do" = true)
    (k44 : PySem.W.keepIn K (.ref f44) = true)
    (a45 : PySem.W.nsIn K mainGlobals "names_in" = some (some (.ref f45)))
    (l45 : K.lookup f45 = some ⟨oc45, od45, .func (PySem.W.fnOf "names_in" "names_in" (defArgs sNamesIn) (defBody sNamesIn) (defScope sNamesIn) .none kV45 dc45 pm45 an45 cd45 ct45), sl45⟩)
    (c45 : PySem.W.codeIn K cd45 "names_in" = true)
    (k45 : PySem.W.keepIn K (.ref f45) = true)
    (a46 : PySem.W.findIn K (.ref CH) "listed" = some (some (.ref f46)))
    (l46 : K.lookup f46 = some ⟨oc46, od46, .func (PySem.W.fnOf "listed" "House.listed" (defArgs mListed) (defBody mListed) (defScope mListed) .none kV46 dc46 pm46 an46 cd46 ct46), sl46⟩)
    (c46 : PySem.W.codeIn K cd46 "House.listed" = true)
    (k46 : PySem.W.keepIn K (.ref f46) = true)
    (fn46 : PySem.W.isFn K (.ref f46) = true)
    (a47 : PySem.W.nsIn K mainGlobals "_law_letter" = some (some (.ref f47)))
    (l47 : K.lookup f47 = some ⟨oc47, od47, .func (PySem.W.fnOf "_law_letter" "_law_letter" (defArgs sLetter) (defBody sLetter) (defScope sLetter) .none kV47 dc47 pm47 an47 cd47 ct47), sl47⟩)
    (c47 : PySem.W.codeIn K cd47 "_law_letter" = true)
    (k47 : PySem.W.keepIn K (.ref f47) = true)
    (a48 : PySem.W.nsIn K mainGlobals "_law_text" = some (some (.ref f48)))
    (l48 : K.lookup f48 = some ⟨oc48, od48, .func (PySem.W.fnOf "_law_text" "_law_text" (defArgs sText) (defBody sText) (defScope sText) .none kV48 dc48 pm48 an48 cd48 ct48), sl48⟩)
    (c48 : PySem.W.codeIn K cd48 "_law_text" = true)
    (k48 : PySem.W.keepIn K (.ref f48) = true)
    (a49 : PySem.W.nsIn K mainGlobals "_law_tree" = some (some (.ref f49)))
    (l49 : K.lookup f49 = some ⟨oc49, od49, .func (PySem.W.fnOf "_law_tree" "_law_tree" (defArgs sTree) (defBody sTree) (defScope sTree) .none kV49 dc49 pm49 an49 cd49 ct49), sl49⟩)
    (c49 : PySem.W.codeIn K cd49 "_law_tree" = true)
    (k49 : PySem.W.keepIn K (.ref f49) = true)
    (a50 : PySem.W.nsIn K mainGlobals "_law_group" = some (some (.ref f50)))
    (l50 : K.lookup f50 = some ⟨oc50, od50, .func (PySem.W.fnOf "_law_group" "_law_group" (defArgs sGroup) (defBody sGroup) (defScope sGroup) .none kV50 dc50 pm50 an50 cd50 ct50), sl50⟩)
    (c50 : PySem.W.codeIn K cd50 "_law_group" = true)
    (k50 : PySem.W.keepIn K (.ref f50) = true)
    (a51 : PySem.W.nsIn K mainGlobals "_law_plain" = some (some (.ref f51)))
    (l51 : K.lookup f51 = some ⟨oc51, od51, .func (PySem.W.fnOf "_law_plain" "_law_plain" (defArgs sLPlain) (defBody sLPlain) (defScope sLPlain) .none kV51 dc51 pm51 an51 cd51 ct51), sl51⟩)
    (c51 : PySem.W.codeIn K cd51 "_law_plain" = true)
    (k51 : PySem.W.keepIn K (.ref f51) = true)
    (a52 : PySem.W.nsIn K mainGlobals "_law_path" = some (some (.ref f52)))
    (l52 : K.lookup f52 = some ⟨oc52, od52, .func (PySem.W.fnOf "_law_path" "_law_path" (defArgs sLPath) (defBody sLPath) (defScope sLPath) .none kV52 dc52 pm52 an52 cd52 ct52), sl52⟩)
    (c52 : PySem.W.codeIn K cd52 "_law_path" = true)
    (k52 : PySem.W.keepIn K (.ref f52) = true)
    (a53 : PySem.W.nsIn K mainGlobals "_law_chosen" = some (some (.ref f53)))
    (l53 : K.lookup f53 = some ⟨oc53, od53, .func (PySem.W.fnOf "_law_chosen" "_law_chosen" (defArgs sChosen) (defBody sChosen) (defScope sChosen) .none kV53 dc53 pm53 an53 cd53 ct53), sl53⟩)
    (c53 : PySem.W.codeIn K cd53 "_law_chosen" = true)
    (k53 : PySem.W.keepIn K (.ref f53) = true)
    (a54 : PySem.W.nsIn K mainGlobals "_law_view" = some (some (.ref f54)))
    (l54 : K.lookup f54 = some ⟨oc54, od54, .func (PySem.W.fnOf "_law_view" "_law_view" (defArgs sView) (defBody sView) (defScope sView) .none kV54 dc54 pm54 an54 cd54 ct54), sl54⟩)
    (c54 : PySem.W.codeIn K cd54 "_law_view" = true)
    (k54 : PySem.W.keepIn K (.ref f54) = true)
    (a55 : PySem.W.nsIn K mainGlobals "_law_views_right" = some (some (.ref f55)))
    (l55 : K.lookup f55 = some ⟨oc55, od55, .func (PySem.W.fnOf "_law_views_right" "_law_views_right" (defArgs sViewsRight) (defBody sViewsRight) (defScope sViewsRight) .none kV55 dc55 pm55 an55 cd55 ct55), sl55⟩)
    (c55 : PySem.W.codeIn K cd55 "_law_views_right" = true)
    (k55 : PySem.W.keepIn K (.ref f55) = true)
    (a56 : PySem.W.nsIn K mainGlobals "law" = some (some (.ref fa)))
    (l56 : K.lookup fa = some ⟨oc56, od56, .func (PySem.W.fnOf "law" "law" (defArgs sLaw) (defBody sLaw) (defScope sLaw) .none kV56 dc56 pm56 an56 cd56 ct56), sl56⟩)
    (c56 : PySem.W.codeIn K cd56 "law" = true)
    (k56 : PySem.W.keepIn K (.ref fa) = true)
    (u1 : K.lookup cP1 = some ⟨xo1, xd1, .fields xv1, xs1⟩)
    (i1 : (xv1[11]? : Option Value) = some (.ref P1))
    (u2 : K.lookup cP2 = some ⟨xo2, xd2, .fields xv2, xs2⟩)
    (i2 : (xv2[11]? : Option Value) = some (.ref P2))
    (u3 : K.lookup cP3 = some ⟨xo3, xd3, .fields xv3, xs3⟩)
    (i3 : (xv3[11]? : Option Value) = some (.ref P3))
    (u4 : K.lookup cP4 = some ⟨xo4, xd4, .fields xv4, xs4⟩)
    (i4 : (xv4[11]? : Option Value) = some (.ref P4))
    (u5 : K.lookup cP5 = some ⟨xo5, xd5, .fields xv5, xs5⟩)
    (i5 : (xv5[11]? : Option Value) = some (.ref P5))
    (u9 : K.lookup cP9 = some ⟨xo9, xd9, .fields xv9, xs9⟩)
    (i9 : (xv9[11]? : Option Value) = some (.ref P9))
    (ch9 : PySem.W.codeHdIn K cP9 P9 = true)
    (tm9 : h.get? P9 = some (PySem.W.tabObj #[]))
    (u10 : K.lookup cP10 = some ⟨xo10, xd10, .fields xv10, xs10⟩)
    (i10 : (xv10[11]? : Option Value) = some (.ref P10))
    (ch10 : PySem.W.codeHdIn K cP10 P10 = true)
    (tm10 : h.get? P10 = some (PySem.W.tabObj #[]))
    (df : K.lookup aDF = some ⟨cDF, oDF, .seq #[.none] nDF, sDF⟩)
    (z_isinstance : PySem.W.nsIn K mainGlobals "isinstance" = some none)
    (z_str : PySem.W.nsIn K mainGlobals "str" = some none)
    (z_tuple : PySem.W.nsIn K mainGlobals "tuple" = some none)
    (z_len : PySem.W.nsIn K mainGlobals "len" = some none)
    (z_all : PySem.W.nsIn K mainGlobals "all" = some none)
    (z_any : PySem.W.nsIn K mainGlobals "any" = some none)
    (z_range : PySem.W.nsIn K mainGlobals "range" = some none)
    (z_int : PySem.W.nsIn K mainGlobals "int" = some none)
    (z_bool : PySem.W.nsIn K mainGlobals "bool" = some none)
    (z_dict : PySem.W.nsIn K mainGlobals "dict" = some none)
    (z_list : PySem.W.nsIn K mainGlobals "list" = some none)
    (z_sorted : PySem.W.nsIn K mainGlobals "sorted" = some none)
    (z_ValueError : PySem.W.nsIn K mainGlobals "ValueError" = some none)
    (h_LETTERS : PySem.W.nsIn K mainGlobals "LETTERS" = some (some (.str lettersS g1)))
    (h_MOST_LETTERS : PySem.W.nsIn K mainGlobals "MOST_LETTERS" = some (some (.int 4 g2)))
    (h_MOST_NAMES : PySem.W.nsIn K mainGlobals "MOST_NAMES" = some (some (.int 5 g3)))
    (h_SIGNS : PySem.W.nsIn K mainGlobals "SIGNS" = some (some (.str signsS g4)))
    (h_MOST_SIGNS : PySem.W.nsIn K mainGlobals "MOST_SIGNS" = some (some (.int 40 g5)))
    (h_MOST_PATHS : PySem.W.nsIn K mainGlobals "MOST_PATHS" = some (some (.int 80 g9)))
    (h_LAST_NUMBER : PySem.W.nsIn K mainGlobals "LAST_NUMBER" = some (some (.int 999 g6)))
    (r01 : PySem.W.nsIn K mainGlobals "NoPath" = some (some (.ref C0)))
    (r02 : PySem.W.excIn K C0 [.type "ValueError", .type "Exception", .type "BaseException", .type "object"] "ValueError.__new__" = true)
    (r03 : PySem.W.keepIn K (.ref C0) = true)
    (r04 : PySem.W.subIn K (.ref C0) (.type "BaseException") = some true)
    (r05 : PySem.W.typeIn K (.ref C0) = some (.type "type"))
    (r11 : PySem.W.nsIn K mainGlobals "NoText" = some (some (.ref C1)))
    (r12 : PySem.W.excIn K C1 [.type "ValueError", .type "Exception", .type "BaseException", .type "object"] "ValueError.__new__" = true)
    (r13 : PySem.W.keepIn K (.ref C1) = true)
    (r14 : PySem.W.subIn K (.ref C1) (.type "BaseException") = some true)
    (r15 : PySem.W.typeIn K (.ref C1) = some (.type "type"))
    (r21 : PySem.W.nsIn K mainGlobals "NoTree" = some (some (.ref C2)))
    (r22 : PySem.W.excIn K C2 [.type "ValueError", .type "Exception", .type "BaseException", .type "object"] "ValueError.__new__" = true)
    (r23 : PySem.W.keepIn K (.ref C2) = true)
    (r24 : PySem.W.subIn K (.ref C2) (.type "BaseException") = some true)
    (r25 : PySem.W.typeIn K (.ref C2) = some (.type "type"))
    (r71 : PySem.W.nsIn K mainGlobals "Root" = some (some (.ref C7)))
    (r72 : PySem.W.excIn K C7 [.type "ValueError", .type "Exception", .type "BaseException", .type "object"] "ValueError.__new__" = true)
    (r73 : PySem.W.keepIn K (.ref C7) = true)
    (r74 : PySem.W.subIn K (.ref C7) (.type "BaseException") = some true)
    (r75 : PySem.W.typeIn K (.ref C7) = some (.type "type"))
    (r81 : PySem.W.nsIn K mainGlobals "NotThere" = some (some (.ref C8)))
    (r82 : PySem.W.excIn K C8 [.type "ValueError", .type "Exception", .type "BaseException", .type "object"] "ValueError.__new__" = true)
    (r83 : PySem.W.keepIn K (.ref C8) = true)
    (r84 : PySem.W.subIn K (.ref C8) (.type "BaseException") = some true)
    (r85 : PySem.W.typeIn K (.ref C8) = some (.type "type"))
    (r91 : PySem.W.nsIn K mainGlobals "NoDrawer" = some (some (.ref C9)))
    (r92 : PySem.W.excIn K C9 [.type "ValueError", .type "Exception", .type "BaseException", .type "object"] "ValueError.__new__" = true)
    (r93 : PySem.W.keepIn K (.ref C9) = true)
    (r94 : PySem.W.subIn K (.ref C9) (.type "BaseException") = some true)
    (r95 : PySem.W.typeIn K (.ref C9) = some (.type "type"))
    (r101 : PySem.W.nsIn K mainGlobals "IsDrawer" = some (some (.ref C10)))
    (r102 : PySem.W.excIn K C10 [.type "ValueError", .type "Exception", .type "BaseException", .type "object"] "ValueError.__new__" = true)
    (r103 : PySem.W.keepIn K (.ref C10) = true)
    (r104 : PySem.W.subIn K (.ref C10) (.type "BaseException") = some true)
    (r105 : PySem.W.typeIn K (.ref C10) = some (.type "type"))
    (r111 : PySem.W.nsIn K mainGlobals "Taken" = some (some (.ref C11)))
    (r112 : PySem.W.excIn K C11 [.type "ValueError", .type "Exception", .type "BaseException", .type "object"] "ValueError.__new__" = true)
    (r113 : PySem.W.keepIn K (.ref C11) = true)
    (r114 : PySem.W.subIn K (.ref C11) (.type "BaseException") = some true)
    (r115 : PySem.W.typeIn K (.ref C11) = some (.type "type"))
    (r121 : PySem.W.nsIn K mainGlobals "NotEmpty" = some (some (.ref C12)))
    (r122 : PySem.W.excIn K C12 [.type "ValueError", .type "Exception", .type "BaseException", .type "object"] "ValueError.__new__" = true)
    (r123 : PySem.W.keepIn K (.ref C12) = true)
    (r124 : PySem.W.subIn K (.ref C12) (.type "BaseException") = some true)
    (r125 : PySem.W.typeIn K (.ref C12) = some (.type "type"))
    (r131 : PySem.W.nsIn K mainGlobals "Within" = some (some (.ref C13)))
    (r132 : PySem.W.excIn K C13 [.type "ValueError", .type "Exception", .type "BaseException", .type "object"] "ValueError.__new__" = true)
    (r133 : PySem.W.keepIn K (.ref C13) = true)
    (r134 : PySem.W.subIn K (.ref C13) (.type "BaseException") = some true)
    (r135 : PySem.W.typeIn K (.ref C13) = some (.type "type"))
    (r141 : PySem.W.nsIn K mainGlobals "TooLong" = some (some (.ref C14)))
    (r142 : PySem.W.excIn K C14 [.type "ValueError", .type "Exception", .type "BaseException", .type "object"] "ValueError.__new__" = true)
    (r143 : PySem.W.keepIn K (.ref C14) = true)
    (r144 : PySem.W.subIn K (.ref C14) (.type "BaseException") = some true)
    (r145 : PySem.W.typeIn K (.ref C14) = some (.type "type"))
    (r151 : PySem.W.nsIn K mainGlobals "Full" = some (some (.ref C15)))
    (r152 : PySem.W.excIn K C15 [.type "ValueError", .type "Exception", .type "BaseException", .type "object"] "ValueError.__new__" = true)
    (r153 : PySem.W.keepIn K (.ref C15) = true)
    (r154 : PySem.W.subIn K (.ref C15) (.type "BaseException") = some true)
    (r155 : PySem.W.typeIn K (.ref C15) = some (.type "type"))
    (x_NoLayer : PySem.W.nsIn K mainGlobals "NoLayer" = some (some (.ref C3)))
    (x_NoStack : PySem.W.nsIn K mainGlobals "NoStack" = some (some (.ref C4)))
    (x_NoHandle : PySem.W.nsIn K mainGlobals "NoHandle" = some (some (.ref C5)))
    (x_NoPower : PySem.W.nsIn K mainGlobals "NoPower" = some (some (.ref C6)))
    (x_Dark : PySem.W.nsIn K mainGlobals "Dark" = some (some (.ref C16)))
    (xc0a : PySem.W.findIn K (.ref C0) "__getattribute__" = some (some (.builtin "BaseException.__getattribute__")))
    (xc0b : PySem.W.findIn K (.ref C0) "__getattr__" = some none)
    (xc0c : PySem.W.hasDictIn K C0 = true)
    (xc0d : PySem.W.findIn K (.ref C0) "__class__" = some (some (.builtin "object.__class__")))
    (xc0e : PySem.W.mroIn K C0 (.type "object") = some true)
    (xc1a : PySem.W.findIn K (.ref C1) "__getattribute__" = some (some (.builtin "BaseException.__getattribute__")))
    (xc1b : PySem.W.findIn K (.ref C1) "__getattr__" = some none)
    (xc1c : PySem.W.hasDictIn K C1 = true)
    (xc1d : PySem.W.findIn K (.ref C1) "__class__" = some (some (.builtin "object.__class__")))
    (xc1e : PySem.W.mroIn K C1 (.type "object") = some true)
    (xc7a : PySem.W.findIn K (.ref C7) "__getattribute__" = some (some (.builtin "BaseException.__getattribute__")))
    (xc7b : PySem.W.findIn K (.ref C7) "__getattr__" = some none)
    (xc7c : PySem.W.hasDictIn K C7 = true)
    (xc7d : PySem.W.findIn K (.ref C7) "__class__" = some (some (.builtin "object.__class__")))
    (xc7e : PySem.W.mroIn K C7 (.type "object") = some true)
    (xc8a : PySem.W.findIn K (.ref C8) "__getattribute__" = some (some (.builtin "BaseException.__getattribute__")))
    (xc8b : PySem.W.findIn K (.ref C8) "__getattr__" = some none)
    (xc8c : PySem.W.hasDictIn K C8 = true)
    (xc8d : PySem.W.findIn K (.ref C8) "__class__" = some (some (.builtin "object.__class__")))
    (xc8e : PySem.W.mroIn K C8 (.type "object") = some true)
    (xc9a : PySem.W.findIn K (.ref C9) "__getattribute__" = some (some (.builtin "BaseException.__getattribute__")))
    (xc9b : PySem.W.findIn K (.ref C9) "__getattr__" = some none)
    (xc9c : PySem.W.hasDictIn K C9 = true)
    (xc9d : PySem.W.findIn K (.ref C9) "__class__" = some (some (.builtin "object.__class__")))
    (xc9e : PySem.W.mroIn K C9 (.type "object") = some true)
    (xc10a : PySem.W.findIn K (.ref C10) "__getattribute__" = some (some (.builtin "BaseException.__getattribute__")))
    (xc10b : PySem.W.findIn K (.ref C10) "__getattr__" = some none)
    (xc10c : PySem.W.hasDictIn K C10 = true)
    (xc10d : PySem.W.findIn K (.ref C10) "__class__" = some (some (.builtin "object.__class__")))
    (xc10e : PySem.W.mroIn K C10 (.type "object") = some true)
    (xc11a : PySem.W.findIn K (.ref C11) "__getattribute__" = some (some (.builtin "BaseException.__getattribute__")))
    (xc11b : PySem.W.findIn K (.ref C11) "__getattr__" = some none)
    (xc11c : PySem.W.hasDictIn K C11 = true)
    (xc11d : PySem.W.findIn K (.ref C11) "__class__" = some (some (.builtin "object.__class__")))
    (xc11e : PySem.W.mroIn K C11 (.type "object") = some true)
    (xc12a : PySem.W.findIn K (.ref C12) "__getattribute__" = some (some (.builtin "BaseException.__getattribute__")))
    (xc12b : PySem.W.findIn K (.ref C12) "__getattr__" = some none)
    (xc12c : PySem.W.hasDictIn K C12 = true)
    (xc12d : PySem.W.findIn K (.ref C12) "__class__" = some (some (.builtin "object.__class__")))
    (xc12e : PySem.W.mroIn K C12 (.type "object") = some true)
    (xc13a : PySem.W.findIn K (.ref C13) "__getattribute__" = some (some (.builtin "BaseException.__getattribute__")))
    (xc13b : PySem.W.findIn K (.ref C13) "__getattr__" = some none)
    (xc13c : PySem.W.hasDictIn K C13 = true)
    (xc13d : PySem.W.findIn K (.ref C13) "__class__" = some (some (.builtin "object.__class__")))
    (xc13e : PySem.W.mroIn K C13 (.type "object") = some true)
    (xc14a : PySem.W.findIn K (.ref C14) "__getattribute__" = some (some (.builtin "BaseException.__getattribute__")))
    (xc14b : PySem.W.findIn K (.ref C14) "__getattr__" = some none)
    (xc14c : PySem.W.hasDictIn K C14 = true)
    (xc14d : PySem.W.findIn K (.ref C14) "__class__" = some (some (.builtin "object.__class__")))
    (xc14e : PySem.W.mroIn K C14 (.type "object") = some true)
    (xc15a : PySem.W.findIn K (.ref C15) "__getattribute__" = some (some (.builtin "BaseException.__getattribute__")))
    (xc15b : PySem.W.findIn K (.ref C15) "__getattr__" = some none)
    (xc15c : PySem.W.hasDictIn K C15 = true)
    (xc15d : PySem.W.findIn K (.ref C15) "__class__" = some (some (.builtin "object.__class__")))
    (xc15e : PySem.W.mroIn K C15 (.type "object") = some true)
    (gs1 : PySem.W.specialIn K (.builtin "object.__class__") "__get__" = some (some (.builtin "getset_descriptor.__get__")))
    (gs2 : PySem.W.takesIn K (.builtin "object.__class__") = some true)
    (kit0 : [PySem.W.kitOne K (.ref C0) (.ref C0), PySem.W.kitOne K (.ref C0) (.ref C1), PySem.W.kitOne K (.ref C0) (.ref C2), PySem.W.kitOne K (.ref C0) (.ref C3), PySem.W.kitOne K (.ref C0) (.ref C4), PySem.W.kitOne K (.ref C0) (.ref C5), PySem.W.kitOne K (.ref C0) (.ref C6), PySem.W.kitOne K (.ref C0) (.ref C7), PySem.W.kitOne K (.ref C0) (.ref C8), PySem.W.kitOne K (.ref C0) (.ref C9), PySem.W.kitOne K (.ref C0) (.ref C10), PySem.W.kitOne K (.ref C0) (.ref C11), PySem.W.kitOne K (.ref C0) (.ref C12), PySem.W.kitOne K (.ref C0) (.ref C13), PySem.W.kitOne K (.ref C0) (.ref C14), PySem.W.kitOne K (.ref C0) (.ref C15), PySem.W.kitOne K (.ref C0) (.ref C16)] = [some true, some false, some false, some false, some false, some false, some false, some false, some false, some false, some false, some false, some false, some false, some false, some false, some false])
    (kitV0 : PySem.W.kitOne K (.ref C0) (.type "ValueError") = some true)
    (kit1 : [PySem.W.kitOne K (.ref C1) (.ref C0), PySem.W.kitOne K (.ref C1) (.ref C1), PySem.W.kitOne K (.ref C1) (.ref C2), PySem.W.kitOne K (.ref C1) (.ref C3), PySem.W.kitOne K (.ref C1) (.ref C4), PySem.W.kitOne K (.ref C1) (.ref C5), PySem.W.kitOne K (.ref C1) (.ref C6), PySem.W.kitOne K (.ref C1) (.ref C7), PySem.W.kitOne K (.ref C1) (.ref C8), PySem.W.kitOne K (.ref C1) (.ref C9), PySem.W.kitOne K (.ref C1) (.ref C10), PySem.W.kitOne K (.ref C1) (.ref C11), PySem.W.kitOne K (.ref C1) (.ref C12), PySem.W.kitOne K (.ref C1) (.ref C13), PySem.W.kitOne K (.ref C1) (.ref C14), PySem.W.kitOne K (.ref C1) (.ref C15), PySem.W.kitOne K (.ref C1) (.ref C16)] = [some false, some true, some false, some false, some false, some false, some false, some false, some false, some false, some false, some false, some false, some false, some false, some false, some false])
    (kitV1 : PySem.W.kitOne K (.ref C1) (.type "ValueError") = some true)
    (kit7 : [PySem.W.kitOne K (.ref C7) (.ref C0), PySem.W.kitOne K (.ref C7) (.ref C1), PySem.W.kitOne K (.ref C7) (.ref C2), PySem.W.kitOne K (.ref C7) (.ref C3), PySem.W.kitOne K (.ref C7) (.ref C4), PySem.W.kitOne K (.ref C7) (.ref C5), PySem.W.kitOne K (.ref C7) (.ref C6), PySem.W.kitOne K (.ref C7) (.ref C7), PySem.W.kitOne K (.ref C7) (.ref C8), PySem.W.kitOne K (.ref C7) (.ref C9), PySem.W.kitOne K (.ref C7) (.ref C10), PySem.W.kitOne K (.ref C7) (.ref C11), PySem.W.kitOne K (.ref C7) (.ref C12), PySem.W.kitOne K (.ref C7) (.ref C13), PySem.W.kitOne K (.ref C7) (.ref C14), PySem.W.kitOne K (.ref C7) (.ref C15), PySem.W.kitOne K (.ref C7) (.ref C16)] = [some false, some false, some false, some false, some false, some false, some false, some true, some false, some false, some false, some false, some false, some false, some false, some false, some false])
    (kitV7 : PySem.W.kitOne K (.ref C7) (.type "ValueError") = some true)
    (kit8 : [PySem.W.kitOne K (.ref C8) (.ref C0), PySem.W.kitOne K (.ref C8) (.ref C1), PySem.W.kitOne K (.ref C8) (.ref C2), PySem.W.kitOne K (.ref C8) (.ref C3), PySem.W.kitOne K (.ref C8) (.ref C4), PySem.W.kitOne K (.ref C8) (.ref C5), PySem.W.kitOne K (.ref C8) (.ref C6), PySem.W.kitOne K (.ref C8) (.ref C7), PySem.W.kitOne K (.ref C8) (.ref C8), PySem.W.kitOne K (.ref C8) (.ref C9), PySem.W.kitOne K (.ref C8) (.ref C10), PySem.W.kitOne K (.ref C8) (.ref C11), PySem.W.kitOne K (.ref C8) (.ref C12), PySem.W.kitOne K (.ref C8) (.ref C13), PySem.W.kitOne K (.ref C8) (.ref C14), PySem.W.kitOne K (.ref C8) (.ref C15), PySem.W.kitOne K (.ref C8) (.ref C16)] = [some false, some false, some false, some false, some false, some false, some false, some false, some true, some false, some false, some false, some false, some false, some false, some false, some false])
    (kitV8 : PySem.W.kitOne K (.ref C8) (.type "ValueError") = some true)
    (kit9 : [PySem.W.kitOne K (.ref C9) (.ref C0), PySem.W.kitOne K (.ref C9) (.ref C1), PySem.W.kitOne K (.ref C9) (.ref C2), PySem.W.kitOne K (.ref C9) (.ref C3), PySem.W.kitOne K (.ref C9) (.ref C4), PySem.W.kitOne K (.ref C9) (.ref C5), PySem.W.kitOne K (.ref C9) (.ref C6), PySem.W.kitOne K (.ref C9) (.ref C7), PySem.W.kitOne K (.ref C9) (.ref C8), PySem.W.kitOne K (.ref C9) (.ref C9), PySem.W.kitOne K (.ref C9) (.ref C10), PySem.W.kitOne K (.ref C9) (.ref C11), PySem.W.kitOne K (.ref C9) (.ref C12), PySem.W.kitOne K (.ref C9) (.ref C13), PySem.W.kitOne K (.ref C9) (.ref C14), PySem.W.kitOne K (.ref C9) (.ref C15), PySem.W.kitOne K (.ref C9) (.ref C16)] = [some false, some false, some false, some false, some false, some false, some false, some false, some false, some true, some false, some false, some false, some false, some false, some false, some false])
    (kitV9 : PySem.W.kitOne K (.ref C9) (.type "ValueError") = some true)
    (kit10 : [PySem.W.kitOne K (.ref C10) (.ref C0), PySem.W.kitOne K (.ref C10) (.ref C1), PySem.W.kitOne K (.ref C10) (.ref C2), PySem.W.kitOne K (.ref C10) (.ref C3), PySem.W.kitOne K (.ref C10) (.ref C4), PySem.W.kitOne K (.ref C10) (.ref C5), PySem.W.kitOne K (.ref C10) (.ref C6), PySem.W.kitOne K (.ref C10) (.ref C7), PySem.W.kitOne K (.ref C10) (.ref C8), PySem.W.kitOne K (.ref C10) (.ref C9), PySem.W.kitOne K (.ref C10) (.ref C10), PySem.W.kitOne K (.ref C10) (.ref C11), PySem.W.kitOne K (.ref C10) (.ref C12), PySem.W.kitOne K (.ref C10) (.ref C13), PySem.W.kitOne K (.ref C10) (.ref C14), PySem.W.kitOne K (.ref C10) (.ref C15), PySem.W.kitOne K (.ref C10) (.ref C16)] = [some false, some false, some false, some false, some false, some false, some false, some false, some false, some false, some true, some false, some false, some false, some false, some false, some false])
    (kitV10 : PySem.W.kitOne K (.ref C10) (.type "ValueError") = some true)
    (kit11 : [PySem.W.kitOne K (.ref C11) (.ref C0), PySem.W.kitOne K (.ref C11) (.ref C1), PySem.W.kitOne K (.ref C11) (.ref C2), PySem.W.kitOne K (.ref C11) (.ref C3), PySem.W.kitOne K (.ref C11) (.ref C4), PySem.W.kitOne K (.ref C11) (.ref C5), PySem.W.kitOne K (.ref C11) (.ref C6), PySem.W.kitOne K (.ref C11) (.ref C7), PySem.W.kitOne K (.ref C11) (.ref C8), PySem.W.kitOne K (.ref C11) (.ref C9), PySem.W.kitOne K (.ref C11) (.ref C10), PySem.W.kitOne K (.ref C11) (.ref C11), PySem.W.kitOne K (.ref C11) (.ref C12), PySem.W.kitOne K (.ref C11) (.ref C13), PySem.W.kitOne K (.ref C11) (.ref C14), PySem.W.kitOne K (.ref C11) (.ref C15), PySem.W.kitOne K (.ref C11) (.ref C16)] = [some false, some false, some false, some false, some false, some false, some false, some false, some false, some false, some false, some true, some false, some false, some false, some false, some false])
    (kitV11 : PySem.W.kitOne K (.ref C11) (.type "ValueError") = some true)
    (kit12 : [PySem.W.kitOne K (.ref C12) (.ref C0), PySem.W.kitOne K (.ref C12) (.ref C1), PySem.W.kitOne K (.ref C12) (.ref C2), PySem.W.kitOne K (.ref C12) (.ref C3), PySem.W.kitOne K (.ref C12) (.ref C4), PySem.W.kitOne K (.ref C12) (.ref C5), PySem.W.kitOne K (.ref C12) (.ref C6), PySem.W.kitOne K (.ref C12) (.ref C7), PySem.W.kitOne K (.ref C12) (.ref C8), PySem.W.kitOne K (.ref C12) (.ref C9), PySem.W.kitOne K (.ref C12) (.ref C10), PySem.W.kitOne K (.ref C12) (.ref C11), PySem.W.kitOne K (.ref C12) (.ref C12), PySem.W.kitOne K (.ref C12) (.ref C13), PySem.W.kitOne K (.ref C12) (.ref C14), PySem.W.kitOne K (.ref C12) (.ref C15), PySem.W.kitOne K (.ref C12) (.ref C16)] = [some false, some false, some false, some false, some false, some false, some false, some false, some false, some false, some false, some false, some true, some false, some false, some false, some false])
    (kitV12 : PySem.W.kitOne K (.ref C12) (.type "ValueError") = some true)
    (kit13 : [PySem.W.kitOne K (.ref C13) (.ref C0), PySem.W.kitOne K (.ref C13) (.ref C1), PySem.W.kitOne K (.ref C13) (.ref C2), PySem.W.kitOne K (.ref C13) (.ref C3), PySem.W.kitOne K (.ref C13) (.ref C4), PySem.W.kitOne K (.ref C13) (.ref C5), PySem.W.kitOne K (.ref C13) (.ref C6), PySem.W.kitOne K (.ref C13) (.ref C7), PySem.W.kitOne K (.ref C13) (.ref C8), PySem.W.kitOne K (.ref C13) (.ref C9), PySem.W.kitOne K (.ref C13) (.ref C10), PySem.W.kitOne K (.ref C13) (.ref C11), PySem.W.kitOne K (.ref C13) (.ref C12), PySem.W.kitOne K (.ref C13) (.ref C13), PySem.W.kitOne K (.ref C13) (.ref C14), PySem.W.kitOne K (.ref C13) (.ref C15), PySem.W.kitOne K (.ref C13) (.ref C16)] = [some false, some false, some false, some false, some false, some false, some false, some false, some false, some false, some false, some false, some false, some true, some false, some false, some false])
    (kitV13 : PySem.W.kitOne K (.ref C13) (.type "ValueError") = some true)
    (kit14 : [PySem.W.kitOne K (.ref C14) (.ref C0), PySem.W.kitOne K (.ref C14) (.ref C1), PySem.W.kitOne K (.ref C14) (.ref C2), PySem.W.kitOne K (.ref C14) (.ref C3), PySem.W.kitOne K (.ref C14) (.ref C4), PySem.W.kitOne K (.ref C14) (.ref C5), PySem.W.kitOne K (.ref C14) (.ref C6), PySem.W.kitOne K (.ref C14) (.ref C7), PySem.W.kitOne K (.ref C14) (.ref C8), PySem.W.kitOne K (.ref C14) (.ref C9), PySem.W.kitOne K (.ref C14) (.ref C10), PySem.W.kitOne K (.ref C14) (.ref C11), PySem.W.kitOne K (.ref C14) (.ref C12), PySem.W.kitOne K (.ref C14) (.ref C13), PySem.W.kitOne K (.ref C14) (.ref C14), PySem.W.kitOne K (.ref C14) (.ref C15), PySem.W.kitOne K (.ref C14) (.ref C16)] = [some false, some false, some false, some false, some false, some false, some false, some false, some false, some false, some false, some false, some false, some false, some true, some false, some false])
    (kitV14 : PySem.W.kitOne K (.ref C14) (.type "ValueError") = some true)
    (kit15 : [PySem.W.kitOne K (.ref C15) (.ref C0), PySem.W.kitOne K (.ref C15) (.ref C1), PySem.W.kitOne K (.ref C15) (.ref C2), PySem.W.kitOne K (.ref C15) (.ref C3), PySem.W.kitOne K (.ref C15) (.ref C4), PySem.W.kitOne K (.ref C15) (.ref C5), PySem.W.kitOne K (.ref C15) (.ref C6), PySem.W.kitOne K (.ref C15) (.ref C7), PySem.W.kitOne K (.ref C15) (.ref C8), PySem.W.kitOne K (.ref C15) (.ref C9), PySem.W.kitOne K (.ref C15) (.ref C10), PySem.W.kitOne K (.ref C15) (.ref C11), PySem.W.kitOne K (.ref C15) (.ref C12), PySem.W.kitOne K (.ref C15) (.ref C13), PySem.W.kitOne K (.ref C15) (.ref C14), PySem.W.kitOne K (.ref C15) (.ref C15), PySem.W.kitOne K (.ref C15) (.ref C16)] = [some false, some false, some false, some false, some false, some false, some false, some false, some false, some false, some false, some false, some false, some false, some false, some true, some false])
    (kitV15 : PySem.W.kitOne K (.ref C15) (.type "ValueError") = some true)
    (te1 : PySem.W.nsIn K mainGlobals "TreeError" = some (some (.ref TE)))
    (te2_0 : PySem.W.exmOne K (.ref C0) (.ref TE) = some true)
    (te2_1 : PySem.W.exmOne K (.ref C1) (.ref TE) = some true)
    (te2_7 : PySem.W.exmOne K (.ref C7) (.ref TE) = some true)
    (te2_8 : PySem.W.exmOne K (.ref C8) (.ref TE) = some true)
    (te2_9 : PySem.W.exmOne K (.ref C9) (.ref TE) = some true)
    (te2_10 : PySem.W.exmOne K (.ref C10) (.ref TE) = some true)
    (te2_11 : PySem.W.exmOne K (.ref C11) (.ref TE) = some true)
    (te2_12 : PySem.W.exmOne K (.ref C12) (.ref TE) = some true)
    (te2_13 : PySem.W.exmOne K (.ref C13) (.ref TE) = some true)
    (te2_14 : PySem.W.exmOne K (.ref C14) (.ref TE) = some true)
    (te2_15 : PySem.W.exmOne K (.ref C15) (.ref TE) = some true)
    (tN : PySem.W.typeIn K (.ref f32) = some (.type "function"))
    (hDR : PySem.W.nsIn K mainGlobals "DRAWER" = some (some (.ref aDR)))
    (lDR : K.lookup aDR = some ⟨.type "tuple", oDR, .seq #[.str "drawer" gDR] nDR, sDR⟩)
    (nt : PySem.W.noTabs K = true)
    {dr1 : DefRec} (r1 : (recsOf q).find? (fun e => e.name == ("is_name" : Str)) = some dr1)
    {dr2 : DefRec} (r2 : (recsOf q).find? (fun e => e.name == ("is_path" : Str)) = some dr2)
    {dr3 : DefRec} (r3 : (recsOf q).find? (fun e => e.name == ("is_text" : Str)) = some dr3)
    {dr4 : DefRec} (r4 : (recsOf q).find? (fun e => e.name == ("has_drawers_above" : Str)) = some dr4)
    {dr5 : DefRec} (r5 : (recsOf q).find? (fun e => e.name == ("is_tree" : Str)) = some dr5)
    : LamX.LawAtS l w K (fun _ _ _ _ _ _ => False) 15 63 "_law_script" mg fz h := by
  have e := hfa.symm.trans (PySem.W.mg_of X G a56)
  cases e
  have TH : HT K mg CH := ⟨⟨clpg, clhd, clpo, clsa⟩, clnt, PySem.W.mg_of X G gH⟩
  obtain ⟨q1, w1⟩ := TT _ _ _ _ r1 (tab_in a0 l0 u1 i1)
  have F0 : FunC K "is_name" "is_name" sIsName f0 _ cP1 := ⟨⟨_, _, _, _, _, _, _, _, rfl, l0, c0⟩, k0⟩
  have b0 := F0.fn.binds (ps := ["thing"]) fun _ _ _ _ _ _ us hl => match us, hl with | [_], _ => rfl
  have m0 := PySem.W.mg_of X G a0
  obtain ⟨q2, w2⟩ := TT _ _ _ _ r2 (tab_in a1 l1 u2 i2)
  have F1 : FunC K "is_path" "is_path" sIsPath f1 _ cP2 := ⟨⟨_, _, _, _, _, _, _, _, rfl, l1, c1⟩, k1⟩
  have b1 := F1.fn.binds (ps := ["thing"]) fun _ _ _ _ _ _ us hl => match us, hl with | [_], _ => rfl
  have m1 := PySem.W.mg_of X G a1
  obtain ⟨q3, w3⟩ := TT _ _ _ _ r3 (tab_in a2 l2 u3 i3)
  have F2 : FunC K "is_text" "is_text" sIsText f2 _ cP3 := ⟨⟨_, _, _, _, _, _, _, _, rfl, l2, c2⟩, k2⟩
  have b2 := F2.fn.binds (ps := ["thing"]) fun _ _ _ _ _ _ us hl => match us, hl with | [_], _ => rfl
  have m2 := PySem.W.mg_of X G a2
  obtain ⟨q4, w4⟩ := TT _ _ _ _ r4 (tab_in a3 l3 u4 i4)
  have F3 : FunC K "has_drawers_above" "has_drawers_above" sHasDrawers f3 _ cP4 := ⟨⟨_, _, _, _, _, _, _, _, rfl, l3, c3⟩, k3⟩
  have b3 := F3.fn.binds (ps := ["tree"]) fun _ _ _ _ _ _ us hl => match us, hl with | [_], _ => rfl
  have m3 := PySem.W.mg_of X G a3
  obtain ⟨q5, w5⟩ := TT _ _ _ _ r5 (tab_in a4 l4 u5 i5)
  have F4 : FunC K "is_tree" "is_tree" sIsTree f4 _ cP5 := ⟨⟨_, _, _, _, _, _, _, _, rfl, l4, c4⟩, k4⟩
  have b4 := F4.fn.binds (ps := ["thing"]) fun _ _ _ _ _ _ us hl => match us, hl with | [_], _ => rfl
  have m4 := PySem.W.mg_of X G a4
  have q9 := PySem.W.codeHd_of_K X ch9
  have w9 := tm9
  have F5 : FunC K "remove" "House.remove" mRemove f5 _ cP9 := ⟨⟨_, _, _, _, _, _, _, _, rfl, l5, c5⟩, k5⟩
  have b5 := F5.fn.binds (ps := ["self", "path"]) fun _ _ _ _ _ _ us hl => match us, hl with | [_, _], _ => rfl
  have m5 : Meth K CH "remove" f5 := ⟨a5, fn5, k5⟩
  have q10 := PySem.W.codeHd_of_K X ch10
  have w10 := tm10
  have F6 : FunC K "move" "House.move" mMove f6 _ cP10 := ⟨⟨_, _, _, _, _, _, _, _, rfl, l6, c6⟩, k6⟩
  have b6 := F6.fn.binds (ps := ["self", "old", "new"]) fun _ _ _ _ _ _ us hl => match us, hl with | [_, _, _], _ => rfl
  have m6 : Meth K CH "move" f6 := ⟨a6, fn6, k6⟩
  have F7 := fun_mk (st := sCheckPath) l7 c7 k7
  have b7 := F7.binds (ps := ["thing"]) fun _ _ _ _ _ _ us hl => match us, hl with | [_], _ => rfl
  have m7 := PySem.W.mg_of X G a7
  have F8 := fun_mk (st := sCheckText) l8 c8 k8
  have b8 := F8.binds (ps := ["thing"]) fun _ _ _ _ _ _ us hl => match us, hl with | [_], _ => rfl
  have m8 := PySem.W.mg_of X G a8
  have F9 := fun_mk (st := sAbove) l9 c9 k9
  have b9 := F9.binds (ps := ["path"]) fun _ _ _ _ _ _ us hl => match us, hl with | [_], _ => rfl
  have m9 := PySem.W.mg_of X G a9
  have F10 := fun_mk (st := sBegins) l10 c10 k10
  have b10 := F10.binds (ps := ["path", "other"]) fun _ _ _ _ _ _ us hl => match us, hl with | [_, _], _ => rfl
  have m10 := PySem.W.mg_of X G a10
  have F11 := fun_mk (st := sWithin) l11 c11 k11
  have b11 := F11.binds (ps := ["path", "other"]) fun _ _ _ _ _ _ us hl => match us, hl with | [_, _], _ => rfl
  have m11 := PySem.W.mg_of X G a11
  have F12 := fun_mk (st := sIsNumber) l12 c12 k12
  have b12 := F12.binds (ps := ["thing"]) fun _ _ _ _ _ _ us hl => match us, hl with | [_], _ => rfl
  have m12 := PySem.W.mg_of X G a12
  have F13 := fun_mk (st := sIsKind) l13 c13 k13
  have b13 := F13.binds (ps := ["thing", "word", "many"]) fun _ _ _ _ _ _ us hl => match us, hl with | [_, _, _], _ => rfl
  have m13 := PySem.W.mg_of X G a13
  have F14 := fun_mk (st := sIsDrawer) l14 c14 k14
  have b14 := F14.binds (ps := ["thing"]) fun _ _ _ _ _ _ us hl => match us, hl with | [_], _ => rfl
  have m14 := PySem.W.mg_of X G a14
  have F15 := fun_mk (st := sIsFile) l15 c15 k15
  have b15 := F15.binds (ps := ["thing"]) fun _ _ _ _ _ _ us hl => match us, hl with | [_], _ => rfl
  have m15 := PySem.W.mg_of X G a15
  have F16 := fun_mk (st := sHasOneText) l16 c16 k16
  have b16 := F16.binds (ps := ["things"]) fun _ _ _ _ _ _ us hl => match us, hl with | [_], _ => rfl
  have m16 := PySem.W.mg_of X G a16
  have F17 := fun_mk (st := sCheckTree) l17 c17 k17
  have b17 := F17.binds (ps := ["thing"]) fun _ _ _ _ _ _ us hl => match us, hl with | [_], _ => rfl
  have m17 := PySem.W.mg_of X G a17
  have F18 := fun_mk (st := sRenumbered) l18 c18 k18
  have b18 := F18.binds (ps := ["tree"]) fun _ _ _ _ _ _ us hl => match us, hl with | [_], _ => rfl
  have m18 := PySem.W.mg_of X G a18
  have F19 := fun_mk (st := sPlain) l19 c19 k19
  have b19 := F19.binds (ps := ["tree"]) fun _ _ _ _ _ _ us hl => match us, hl with | [_], _ => rfl
  have m19 := PySem.W.mg_of X G a19
  have F20 := fun_mk (st := sNotRoot) l20 c20 k20
  have b20 := F20.binds (ps := ["path"]) fun _ _ _ _ _ _ us hl => match us, hl with | [_], _ => rfl
  have m20 := PySem.W.mg_of X G a20
  have F21 := fun_mk (st := sMoved) l21 c21 k21
  have b21 := F21.binds (ps := ["path", "old", "new"]) fun _ _ _ _ _ _ us hl => match us, hl with | [_, _, _], _ => rfl
  have m21 := PySem.W.mg_of X G a21
  have F22 : FunD K "__init__" "House.__init__" (defArgs mInit) (defBody mInit) (defScope mInit) [.non] [] f22 _ := ⟨⟨_, _, _, _, _, _, _, _, _, _, rfl, l22, c22, Or.inr ⟨by simp, aDF, _, [.none], nDF, rfl, df, rfl, .cons rfl .nil⟩, Or.inl rfl⟩, k22⟩
  obtain ⟨ds22, hv22, b22⟩ := F22.binds1 (ps := ["self", "tree"]) 2 1 (by simp) rfl (fun T kV doc pm an cdv ct us its h1 h2 => match us, its, h1, h2 with
      | [_, _], [_], _, _ => ⟨_, rfl, rfl⟩)
  have hv22 : Vals [] ds22 := hv22
  cases hv22
  obtain ⟨dsD22, hvD22, bD22⟩ := F22.binds1 (ps := ["self", "tree"]) 1 0 (by simp) rfl (fun T kV doc pm an cdv ct us its h1 h2 => match us, its, h1, h2 with
      | [_], [_], _, _ => ⟨_, rfl, rfl⟩)
  have m22 : Meth K CH "__init__" f22 := ⟨a22, fn22, k22⟩
  have F23 := fun_mk (st := mMake) l23 c23 k23
  have b23 := F23.binds (ps := ["self", "path"]) fun _ _ _ _ _ _ us hl => match us, hl with | [_, _], _ => rfl
  have m23 : Meth K CH "make" f23 := ⟨a23, fn23, k23⟩
  have F24 := fun_mk (st := mWrite) l24 c24 k24
  have m24 : Meth K CH "write" f24 := ⟨a24, fn24, k24⟩
  have F25 := fun_mk (st := mAdd) l25 c25 k25
  have m25 : Meth K CH "add" f25 := ⟨a25, fn25, k25⟩
  have F26 := fun_mk (st := mClear) l26 c26 k26
  have b26 := F26.binds (ps := ["self", "path"]) fun _ _ _ _ _ _ us hl => match us, hl with | [_, _], _ => rfl
  have m26 : Meth K CH "clear" f26 := ⟨a26, fn26, k26⟩
  have F27 := fun_mk (st := mTie) l27 c27 k27
  have b27 := F27.binds (ps := ["self", "old", "new"]) fun _ _ _ _ _ _ us hl => match us, hl with | [_, _, _], _ => rfl
  have m27 : Meth K CH "tie" f27 := ⟨a27, fn27, k27⟩
  have F28 := fun_mk (st := mKind) l28 c28 k28
  have b28 := F28.binds (ps := ["self", "path"]) fun _ _ _ _ _ _ us hl => match us, hl with | [_, _], _ => rfl
  have m28 : Meth K CH "kind" f28 := ⟨a28, fn28, k28⟩
  have F29 := fun_mk (st := mRead) l29 c29 k29
  have b29 := F29.binds (ps := ["self", "path"]) fun _ _ _ _ _ _ us hl => match us, hl with | [_, _], _ => rfl
  have m29 : Meth K CH "read" f29 := ⟨a29, fn29, k29⟩
  have F30 := fun_mk (st := mTied) l30 c30 k30
  have b30 := F30.binds (ps := ["self", "path"]) fun _ _ _ _ _ _ us hl => match us, hl with | [_, _], _ => rfl
  have m30 : Meth K CH "tied" f30 := ⟨a30, fn30, k30⟩
  have F31 := fun_mk (st := mTree) l31 c31 k31
  have b31 := F31.binds (ps := ["self"]) fun _ _ _ _ _ _ us hl => match us, hl with | [_], _ => rfl
  have m31 : Meth K CH "tree" f31 := ⟨a31, fn31, k31⟩
  have F32 := fun_mk (st := mLen) l32 c32 k32
  have b32 := F32.binds (ps := ["self"]) fun _ _ _ _ _ _ us hl => match us, hl with | [_], _ => rfl
  have m32 : Meth K CH "__len__" f32 := ⟨a32, fn32, k32⟩
  have F33 := fun_mk (st := mThere) l33 c33 k33
  have b33 := F33.binds (ps := ["self", "path"]) fun _ _ _ _ _ _ us hl => match us, hl with | [_, _], _ => rfl
  have m33 : Meth K CH "_check_there" f33 := ⟨a33, fn33, k33⟩
  have F34 := fun_mk (st := mAboveOk) l34 c34 k34
  have b34 := F34.binds (ps := ["self", "path"]) fun _ _ _ _ _ _ us hl => match us, hl with | [_, _], _ => rfl
  have m34 : Meth K CH "_check_above" f34 := ⟨a34, fn34, k34⟩
  have F35 := fun_mk (st := mPlace) l35 c35 k35
  have b35 := F35.binds (ps := ["self", "path"]) fun _ _ _ _ _ _ us hl => match us, hl with | [_, _], _ => rfl
  have m35 : Meth K CH "_check_place" f35 := ⟨a35, fn35, k35⟩
  have F36 := fun_mk (st := mRoom) l36 c36 k36
  have b36 := F36.binds (ps := ["self"]) fun _ _ _ _ _ _ us hl => match us, hl with | [_], _ => rfl
  have m36 : Meth K CH "_check_room" f36 := ⟨a36, fn36, k36⟩
  have F37 := fun_mk (st := mFileAt) l37 c37 k37
  have b37 := F37.binds (ps := ["self", "path"]) fun _ _ _ _ _ _ us hl => match us, hl with | [_, _], _ => rfl
  have m37 : Meth K CH "_file_at" f37 := ⟨a37, fn37, k37⟩
  have F38 := fun_mk (st := mPut) l38 c38 k38
  have b38 := F38.binds (ps := ["self", "path", "thing"]) fun _ _ _ _ _ _ us hl => match us, hl with | [_, _, _], _ => rfl
  have m38 : Meth K CH "_put" f38 := ⟨a38, fn38, k38⟩
  have F39 := fun_mk (st := mGive) l39 c39 k39
  have b39 := F39.binds (ps := ["self", "path", "text"]) fun _ _ _ _ _ _ us hl => match us, hl with | [_, _, _], _ => rfl
  have m39 : Meth K CH "_give" f39 := ⟨a39, fn39, k39⟩
  have F40 := fun_mk (st := mTakeAway) l40 c40 k40
  have b40 := F40.binds (ps := ["self", "path"]) fun _ _ _ _ _ _ us hl => match us, hl with | [_, _], _ => rfl
  have m40 : Meth K CH "_take_away" f40 := ⟨a40, fn40, k40⟩
  have F41 := fun_mk (st := sDraw) l41 c41 k41
  have b41 := F41.binds (ps := ["_law_script", "_law_town", "_law_many"]) fun _ _ _ _ _ _ us hl => match us, hl with | [_, _, _], _ => rfl
  have m41 := PySem.W.mg_of X G a41
  have F42 := fun_mk (st := sPick) l42 c42 k42
  have b42 := F42.binds (ps := ["_law_script", "_law_town", "_law_some"]) fun _ _ _ _ _ _ us hl => match us, hl with | [_, _, _], _ => rfl
  have m42 := PySem.W.mg_of X G a42
  have F43 := fun_mk (st := sWhich) l43 c43 k43
  have b43 := F43.binds (ps := ["_law_e"]) fun _ _ _ _ _ _ us hl => match us, hl with | [_], _ => rfl
  have m43 := PySem.W.mg_of X G a43
  have F44 := fun_mk (st := sDo) l44 c44 k44
  have b44 := F44.binds (ps := ["_law_house", "_law_deed"]) fun _ _ _ _ _ _ us hl => match us, hl with | [_, _], _ => rfl
  have m44 := PySem.W.mg_of X G a44
  have F45 := fun_mk (st := sNamesIn) l45 c45 k45
  have b45 := F45.binds (ps := ["tree", "path"]) fun _ _ _ _ _ _ us hl => match us, hl with | [_, _], _ => rfl
  have m45 := PySem.W.mg_of X G a45
  have F46 := fun_mk (st := mListed) l46 c46 k46
  have b46 := F46.binds (ps := ["self", "path"]) fun _ _ _ _ _ _ us hl => match us, hl with | [_, _], _ => rfl
  have m46 : Meth K CH "listed" f46 := ⟨a46, fn46, k46⟩
  have F47 := fun_mk (st := sLetter) l47 c47 k47
  have b47 := F47.binds (ps := ["_law_script", "_law_town"]) fun _ _ _ _ _ _ us hl => match us, hl with | [_, _], _ => rfl
  have m47 := PySem.W.mg_of X G a47
  have F48 := fun_mk (st := sText) l48 c48 k48
  have b48 := F48.binds (ps := ["_law_script", "_law_town"]) fun _ _ _ _ _ _ us hl => match us, hl with | [_, _], _ => rfl
  have m48 := PySem.W.mg_of X G a48
  have F49 := fun_mk (st := sTree) l49 c49 k49
  have b49 := F49.binds (ps := ["_law_script", "_law_town", "_law_many"]) fun _ _ _ _ _ _ us hl => match us, hl with | [_, _, _], _ => rfl
  have m49 := PySem.W.mg_of X G a49
  have F50 := fun_mk (st := sGroup) l50 c50 k50
  have b50 := F50.binds (ps := ["_law_tree_here", "_law_path_here"]) fun _ _ _ _ _ _ us hl => match us, hl with | [_, _], _ => rfl
  have m50 := PySem.W.mg_of X G a50
  have F51 := fun_mk (st := sLPlain) l51 c51 k51
  have b51 := F51.binds (ps := ["_law_tree_here"]) fun _ _ _ _ _ _ us hl => match us, hl with | [_], _ => rfl
  have m51 := PySem.W.mg_of X G a51
  have F52 := fun_mk (st := sLPath) l52 c52 k52
  have b52 := F52.binds (ps := ["_law_script", "_law_town", "_law_tree_here"]) fun _ _ _ _ _ _ us hl => match us, hl with | [_, _, _], _ => rfl
  have m52 := PySem.W.mg_of X G a52
  have F53 := fun_mk (st := sChosen) l53 c53 k53
  have b53 := F53.binds (ps := ["_law_script", "_law_town", "_law_tree_here"]) fun _ _ _ _ _ _ us hl => match us, hl with | [_, _, _], _ => rfl
  have m53 := PySem.W.mg_of X G a53
  have F54 := fun_mk (st := sView) l54 c54 k54
  have b54 := F54.binds (ps := ["_law_house", "_law_what", "_law_path_here"]) fun _ _ _ _ _ _ us hl => match us, hl with | [_, _, _], _ => rfl
  have m54 := PySem.W.mg_of X G a54
  have F55 := fun_mk (st := sViewsRight) l55 c55 k55
  have b55 := F55.binds (ps := ["_law_house", "_law_tree_here", "_law_paths"]) fun _ _ _ _ _ _ us hl => match us, hl with | [_, _, _], _ => rfl
  have m55 := PySem.W.mg_of X G a55
  have F56 := fun_mk (st := sLaw) l56 c56 k56
  have b56 := F56.binds (ps := ["_law_script"]) fun _ _ _ _ _ _ us hl => match us, hl with | [_], _ => rfl
  have m56 := PySem.W.mg_of X G a56
  have MKH : Mk K CH f22 := ⟨clmk, a22, fn22, clkp⟩
  have n_isinstance := PySem.W.mg_none_of X G z_isinstance
  have n_str := PySem.W.mg_none_of X G z_str
  have n_tuple := PySem.W.mg_none_of X G z_tuple
  have n_len := PySem.W.mg_none_of X G z_len
  have n_all := PySem.W.mg_none_of X G z_all
  have n_any := PySem.W.mg_none_of X G z_any
  have n_range := PySem.W.mg_none_of X G z_range
  have n_int := PySem.W.mg_none_of X G z_int
  have n_bool := PySem.W.mg_none_of X G z_bool
  have n_dict := PySem.W.mg_none_of X G z_dict
  have n_list := PySem.W.mg_none_of X G z_list
  have n_sorted := PySem.W.mg_none_of X G z_sorted
  have n_ValueError := PySem.W.mg_none_of X G z_ValueError
  have v_LETTERS := PySem.W.mg_of X G h_LETTERS
  have v_MOST_LETTERS := PySem.W.mg_of X G h_MOST_LETTERS
  have v_MOST_NAMES := PySem.W.mg_of X G h_MOST_NAMES
  have v_SIGNS := PySem.W.mg_of X G h_SIGNS
  have v_MOST_SIGNS := PySem.W.mg_of X G h_MOST_SIGNS
  have v_MOST_PATHS := PySem.W.mg_of X G h_MOST_PATHS
  have v_LAST_NUMBER := PySem.W.mg_of X G h_LAST_NUMBER
  have R0 : Ref K mg "NoPath" C0 := ⟨PySem.W.mg_of X G r01, r02, r03, r04, r05⟩
  have R1 : Ref K mg "NoText" C1 := ⟨PySem.W.mg_of X G r11, r12, r13, r14, r15⟩
  have R2 : Ref K mg "NoTree" C2 := ⟨PySem.W.mg_of X G r21, r22, r23, r24, r25⟩
  have R7 : Ref K mg "Root" C7 := ⟨PySem.W.mg_of X G r71, r72, r73, r74, r75⟩
  have R8 : Ref K mg "NotThere" C8 := ⟨PySem.W.mg_of X G r81, r82, r83, r84, r85⟩
  have R9 : Ref K mg "NoDrawer" C9 := ⟨PySem.W.mg_of X G r91, r92, r93, r94, r95⟩
  have R10 : Ref K mg "IsDrawer" C10 := ⟨PySem.W.mg_of X G r101, r102, r103, r104, r105⟩
  have R11 : Ref K mg "Taken" C11 := ⟨PySem.W.mg_of X G r111, r112, r113, r114, r115⟩
  have R12 : Ref K mg "NotEmpty" C12 := ⟨PySem.W.mg_of X G r121, r122, r123, r124, r125⟩
  have R13 : Ref K mg "Within" C13 := ⟨PySem.W.mg_of X G r131, r132, r133, r134, r135⟩
  have R14 : Ref K mg "TooLong" C14 := ⟨PySem.W.mg_of X G r141, r142, r143, r144, r145⟩
  have R15 : Ref K mg "Full" C15 := ⟨PySem.W.mg_of X G r151, r152, r153, r154, r155⟩
  refine ⟨PySem.W.fnOf "law" "law" (defArgs sLaw) (defBody sLaw) (defScope sLaw) .none kV56 dc56 pm56 an56 cd56 ct56, [(cP1, P1), (cP2, P2), (cP3, P3), (cP4, P4), (cP5, P5), (cP9, P9), (cP10, P10)], spLawW K P1 P2 P3 P4 P5 P9 P10, ?_, ?_, ?_, fun s v => .of_eq rfl, ?_, ?_⟩
  · intro p hp
    simp only [List.mem_cons, List.not_mem_nil, or_false] at hp
    rcases hp with rfl | rfl | rfl | rfl | rfl | rfl | rfl
    · exact w1
    · exact w2
    · exact w3
    · exact w4
    · exact w5
    · exact w9
    · exact w10
  · intro p hp
    simp only [List.mem_cons, List.not_mem_nil, or_false] at hp
    rcases hp with rfl | rfl | rfl | rfl | rfl | rfl | rfl
    · exact noTab X nt w1
    · exact noTab X nt w2
    · exact noTab X nt w3
    · exact noTab X nt w4
    · exact noTab X nt w5
    · exact noTab X nt w9
    · exact noTab X nt w10
  · intro p hp
    simp only [List.mem_cons, List.not_mem_nil, or_false] at hp
    rcases hp with rfl | rfl | rfl | rfl | rfl | rfl | rfl
    · exact q1
    · exact q2
    · exact q3
    · exact q4
    · exact q5
    · exact q9
    · exact q10
  · intro H a ns hl _ hH hS
    exact ⟨a, ns, rfl, hS, hl, ⟨#[], hH (cP1, P1) (by simp), trivial⟩, ⟨#[], hH (cP2, P2) (by simp), trivial⟩, ⟨#[], hH (cP3, P3) (by simp), trivial⟩, ⟨#[], hH (cP4, P4) (by simp), trivial⟩, ⟨#[], hH (cP5, P5) (by simp), trivial⟩, ⟨#[], hH (cP9, P9) (by simp), trivial⟩, ⟨#[], hH (cP10, P10) (by simp), trivial⟩, fun _ => rfl⟩
  · intro base _ _ hTB
    have TB1 := hTB (cP1, P1) (by simp)
    have TB2 := hTB (cP2, P2) (by simp)
    have TB3 := hTB (cP3, P3) (by simp)
    have TB4 := hTB (cP4, P4) (by simp)
    have TB5 := hTB (cP5, P5) (by simp)
    have TB9 := hTB (cP9, P9) (by simp)
    have TB10 := hTB (cP10, P10) (by simp)
    have M : Mg mg := ⟨n_isinstance, n_str, n_tuple, n_len, n_all, n_range, ⟨_, v_LETTERS⟩, ⟨_, v_MOST_LETTERS⟩, ⟨_, v_MOST_NAMES⟩⟩
    have MT : MgT mg := ⟨⟨_, v_SIGNS⟩, ⟨_, v_MOST_SIGNS⟩⟩
    have MR : MgR mg := ⟨n_int, n_bool, n_dict, n_list, ⟨_, v_LAST_NUMBER⟩, ⟨_, v_MOST_PATHS⟩⟩
    have SD : Cst K mg "DRAWER" [.str "drawer"] aDR := ⟨PySem.W.mg_of X G hDR, fun H => Or.inr ⟨_, _, _, lDR, rfl, rfl, (by show 1 ≤ sizeLine; decide), .cons ⟨_, rfl⟩ .nil⟩⟩
    have W0 : Wh K mg C0 0 := by
      refine ⟨⟨xc0a, xc0b, r04, xc0c, xc0d, gs1, gs2, xc0e⟩, by decide, fun j x hj => ?_, kitV0⟩
      have hj17 : j < 17 := (List.getElem?_eq_some_iff.mp hj).1
      match j, hj17, hj with
      | 0, _, hj => exact (Option.some.inj hj) ▸ ⟨C0, PySem.W.mg_of X G r01, by have := congrArg (fun l : List (Option Bool) => l[0]?) kit0; exact Option.some.inj this⟩
      | 1, _, hj => exact (Option.some.inj hj) ▸ ⟨C1, PySem.W.mg_of X G r11, by have := congrArg (fun l : List (Option Bool) => l[1]?) kit0; exact Option.some.inj this⟩
      | 2, _, hj => exact (Option.some.inj hj) ▸ ⟨C2, PySem.W.mg_of X G r21, by have := congrArg (fun l : List (Option Bool) => l[2]?) kit0; exact Option.some.inj this⟩
      | 3, _, hj => exact (Option.some.inj hj) ▸ ⟨C3, PySem.W.mg_of X G x_NoLayer, by have := congrArg (fun l : List (Option Bool) => l[3]?) kit0; exact Option.some.inj this⟩
      | 4, _, hj => exact (Option.some.inj hj) ▸ ⟨C4, PySem.W.mg_of X G x_NoStack, by have := congrArg (fun l : List (Option Bool) => l[4]?) kit0; exact Option.some.inj this⟩
      | 5, _, hj => exact (Option.some.inj hj) ▸ ⟨C5, PySem.W.mg_of X G x_NoHandle, by have := congrArg (fun l : List (Option Bool) => l[5]?) kit0; exact Option.some.inj this⟩
      | 6, _, hj => exact (Option.some.inj hj) ▸ ⟨C6, PySem.W.mg_of X G x_NoPower, by have := congrArg (fun l : List (Option Bool) => l[6]?) kit0; exact Option.some.inj this⟩
      | 7, _, hj => exact (Option.some.inj hj) ▸ ⟨C7, PySem.W.mg_of X G r71, by have := congrArg (fun l : List (Option Bool) => l[7]?) kit0; exact Option.some.inj this⟩
      | 8, _, hj => exact (Option.some.inj hj) ▸ ⟨C8, PySem.W.mg_of X G r81, by have := congrArg (fun l : List (Option Bool) => l[8]?) kit0; exact Option.some.inj this⟩
      | 9, _, hj => exact (Option.some.inj hj) ▸ ⟨C9, PySem.W.mg_of X G r91, by have := congrArg (fun l : List (Option Bool) => l[9]?) kit0; exact Option.some.inj this⟩
      | 10, _, hj => exact (Option.some.inj hj) ▸ ⟨C10, PySem.W.mg_of X G r101, by have := congrArg (fun l : List (Option Bool) => l[10]?) kit0; exact Option.some.inj this⟩
      | 11, _, hj => exact (Option.some.inj hj) ▸ ⟨C11, PySem.W.mg_of X G r111, by have := congrArg (fun l : List (Option Bool) => l[11]?) kit0; exact Option.some.inj this⟩
      | 12, _, hj => exact (Option.some.inj hj) ▸ ⟨C12, PySem.W.mg_of X G r121, by have := congrArg (fun l : List (Option Bool) => l[12]?) kit0; exact Option.some.inj this⟩
      | 13, _, hj => exact (Option.some.inj hj) ▸ ⟨C13, PySem.W.mg_of X G r131, by have := congrArg (fun l : List (Option Bool) => l[13]?) kit0; exact Option.some.inj this⟩
      | 14, _, hj => exact (Option.some.inj hj) ▸ ⟨C14, PySem.W.mg_of X G r141, by have := congrArg (fun l : List (Option Bool) => l[14]?) kit0; exact Option.some.inj this⟩
      | 15, _, hj => exact (Option.some.inj hj) ▸ ⟨C15, PySem.W.mg_of X G r151, by have := congrArg (fun l : List (Option Bool) => l[15]?) kit0; exact Option.some.inj this⟩
      | 16, _, hj => exact (Option.some.inj hj) ▸ ⟨C16, PySem.W.mg_of X G x_Dark, by have := congrArg (fun l : List (Option Bool) => l[16]?) kit0; exact Option.some.inj this⟩
    have W1 : Wh K mg C1 1 := by
      refine ⟨⟨xc1a, xc1b, r14, xc1c, xc1d, gs1, gs2, xc1e⟩, by decide, fun j x hj => ?_, kitV1⟩
      have hj17 : j < 17 := (List.getElem?_eq_some_iff.mp hj).1
      match j, hj17, hj with
      | 0, _, hj => exact (Option.some.inj hj) ▸ ⟨C0, PySem.W.mg_of X G r01, by have := congrArg (fun l : List (Option Bool) => l[0]?) kit1; exact Option.some.inj this⟩
      | 1, _, hj => exact (Option.some.inj hj) ▸ ⟨C1, PySem.W.mg_of X G r11, by have := congrArg (fun l : List (Option Bool) => l[1]?) kit1; exact Option.some.inj this⟩
      | 2, _, hj => exact (Option.some.inj hj) ▸ ⟨C2, PySem.W.mg_of X G r21, by have := congrArg (fun l : List (Option Bool) => l[2]?) kit1; exact Option.some.inj this⟩
      | 3, _, hj => exact (Option.some.inj hj) ▸ ⟨C3, PySem.W.mg_of X G x_NoLayer, by have := congrArg (fun l : List (Option Bool) => l[3]?) kit1; exact Option.some.inj this⟩
      | 4, _, hj => exact (Option.some.inj hj) ▸ ⟨C4, PySem.W.mg_of X G x_NoStack, by have := congrArg (fun l : List (Option Bool) => l[4]?) kit1; exact Option.some.inj this⟩
      | 5, _, hj => exact (Option.some.inj hj) ▸ ⟨C5, PySem.W.mg_of X G x_NoHandle, by have := congrArg (fun l : List (Option Bool) => l[5]?) kit1; exact Option.some.inj this⟩
      | 6, _, hj => exact (Option.some.inj hj) ▸ ⟨C6, PySem.W.mg_of X G x_NoPower, by have := congrArg (fun l : List (Option Bool) => l[6]?) kit1; exact Option.some.inj this⟩
      | 7, _, hj => exact (Option.some.inj hj) ▸ ⟨C7, PySem.W.mg_of X G r71, by have := congrArg (fun l : List (Option Bool) => l[7]?) kit1; exact Option.some.inj this⟩
      | 8, _, hj => exact (Option.some.inj hj) ▸ ⟨C8, PySem.W.mg_of X G r81, by have := congrArg (fun l : List (Option Bool) => l[8]?) kit1; exact Option.some.inj this⟩
      | 9, _, hj => exact (Option.some.inj hj) ▸ ⟨C9, PySem.W.mg_of X G r91, by have := congrArg (fun l : List (Option Bool) => l[9]?) kit1; exact Option.some.inj this⟩
      | 10, _, hj => exact (Option.some.inj hj) ▸ ⟨C10, PySem.W.mg_of X G r101, by have := congrArg (fun l : List (Option Bool) => l[10]?) kit1; exact Option.some.inj this⟩
      | 11, _, hj => exact (Option.some.inj hj) ▸ ⟨C11, PySem.W.mg_of X G r111, by have := congrArg (fun l : List (Option Bool) => l[11]?) kit1; exact Option.some.inj this⟩
      | 12, _, hj => exact (Option.some.inj hj) ▸ ⟨C12, PySem.W.mg_of X G r121, by have := congrArg (fun l : List (Option Bool) => l[12]?) kit1; exact Option.some.inj this⟩
      | 13, _, hj => exact (Option.some.inj hj) ▸ ⟨C13, PySem.W.mg_of X G r131, by have := congrArg (fun l : List (Option Bool) => l[13]?) kit1; exact Option.some.inj this⟩
      | 14, _, hj => exact (Option.some.inj hj) ▸ ⟨C14, PySem.W.mg_of X G r141, by have := congrArg (fun l : List (Option Bool) => l[14]?) kit1; exact Option.some.inj this⟩
      | 15, _, hj => exact (Option.some.inj hj) ▸ ⟨C15, PySem.W.mg_of X G r151, by have := congrArg (fun l : List (Option Bool) => l[15]?) kit1; exact Option.some.inj this⟩
      | 16, _, hj => exact (Option.some.inj hj) ▸ ⟨C16, PySem.W.mg_of X G x_Dark, by have := congrArg (fun l : List (Option Bool) => l[16]?) kit1; exact Option.some.inj this⟩
    have W7 : Wh K mg C7 7 := by
      refine ⟨⟨xc7a, xc7b, r74, xc7c, xc7d, gs1, gs2, xc7e⟩, by decide, fun j x hj => ?_, kitV7⟩
      have hj17 : j < 17 := (List.getElem?_eq_some_iff.mp hj).1
      match j, hj17, hj with
      | 0, _, hj => exact (Option.some.inj hj) ▸ ⟨C0, PySem.W.mg_of X G r01, by have := congrArg (fun l : List (Option Bool) => l[0]?) kit7; exact Option.some.inj this⟩
      | 1, _, hj => exact (Option.some.inj hj) ▸ ⟨C1, PySem.W.mg_of X G r11, by have := congrArg (fun l : List (Option Bool) => l[1]?) kit7; exact Option.some.inj this⟩
      | 2, _, hj => exact (Option.some.inj hj) ▸ ⟨C2, PySem.W.mg_of X G r21, by have := congrArg (fun l : List (Option Bool) => l[2]?) kit7; exact Option.some.inj this⟩
      | 3, _, hj => exact (Option.some.inj hj) ▸ ⟨C3, PySem.W.mg_of X G x_NoLayer, by have := congrArg (fun l : List (Option Bool) => l[3]?) kit7; exact Option.some.inj this⟩
      | 4, _, hj => exact (Option.some.inj hj) ▸ ⟨C4, PySem.W.mg_of X G x_NoStack, by have := congrArg (fun l : List (Option Bool) => l[4]?) kit7; exact Option.some.inj this⟩
      | 5, _, hj => exact (Option.some.inj hj) ▸ ⟨C5, PySem.W.mg_of X G x_NoHandle, by have := congrArg (fun l : List (Option Bool) => l[5]?) kit7; exact Option.some.inj this⟩
      | 6, _, hj => exact (Option.some.inj hj) ▸ ⟨C6, PySem.W.mg_of X G x_NoPower, by have := congrArg (fun l : List (Option Bool) => l[6]?) kit7; exact Option.some.inj this⟩
      | 7, _, hj => exact (Option.some.inj hj) ▸ ⟨C7, PySem.W.mg_of X G r71, by have := congrArg (fun l : List (Option Bool) => l[7]?) kit7; exact Option.some.inj this⟩
      | 8, _, hj => exact (Option.some.inj hj) ▸ ⟨C8, PySem.W.mg_of X G r81, by have := congrArg (fun l : List (Option Bool) => l[8]?) kit7; exact Option.some.inj this⟩
      | 9, _, hj => exact (Option.some.inj hj) ▸ ⟨C9, PySem.W.mg_of X G r91, by have := congrArg (fun l : List (Option Bool) => l[9]?) kit7; exact Option.some.inj this⟩
      | 10, _, hj => exact (Option.some.inj hj) ▸ ⟨C10, PySem.W.mg_of X G r101, by have := congrArg (fun l : List (Option Bool) => l[10]?) kit7; exact Option.some.inj this⟩
      | 11, _, hj => exact (Option.some.inj hj) ▸ ⟨C11, PySem.W.mg_of X G r111, by have := congrArg (fun l : List (Option Bool) => l[11]?) kit7; exact Option.some.inj this⟩
      | 12, _, hj => exact (Option.some.inj hj) ▸ ⟨C12, PySem.W.mg_of X G r121, by have := congrArg (fun l : List (Option Bool) => l[12]?) kit7; exact Option.some.inj this⟩
      | 13, _, hj => exact (Option.some.inj hj) ▸ ⟨C13, PySem.W.mg_of X G r131, by have := congrArg (fun l : List (Option Bool) => l[13]?) kit7; exact Option.some.inj this⟩
      | 14, _, hj => exact (Option.some.inj hj) ▸ ⟨C14, PySem.W.mg_of X G r141, by have := congrArg (fun l : List (Option Bool) => l[14]?) kit7; exact Option.some.inj this⟩
      | 15, _, hj => exact (Option.some.inj hj) ▸ ⟨C15, PySem.W.mg_of X G r151, by have := congrArg (fun l : List (Option Bool) => l[15]?) kit7; exact Option.some.inj this⟩
      | 16, _, hj => exact (Option.some.inj hj) ▸ ⟨C16, PySem.W.mg_of X G x_Dark, by have := congrArg (fun l : List (Option Bool) => l[16]?) kit7; exact Option.some.inj this⟩
    have W8 : Wh K mg C8 8 := by
      refine ⟨⟨xc8a, xc8b, r84, xc8c, xc8d, gs1, gs2, xc8e⟩, by decide, fun j x hj => ?_, kitV8⟩
      have hj17 : j < 17 := (List.getElem?_eq_some_iff.mp hj).1
      match j, hj17, hj with
      | 0, _, hj => exact (Option.some.inj hj) ▸ ⟨C0, PySem.W.mg_of X G r01, by have := congrArg (fun l : List (Option Bool) => l[0]?) kit8; exact Option.some.inj this⟩
      | 1, _, hj => exact (Option.some.inj hj) ▸ ⟨C1, PySem.W.mg_of X G r11, by have := congrArg (fun l : List (Option Bool) => l[1]?) kit8; exact Option.some.inj this⟩
      | 2, _, hj => exact (Option.some.inj hj) ▸ ⟨C2, PySem.W.mg_of X G r21, by have := congrArg (fun l : List (Option Bool) => l[2]?) kit8; exact Option.some.inj this⟩
      | 3, _, hj => exact (Option.some.inj hj) ▸ ⟨C3, PySem.W.mg_of X G x_NoLayer, by have := congrArg (fun l : List (Option Bool) => l[3]?) kit8; exact Option.some.inj this⟩
      | 4, _, hj => exact (Option.some.inj hj) ▸ ⟨C4, PySem.W.mg_of X G x_NoStack, by have := congrArg (fun l : List (Option Bool) => l[4]?) kit8; exact Option.some.inj this⟩
      | 5, _, hj => exact (Option.some.inj hj) ▸ ⟨C5, PySem.W.mg_of X G x_NoHandle, by have := congrArg (fun l : List (Option Bool) => l[5]?) kit8; exact Option.some.inj this⟩
      | 6, _, hj => exact (Option.some.inj hj) ▸ ⟨C6, PySem.W.mg_of X G x_NoPower, by have := congrArg (fun l : List (Option Bool) => l[6]?) kit8; exact Option.some.inj this⟩
      | 7, _, hj => exact (Option.some.inj hj) ▸ ⟨C7, PySem.W.mg_of X G r71, by have := congrArg (fun l : List (Option Bool) => l[7]?) kit8; exact Option.some.inj this⟩
      | 8, _, hj => exact (Option.some.inj hj) ▸ ⟨C8, PySem.W.mg_of X G r81, by have := congrArg (fun l : List (Option Bool) => l[8]?) kit8; exact Option.some.inj this⟩
      | 9, _, hj => exact (Option.some.inj hj) ▸ ⟨C9, PySem.W.mg_of X G r91, by have := congrArg (fun l : List (Option Bool) => l[9]?) kit8; exact Option.some.inj this⟩
      | 10, _, hj => exact (Option.some.inj hj) ▸ ⟨C10, PySem.W.mg_of X G r101, by have := congrArg (fun l : List (Option Bool) => l[10]?) kit8; exact Option.some.inj this⟩
      | 11, _, hj => exact (Option.some.inj hj) ▸ ⟨C11, PySem.W.mg_of X G r111, by have := congrArg (fun l : List (Option Bool) => l[11]?) kit8; exact Option.some.inj this⟩
      | 12, _, hj => exact (Option.some.inj hj) ▸ ⟨C12, PySem.W.mg_of X G r121, by have := congrArg (fun l : List (Option Bool) => l[12]?) kit8; exact Option.some.inj this⟩
      | 13, _, hj => exact (Option.some.inj hj) ▸ ⟨C13, PySem.W.mg_of X G r131, by have := congrArg (fun l : List (Option Bool) => l[13]?) kit8; exact Option.some.inj this⟩
      | 14, _, hj => exact (Option.some.inj hj) ▸ ⟨C14, PySem.W.mg_of X G r141, by have := congrArg (fun l : List (Option Bool) => l[14]?) kit8; exact Option.some.inj this⟩
      | 15, _, hj => exact (Option.some.inj hj) ▸ ⟨C15, PySem.W.mg_of X G r151, by have := congrArg (fun l : List (Option Bool) => l[15]?) kit8; exact Option.some.inj this⟩
      | 16, _, hj => exact (Option.some.inj hj) ▸ ⟨C16, PySem.W.mg_of X G x_Dark, by have := congrArg (fun l : List (Option Bool) => l[16]?) kit8; exact Option.some.inj this⟩
    have W9 : Wh K mg C9 9 := by
      refine ⟨⟨xc9a, xc9b, r94, xc9c, xc9d, gs1, gs2, xc9e⟩, by decide, fun j x hj => ?_, kitV9⟩
      have hj17 : j < 17 := (List.getElem?_eq_some_iff.mp hj).1
      match j, hj17, hj with
      | 0, _, hj => exact (Option.some.inj hj) ▸ ⟨C0, PySem.W.mg_of X G r01, by have := congrArg (fun l : List (Option Bool) => l[0]?) kit9; exact Option.some.inj this⟩
      | 1, _, hj => exact (Option.some.inj hj) ▸ ⟨C1, PySem.W.mg_of X G r11, by have := congrArg (fun l : List (Option Bool) => l[1]?) kit9; exact Option.some.inj this⟩
      | 2, _, hj => exact (Option.some.inj hj) ▸ ⟨C2, PySem.W.mg_of X G r21, by have := congrArg (fun l : List (Option Bool) => l[2]?) kit9; exact Option.some.inj this⟩
      | 3, _, hj => exact (Option.some.inj hj) ▸ ⟨C3, PySem.W.mg_of X G x_NoLayer, by have := congrArg (fun l : List (Option Bool) => l[3]?) kit9; exact Option.some.inj this⟩
      | 4, _, hj => exact (Option.some.inj hj) ▸ ⟨C4, PySem.W.mg_of X G x_NoStack, by have := congrArg (fun l : List (Option Bool) => l[4]?) kit9; exact Option.some.inj this⟩
      | 5, _, hj => exact (Option.some.inj hj) ▸ ⟨C5, PySem.W.mg_of X G x_NoHandle, by have := congrArg (fun l : List (Option Bool) => l[5]?) kit9; exact Option.some.inj this⟩
      | 6, _, hj => exact (Option.some.inj hj) ▸ ⟨C6, PySem.W.mg_of X G x_NoPower, by have := congrArg (fun l : List (Option Bool) => l[6]?) kit9; exact Option.some.inj this⟩
      | 7, _, hj => exact (Option.some.inj hj) ▸ ⟨C7, PySem.W.mg_of X G r71, by have := congrArg (fun l : List (Option Bool) => l[7]?) kit9; exact Option.some.inj this⟩
      | 8, _, hj => exact (Option.some.inj hj) ▸ ⟨C8, PySem.W.mg_of X G r81, by have := congrArg (fun l : List (Option Bool) => l[8]?) kit9; exact Option.some.inj this⟩
      | 9, _, hj => exact (Option.some.inj hj) ▸ ⟨C9, PySem.W.mg_of X G r91, by have := congrArg (fun l : List (Option Bool) => l[9]?) kit9; exact Option.some.inj this⟩
      | 10, _, hj => exact (Option.some.inj hj) ▸ ⟨C10, PySem.W.mg_of X G r101, by have := congrArg (fun l : List (Option Bool) => l[10]?) kit9; exact Option.some.inj this⟩
      | 11, _, hj => exact (Option.some.inj hj) ▸ ⟨C11, PySem.W.mg_of X G r111, by have := congrArg (fun l : List (Option Bool) => l[11]?) kit9; exact Option.some.inj this⟩
      | 12, _, hj => exact (Option.some.inj hj) ▸ ⟨C12, PySem.W.mg_of X G r121, by have := congrArg (fun l : List (Option Bool) => l[12]?) kit9; exact Option.some.inj this⟩
      | 13, _, hj => exact (Option.some.inj hj) ▸ ⟨C13, PySem.W.mg_of X G r131, by have := congrArg (fun l : List (Option Bool) => l[13]?) kit9; exact Option.some.inj this⟩
      | 14, _, hj => exact (Option.some.inj hj) ▸ ⟨C14, PySem.W.mg_of X G r141, by have := congrArg (fun l : List (Option Bool) => l[14]?) kit9; exact Option.some.inj this⟩
      | 15, _, hj => exact (Option.some.inj hj) ▸ ⟨C15, PySem.W.mg_of X G r151, by have := congrArg (fun l : List (Option Bool) => l[15]?) kit9; exact Option.some.inj this⟩
      | 16, _, hj => exact (Option.some.inj hj) ▸ ⟨C16, PySem.W.mg_of X G x_Dark, by have := congrArg (fun l : List (Option Bool) => l[16]?) kit9; exact Option.some.inj this⟩
    have W10 : Wh K mg C10 10 := by
      refine ⟨⟨xc10a, xc10b, r104, xc10c, xc10d, gs1, gs2, xc10e⟩, by decide, fun j x hj => ?_, kitV10⟩
      have hj17 : j < 17 := (List.getElem?_eq_some_iff.mp hj).1
      match j, hj17, hj with
      | 0, _, hj => exact (Option.some.inj hj) ▸ ⟨C0, PySem.W.mg_of X G r01, by have := congrArg (fun l : List (Option Bool) => l[0]?) kit10; exact Option.some.inj this⟩
      | 1, _, hj => exact (Option.some.inj hj) ▸ ⟨C1, PySem.W.mg_of X G r11, by have := congrArg (fun l : List (Option Bool) => l[1]?) kit10; exact Option.some.inj this⟩
      | 2, _, hj => exact (Option.some.inj hj) ▸ ⟨C2, PySem.W.mg_of X G r21, by have := congrArg (fun l : List (Option Bool) => l[2]?) kit10; exact Option.some.inj this⟩
      | 3, _, hj => exact (Option.some.inj hj) ▸ ⟨C3, PySem.W.mg_of X G x_NoLayer, by have := congrArg (fun l : List (Option Bool) => l[3]?) kit10; exact Option.some.inj this⟩
      | 4, _, hj => exact (Option.some.inj hj) ▸ ⟨C4, PySem.W.mg_of X G x_NoStack, by have := congrArg (fun l : List (Option Bool) => l[4]?) kit10; exact Option.some.inj this⟩
      | 5, _, hj => exact (Option.some.inj hj) ▸ ⟨C5, PySem.W.mg_of X G x_NoHandle, by have := congrArg (fun l : List (Option Bool) => l[5]?) kit10; exact Option.some.inj this⟩
      | 6, _, hj => exact (Option.some.inj hj) ▸ ⟨C6, PySem.W.mg_of X G x_NoPower, by have := congrArg (fun l : List (Option Bool) => l[6]?) kit10; exact Option.some.inj this⟩
      | 7, _, hj => exact (Option.some.inj hj) ▸ ⟨C7, PySem.W.mg_of X G r71, by have := congrArg (fun l : List (Option Bool) => l[7]?) kit10; exact Option.some.inj this⟩
      | 8, _, hj => exact (Option.some.inj hj) ▸ ⟨C8, PySem.W.mg_of X G r81, by have := congrArg (fun l : List (Option Bool) => l[8]?) kit10; exact Option.some.inj this⟩
      | 9, _, hj => exact (Option.some.inj hj) ▸ ⟨C9, PySem.W.mg_of X G r91, by have := congrArg (fun l : List (Option Bool) => l[9]?) kit10; exact Option.some.inj this⟩
      | 10, _, hj => exact (Option.some.inj hj) ▸ ⟨C10, PySem.W.mg_of X G r101, by have := congrArg (fun l : List (Option Bool) => l[10]?) kit10; exact Option.some.inj this⟩
      | 11, _, hj => exact (Option.some.inj hj) ▸ ⟨C11, PySem.W.mg_of X G r111, by have := congrArg (fun l : List (Option Bool) => l[11]?) kit10; exact Option.some.inj this⟩
      | 12, _, hj => exact (Option.some.inj hj) ▸ ⟨C12, PySem.W.mg_of X G r121, by have := congrArg (fun l : List (Option Bool) => l[12]?) kit10; exact Option.some.inj this⟩
      | 13, _, hj => exact (Option.some.inj hj) ▸ ⟨C13, PySem.W.mg_of X G r131, by have := congrArg (fun l : List (Option Bool) => l[13]?) kit10; exact Option.some.inj this⟩
      | 14, _, hj => exact (Option.some.inj hj) ▸ ⟨C14, PySem.W.mg_of X G r141, by have := congrArg (fun l : List (Option Bool) => l[14]?) kit10; exact Option.some.inj this⟩
      | 15, _, hj => exact (Option.some.inj hj) ▸ ⟨C15, PySem.W.mg_of X G r151, by have := congrArg (fun l : List (Option Bool) => l[15]?) kit10; exact Option.some.inj this⟩
      | 16, _, hj => exact (Option.some.inj hj) ▸ ⟨C16, PySem.W.mg_of X G x_Dark, by have := congrArg (fun l : List (Option Bool) => l[16]?) kit10; exact Option.some.inj this⟩
    have W11 : Wh K mg C11 11 := by
      refine ⟨⟨xc11a, xc11b, r114, xc11c, xc11d, gs1, gs2, xc11e⟩, by decide, fun j x hj => ?_, kitV11⟩
      have hj17 : j < 17 := (List.getElem?_eq_some_iff.mp hj).1
      match j, hj17, hj with
      | 0, _, hj => exact (Option.some.inj hj) ▸ ⟨C0, PySem.W.mg_of X G r01, by have := congrArg (fun l : List (Option Bool) => l[0]?) kit11; exact Option.some.inj this⟩
      | 1, _, hj => exact (Option.some.inj hj) ▸ ⟨C1, PySem.W.mg_of X G r11, by have := congrArg (fun l : List (Option Bool) => l[1]?) kit11; exact Option.some.inj this⟩
      | 2, _, hj => exact (Option.some.inj hj) ▸ ⟨C2, PySem.W.mg_of X G r21, by have := congrArg (fun l : List (Option Bool) => l[2]?) kit11; exact Option.some.inj this⟩
      | 3, _, hj => exact (Option.some.inj hj) ▸ ⟨C3, PySem.W.mg_of X G x_NoLayer, by have := congrArg (fun l : List (Option Bool) => l[3]?) kit11; exact Option.some.inj this⟩
      | 4, _, hj => exact (Option.some.inj hj) ▸ ⟨C4, PySem.W.mg_of X G x_NoStack, by have := congrArg (fun l : List (Option Bool) => l[4]?) kit11; exact Option.some.inj this⟩
      | 5, _, hj => exact (Option.some.inj hj) ▸ ⟨C5, PySem.W.mg_of X G x_NoHandle, by have := congrArg (fun l : List (Option Bool) => l[5]?) kit11; exact Option.some.inj this⟩
      | 6, _, hj => exact (Option.some.inj hj) ▸ ⟨C6, PySem.W.mg_of X G x_NoPower, by have := congrArg (fun l : List (Option Bool) => l[6]?) kit11; exact Option.some.inj this⟩
      | 7, _, hj => exact (Option.some.inj hj) ▸ ⟨C7, PySem.W.mg_of X G r71, by have := congrArg (fun l : List (Option Bool) => l[7]?) kit11; exact Option.some.inj this⟩
      | 8, _, hj => exact (Option.some.inj hj) ▸ ⟨C8, PySem.W.mg_of X G r81, by have := congrArg (fun l : List (Option Bool) => l[8]?) kit11; exact Option.some.inj this⟩
      | 9, _, hj => exact (Option.some.inj hj) ▸ ⟨C9, PySem.W.mg_of X G r91, by have := congrArg (fun l : List (Option Bool) => l[9]?) kit11; exact Option.some.inj this⟩
      | 10, _, hj => exact (Option.some.inj hj) ▸ ⟨C10, PySem.W.mg_of X G r101, by have := congrArg (fun l : List (Option Bool) => l[10]?) kit11; exact Option.some.inj this⟩
      | 11, _, hj => exact (Option.some.inj hj) ▸ ⟨C11, PySem.W.mg_of X G r111, by have := congrArg (fun l : List (Option Bool) => l[11]?) kit11; exact Option.some.inj this⟩
      | 12, _, hj => exact (Option.some.inj hj) ▸ ⟨C12, PySem.W.mg_of X G r121, by have := congrArg (fun l : List (Option Bool) => l[12]?) kit11; exact Option.some.inj this⟩
      | 13, _, hj => exact (Option.some.inj hj) ▸ ⟨C13, PySem.W.mg_of X G r131, by have := congrArg (fun l : List (Option Bool) => l[13]?) kit11; exact Option.some.inj this⟩
      | 14, _, hj => exact (Option.some.inj hj) ▸ ⟨C14, PySem.W.mg_of X G r141, by have := congrArg (fun l : List (Option Bool) => l[14]?) kit11; exact Option.some.inj this⟩
      | 15, _, hj => exact (Option.some.inj hj) ▸ ⟨C15, PySem.W.mg_of X G r151, by have := congrArg (fun l : List (Option Bool) => l[15]?) kit11; exact Option.some.inj this⟩
      | 16, _, hj => exact (Option.some.inj hj) ▸ ⟨C16, PySem.W.mg_of X G x_Dark, by have := congrArg (fun l : List (Option Bool) => l[16]?) kit11; exact Option.some.inj this⟩
    have W12 : Wh K mg C12 12 := by
      refine ⟨⟨xc12a, xc12b, r124, xc12c, xc12d, gs1, gs2, xc12e⟩, by decide, fun j x hj => ?_, kitV12⟩
      have hj17 : j < 17 := (List.getElem?_eq_some_iff.mp hj).1
      match j, hj17, hj with
      | 0, _, hj => exact (Option.some.inj hj) ▸ ⟨C0, PySem.W.mg_of X G r01, by have := congrArg (fun l : List (Option Bool) => l[0]?) kit12; exact Option.some.inj this⟩
      | 1, _, hj => exact (Option.some.inj hj) ▸ ⟨C1, PySem.W.mg_of X G r11, by have := congrArg (fun l : List (Option Bool) => l[1]?) kit12; exact Option.some.inj this⟩
      | 2, _, hj => exact (Option.some.inj hj) ▸ ⟨C2, PySem.W.mg_of X G r21, by have := congrArg (fun l : List (Option Bool) => l[2]?) kit12; exact Option.some.inj this⟩
      | 3, _, hj => exact (Option.some.inj hj) ▸ ⟨C3, PySem.W.mg_of X G x_NoLayer, by have := congrArg (fun l : List (Option Bool) => l[3]?) kit12; exact Option.some.inj this⟩
      | 4, _, hj => exact (Option.some.inj hj) ▸ ⟨C4, PySem.W.mg_of X G x_NoStack, by have := congrArg (fun l : List (Option Bool) => l[4]?) kit12; exact Option.some.inj this⟩
      | 5, _, hj => exact (Option.some.inj hj) ▸ ⟨C5, PySem.W.mg_of X G x_NoHandle, by have := congrArg (fun l : List (Option Bool) => l[5]?) kit12; exact Option.some.inj this⟩
      | 6, _, hj => exact (Option.some.inj hj) ▸ ⟨C6, PySem.W.mg_of X G x_NoPower, by have := congrArg (fun l : List (Option Bool) => l[6]?) kit12; exact Option.some.inj this⟩
      | 7, _, hj => exact (Option.some.inj hj) ▸ ⟨C7, PySem.W.mg_of X G r71, by have := congrArg (fun l : List (Option Bool) => l[7]?) kit12; exact Option.some.inj this⟩
      | 8, _, hj => exact (Option.some.inj hj) ▸ ⟨C8, PySem.W.mg_of X G r81, by have := congrArg (fun l : List (Option Bool) => l[8]?) kit12; exact Option.some.inj this⟩
      | 9, _, hj => exact (Option.some.inj hj) ▸ ⟨C9, PySem.W.mg_of X G r91, by have := congrArg (fun l : List (Option Bool) => l[9]?) kit12; exact Option.some.inj this⟩
      | 10, _, hj => exact (Option.some.inj hj) ▸ ⟨C10, PySem.W.mg_of X G r101, by have := congrArg (fun l : List (Option Bool) => l[10]?) kit12; exact Option.some.inj this⟩
      | 11, _, hj => exact (Option.some.inj hj) ▸ ⟨C11, PySem.W.mg_of X G r111, by have := congrArg (fun l : List (Option Bool) => l[11]?) kit12; exact Option.some.inj this⟩
      | 12, _, hj => exact (Option.some.inj hj) ▸ ⟨C12, PySem.W.mg_of X G r121, by have := congrArg (fun l : List (Option Bool) => l[12]?) kit12; exact Option.some.inj this⟩
      | 13, _, hj => exact (Option.some.inj hj) ▸ ⟨C13, PySem.W.mg_of X G r131, by have := congrArg (fun l : List (Option Bool) => l[13]?) kit12; exact Option.some.inj this⟩
      | 14, _, hj => exact (Option.some.inj hj) ▸ ⟨C14, PySem.W.mg_of X G r141, by have := congrArg (fun l : List (Option Bool) => l[14]?) kit12; exact Option.some.inj this⟩
      | 15, _, hj => exact (Option.some.inj hj) ▸ ⟨C15, PySem.W.mg_of X G r151, by have := congrArg (fun l : List (Option Bool) => l[15]?) kit12; exact Option.some.inj this⟩
      | 16, _, hj => exact (Option.some.inj hj) ▸ ⟨C16, PySem.W.mg_of X G x_Dark, by have := congrArg (fun l : List (Option Bool) => l[16]?) kit12; exact Option.some.inj this⟩
    have W13 : Wh K mg C13 13 := by
      refine ⟨⟨xc13a, xc13b, r134, xc13c, xc13d, gs1, gs2, xc13e⟩, by decide, fun j x hj => ?_, kitV13⟩
      have hj17 : j < 17 := (List.getElem?_eq_some_iff.mp hj).1
      match j, hj17, hj with
      | 0, _, hj => exact (Option.some.inj hj) ▸ ⟨C0, PySem.W.mg_of X G r01, by have := congrArg (fun l : List (Option Bool) => l[0]?) kit13; exact Option.some.inj this⟩
      | 1, _, hj => exact (Option.some.inj hj) ▸ ⟨C1, PySem.W.mg_of X G r11, by have := congrArg (fun l : List (Option Bool) => l[1]?) kit13; exact Option.some.inj this⟩
      | 2, _, hj => exact (Option.some.inj hj) ▸ ⟨C2, PySem.W.mg_of X G r21, by have := congrArg (fun l : List (Option Bool) => l[2]?) kit13; exact Option.some.inj this⟩
      | 3, _, hj => exact (Option.some.inj hj) ▸ ⟨C3, PySem.W.mg_of X G x_NoLayer, by have := congrArg (fun l : List (Option Bool) => l[3]?) kit13; exact Option.some.inj this⟩
      | 4, _, hj => exact (Option.some.inj hj) ▸ ⟨C4, PySem.W.mg_of X G x_NoStack, by have := congrArg (fun l : List (Option Bool) => l[4]?) kit13; exact Option.some.inj this⟩
      | 5, _, hj => exact (Option.some.inj hj) ▸ ⟨C5, PySem.W.mg_of X G x_NoHandle, by have := congrArg (fun l : List (Option Bool) => l[5]?) kit13; exact Option.some.inj this⟩
      | 6, _, hj => exact (Option.some.inj hj) ▸ ⟨C6, PySem.W.mg_of X G x_NoPower, by have := congrArg (fun l : List (Option Bool) => l[6]?) kit13; exact Option.some.inj this⟩
      | 7, _, hj => exact (Option.some.inj hj) ▸ ⟨C7, PySem.W.mg_of X G r71, by have := congrArg (fun l : List (Option Bool) => l[7]?) kit13; exact Option.some.inj this⟩
      | 8, _, hj => exact (Option.some.inj hj) ▸ ⟨C8, PySem.W.mg_of X G r81, by have := congrArg (fun l : List (Option Bool) => l[8]?) kit13; exact Option.some.inj this⟩
      | 9, _, hj => exact (Option.some.inj hj) ▸ ⟨C9, PySem.W.mg_of X G r91, by have := congrArg (fun l : List (Option Bool) => l[9]?) kit13; exact Option.some.inj this⟩
      | 10, _, hj => exact (Option.some.inj hj) ▸ ⟨C10, PySem.W.mg_of X G r101, by have := congrArg (fun l : List (Option Bool) => l[10]?) kit13; exact Option.some.inj this⟩
      | 11, _, hj => exact (Option.some.inj hj) ▸ ⟨C11, PySem.W.mg_of X G r111, by have := congrArg (fun l : List (Option Bool) => l[11]?) kit13; exact Option.some.inj this⟩
      | 12, _, hj => exact (Option.some.inj hj) ▸ ⟨C12, PySem.W.mg_of X G r121, by have := congrArg (fun l : List (Option Bool) => l[12]?) kit13; exact Option.some.inj this⟩
      | 13, _, hj => exact (Option.some.inj hj) ▸ ⟨C13, PySem.W.mg_of X G r131, by have := congrArg (fun l : List (Option Bool) => l[13]?) kit13; exact Option.some.inj this⟩
      | 14, _, hj => exact (Option.some.inj hj) ▸ ⟨C14, PySem.W.mg_of X G r141, by have := congrArg (fun l : List (Option Bool) => l[14]?) kit13; exact Option.some.inj this⟩
      | 15, _, hj => exact (Option.some.inj hj) ▸ ⟨C15, PySem.W.mg_of X G r151, by have := congrArg (fun l : List (Option Bool) => l[15]?) kit13; exact Option.some.inj this⟩
      | 16, _, hj => exact (Option.some.inj hj) ▸ ⟨C16, PySem.W.mg_of X G x_Dark, by have := congrArg (fun l : List (Option Bool) => l[16]?) kit13; exact Option.some.inj this⟩
    have W14 : Wh K mg C14 14 := by
      refine ⟨⟨xc14a, xc14b, r144, xc14c, xc14d, gs1, gs2, xc14e⟩, by decide, fun j x hj => ?_, kitV14⟩
      have hj17 : j < 17 := (List.getElem?_eq_some_iff.mp hj).1
      match j, hj17, hj with
      | 0, _, hj => exact (Option.some.inj hj) ▸ ⟨C0, PySem.W.mg_of X G r01, by have := congrArg (fun l : List (Option Bool) => l[0]?) kit14; exact Option.some.inj this⟩
      | 1, _, hj => exact (Option.some.inj hj) ▸ ⟨C1, PySem.W.mg_of X G r11, by have := congrArg (fun l : List (Option Bool) => l[1]?) kit14; exact Option.some.inj this⟩
      | 2, _, hj => exact (Option.some.inj hj) ▸ ⟨C2, PySem.W.mg_of X G r21, by have := congrArg (fun l : List (Option Bool) => l[2]?) kit14; exact Option.some.inj this⟩
      | 3, _, hj => exact (Option.some.inj hj) ▸ ⟨C3, PySem.W.mg_of X G x_NoLayer, by have := congrArg (fun l : List (Option Bool) => l[3]?) kit14; exact Option.some.inj this⟩
      | 4, _, hj => exact (Option.some.inj hj) ▸ ⟨C4, PySem.W.mg_of X G x_NoStack, by have := congrArg (fun l : List (Option Bool) => l[4]?) kit14; exact Option.some.inj this⟩
      | 5, _, hj => exact (Option.some.inj hj) ▸ ⟨C5, PySem.W.mg_of X G x_NoHandle, by have := congrArg (fun l : List (Option Bool) => l[5]?) kit14; exact Option.some.inj this⟩
      | 6, _, hj => exact (Option.some.inj hj) ▸ ⟨C6, PySem.W.mg_of X G x_NoPower, by have := congrArg (fun l : List (Option Bool) => l[6]?) kit14; exact Option.some.inj this⟩
      | 7, _, hj => exact (Option.some.inj hj) ▸ ⟨C7, PySem.W.mg_of X G r71, by have := congrArg (fun l : List (Option Bool) => l[7]?) kit14; exact Option.some.inj this⟩
      | 8, _, hj => exact (Option.some.inj hj) ▸ ⟨C8, PySem.W.mg_of X G r81, by have := congrArg (fun l : List (Option Bool) => l[8]?) kit14; exact Option.some.inj this⟩
      | 9, _, hj => exact (Option.some.inj hj) ▸ ⟨C9, PySem.W.mg_of X G r91, by have := congrArg (fun l : List (Option Bool) => l[9]?) kit14; exact Option.some.inj this⟩
      | 10, _, hj => exact (Option.some.inj hj) ▸ ⟨C10, PySem.W.mg_of X G r101, by have := congrArg (fun l : List (Option Bool) => l[10]?) kit14; exact Option.some.inj this⟩
      | 11, _, hj => exact (Option.some.inj hj) ▸ ⟨C11, PySem.W.mg_of X G r111, by have := congrArg (fun l : List (Option Bool) => l[11]?) kit14; exact Option.some.inj this⟩
      | 12, _, hj => exact (Option.some.inj hj) ▸ ⟨C12, PySem.W.mg_of X G r121, by have := congrArg (fun l : List (Option Bool) => l[12]?) kit14; exact Option.some.inj this⟩
      | 13, _, hj => exact (Option.some.inj hj) ▸ ⟨C13, PySem.W.mg_of X G r131, by have := congrArg (fun l : List (Option Bool) => l[13]?) kit14; exact Option.some.inj this⟩
      | 14, _, hj => exact (Option.some.inj hj) ▸ ⟨C14, PySem.W.mg_of X G r141, by have := congrArg (fun l : List (Option Bool) => l[14]?) kit14; exact Option.some.inj this⟩
      | 15, _, hj => exact (Option.some.inj hj) ▸ ⟨C15, PySem.W.mg_of X G r151, by have := congrArg (fun l : List (Option Bool) => l[15]?) kit14; exact Option.some.inj this⟩
      | 16, _, hj => exact (Option.some.inj hj) ▸ ⟨C16, PySem.W.mg_of X G x_Dark, by have := congrArg (fun l : List (Option Bool) => l[16]?) kit14; exact Option.some.inj this⟩
    have W15 : Wh K mg C15 15 := by
      refine ⟨⟨xc15a, xc15b, r154, xc15c, xc15d, gs1, gs2, xc15e⟩, by decide, fun j x hj => ?_, kitV15⟩
      have hj17 : j < 17 := (List.getElem?_eq_some_iff.mp hj).1
      match j, hj17, hj with
      | 0, _, hj => exact (Option.some.inj hj) ▸ ⟨C0, PySem.W.mg_of X G r01, by have := congrArg (fun l : List (Option Bool) => l[0]?) kit15; exact Option.some.inj this⟩
      | 1, _, hj => exact (Option.some.inj hj) ▸ ⟨C1, PySem.W.mg_of X G r11, by have := congrArg (fun l : List (Option Bool) => l[1]?) kit15; exact Option.some.inj this⟩
      | 2, _, hj => exact (Option.some.inj hj) ▸ ⟨C2, PySem.W.mg_of X G r21, by have := congrArg (fun l : List (Option Bool) => l[2]?) kit15; exact Option.some.inj this⟩
      | 3, _, hj => exact (Option.some.inj hj) ▸ ⟨C3, PySem.W.mg_of X G x_NoLayer, by have := congrArg (fun l : List (Option Bool) => l[3]?) kit15; exact Option.some.inj this⟩
      | 4, _, hj => exact (Option.some.inj hj) ▸ ⟨C4, PySem.W.mg_of X G x_NoStack, by have := congrArg (fun l : List (Option Bool) => l[4]?) kit15; exact Option.some.inj this⟩
      | 5, _, hj => exact (Option.some.inj hj) ▸ ⟨C5, PySem.W.mg_of X G x_NoHandle, by have := congrArg (fun l : List (Option Bool) => l[5]?) kit15; exact Option.some.inj this⟩
      | 6, _, hj => exact (Option.some.inj hj) ▸ ⟨C6, PySem.W.mg_of X G x_NoPower, by have := congrArg (fun l : List (Option Bool) => l[6]?) kit15; exact Option.some.inj this⟩
      | 7, _, hj => exact (Option.some.inj hj) ▸ ⟨C7, PySem.W.mg_of X G r71, by have := congrArg (fun l : List (Option Bool) => l[7]?) kit15; exact Option.some.inj this⟩
      | 8, _, hj => exact (Option.some.inj hj) ▸ ⟨C8, PySem.W.mg_of X G r81, by have := congrArg (fun l : List (Option Bool) => l[8]?) kit15; exact Option.some.inj this⟩
      | 9, _, hj => exact (Option.some.inj hj) ▸ ⟨C9, PySem.W.mg_of X G r91, by have := congrArg (fun l : List (Option Bool) => l[9]?) kit15; exact Option.some.inj this⟩
      | 10, _, hj => exact (Option.some.inj hj) ▸ ⟨C10, PySem.W.mg_of X G r101, by have := congrArg (fun l : List (Option Bool) => l[10]?) kit15; exact Option.some.inj this⟩
      | 11, _, hj => exact (Option.some.inj hj) ▸ ⟨C11, PySem.W.mg_of X G r111, by have := congrArg (fun l : List (Option Bool) => l[11]?) kit15; exact Option.some.inj this⟩
      | 12, _, hj => exact (Option.some.inj hj) ▸ ⟨C12, PySem.W.mg_of X G r121, by have := congrArg (fun l : List (Option Bool) => l[12]?) kit15; exact Option.some.inj this⟩
      | 13, _, hj => exact (Option.some.inj hj) ▸ ⟨C13, PySem.W.mg_of X G r131, by have := congrArg (fun l : List (Option Bool) => l[13]?) kit15; exact Option.some.inj this⟩
      | 14, _, hj => exact (Option.some.inj hj) ▸ ⟨C14, PySem.W.mg_of X G r141, by have := congrArg (fun l : List (Option Bool) => l[14]?) kit15; exact Option.some.inj this⟩
      | 15, _, hj => exact (Option.some.inj hj) ▸ ⟨C15, PySem.W.mg_of X G r151, by have := congrArg (fun l : List (Option Bool) => l[15]?) kit15; exact Option.some.inj this⟩
      | 16, _, hj => exact (Option.some.inj hj) ▸ ⟨C16, PySem.W.mg_of X G x_Dark, by have := congrArg (fun l : List (Option Bool) => l[16]?) kit15; exact Option.some.inj this⟩
    have EE : Errs16 K mg TE (clsOf C0 C1 C2 C3 C4 C5 C6 C7 C8 C9 C10 C11 C12 C13 C14 C15 C16) := by
      refine ⟨fun i hi => ?_, fun i hi => ?_⟩
      · have hi : i ∈ ([0, 1, 7, 8, 9, 10, 11, 12, 13, 14, 15] : List Nat) := hi
        simp only [List.mem_cons, List.not_mem_nil, or_false] at hi
        rcases hi with rfl | rfl | rfl | rfl | rfl | rfl | rfl | rfl | rfl | rfl | rfl
        · exact te2_0
        · exact te2_1
        · exact te2_7
        · exact te2_8
        · exact te2_9
        · exact te2_10
        · exact te2_11
        · exact te2_12
        · exact te2_13
        · exact te2_14
        · exact te2_15
      · have hi : i ∈ ([0, 1, 7, 8, 9, 10, 11, 12, 13, 14, 15] : List Nat) := hi
        simp only [List.mem_cons, List.not_mem_nil, or_false] at hi
        rcases hi with rfl | rfl | rfl | rfl | rfl | rfl | rfl | rfl | rfl | rfl | rfl
        · exact W0
        · exact W1
        · exact W7
        · exact W8
        · exact W9
        · exact W10
        · exact W11
        · exact W12
        · exact W13
        · exact W14
        · exact W15
    have gT : mg "TreeError" = some (.ref TE) := PySem.W.mg_of X G te1
    have RX : RefE K mg (errM (clsOf C0 C1 C2 C3 C4 C5 C6 C7 C8 C9 C10 C11 C12 C13 C14 C15 C16)) := ⟨R0, R7, R8, R9, R11, R13, R14⟩
    have G0 := ok_isName (P := l.prog) (w := w) F0 M TB1
    have G1 := ok_isPath F1 M TB2 G0 m0 k0 b0
    have G2 := ok_isText (P := l.prog) (w := w) F2 M MT TB3
    have G7 := ok_checkPath F7 R0 G1 m1 k1 b1
    have G8 := ok_checkText F8 R1 G2 m2 k2 b2
    have G9 := ok_aboveX F9 G7 m7 k7 b7
    have G10 := ok_begins (P := l.prog) (w := w) (base := base) F10 M
    have G11 := ok_within F11 G7 m7 k7 b7 G10 m10 k10 b10
    have G12 := ok_isNumber (P := l.prog) (w := w) (base := base) F12 M MR
    have G13 := ok_isKind (P := l.prog) (w := w) (base := base) F13 M
    have G14 := ok_isDrawer F14 G13 m13 k13 b13
    have G15 := ok_isFile F15 G13 m13 k13 b13 G12 m12 k12 b12 G2 m2 k2 b2
    have G3 := ok_hasDrawers F3 M TB4 G9 m9 k9 b9
    have G16 := ok_hasOneText F16 G15 m15 k15 b15
    have G4 := ok_isTree F4 M MR TB5 G1 m1 k1 b1 G14 m14 k14 b14 G15 m15 k15 b15 G3 m3 k3 b3 G16 m16 k16 b16
    have G17 := ok_checkTree F17 R2 G4 m4 k4 b4
    have G18 := ok_renum (P := l.prog) (w := w) (base := base) F18 M n_sorted
    have G19 := ok_plain F19 G17 m17 k17 b17 G18 m18 k18 b18
    have G20 := ok_notRoot (P := l.prog) (w := w) (base := base) F20 R7
    have G21 := ok_moved F21 M G10 m10 k10 b10
    have G22 := ok_init F22 TH SD G19 m19 k19 b19
    have G31 := ok_treeM F31 TH G18 m18 k18 b18
    have G33 := ok_there (P := l.prog) (w := w) (base := base) F33 TH R8
    have G28 := ok_kindM F28 TH G7 m7 k7 b7
    have G34 := ok_aboveM F34 TH R9 m28 G28 b28 G9 m9 k9 b9
    have G35 := ok_place F35 TH R11 m34 G34 b34
    have G36 := ok_roomM (P := l.prog) (w := w) (base := base) F36 TH M MR R15
    have G37 := ok_fileAt F37 TH R10 m33 G33 b33
    have G38 := ok_putM F38 TH G18 m18 k18 b18
    have G40 := ok_takeAway F40 TH G10 m10 k10 b10 G18 m18 k18 b18
    have G29 := ok_readM F29 TH G7 m7 k7 b7 m37 G37 b37
    have G30 := ok_tiedM F30 TH n_sorted G7 m7 k7 b7 m37 G37 b37
    have G39 := ok_giveM F39 TH m37 G37 b37 m30 G30 b30
    have G23 := ok_makeM (X := errP (clsOf C0 C1 C2 C3 C4 C5 C6 C7 C8 C9 C10 C11 C12 C13 C14 C15 C16)) F23 TH SD G7 m7 k7 b7 G20 m20 k20 b20 m35 G35 b35 m36 G36 b36 m38 G38 b38
    have G27 := ok_tieM (X := errT (clsOf C0 C1 C2 C3 C4 C5 C6 C7 C8 C9 C10 C11 C12 C13 C14 C15 C16)) F27 TH G7 m7 k7 b7 m37 G37 b37 m35 G35 b35 m36 G36 b36 m38 G38 b38
    have G24 := ok_writeM (X := errW (clsOf C0 C1 C2 C3 C4 C5 C6 C7 C8 C9 C10 C11 C12 C13 C14 C15 C16)) F24 TH M G7 m7 k7 b7 G8 m8 k8 b8 G20 m20 k20 b20 m34 G34 b34 m39 G39 b39 m36 G36 b36 m38 G38 b38
    have G25 := ok_addM (X := errW (clsOf C0 C1 C2 C3 C4 C5 C6 C7 C8 C9 C10 C11 C12 C13 C14 C15 C16)) F25 TH M MT R14 G7 m7 k7 b7 G8 m8 k8 b8 m37 G37 b37 m39 G39 b39
    have G26 := ok_clearM (X := errC (clsOf C0 C1 C2 C3 C4 C5 C6 C7 C8 C9 C10 C11 C12 C13 C14 C15 C16)) F26 TH G7 m7 k7 b7 G20 m20 k20 b20 m33 G33 b33 m40 G40 b40
    have G5 := ok_removeM (X := errC (clsOf C0 C1 C2 C3 C4 C5 C6 C7 C8 C9 C10 C11 C12 C13 C14 C15 C16)) F5 TH n_any TB9 R12 G7 m7 k7 b7 G20 m20 k20 b20 m33 G33 b33 G11 m11 k11 b11 m40 G40 b40
    have G6 := ok_moveM (X := errM (clsOf C0 C1 C2 C3 C4 C5 C6 C7 C8 C9 C10 C11 C12 C13 C14 C15 C16)) F6 TH M n_any RX TB10 G7 m7 k7 b7 G20 m20 k20 b20 m33 G33 b33 G11 m11 k11 b11 m35 G35 b35 G21 m21 k21 b21 G18 m18 k18 b18
    have G32 := ok_lenM (P := l.prog) (w := w) (base := base) F32 TH M
    have bk24 := write_kw F24
    have bk25 := add_kw F25
    have G41 := ok_draw (P := l.prog) (w := w) (base := base) F41 M.len
    have G42 := ok_pick F42 M.len G41 m41 k41 b41
    have G43 := ok_which (P := l.prog) (w := w) (base := base) F43 M.isinstance n_ValueError
    have G44 := ok_do (cls := (clsOf C0 C1 C2 C3 C4 C5 C6 C7 C8 C9 C10 C11 C12 C13 C14 C15 C16)) F44 TH gT EE m23 G23 b23 m24 G24 bk24 m25 G25 bk25 m5 G5 b5 m26 G26 b26 m6 G6 b6 m27 G27 b27 G43 m43 k43 b43
    have G45 := ok_namesIn F45 n_sorted R8 R9 G17 m17 k17 b17 G7 m7 k7 b7 G9 m9 k9 b9
    have G46 := ok_listedM F46 TH G45 m45 k45 b45
    have G47 := ok_letter F47 G42 m42 k42 b42
    have G48 := ok_text F48 G42 m42 k42 b42
    have G49 := ok_tree F49 M n_sorted G41 m41 k41 b41 G42 m42 k42 b42 G47 m47 k47 b47 G48 m48 k48 b48
    have G50 := ok_group (P := l.prog) (w := w) (base := base) F50 n_sorted
    have G51 := ok_lplain F51 n_sorted G50 m50 k50 b50
    have G52 := ok_lpath F52 n_sorted G41 m41 k41 b41 G42 m42 k42 b42 G47 m47 k47 b47
    have G53 := ok_chosen F53 G42 m42 k42 b42 G52 m52 k52 b52 G48 m48 k48 b48
    have G54 := ok_view (cls := (clsOf C0 C1 C2 C3 C4 C5 C6 C7 C8 C9 C10 C11 C12 C13 C14 C15 C16)) F54 TH gT EE m28 G28 b28 m29 G29 b29 m46 G46 b46 m30 G30 b30 G43 m43 k43 b43
    have G55 := ok_viewsRight F55 M n_sorted G54 m54 k54 b54 G50 m50 k50 b50
    exact ok_law F56 TH MKH M n_sorted G49 m49 k49 b49 G22 b22 G53 m53 k53 b53 G44 m44 k44 b44 m31 G31 b31 G51 m51 k51 b51 G55 m55 k55 b55 G52 m52 k52 b52
end LK
open PySem PySem.W PyProof.Rows
local macro_rules | `(tactic| o_head ($f:ident $k $a $e)) => `(tactic| o_head (PySem.W.kmHook $k $a $e [420, 434]))
set_option maxRecDepth 100000 in
set_option maxHeartbeats 0 in
theorem PySem.Challenge.cw_laidtrees_k09_whole_views_holds : PySem.Challenge.rw_laidtrees_k09_whole_views.Holds := by
  w_on; o_law; k_head; (case hw => w_witness2)
  k_fill
  refine LK.walk_tabsY (k := 15) (CX := fun _ => fun _ _ _ _ _ _ => False) (l := PySem.Challenge.rw_laidtrees_k09_whole_views) (x := "_law_script") rfl (by decide) rfl ⟨rfl, by decide, by decide⟩ (fun w h Y => PySem.W.km_in_of Y) ?F (fun _ _ _ _ _ h => h)
  case F =>
    intro w mg fa h Y KX G hmg TT
    refine' LK.all_mk KX G hmg TT ?gH ?clpg ?clhd ?clpo ?clsa ?clnt ?clmk ?clkp ?a0 ?l0 ?c0 ?k0 ?a1 ?l1 ?c1 ?k1 ?a2 ?l2 ?c2 ?k2 ?a3 ?l3 ?c3 ?k3 ?a4 ?l4 ?c4 ?k4 ?a5 ?l5 ?c5 ?k5 ?fn5 ?a6 ?l6 ?c6 ?k6 ?fn6 ?a7 ?l7 ?c7 ?k7 ?a8 ?l8 ?c8 ?k8 ?a9 ?l9 ?c9 ?k9 ?a10 ?l10 ?c10 ?k10 ?a11 ?l11 ?c11 ?k11 ?a12 ?l12 ?c12 ?k12 ?a13 ?l13 ?c13 ?k13 ?a14 ?l14 ?c14 ?k14 ?a15 ?l15 ?c15 ?k15 ?a16 ?l16 ?c16 ?k16 ?a17 ?l17 ?c17 ?k17 ?a18 ?l18 ?c18 ?k18 ?a19 ?l19 ?c19 ?k19 ?a20 ?l20 ?c20 ?k20 ?a21 ?l21 ?c21 ?k21 ?a22 ?l22 ?c22 ?k22 ?fn22 ?a23 ?l23 ?c23 ?k23 ?fn23 ?a24 ?l24 ?c24 ?k24 ?fn24 ?a25 ?l25 ?c25 ?k25 ?fn25 ?a26 ?l26 ?c26 ?k26 ?fn26 ?a27 ?l27 ?c27 ?k27 ?fn27 ?a28 ?l28 ?c28 ?k28 ?fn28 ?a29 ?l29 ?c29 ?k29 ?fn29 ?a30 ?l30 ?c30 ?k30 ?fn30 ?a31 ?l31 ?c31 ?k31 ?fn31 ?a32 ?l32 ?c32 ?k32 ?fn32 ?a33 ?l33 ?c33 ?k33 ?fn33 ?a34 ?l34 ?c34 ?k34 ?fn34 ?a35 ?l35 ?c35 ?k35 ?fn35 ?a36 ?l36 ?c36 ?k36 ?fn36 ?a37 ?l37 ?c37 ?k37 ?fn37 ?a38 ?l38 ?c38 ?k38 ?fn38 ?a39 ?l39 ?c39 ?k39 ?fn39 ?a40 ?l40 ?c40 ?k40 ?fn40 ?a41 ?l41 ?c41 ?k41 ?a42 ?l42 ?c42 ?k42 ?a43 ?l43 ?c43 ?k43 ?a44 ?l44 ?c44 ?k44 ?a45 ?l45 ?c45 ?k45 ?a46 ?l46 ?c46 ?k46 ?fn46 ?a47 ?l47 ?c47 ?k47 ?a48 ?l48 ?c48 ?k48 ?a49 ?l49 ?c49 ?k49 ?a50 ?l50 ?c50 ?k50 ?a51 ?l51 ?c51 ?k51 ?a52 ?l52 ?c52 ?k52 ?a53 ?l53 ?c53 ?k53 ?a54 ?l54 ?c54 ?k54 ?a55 ?l55 ?c55 ?k55 ?a56 ?l56 ?c56 ?k56 ?u1 ?i1 ?u2 ?i2 ?u3 ?i3 ?u4 ?i4 ?u5 ?i5 ?u9 ?i9 ?ch9 ?tm9 ?u10 ?i10 ?ch10 ?tm10 ?df ?z_isinstance ?z_str ?z_tuple ?z_len ?z_all ?z_any ?z_range ?z_int ?z_bool ?z_dict ?z_list ?z_sorted ?z_ValueError ?h_LETTERS ?h_MOST_LETTERS ?h_MOST_NAMES ?h_SIGNS ?h_MOST_SIGNS ?h_MOST_PATHS ?h_LAST_NUMBER ?r01 ?r02 ?r03 ?r04 ?r05 ?r11 ?r12 ?r13 ?r14 ?r15 ?r21 ?r22 ?r23 ?r24 ?r25 ?r71 ?r72 ?r73 ?r74 ?r75 ?r81 ?r82 ?r83 ?r84 ?r85 ?r91 ?r92 ?r93 ?r94 ?r95 ?r101 ?r102 ?r103 ?r104 ?r105 ?r111 ?r112 ?r113 ?r114 ?r115 ?r121 ?r122 ?r123 ?r124 ?r125 ?r131 ?r132 ?r133 ?r134 ?r135 ?r141 ?r142 ?r143 ?r144 ?r145 ?r151 ?r152 ?r153 ?r154 ?r155 ?x_NoLayer ?x_NoStack ?x_NoHandle ?x_NoPower ?x_Dark ?xc0a ?xc0b ?xc0c ?xc0d ?xc0e ?xc1a ?xc1b ?xc1c ?xc1d ?xc1e ?xc7a ?xc7b ?xc7c ?xc7d ?xc7e ?xc8a ?xc8b ?xc8c ?xc8d ?xc8e ?xc9a ?xc9b ?xc9c ?xc9d ?xc9e ?xc10a ?xc10b ?xc10c ?xc10d ?xc10e ?xc11a ?xc11b ?xc11c ?xc11d ?xc11e ?xc12a ?xc12b ?xc12c ?xc12d ?xc12e ?xc13a ?xc13b ?xc13c ?xc13d ?xc13e ?xc14a ?xc14b ?xc14c ?xc14d ?xc14e ?xc15a ?xc15b ?xc15c ?xc15d ?xc15e ?gs1 ?gs2 ?kit0 ?kitV0 ?kit1 ?kitV1 ?kit7 ?kitV7 ?kit8 ?kitV8 ?kit9 ?kitV9 ?kit10 ?kitV10 ?kit11 ?kitV11 ?kit12 ?kitV12 ?kit13 ?kitV13 ?kit14 ?kitV14 ?kit15 ?kitV15 ?te1 ?te2_0 ?te2_1 ?te2_7 ?te2_8 ?te2_9 ?te2_10 ?te2_11 ?te2_12 ?te2_13 ?te2_14 ?te2_15 ?tN ?hDR ?lDR ?nt ?r1 ?r2 ?r3 ?r4 ?r5
    (case gH => k_is)
    (case clpg => k_is)
    (case clhd => k_is)
    (case clpo => k_is)
    (case clsa => k_is)
    (case clnt => k_is)
    (case clmk => k_is)
    (case clkp => k_is)
    (case a0 => k_is)
    (case l0 => k_is)
    (case c0 => k_is)
    (case k0 => k_is)
    (case a1 => k_is)
    (case l1 => k_is)
    (case c1 => k_is)
    (case k1 => k_is)
    (case a2 => k_is)
    (case l2 => k_is)
    (case c2 => k_is)
    (case k2 => k_is)
    (case a3 => k_is)
    (case l3 => k_is)
    (case c3 => k_is)
    (case k3 => k_is)
    (case a4 => k_is)
    (case l4 => k_is)
    (case c4 => k_is)
    (case k4 => k_is)
    (case a5 => k_is)
    (case l5 => k_is)
    (case c5 => k_is)
    (case k5 => k_is)
    (case fn5 => k_is)
    (case a6 => k_is)
    (case l6 => k_is)
    (case c6 => k_is)
    (case k6 => k_is)
    (case fn6 => k_is)
    (case a7 => k_is)
    (case l7 => k_is)
    (case c7 => k_is)
    (case k7 => k_is)
    (case a8 => k_is)
    (case l8 => k_is)
    (case c8 => k_is)
    (case k8 => k_is)
    (case a9 => k_is)
    (case l9 => k_is)
    (case c9 => k_is)
    (case k9 => k_is)
    (case a10 => k_is)
    (case l10 => k_is)
    (case c10 => k_is)
    (case k10 => k_is)
    (case a11 => k_is)
    (case l11 => k_is)
    (case c11 => k_is)
    (case k11 => k_is)
    (case a12 => k_is)
    (case l12 => k_is)
    (case c12 => k_is)
    (case k12 => k_is)
    (case a13 => k_is)
    (case l13 => k_is)
    (case c13 => k_is)
    (case k13 => k_is)
    (case a14 => k_is)
    (case l14 => k_is)
    (case c14 => k_is)
    (case k14 => k_is)
    (case a15 => k_is)
    (case l15 => k_is)
    (case c15 => k_is)
    (case k15 => k_is)
    (case a16 => k_is)
    (case l16 => k_is)
    (case c16 => k_is)
    (case k16 => k_is)
    (case a17 => k_is)
    (case l17 => k_is)
    (case c17 => k_is)
    (case k17 => k_is)
    (case a18 => k_is)
    (case l18 => k_is)
    (case c18 => k_is)
    (case k18 => k_is)
    (case a19 => k_is)
    (case l19 => k_is)
    (case c19 => k_is)
    (case k19 => k_is)
    (case a20 => k_is)
    (case l20 => k_is)
    (case c20 => k_is)
    (case k20 => k_is)
    (case a21 => k_is)
    (case l21 => k_is)
    (case c21 => k_is)
    (case k21 => k_is)
    (case a22 => k_is)
    (case l22 => k_is)
    (case c22 => k_is)
    (case k22 => k_is)
    (case fn22 => k_is)
    (case a23 => k_is)
    (case l23 => k_is)
    (case c23 => k_is)
    (case k23 => k_is)
    (case fn23 => k_is)
    (case a24 => k_is)
    (case l24 => k_is)
    (case c24 => k_is)
    (case k24 => k_is)
    (case fn24 => k_is)
    (case a25 => k_is)
    (case l25 => k_is)
    (case c25 => k_is)
    (case k25 => k_is)
    (case fn25 => k_is)
    (case a26 => k_is)
    (case l26 => k_is)
    (case c26 => k_is)
    (case k26 => k_is)
    (case fn26 => k_is)
    (case a27 => k_is)
    (case l27 => k_is)
    (case c27 => k_is)
    (case k27 => k_is)
    (case fn27 => k_is)
    (case a28 => k_is)
    (case l28 => k_is)
    (case c28 => k_is)
    (case k28 => k_is)
    (case fn28 => k_is)
    (case a29 => k_is)
    (case l29 => k_is)
    (case c29 => k_is)
    (case k29 => k_is)
    (case fn29 => k_is)
    (case a30 => k_is)
    (case l30 => k_is)
    (case c30 => k_is)
    (case k30 => k_is)
    (case fn30 => k_is)
    (case a31 => k_is)
    (case l31 => k_is)
    (case c31 => k_is)
    (case k31 => k_is)
    (case fn31 => k_is)
    (case a32 => k_is)
    (case l32 => k_is)
    (case c32 => k_is)
    (case k32 => k_is)
    (case fn32 => k_is)
    (case a33 => k_is)
    (case l33 => k_is)
    (case c33 => k_is)
    (case k33 => k_is)
    (case fn33 => k_is)
    (case a34 => k_is)
    (case l34 => k_is)
    (case c34 => k_is)
    (case k34 => k_is)
    (case fn34 => k_is)
    (case a35 => k_is)
    (case l35 => k_is)
    (case c35 => k_is)
    (case k35 => k_is)
    (case fn35 => k_is)
    (case a36 => k_is)
    (case l36 => k_is)
    (case c36 => k_is)
    (case k36 => k_is)
    (case fn36 => k_is)
    (case a37 => k_is)
    (case l37 => k_is)
    (case c37 => k_is)
    (case k37 => k_is)
    (case fn37 => k_is)
    (case a38 => k_is)
    (case l38 => k_is)
    (case c38 => k_is)
    (case k38 => k_is)
    (case fn38 => k_is)
    (case a39 => k_is)
    (case l39 => k_is)
    (case c39 => k_is)
    (case k39 => k_is)
    (case fn39 => k_is)
    (case a40 => k_is)
    (case l40 => k_is)
    (case c40 => k_is)
    (case k40 => k_is)
    (case fn40 => k_is)
    (case a41 => k_is)
    (case l41 => k_is)
    (case c41 => k_is)
    (case k41 => k_is)
    (case a42 => k_is)
    (case l42 => k_is)
    (case c42 => k_is)
    (case k42 => k_is)
    (case a43 => k_is)
    (case l43 => k_is)
    (case c43 => k_is)
    (case k43 => k_is)
    (case a44 => k_is)
    (case l44 => k_is)
    (case c44 => k_is)
    (case k44 => k_is)
    (case a45 => k_is)
    (case l45 => k_is)
    (case c45 => k_is)
    (case k45 => k_is)
    (case a46 => k_is)
    (case l46 => k_is)
    (case c46 => k_is)
    (case k46 => k_is)
    (case fn46 => k_is)
    (case a47 => k_is)
    (case l47 => k_is)
    (case c47 => k_is)
    (case k47 => k_is)
    (case a48 => k_is)
    (case l48 => k_is)
    (case c48 => k_is)
    (case k48 => k_is)
    (case a49 => k_is)
    (case l49 => k_is)
    (case c49 => k_is)
    (case k49 => k_is)
    (case a50 => k_is)
    (case l50 => k_is)
    (case c50 => k_is)
    (case k50 => k_is)
    (case a51 => k_is)
    (case l51 => k_is)
    (case c51 => k_is)
    (case k51 => k_is)
    (case a52 => k_is)
    (case l52 => k_is)
    (case c52 => k_is)
    (case k52 => k_is)
    (case a53 => k_is)
    (case l53 => k_is)
    (case c53 => k_is)
    (case k53 => k_is)
    (case a54 => k_is)
    (case l54 => k_is)
    (case c54 => k_is)
    (case k54 => k_is)
    (case a55 => k_is)
    (case l55 => k_is)
    (case c55 => k_is)
    (case k55 => k_is)
    (case a56 => k_is)
    (case l56 => k_is)
    (case c56 => k_is)
    (case k56 => k_is)
    (case u1 => k_is)
    (case i1 => exact rfl)
    (case u2 => k_is)
    (case i2 => exact rfl)
    (case u3 => k_is)
    (case i3 => exact rfl)
    (case u4 => k_is)
    (case i4 => exact rfl)
    (case u5 => k_is)
    (case i5 => exact rfl)
    (case u9 => k_is)
    (case i9 => exact rfl)
    (case ch9 => kernel_rfl)
    (case tm9 => exact PySem.W.km_tabs_of Y _ (by decide +kernel))
    (case u10 => k_is)
    (case i10 => exact rfl)
    (case ch10 => kernel_rfl)
    (case tm10 => exact PySem.W.km_tabs_of Y _ (by decide +kernel))
    (case df => k_is)
    (case z_isinstance => k_is)
    (case z_str => k_is)
    (case z_tuple => k_is)
    (case z_len => k_is)
    (case z_all => k_is)
    (case z_any => k_is)
    (case z_range => k_is)
    (case z_int => k_is)
    (case z_bool => k_is)
    (case z_dict => k_is)
    (case z_list => k_is)
    (case z_sorted => k_is)
    (case z_ValueError => k_is)
    (case h_LETTERS => k_is)
    (case h_MOST_LETTERS => k_is)
    (case h_MOST_NAMES => k_is)
    (case h_SIGNS => k_is)
    (case h_MOST_SIGNS => k_is)
    (case h_MOST_PATHS => k_is)
    (case h_LAST_NUMBER => k_is)
    (case r01 => k_is)
    (case r02 => k_exc)
    (case r03 => k_is)
    (case r04 => k_is)
    (case r05 => k_is)
    (case r11 => k_is)
    (case r12 => k_exc)
    (case r13 => k_is)
    (case r14 => k_is)
    (case r15 => k_is)
    (case r21 => k_is)
    (case r22 => k_exc)
    (case r23 => k_is)
    (case r24 => k_is)
    (case r25 => k_is)
    (case r71 => k_is)
    (case r72 => k_exc)
    (case r73 => k_is)
    (case r74 => k_is)
    (case r75 => k_is)
    (case r81 => k_is)
    (case r82 => k_exc)
    (case r83 => k_is)
    (case r84 => k_is)
    (case r85 => k_is)
    (case r91 => k_is)
    (case r92 => k_exc)
    (case r93 => k_is)
    (case r94 => k_is)
    (case r95 => k_is)
    (case r101 => k_is)
    (case r102 => k_exc)
    (case r103 => k_is)
    (case r104 => k_is)
    (case r105 => k_is)
    (case r111 => k_is)
    (case r112 => k_exc)
    (case r113 => k_is)
    (case r114 => k_is)
    (case r115 => k_is)
    (case r121 => k_is)
    (case r122 => k_exc)
    (case r123 => k_is)
    (case r124 => k_is)
    (case r125 => k_is)
    (case r131 => k_is)
    (case r132 => k_exc)
    (case r133 => k_is)
    (case r134 => k_is)
    (case r135 => k_is)
    (case r141 => k_is)
    (case r142 => k_exc)
    (case r143 => k_is)
    (case r144 => k_is)
    (case r145 => k_is)
    (case r151 => k_is)
    (case r152 => k_exc)
    (case r153 => k_is)
    (case r154 => k_is)
    (case r155 => k_is)
    (case x_NoLayer => k_is)
    (case x_NoStack => k_is)
    (case x_NoHandle => k_is)
    (case x_NoPower => k_is)
    (case x_Dark => k_is)
    (case xc0a => k_is)
    (case xc0b => k_is)
    (case xc0c => k_is)
    (case xc0d => k_is)
    (case xc0e => k_is)
    (case xc1a => k_is)
    (case xc1b => k_is)
    (case xc1c => k_is)
    (case xc1d => k_is)
    (case xc1e => k_is)
    (case xc7a => k_is)
    (case xc7b => k_is)
    (case xc7c => k_is)
    (case xc7d => k_is)
    (case xc7e => k_is)
    (case xc8a => k_is)
    (case xc8b => k_is)
    (case xc8c => k_is)
    (case xc8d => k_is)
    (case xc8e => k_is)
    (case xc9a => k_is)
    (case xc9b => k_is)
    (case xc9c => k_is)
    (case xc9d => k_is)
    (case xc9e => k_is)
    (case xc10a => k_is)
    (case xc10b => k_is)
    (case xc10c => k_is)
    (case xc10d => k_is)
    (case xc10e => k_is)
    (case xc11a => k_is)
    (case xc11b => k_is)
    (case xc11c => k_is)
    (case xc11d => k_is)
    (case xc11e => k_is)
    (case xc12a => k_is)
    (case xc12b => k_is)
    (case xc12c => k_is)
    (case xc12d => k_is)
    (case xc12e => k_is)
    (case xc13a => k_is)
    (case xc13b => k_is)
    (case xc13c => k_is)
    (case xc13d => k_is)
    (case xc13e => k_is)
    (case xc14a => k_is)
    (case xc14b => k_is)
    (case xc14c => k_is)
    (case xc14d => k_is)
    (case xc14e => k_is)
    (case xc15a => k_is)
    (case xc15b => k_is)
    (case xc15c => k_is)
    (case xc15d => k_is)
    (case xc15e => k_is)
    (case gs1 => k_is)
    (case gs2 => k_is)
    (case kit0 => kernel_rfl)
    (case kitV0 => kernel_rfl)
    (case kit1 => kernel_rfl)
    (case kitV1 => kernel_rfl)
    (case kit7 => kernel_rfl)
    (case kitV7 => kernel_rfl)
    (case kit8 => kernel_rfl)
    (case kitV8 => kernel_rfl)
    (case kit9 => kernel_rfl)
    (case kitV9 => kernel_rfl)
    (case kit10 => kernel_rfl)
    (case kitV10 => kernel_rfl)
    (case kit11 => kernel_rfl)
    (case kitV11 => kernel_rfl)
    (case kit12 => kernel_rfl)
    (case kitV12 => kernel_rfl)
    (case kit13 => kernel_rfl)
    (case kitV13 => kernel_rfl)
    (case kit14 => kernel_rfl)
    (case kitV14 => kernel_rfl)
    (case kit15 => kernel_rfl)
    (case kitV15 => kernel_rfl)
    (case te1 => k_is)
    (case te2_0 => kernel_rfl)
    (case te2_1 => kernel_rfl)
    (case te2_7 => kernel_rfl)
    (case te2_8 => kernel_rfl)
    (case te2_9 => kernel_rfl)
    (case te2_10 => kernel_rfl)
    (case te2_11 => kernel_rfl)
    (case te2_12 => kernel_rfl)
    (case te2_13 => kernel_rfl)
    (case te2_14 => kernel_rfl)
    (case te2_15 => kernel_rfl)
    (case tN => k_is)
    (case hDR => k_is)
    (case lDR => k_is)
    (case nt => kernel_rfl)
    (case r1 => exact rfl)
    (case r2 => exact rfl)
    (case r3 => exact rfl)
    (case r4 => exact rfl)
    (case r5 => exact rfl)
#print axioms PySem.Challenge.cw_laidtrees_k09_whole_views_holds

