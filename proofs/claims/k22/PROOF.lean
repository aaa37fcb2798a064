import PyProof.Rows.All
import Wide.All
import OpenK.AllK
import Wide.FinOn
import HandS.ForMost
import HandS.AnyAll
import HandS.GenList
import HandS.Lambda
import HandS.EndTab
import HandS.ForExc
import HandS.IsInst
import HandS.TupAny
import HandS.Wide
import HandS.Conv
import HandS.Style
import HandS.TupMul
import HandS.SetFor
import HandS.EndBits
import HandS.HotCalls
import HandS.ExcIs
import HandS.DictTup
import HandS.DictEq
import HandS.DictComp
import HandS.TupLen
import HandS.SortOrd
import HandS.TupSets
import KE.KDictDisplayH
import KE.KDictCopyH
import KE.KDictWalk
import KE.KDictList
import HandS.Keys
import HandS.SortRule
import HandS.TupLe
import KE.KSortTup
import PyProof.Rows.SortKeyStr
import HandS.Walk
import KE.LtData
import HandS.Iter
import HandS.DictSubView
import KE.KEqDict
import HandS.ListEq
import HandS.Star
import HandS.Comp
import HandS.Deep
import KE.KNestM
import PySem.Challenge.RW_laidtrees_k22_layers_refused
set_option Elab.async false
set_option linter.all false
set_option maxRecDepth 100000
set_option maxHeartbeats 4000000
/-! all(elt for x in iter), any(..): the element may call defs, allocate, and let tables of code objects grow. -/
namespace GA
open PySem PySem.Spec PyProof.Rows L2 GenW

/-- the context of the generator's own frame, resumed within A -/
abbrev gcx (X : Cx) (A : Around) (s : Shared) (H : Hp) (ge : Env) (N : List Str) (fp : List Addr) (pn : List (Addr × Obj)) : Cx :=
  { X with
    A := A, N := N, s_0 := s, H_0 := H, env := ge, outer := X.stack, stack := ge :: X.stack,
    ex := fp, fn := fun _ => false, calm := true, pn := pn, xe := fun _ _ => False }

/-- the names of the generator's frame: those of the def (N0), pad more slots, its own name x at slot j -/
structure GN (N0 : List Str) (sc scope : Scope) (x : Str) (N : List Str) (pad j : Nat) : Prop where
  kind : scope.kind = .function
  co : scope.isCoroutine = false
  cell : ∀ y ∈ scope.names, y.2 ≠ .cell
  dot : scope.names.lookup (".0" : Str) = some NameKind.local
  loc : scope.names.lookup x = some .local
  only : ∀ y ∈ scope.names, y.2 = .local → y.1 = x ∨ y.1 ∉ N
  free : ∀ y ∈ scope.names, y.2 = .free → sc.names.lookup y.1 = some .cell ∨ sc.names.lookup y.1 = some .free
  nd : N.Nodup
  jx : N[j]? = some x
  len : N.length = N0.length + pad
  pre : N.take N0.length = N0

/-- the slots of the generator's frame -/
abbrev gsl (σ : L2.St) (pad j : Nat) (v : Option V) : L2.St := (σ ++ List.replicate pad none).set j v

section
variable {X : Cx} {pins : List (Addr × Obj)} {σ : L2.St} {H : Hp} {s : Shared}

theorem gfree {N : List Str} {scope : Scope} {x : Str} {pad j : Nat} (I : Inv X pins σ H s) (G : GN X.N X.env.scope scope x N pad j) :
    ∀ y ∈ scope.names, y.2 = .free → ∃ c, X.env.cells.lookup y.1 = some c := by
  intro y hy e
  rcases G.free y hy e with h | h
  · exact I.ok.has _ (Or.inl h)
  · exact I.ok.has _ (Or.inr h)

/-- the frame has just been made -/
theorem gstart {N : List Str} {scope : Scope} {x : Str} {pad j : Nat} {A : Around} {fp : List Addr} {code itv : Value} {h5 : Heap} {gs : Array GenState} {tk : Nat} {a : Addr} {go : Obj}
    (I : Inv X pins σ H s) (G : GN X.N X.env.scope scope x N pad j) (hA : A.handled = none)
    (hfr : A.frames = some (genEnv scope (cloFrom X.env.cells scope.names []) s.heap.objs.size code builtinsNs X.env :: X.stack))
    (hfp : ∀ b ∈ fp, FpOk X pins H b ∧ b < s.heap.objs.size)
    (kp : ∀ b o, s.heap.get? b = some o → h5.get? b = some o)
    (hn : h5.Ns s.heap.objs.size (fun y => if y = ".0" then some itv else none)) (hb : AllBare gs)
    (ha : h5.get? a = some go) (hlt : s.heap.objs.size < a) (hgo : ∀ v, go.data ≠ .cell v) :
    Inv (gcx X A s H (genEnv scope (cloFrom X.env.cells scope.names []) s.heap.objs.size code builtinsNs X.env) N fp [(a, go)]) []
      (gsl σ pad j none) H { s with gens := gs, toks := tk, heap := h5 } := by
  have cm : ∀ {y c}, (y, c) ∈ cloFrom X.env.cells scope.names [] → X.env.cells.lookup y = some c ∧ (y, NameKind.free) ∈ scope.names := by
    intro y c hm
    rcases cloFrom_mem hm with h | ⟨h1, rfl⟩
    · cases h
    · obtain ⟨c, hc⟩ := gfree I G _ h1 rfl
      rw [hc]
      exact ⟨rfl, h1⟩
  have cl : ∀ {y c}, (cloFrom X.env.cells scope.names []).lookup y = some c → X.env.cells.lookup y = some c :=
    fun e => (cm (PySem.mem_of_lookup e)).1
  have clt : ∀ {y c}, X.env.cells.lookup y = some c → c < s.heap.objs.size := by
    intro y c e
    obtain ⟨v, z⟩ := I.cell _ _ e
    exact z.lt
  have frC : H s.heap.objs.size = none := I.hok.fresh (Nat.le_refl _)
  have okg : (gcx X A s H (genEnv scope (cloFrom X.env.cells scope.names []) s.heap.objs.size code builtinsNs X.env) N fp [(a, go)]).Ok := by
    constructor
    case mod => exact I.ok.mod
    case kind => exact G.kind
    case glob => exact I.ok.glob
    case blt => rfl
    case above => exact Nat.le_refl _
    case inj => exact fun y z c e1 e2 => I.ok.inj y z c (cl e1) (cl e2)
    case has =>
      intro y hy
      have hy : scope.names.lookup y = some .cell ∨ scope.names.lookup y = some .free := hy
      rcases hy with hy | hy
      · exact absurd rfl (G.cell _ (PySem.mem_of_lookup hy))
      · exact mem_lookup (cloFrom_has (cells := X.env.cells) (acc := []) (PySem.mem_of_lookup hy))
    case cab => exact fun y c z _ => nomatch z
    case hd => exact fun _ => hA
    case frames => exact hfr
    case stk => exact .inr ⟨rfl, rfl⟩
    case exf =>
      intro b hb
      obtain ⟨⟨_, _, _, _, f5, _⟩, f7⟩ := hfp b hb
      exact ⟨Nat.ne_of_lt f7, fun y c e => f5 y c (cl e)⟩
    case bs => exact I.bs
    case bsz => exact Nat.le_trans I.ok.bsz I.sz
    case noex =>
      intro b o e hb
      obtain ⟨⟨_, _, _, f4, _, _⟩, _⟩ := hfp b hb
      rcases f4 with z | z
      · exact I.ok.noex b o e z
      · have h1 := Heap.lt_size e
        exact absurd (Nat.lt_of_lt_of_le (Nat.lt_of_lt_of_le h1 I.ok.bsz) z) (Nat.lt_irrefl _)
    case exfs =>
      intro b hb z
      obtain ⟨⟨_, f2, f3, _, _, _⟩, _⟩ := hfp b hb
      rcases List.mem_cons.mp (I.stkSub b z) with y | y
      · exact f2 y
      · exact f3 y
    case funs => exact I.stack
    case frf => exact I.stkFree
  refine ⟨okg, rfl, hb, Un.kept kp, ⟨_, hn, ?_⟩, ?_, frC, ?_, ?_, I.hok.kept kp, ?_⟩
  · intro i y v h1 h2 h3
    have hij : i ≠ j := by
      intro e
      subst e
      have h2 : (gsl σ pad i none)[i]? = some (some v) := h2
      rw [List.getElem?_set] at h2
      split at h2
      · split at h2 <;> cases h2
      · rename_i z; exact z rfl
    have h2' : (σ ++ List.replicate pad none)[i]? = some (some v) := by
      have h2 : (gsl σ pad j none)[i]? = some (some v) := h2
      rw [List.getElem?_set_ne (Ne.symm hij)] at h2
      exact h2
    have hi : i < σ.length := by
      rcases Nat.lt_or_ge i σ.length with z | z
      · exact z
      · rw [List.getElem?_append_right z, List.getElem?_replicate] at h2'
        split at h2' <;> cases h2'
    rw [List.getElem?_append_left hi] at h2'
    have hN : X.N[i]? = some y := by
      have e : (N.take X.N.length)[i]? = some y := by
        rw [List.getElem?_take_of_lt (by rw [← I.len]; exact hi)]
        exact h1
      rw [G.pre] at e
      exact e
    have hyx : y ≠ x := by
      intro e
      subst e
      exact hij (nodup_ix G.nd h1 G.jx)
    have h3 : scope.names.lookup y = some .local ∨ scope.names.lookup y = some .cell ∨ scope.names.lookup y = some .free := h3
    rcases h3 with z | z | z
    · rcases G.only _ (PySem.mem_of_lookup z) rfl with q | q
      · exact absurd q hyx
      · exact absurd (List.mem_of_getElem? h1) q
    · exact absurd rfl (G.cell _ (PySem.mem_of_lookup z))
    · have hv : X.env.scope.names.lookup y = some .cell ∨ X.env.scope.names.lookup y = some .free := G.free _ (PySem.mem_of_lookup z) rfl
      obtain ⟨m, hm, hl⟩ := I.loc
      obtain ⟨u, r, lk⟩ := hl i y v hN h2' (.inr hv)
      refine ⟨u, r, .inr ⟨.inr z, ?_⟩⟩
      obtain ⟨c', e'⟩ := mem_lookup (cloFrom_has (cells := X.env.cells) (acc := []) (PySem.mem_of_lookup z))
      refine ⟨c', e', ?_⟩
      rcases lk with ⟨k, _⟩ | ⟨_, c, e, ic⟩
      · have k : X.env.scope.names.lookup y = some .local := k
        rcases hv with q | q <;> (rw [q] at k; cases k)
      · have e2 := cl e'
        rw [e2] at e
        cases e
        obtain ⟨ob, ho, hd⟩ := ic
        exact ⟨ob, kp _ _ ho, hd⟩
  · intro y c e
    obtain ⟨v, ob, ho, hd⟩ := I.cell y c (cl e)
    exact ⟨v, ob, kp _ _ ho, hd⟩
  · exact fun y c e => I.freeC y c (cl e)
  · intro p hp
    have hp : p ∈ [(a, go)] ++ ([] : List (Addr × Obj)) := hp
    rw [List.append_nil] at hp
    rw [List.mem_singleton.mp hp]
    have hle := Nat.le_of_lt hlt
    refine ⟨ha, I.hok.fresh hle, Ne.symm (Nat.ne_of_lt hlt), ?_, hgo⟩
    intro z
    rcases List.mem_cons.mp (I.stkSub a z) with y | y
    · rw [y] at hlt
      exact absurd (Nat.lt_trans hlt I.lt) (Nat.lt_irrefl _)
    · exact I.nofs hle y
  · show ((σ ++ List.replicate pad none).set j none).length = N.length
    rw [List.length_set, List.length_append, List.length_replicate, I.len, G.len]
end

/-! ### the turns -/
/-- the end of the run, an item on its way -/
def gEnd (Xg : Cx) (Qe : Hp → Prop) : GenEnd := fun _ _ r s1 =>
  ((r = .ok (.ret .none) ∨ r = .ok .next) ∧ ∃ σ' H', Inv Xg [] σ' H' s1 ∧ Qe H') ∨ ∃ e : Value, r = .error e ∧ False
/-- go: the truth that lets the walk go on; Qb: what is wanted of the other one -/
def gItem (Xg : Cx) (go : Bool) (Qb : Hp → Prop) : Protocol := fun _ _ v s1 kap =>
  ∃ b H', v = Value.bool b ∧ (∃ pns σ', Inv Xg pns σ' H' s1) ∧ (b ≠ go → Qb H') ∧
    (b = go → ∀ s', s'.heap = s1.heap → s'.os = s1.os → AllBare s'.gens → kap (.send .none) s')

section
variable {X : Cx} {elt iter : Expr} {x : Str} {px gpos : Pos} {scope : Scope}
theorem gen_seg {A : Around} {s4 : Shared} {H4 : Hp} {ge : Env} {N : List Str} {fp : List Addr} {pn : List (Addr × Obj)} {it : Addr} {J : It} {tn : Nat → Heap → Prop} {te : TE} {σ0 : L2.St} {j : Nat} {go : Bool} {Qe Qb : Hp → Prop}
    (T : Turn X.prog X.w X.K (.Name x px) J fp it tn) (hnd : N.Nodup) (hj : N[j]? = some x) (hloc : ge.scope.names.lookup x = some .local) (hco : ge.scope.isCoroutine = false)
    (hpnf : ∀ p ∈ pn, p.1 ∉ fp)
    (pe : PE (gcx X ((A.over (.compLoop (.GeneratorExp elt [⟨.Name x px, iter, [], 0⟩] scope gpos) 0 (.ref it) .none ge) [])) s4 H4 ge N fp pn) elt te)
    (W : Nat → Nat → Hp → Prop) (h0 : σ0[j]? = some none)
    (turn : ∀ i m H, W i m H → (J.stop i H ∧ Qe H) ∨ (J.go i H ∧ ∀ y H', J.yld i H y H' → te (σ0.set j (some y)) H' fun v H3 => ∃ b, v = .bl b ∧ (b ≠ go → Qb H3) ∧ (b = go → ∃ m', m' < m ∧ W (i + 1) m' H3))) :
    ∀ (n i m : Nat) (H : Hp) (s0 s : Shared), m < n → W i m H → Inv (gcx X ((A.over (.compLoop (.GeneratorExp elt [⟨.Name x px, iter, [], 0⟩] scope gpos) 0 (.ref it) .none ge) [])) s4 H4 ge N fp pn) [] σ0 H s →
      tn i s.heap → (∀ b ∈ fp, H b = none) →
      Seg (model X.prog X.w) A (gEnd (gcx X ((A.over (.compLoop (.GeneratorExp elt [⟨.Name x px, iter, [], 0⟩] scope gpos) 0 (.ref it) .none ge) [])) s4 H4 ge N fp pn) Qe)
        (gItem (gcx X ((A.over (.compLoop (.GeneratorExp elt [⟨.Name x px, iter, [], 0⟩] scope gpos) 0 (.ref it) .none ge) [])) s4 H4 ge N fp pn) go Qb) n s0
        (.compLoop (.GeneratorExp elt [⟨.Name x px, iter, [], 0⟩] scope gpos) 0 (.ref it) .none ge)
        ((model X.prog X.w).den (.compLoop (.GeneratorExp elt [⟨.Name x px, iter, [], 0⟩] scope gpos) 0 (.ref it) .none ge)) [] s := by
  generalize hAg : (A.over (.compLoop (.GeneratorExp elt [⟨.Name x px, iter, [], 0⟩] scope gpos) 0 (.ref it) .none ge) []) = Ag at pe ⊢
  have stat : ∀ {ps : List (Addr × Obj)} {σ' : L2.St} {H' : Hp} {s' : Shared}, (∀ p ∈ ps, p.1 ∉ fp) → Inv (gcx X Ag s4 H4 ge N fp pn) ps σ' H' s' → (∀ b ∈ fp, H' b = none) → ∀ b ∈ fp, FpOk (gcx X Ag s4 H4 ge N fp pn) ps H' b := by
    intro ps σ' H' s' hps I' hn b hb
    refine ⟨hn b hb, (I'.ok.exf b hb).1, I'.ok.exfs b hb, .inl hb, fun x c e => (I'.ok.exf b hb).2 x c e, fun p hp z => ?_⟩
    rcases List.mem_append.mp hp with q | q
    · exact hpnf p q (z ▸ hb)
    · exact hps p q (z ▸ hb)
  have nop : ∀ p ∈ ([] : List (Addr × Obj)), p.1 ∉ fp := fun p hp => by simp at hp
  intro n
  induction n with
  | zero => intro i m H s0 s hm; omega
  | succ n ih =>
    intro i m H s0 s hm hw I st nf
    show Seg _ A _ _ _ s0 _ ((compTurn (.GeneratorExp elt [⟨.Name x px, iter, [], 0⟩] scope gpos) 0 (.ref it) .none ge).onRaise (leaving ge)) [] s
    rw [compTurn_gen, Sem.onRaise_eq_wrap]
    refine seg_bind_wrap (wpAny_standAt ?_)
    rcases turn i m H hw with ⟨stop, qq⟩ | ⟨goes, step⟩
    · refine seg_bind_wrap ?_
      rw [hAg]
      refine thnF (T.done (gcx X Ag s4 H4 ge N fp pn) rfl rfl rfl rfl i [] s σ0 H (fun _ _ => False) I (stat nop I nf) st stop) fun r s6 hr6 => ?_
      obtain ⟨hr, I6⟩ := hr6
      subst hr
      exact seg_end (.ok .next) (.inl ⟨.inr rfl, σ0, H, I6, qq⟩)
    · refine seg_bind_wrap ?_
      rw [hAg]
      refine thnF (T.item (gcx X Ag s4 H4 ge N fp pn) rfl rfl rfl rfl i [] s σ0 H (fun _ _ => False) I (stat nop I nf) st goes) fun r s6 hr6 => ?_
      obtain ⟨u, hr, h6⟩ := hr6
      subst hr
      refine seg_bind_wrap ?_
      rw [hAg]
      refine thnF h6 fun _ s7 hs7 => ?_
      obtain ⟨y, H7, I7, r7, y7, st7, n7⟩ := hs7
      have I7' := I7.pinned (stat nop I7 n7) (T.obj _ _ st7)
      refine seg_bind_wrap ?_
      rw [hAg]
      refine wpAny_assign_Name (store_ok (i := j) (v := y) I7' hnd hj (.inl hloc) r7 (fun s8 I8 => ?_) (.inr hloc))
      refine seg_bind_wrap ?_
      simp only [List.forIn_nil]
      refine wpAny_pure ?_
      simp only [if_true]
      have hy : ∀ v, yieldOut ge v = yieldValue v := fun v => by simp only [yieldOut, hco, Bool.false_eq_true, if_false]
      simp only [hy]
      rw [Sem.bind_eq_wrap', Sem.bind_eq_wrap', Sem.wrap_wrap, Sem.wrap_wrap]
      refine seg_wrap ?_
      rw [hAg]
      refine thnF (pe.run _ s8 _ H7 _ I8 (step y H7 y7)) fun z s9 hz => ?_
      obtain ⟨v, H9, I9, r9, b, rfl, hno, hgo⟩ := hz
      obtain rfl : z = Value.bool b := r9
      refine seg_at (seg_yield rfl rfl rfl ⟨b, H9, rfl, ⟨_, _, I9⟩, hno, fun e s'' hh hos hb => ?_⟩)
      obtain ⟨m', hlt, w'⟩ := hgo e
      have I10 : Inv (gcx X Ag s4 H4 ge N fp pn) ([] ++ pinsAt fp s7.heap) (σ0.set j (some y)) H9 s'' :=
        I9.call' (ch := []) hos (by rw [hh]; exact Un.refl) (by rw [hh]; exact I9.hok) hb (fun b hb => by simp at hb)
      have pin' : ∀ b ∈ fp, ∀ o, s7.heap.get? b = some o → s''.heap.get? b = some o ∧ H9 b = none := fun b hb o e =>
        let z := I10.pin (b, o) (List.mem_append_right _ (List.mem_append_right _ (mem_pinsAt hb e)))
        ⟨z.1, z.2.1⟩
      refine seg_again rfl (ih (i + 1) m' H9 s'' s'' (by omega) w' ((I10.unpinned (pins := [])).weak (by rw [List.length_set]) fun k v e2 => ?_) (T.keep _ _ _ st7 fun b hb o e => (pin' b hb o e).1) fun b hb => ?_)
      · have hk : k ≠ j := fun q => by
          rw [q, h0] at e2
          cases e2
        rw [List.getElem?_set_ne (Ne.symm hk)]
        exact e2
      · obtain ⟨o, e2, _⟩ := T.obj _ _ st7 b hb
        exact (pin' b hb o e2).2
end

/-! ### the consumer -/
section
variable {P : Program} {w : World}
/-- what the consumer's loop makes of an item: «all» goes on by True, «any» by False -/
theorem loop_all {Xg : Cx} {A : Around} {R : Result → Shared → Prop} {a : Addr} {g : Nat} {Qe Qb : Hp → Prop} (hh : A.handled = none) (hd : A.depth < recursionLimit)
    (gen : ∀ pns σ' H' s', Inv Xg pns σ' H' s' → s'.heap.IsGen a g)
    (hend : ∀ (b : Bool) pns σ' H' s1, Inv Xg pns σ' H' s1 → (if b = true then Qe H' else Qb H') → ∀ s', s'.os = s1.os → AllBare s'.gens → (∀ c o, s1.heap.get? c = some o → s'.heap.get? c = some o) → R (.ok (.ret (.bool b))) s') :
    ∀ (n : Nat) (s : Shared), s.heap.IsGen a g → s.heap.NoLimit →
      (∃ gs, s.gens[g]? = some gs ∧ gs.Goes (model P w) A.in1.in1 (gEnd Xg Qe) (gItem Xg true Qb) n (.send .none) (s.setGen g .running)) →
      codeAny (model P w) A (.builtin "all.loop" ⟨[.ref a], []⟩) R s := by
  intro n
  induction n with
  | zero =>
    intro s hg hl hgo
    obtain ⟨gs, hgs, hgo⟩ := hgo
    refine codeAny_builtin F.entry_all_loop ?_
    rw [Around.under_plainId F.plain_all_loop _]
    show wpAny _ A.in1 (pyNext (.ref a) >>= _) _ _ s
    refine wpAny_bind (next_genG (A := A.in1) (Er := fun _ _ => False) hh hl hd hg hgs hgo (fun v s₁ gs' hbare hv => ?_) (fun s₁ hp h' hk => ?_) fun e s₁ he => he.elim)
    · obtain ⟨b, H', rfl, ⟨pns, σ', J⟩, hno, hgo⟩ := hv
      cases b with
      | true => exact (hgo rfl s₁ rfl rfl J.bare).elim
      | false =>
        refine wpAny_bind (wpAny_holding (wpAny_truthy_bool ?_))
        refine wpAny_bind (wpAny_letGo ?_)
        simp only [Bool.false_eq_true, if_false]
        refine wpAny_bind (wpAny_rule (wpAny_pure ?_))
        exact hend false pns σ' H' s₁ J (hno (by decide)) _ rfl (allBare_setGen J.bare hbare) fun _ _ e => e
    · obtain ⟨σ', H', J, q⟩ := hp
      refine wpAny_bind (wpAny_rule (wpAny_pure ?_))
      exact hend true [] σ' H' s₁ J q _ rfl (allBare_setGen J.bare rfl) hk
  | succ n ih =>
    intro s hg hl hgo
    obtain ⟨gs, hgs, hgo⟩ := hgo
    have hgl : g < s.gens.size := (Array.getElem?_eq_some_iff.mp hgs).1
    refine codeAny_builtin F.entry_all_loop ?_
    rw [Around.under_plainId F.plain_all_loop _]
    show wpAny _ A.in1 (pyNext (.ref a) >>= _) _ _ s
    refine wpAny_bind (wpAny_gsz (n := g + 1) hgl (next_genG (A := A.in1) (Er := fun _ _ => False) hh hl hd hg hgs hgo (fun v s₁ gs' hbare hv => ?_) (fun s₁ hp h' hk => ?_) fun e s₁ he => he.elim))
    · intro hsz
      obtain ⟨b, H', rfl, ⟨pns, σ', J⟩, hno, hgo⟩ := hv
      refine wpAny_bind (wpAny_holding (wpAny_truthy_bool ?_))
      refine wpAny_bind (wpAny_letGo ?_)
      cases b with
      | true =>
        simp only [if_true]
        have hsz1 : g < s₁.gens.size := by
          have q : (s₁.setGen g gs').gens.size = s₁.gens.size := setGen_size _ _ _
          have hsz' : g + 1 ≤ (s₁.setGen g gs').gens.size := hsz
          omega
        refine wpAny_pure ⟨plainId_quiet F.plain_all_loop _, ih (s₁.setGen g gs') (show s₁.heap.IsGen a g from gen _ _ _ _ J) (show s₁.heap.NoLimit from J.nolimit) ⟨gs', setGen_at hsz1, ?_⟩⟩
        exact hgo rfl ((s₁.setGen g gs').setGen g .running) rfl rfl (allBare_setGen (allBare_setGen J.bare hbare) rfl)
      | false =>
        simp only [Bool.false_eq_true, if_false]
        refine wpAny_bind (wpAny_rule (wpAny_pure ?_))
        exact hend false pns σ' H' s₁ J (hno (by decide)) _ rfl (allBare_setGen J.bare hbare) fun _ _ e => e
    · intro _
      obtain ⟨σ', H', J, q⟩ := hp
      refine wpAny_bind (wpAny_rule (wpAny_pure ?_))
      exact hend true [] σ' H' s₁ J q _ rfl (allBare_setGen J.bare rfl) hk

theorem loop_any {Xg : Cx} {A : Around} {R : Result → Shared → Prop} {a : Addr} {g : Nat} {Qe Qb : Hp → Prop} (hh : A.handled = none) (hd : A.depth < recursionLimit)
    (gen : ∀ pns σ' H' s', Inv Xg pns σ' H' s' → s'.heap.IsGen a g)
    (hend : ∀ (b : Bool) pns σ' H' s1, Inv Xg pns σ' H' s1 → (if b = true then Qb H' else Qe H') → ∀ s', s'.os = s1.os → AllBare s'.gens → (∀ c o, s1.heap.get? c = some o → s'.heap.get? c = some o) → R (.ok (.ret (.bool b))) s') :
    ∀ (n : Nat) (s : Shared), s.heap.IsGen a g → s.heap.NoLimit →
      (∃ gs, s.gens[g]? = some gs ∧ gs.Goes (model P w) A.in1.in1 (gEnd Xg Qe) (gItem Xg false Qb) n (.send .none) (s.setGen g .running)) →
      codeAny (model P w) A (.builtin "any.loop" ⟨[.ref a], []⟩) R s := by
  intro n
  induction n with
  | zero =>
    intro s hg hl hgo
    obtain ⟨gs, hgs, hgo⟩ := hgo
    refine codeAny_builtin F.entry_any_loop ?_
    rw [Around.under_plainId F.plain_any_loop _]
    show wpAny _ A.in1 (pyNext (.ref a) >>= _) _ _ s
    refine wpAny_bind (next_genG (A := A.in1) (Er := fun _ _ => False) hh hl hd hg hgs hgo (fun v s₁ gs' hbare hv => ?_) (fun s₁ hp h' hk => ?_) fun e s₁ he => he.elim)
    · obtain ⟨b, H', rfl, ⟨pns, σ', J⟩, hno, hgo⟩ := hv
      cases b with
      | false => exact (hgo rfl s₁ rfl rfl J.bare).elim
      | true =>
        refine wpAny_bind (wpAny_holding (wpAny_truthy_bool ?_))
        refine wpAny_bind (wpAny_letGo ?_)
        simp only [if_true]
        refine wpAny_bind (wpAny_rule (wpAny_pure ?_))
        exact hend true pns σ' H' s₁ J (hno (by decide)) _ rfl (allBare_setGen J.bare hbare) fun _ _ e => e
    · obtain ⟨σ', H', J, q⟩ := hp
      refine wpAny_bind (wpAny_rule (wpAny_pure ?_))
      exact hend false [] σ' H' s₁ J q _ rfl (allBare_setGen J.bare rfl) hk
  | succ n ih =>
    intro s hg hl hgo
    obtain ⟨gs, hgs, hgo⟩ := hgo
    have hgl : g < s.gens.size := (Array.getElem?_eq_some_iff.mp hgs).1
    refine codeAny_builtin F.entry_any_loop ?_
    rw [Around.under_plainId F.plain_any_loop _]
    show wpAny _ A.in1 (pyNext (.ref a) >>= _) _ _ s
    refine wpAny_bind (wpAny_gsz (n := g + 1) hgl (next_genG (A := A.in1) (Er := fun _ _ => False) hh hl hd hg hgs hgo (fun v s₁ gs' hbare hv => ?_) (fun s₁ hp h' hk => ?_) fun e s₁ he => he.elim))
    · intro hsz
      obtain ⟨b, H', rfl, ⟨pns, σ', J⟩, hno, hgo⟩ := hv
      refine wpAny_bind (wpAny_holding (wpAny_truthy_bool ?_))
      refine wpAny_bind (wpAny_letGo ?_)
      cases b with
      | false =>
        simp only [Bool.false_eq_true, if_false]
        have hsz1 : g < s₁.gens.size := by
          have q : (s₁.setGen g gs').gens.size = s₁.gens.size := setGen_size _ _ _
          have hsz' : g + 1 ≤ (s₁.setGen g gs').gens.size := hsz
          omega
        refine wpAny_pure ⟨plainId_quiet F.plain_any_loop _, ih (s₁.setGen g gs') (show s₁.heap.IsGen a g from gen _ _ _ _ J) (show s₁.heap.NoLimit from J.nolimit) ⟨gs', setGen_at hsz1, ?_⟩⟩
        exact hgo rfl ((s₁.setGen g gs').setGen g .running) rfl rfl (allBare_setGen (allBare_setGen J.bare hbare) rfl)
      | true =>
        simp only [if_true]
        refine wpAny_bind (wpAny_rule (wpAny_pure ?_))
        exact hend true pns σ' H' s₁ J (hno (by decide)) _ rfl (allBare_setGen J.bare hbare) fun _ _ e => e
    · intro _
      obtain ⟨σ', H', J, q⟩ := hp
      refine wpAny_bind (wpAny_rule (wpAny_pure ?_))
      exact hend false [] σ' H' s₁ J q _ rfl (allBare_setGen J.bare rfl) hk
end

/-! ### the expression -/
/-- some table stands at P -/
def TabG (H : Hp) (P : Addr) : Prop := ∃ ps : Array Value, H P = some (.tbl ps) ∧ TriplesOk ps.toList
/-- H' is H but for the table at P -/
def Tabd (P : Addr) (H H' : Hp) : Prop := TabG H' P ∧ ∀ b, b ≠ P → H' b = H b
/-- what a walk by a generator asks: go is the item's truth that lets it go on -/
def GW (J : It) (te : TE) (σ0 : L2.St) (j : Nat) (go : Bool) (Q : Bool → Hp → Prop) (H : Hp) : Prop :=
  ∃ W : Nat → Nat → Hp → Prop, (∃ m, W 0 m H) ∧ ∀ i m H, W i m H →
    (J.stop i H ∧ Q go H) ∨ (J.go i H ∧ ∀ y H', J.yld i H y H' → te (σ0.set j (some y)) H' fun v H3 => ∃ b, v = .bl b ∧ (b ≠ go → Q (!go) H3) ∧ (b = go → ∃ m', m' < m ∧ W (i + 1) m' H3))
/-- the reading -/
def tGen (P : Addr) (go : Bool) (wi : TI) (te : TE) (pad j : Nat) : TE := fun σ H Q => wi σ H fun J H1 => TabG H1 P ∧
  ∀ H2, Tabd P H1 H2 → GW J te (gsl σ pad j none) j go (fun b H3 => Q (.bl b) H3) H2

section
variable {X : Cx} {c P : Addr} {elt iter : Expr} {x : Str} {px p pos gpos : Pos} {scope : Scope} {wi : TI} {te : TE} {k pad j : Nat} {N : List Str}

theorem room_gen {A : Around} {gx : Expr} {it : Value} {ge : Env} (hr : Room (k + 1) A) (hf : Code.isFrame (.compLoop gx 0 it .none ge) = true := by rfl) :
    Room k (A.in1.in1.over (.compLoop gx 0 it .none ge) []) := by
  have h1 := hr.dp
  have h2 := hr.un
  have e1 : (Code.compLoop gx 0 it .none ge).weight ≤ 1 := by
    show Code.frames _ + _ + _ + _ ≤ 1
    have : (Code.compLoop gx 0 it .none ge).frames ≤ 1 := by
      show (if Code.isFrame (.compLoop gx 0 it .none ge) = true then 1 else 0) ≤ 1
      split <;> omega
    simpa [Code.isCreation, Code.isGuard, Code.isCaller] using this
  have e2 : (Code.compLoop gx 0 it .none ge).cUnits ≤ 3 := by
    show 3 * (Code.compLoop gx 0 it .none ge).frames ≤ 3
    have : (Code.compLoop gx 0 it .none ge).frames ≤ 1 := by
      show (if Code.isFrame (.compLoop gx 0 it .none ge) = true then 1 else 0) ≤ 1
      split <;> omega
    omega
  refine ⟨hr.hd, ?_, ?_⟩
  · show A.depth + 0 + (Code.compLoop gx 0 it .none ge).weight + 3 * k + 5 < recursionLimit
    omega
  · show A.units + 1 + 1 + 0 + (Code.compLoop gx 0 it .none ge).cUnits + 16 * k + 200 < cLine
    omega

theorem gen_core {Q : Bool → Hp → Prop} {Q' : Value → Shared → Prop} {pins : List (Addr × Obj)} {σ : L2.St} {H : Hp} {s : Shared} {go : Bool} (hr : Room (k + 1) X.A) (hc : X.calm = true) (TB : LamX.TabB X.base X.mg c P) (hcode : X.env.code = .ref c)
    (G : GN X.N X.env.scope scope x N pad j) (hi : PI X (.Name x px) iter wi)
    (hel : ∀ (A : Around) (s : Shared) (H : Hp) (cl : List (Str × Addr)) (C : Addr) (code : Value) (fp : List Addr) (pn : List (Addr × Obj)), Room k A → PE (gcx X A s H (genEnv scope cl C code builtinsNs X.env) N fp pn) elt te)
    (hs : ∀ v, genFold iter X.env v = pure v) (I : Inv X pins σ H s)
    (h : wi σ H fun J H1 => TabG H1 P ∧ ∀ H2, Tabd P H1 H2 → GW J te (gsl σ pad j none) j go Q H2)
    (hQ : ∀ (Xg : Cx) (a : Addr) (g n : Nat) (s5 : Shared),
      (∀ pns σ' H' s', Inv Xg pns σ' H' s' → s'.heap.IsGen a g) →
      (∀ pns σ' H' s1, Inv Xg pns σ' H' s1 → ∀ s', s'.os = s1.os → AllBare s'.gens → (∀ b o, s1.heap.get? b = some o → s'.heap.get? b = some o) → Inv X pins σ H' s') →
      s5.heap.IsGen a g → s5.heap.NoLimit →
      (∃ gs, s5.gens[g]? = some gs ∧ gs.Goes (model X.prog X.w) X.A.in1.in1 (gEnd Xg (Q go)) (gItem Xg go (Q (!go))) n (.send .none) (s5.setGen g .running)) →
      Q' (.ref a) s5) :
    wpAny (model X.prog X.w) X.A (eval (.GeneratorExp elt [⟨.Name x px, iter, [], 0⟩] scope gpos) X.env) Q' X.xe s := by
  refine wpAny_GeneratorExp_make G.co (closure_ok (gfree I G)) G.cell G.dot G.kind hr.depth ?_ hs
  refine thn (hi.run pins s σ H _ I h) fun xv s0 h0 => thn h0 fun itv s1 h1 => ?_
  obtain ⟨it, fp, tn, J, H1, rfl, I1, T, st1, f1, ⟨ps, hP, ht⟩, q1⟩ := h1
  refine ⟨I1.nolimit, ?_⟩
  have hPs : s1.heap.get? P = some { cls := .none, data := .fields ps } := I1.hok P _ hP
  have nPf : ∀ b ∈ fp, b ≠ P := fun b hb z => by
    have e := (f1 b hb).1
    rw [z, hP] at e
    cases e
  have lt1 : ∀ b ∈ fp, b < s1.heap.objs.size := fun b hb => by
    obtain ⟨o, e, _⟩ := T.obj _ _ st1 b hb
    exact Heap.lt_size e
  have cd : PySem.W.CodeHd s1.heap c P := TB.code.keeps fun b u e => I1.bk b u e
  -- behind the code object's making
  have cont : ∀ (code : Value) (s4 : Shared) (H4 : Hp), Inv X pins σ H4 s4 → Tabd P H1 H4 → (∀ b o, b ≠ P → s1.heap.get? b = some o → s4.heap.get? b = some o) →
      wpAny (model X.prog X.w) X.A (builtinsFor X.env.globals X.env.builtins) (fun bi s₄ =>
        ∀ h', h'.Ns s₄.heap.objs.size (fun y => if y = ".0" then some (.ref it) else none) → Heap.SameBut s₄.heap.objs.size (s₄.heap.push { cls := .type "frame", data := .dict #[] }) h' →
          Q' (.ref h'.objs.size) { s₄ with
            gens := s₄.gens.push (.fresh (.compStart (.GeneratorExp elt [⟨.Name x px, iter, [], 0⟩] scope gpos) 0 (.ref it) .none (genEnv scope (cloFrom X.env.cells scope.names []) s₄.heap.objs.size code bi X.env))),
            toks := s₄.toks + 1 + 1 + 1,
            heap := h'.push { cls := .type "generator", data := .fields #[.int s₄.gens.size 0, .str "<genexpr>" (s₄.toks + 1), .str (X.env.qual ++ "<genexpr>") (s₄.toks + 1 + 1)] } }) X.xe s4 := by
    intro code s4 H4 I4 hT k4
    obtain ⟨bm, ob, e1, e2, e3, e4, e5, e6, e7, e8⟩ := TB.bm
    refine wpAny_builtinsFor (m := X.mg) (by rw [I4.ok.glob]; exact I4.mod.glob.keeps I4.bk) e1 e2 (I4.bk _ _ e5) e6 e7 e8 ?_
    intro h' hn hsb
    have sz' : h'.objs.size = s4.heap.objs.size + 1 := by rw [hsb.1, Heap.size_push]
    have kp' : ∀ b o, s4.heap.get? b = some o → h'.get? b = some o := fun b o e =>
      hsb.extBut b o (Nat.ne_of_lt (Heap.lt_size e)) (Heap.get?_push_of_some _ e)
    generalize hgo : ({ cls := .type "generator", data := .fields #[.int s4.gens.size 0, .str "<genexpr>" (s4.toks + 1), .str (X.env.qual ++ "<genexpr>") (s4.toks + 1 + 1)] } : Obj) = gob
    have hgc : ∀ v, gob.data ≠ .cell v := fun v z => by rw [← hgo] at z; cases z
    have hga : (h'.push gob).get? h'.objs.size = some gob := Heap.get?_push_size _ (by rw [← hgo]; rfl)
    have kp5 : ∀ b o, s4.heap.get? b = some o → (h'.push gob).get? b = some o := fun b o e => Heap.get?_push_of_some _ (kp' b o e)
    have gfpn : ∀ b ∈ fp, H4 b = none := fun b hb => by rw [hT.2 b (nPf b hb)]; exact (f1 b hb).1
    have st4 : tn 0 s4.heap := T.keep _ _ _ st1 fun b hb o e => k4 b o (nPf b hb) e
    have lt4 : ∀ b ∈ fp, b < s4.heap.objs.size := fun b hb => by
      obtain ⟨o, e, _⟩ := T.obj _ _ st4 b hb
      exact Heap.lt_size e
    have f4 : ∀ b ∈ fp, FpOk X pins H4 b ∧ b < s4.heap.objs.size := fun b hb => ⟨⟨gfpn b hb, (f1 b hb).2⟩, lt4 b hb⟩
    generalize hge : genEnv scope (cloFrom X.env.cells scope.names []) s4.heap.objs.size code builtinsNs X.env = ge
    have hAg : Room k (X.A.in1.in1.over (.compLoop (.GeneratorExp elt [⟨.Name x px, iter, [], 0⟩] scope gpos) 0 (.ref it) .none ge) []) := room_gen hr
    have hfr : (X.A.in1.in1.over (.compLoop (.GeneratorExp elt [⟨.Name x px, iter, [], 0⟩] scope gpos) 0 (.ref it) .none ge) []).frames = some (ge :: X.stack) := by
      show (X.A.frames).map _ = _
      rw [I4.ok.frames]
      rfl
    have hbg : AllBare (s4.gens.push (.fresh (.compStart (.GeneratorExp elt [⟨.Name x px, iter, [], 0⟩] scope gpos) 0 (.ref it) .none ge))) := I4.bare.push rfl
    generalize hs5 : ({ s4 with
      gens := s4.gens.push (.fresh (.compStart (.GeneratorExp elt [⟨.Name x px, iter, [], 0⟩] scope gpos) 0 (.ref it) .none ge)),
      toks := s4.toks + 1 + 1 + 1, heap := h'.push gob } : Shared) = s5
    have I5 : ∀ gs : Array GenState, AllBare gs → Inv (gcx X (X.A.in1.in1.over (.compLoop (.GeneratorExp elt [⟨.Name x px, iter, [], 0⟩] scope gpos) 0 (.ref it) .none ge) []) s4 H4 ge N fp [(h'.objs.size, gob)]) []
        (gsl σ pad j none) H4 { s4 with gens := gs, toks := s4.toks + 1 + 1 + 1, heap := h'.push gob } := by
      intro gs hb
      subst hge
      exact gstart I4 G hAg.hd hfr f4 kp5 (hn.push _) hb hga (by rw [sz']; exact Nat.lt_succ_self _) hgc
    have isg : ∀ h : Heap, h.get? h'.objs.size = some gob → h.IsGen h'.objs.size s4.gens.size := fun h e => by
      subst hgo
      exact ⟨_, _, _, e, rfl, rfl, rfl⟩
    obtain ⟨W, ⟨m0, w0⟩, turn⟩ := q1 H4 hT
    have pe := hel _ s4 H4 (cloFrom X.env.cells scope.names []) s4.heap.objs.size code fp [(h'.objs.size, gob)] hAg
    rw [hge] at pe
    have hloc : ge.scope.names.lookup x = some .local := by subst hge; exact G.loc
    have hco : ge.scope.isCoroutine = false := by subst hge; exact G.co
    have hpnf : ∀ p ∈ [(h'.objs.size, gob)], p.1 ∉ fp := fun p hp hm => by
      rw [List.mem_singleton.mp hp] at hm
      have := lt4 _ hm
      rw [sz'] at this
      exact absurd (Nat.lt_trans this (Nat.lt_succ_self _)) (Nat.lt_irrefl _)
    have hjl : (gsl σ pad j none)[j]? = some none := by
      have hl : j < (σ ++ List.replicate pad none).length := by
        rw [List.length_append, List.length_replicate, I4.len, ← G.len]
        exact (List.getElem?_eq_some_iff.mp G.jx).1
      show ((σ ++ List.replicate pad none).set j none)[j]? = some none
      rw [List.getElem?_set_self hl]
    refine hQ (gcx X (X.A.in1.in1.over (.compLoop (.GeneratorExp elt [⟨.Name x px, iter, [], 0⟩] scope gpos) 0 (.ref it) .none ge) []) s4 H4 ge N fp [(h'.objs.size, gob)]) h'.objs.size s4.gens.size (m0 + 1) s5 ?_ ?_ ?_ ?_ ?_
    · intro pns σ' H' s' J'
      exact isg _ (J'.pin (h'.objs.size, gob) (List.mem_append_left _ (List.mem_singleton.mpr rfl))).1
    · intro pns σ' H' s1' J' s' hos hbare hk
      exact I4.call' (ch := fp) (hos.trans J'.os) (J'.base.trans (Un.kept hk)) (J'.hok.kept hk) hbare fun b hb =>
        ⟨(f4 b hb).1.2.2.2.1, (f4 b hb).1.2.1, (f4 b hb).1.2.2.2.2.1, (f4 b hb).1.2.2.2.2.2⟩
    · subst hs5; exact isg _ hga
    · subst hs5; exact I4.nolimit.keeps kp5
    · refine ⟨.fresh (.compStart (.GeneratorExp elt [⟨.Name x px, iter, [], 0⟩] scope gpos) 0 (.ref it) .none ge), by subst hs5; exact Array.getElem?_push_size .., rfl, ?_⟩
      have hb5 : AllBare (s5.setGen s4.gens.size .running).gens := by
        subst hs5
        exact allBare_setGen hbg rfl
      have loop := gen_seg (A := X.A.in1.in1) (gpos := gpos) (go := go) (Qe := Q go) (Qb := Q (!go)) T G.nd G.jx hloc hco hpnf pe W hjl turn (m0 + 1) 0 m0 H4 (s5.setGen s4.gens.size .running) (s5.setGen s4.gens.size .running) (Nat.lt_succ_self _) w0
        (by subst hs5; exact I5 _ hb5) (by subst hs5; exact T.keep _ _ _ st4 fun b _ o e => kp5 b o e) gfpn
      show Seg _ X.A.in1.in1 _ _ _ _ _ ((compStart (.GeneratorExp elt [⟨.Name x px, iter, [], 0⟩] scope gpos) 0 (.ref it) .none ge).onRaise (leaving ge)) [] _
      unfold compStart
      rw [Sem.onRaise_eq_wrap]
      show Seg _ X.A.in1.in1 _ _ _ _ _ ((ask >>= _).wrap _ _ _ _) [] _
      refine seg_bind_wrap (wpAny_askSetting ?_)
      split
      · exact seg_again rfl loop
      · have self : ∀ (A' : Around) (R' : Value → Shared → Prop) (E' : Value → Shared → Prop), R' (.ref it) (s5.setGen s4.gens.size .running) → wpAny (model X.prog X.w) A' (pyIter (.ref it)) R' E' (s5.setGen s4.gens.size .running) :=
          fun A' R' E' hR => T.self A' 0 _ _ _ (by subst hs5; exact T.keep _ _ _ st4 fun b _ o e => kp5 b o e) hR
        first
          | exact seg_bind_wrap (wpAny_rule (seg_bind_wrap (wpAny_standAt (seg_bind_wrap (self _ _ _ (seg_again rfl loop))))))
          | (refine seg_bind_wrap (wpAny_rule ?_); show Seg _ X.A.in1.in1 _ _ _ _ _ ((standAt iter.pos >>= _).wrap _ _ _ _) [] _; exact seg_bind_wrap (wpAny_standAt (seg_bind_wrap (self _ _ _ (seg_again rfl loop)))))
  cases hf : codeAmong gpos ps.toList with
  | none =>
    refine wpAny_genexprCodeX hcode (cd.code hPs ht) (cd.tab hPs) hf fun c' h' tk hx hge hlt hco' _ htab' _ => ?_
    obtain ⟨o1, vs, f9, tf, fl, tg, inF, tx, tt, op, _, _, _, _, _, _, _, _, _, htr, _⟩ := hco'
    have hP3 := htab'.2
    refine cont _ _ (upd H1 P (.tbl (ps ++ #[rawInt gpos.line, rawInt gpos.col, .ref c']))) (GxR.inv_tab (g' := s1.gens) (d' := s1.drawn) I1 hP (fun b o hb e => hx b o hb e) hP3 I1.bare) ⟨⟨_, upd_same, htr⟩, fun b hb => upd_ne hb⟩ fun b o hb e => hx b o hb e
  | some cv =>
    refine wpAny_genexprCode_hit hcode (cd.code hPs ht) hf ?_
    exact cont cv s1 H1 I1 ⟨⟨ps, hP, ht⟩, fun _ _ => rfl⟩ fun b o _ e => e
/-- all(elt for x in iter) -/
theorem pe_all (hr : Room (k + 1) X.A) (hc : X.calm = true) (hg : Gl X "all") (hm : X.mg "all" = none) (TB : LamX.TabB X.base X.mg c P) (hcode : X.env.code = .ref c)
    (G : GN X.N X.env.scope scope x N pad j) (hi : PI X (.Name x px) iter wi)
    (hel : ∀ (A : Around) (s : Shared) (H : Hp) (cl : List (Str × Addr)) (C : Addr) (code : Value) (fp : List Addr) (pn : List (Addr × Obj)), Room k A → PE (gcx X A s H (genEnv scope cl C code builtinsNs X.env) N fp pn) elt te)
    (hs : ∀ v, genFold iter X.env v = pure v := by intro _; rfl)
    (he : starEach [.GeneratorExp elt [⟨.Name x px, iter, [], 0⟩] scope gpos] X.env = (false, eval (.GeneratorExp elt [⟨.Name x px, iter, [], 0⟩] scope gpos) X.env) :: starEach [] X.env := by rfl) :
    PE X (.Call (.Name "all" p) [.GeneratorExp elt [⟨.Name x px, iter, [], 0⟩] scope gpos] [] pos) (tGen P true wi te pad j) := by
  constructor
  intro pins s σ H Q I h
  refine wpAny_Call_Name_kw (ld_blt I hg hm boot_all ?_)
  refine PyProof.Rows.callWith_builtin1 ?_ he (by rfl)
  rw [he]
  show wpAny _ _ (spliced ((false, eval (.GeneratorExp elt [⟨.Name x px, iter, [], 0⟩] scope gpos) X.env) :: backTo pos (starEach [] X.env))) _ _ s
  refine Calls.spliced_cons (gen_core (Q := fun b H3 => Q (.bl b) H3) (go := true) hr hc TB hcode G hi hel hs I h fun Xg a g n s5 g1 g2 g3 g4 g5 => ?_)
  refine Calls.spliced_nil ?_
  refine call_function_tree F.kind_all F.plain_all F.entry_all (F.args_all1 _) ?_
  unfold Builtin.«all»
  refine wpAny_bind (m := oneArg "all" _) (wpAny_pure ?_)
  refine wpAny_bind (wpAny_pyIter_gen g3 ?_)
  refine wpAny_pure ⟨plainId_quiet F.plain_all_loop _, loop_all hr.hd hr.depth g1 (fun b pns σ' H' s1 J q s' h1 h2 h3 => ?_) n s5 g3 g4 g5⟩
  refine ⟨.bl b, H', g2 pns σ' H' s1 J s' h1 h2 h3, rfl, ?_⟩
  cases b <;> exact q
/-- any(elt for x in iter) -/
theorem pe_any (hr : Room (k + 1) X.A) (hc : X.calm = true) (hg : Gl X "any") (hm : X.mg "any" = none) (TB : LamX.TabB X.base X.mg c P) (hcode : X.env.code = .ref c)
    (G : GN X.N X.env.scope scope x N pad j) (hi : PI X (.Name x px) iter wi)
    (hel : ∀ (A : Around) (s : Shared) (H : Hp) (cl : List (Str × Addr)) (C : Addr) (code : Value) (fp : List Addr) (pn : List (Addr × Obj)), Room k A → PE (gcx X A s H (genEnv scope cl C code builtinsNs X.env) N fp pn) elt te)
    (hs : ∀ v, genFold iter X.env v = pure v := by intro _; rfl)
    (he : starEach [.GeneratorExp elt [⟨.Name x px, iter, [], 0⟩] scope gpos] X.env = (false, eval (.GeneratorExp elt [⟨.Name x px, iter, [], 0⟩] scope gpos) X.env) :: starEach [] X.env := by rfl) :
    PE X (.Call (.Name "any" p) [.GeneratorExp elt [⟨.Name x px, iter, [], 0⟩] scope gpos] [] pos) (tGen P false wi te pad j) := by
  constructor
  intro pins s σ H Q I h
  refine wpAny_Call_Name_kw (ld_blt I hg hm boot_any ?_)
  refine PyProof.Rows.callWith_builtin1 ?_ he (by rfl)
  rw [he]
  show wpAny _ _ (spliced ((false, eval (.GeneratorExp elt [⟨.Name x px, iter, [], 0⟩] scope gpos) X.env) :: backTo pos (starEach [] X.env))) _ _ s
  refine Calls.spliced_cons (gen_core (Q := fun b H3 => Q (.bl b) H3) (go := false) hr hc TB hcode G hi hel hs I h fun Xg a g n s5 g1 g2 g3 g4 g5 => ?_)
  refine Calls.spliced_nil ?_
  refine call_function_tree F.kind_any F.plain_any F.entry_any (F.args_any1 _) ?_
  unfold Builtin.«any»
  refine wpAny_bind (m := oneArg "any" _) (wpAny_pure ?_)
  refine wpAny_bind (wpAny_pyIter_gen g3 ?_)
  refine wpAny_pure ⟨plainId_quiet F.plain_any_loop _, loop_any hr.hd hr.depth g1 (fun b pns σ' H' s1 J q s' h1 h2 h3 => ?_) n s5 g3 g4 g5⟩
  refine ⟨.bl b, H', g2 pns σ' H' s1 J s' h1 h2 h3, rfl, ?_⟩
  cases b <;> exact q
end
end GA

/-! What all proofs of this program lean on. -/
namespace LT
open PySem PySem.Spec PyProof.Rows L2 GA

/-! ### what stays -/
/-- nothing that was tracked is gone or changed; tables of code objects may have grown -/
structure Ex (H H' : Hp) : Prop where
  keep : ∀ b o, H b = some o → (∀ ps, o ≠ .tbl ps) → H' b = some o
  tab : ∀ b, TabG H b → TabG H' b
  free : ∀ b, H' b = none → H b = none
theorem Ex.refl (H : Hp) : Ex H H := ⟨fun _ _ h _ => h, fun _ h => h, fun _ h => h⟩
theorem Ex.trans {H H1 H2 : Hp} (a : Ex H H1) (b : Ex H1 H2) : Ex H H2 :=
  ⟨fun c o h n => b.keep c o (a.keep c o h n) n, fun c h => b.tab c (a.tab c h), fun c h => a.free c (b.free c h)⟩
theorem Ex.new {H : Hp} {p : Addr} {o : HO} (h : H p = none) : Ex H (upd H p o) := by
  constructor
  · intro b u e _
    rw [upd_ne (ne_of_none e h)]
    exact e
  · rintro b ⟨ps, e, t⟩
    exact ⟨ps, by rw [upd_ne (ne_of_none e h)]; exact e, t⟩
  · intro b e
    by_cases hb : b = p
    · rw [hb]; exact h
    · rw [upd_ne hb] at e; exact e
theorem Ex.tabd {P : Addr} {H H' : Hp} (h : Tabd P H H') (hP : TabG H P) : Ex H H' := by
  obtain ⟨⟨ps, e, t⟩, hk⟩ := h
  constructor
  · intro b o e1 n
    have hb : b ≠ P := fun z => by
      obtain ⟨qs, e2, _⟩ := hP
      rw [z, e2] at e1
      cases e1
      exact n qs rfl
    rw [hk b hb]
    exact e1
  · intro b hb
    by_cases z : b = P
    · rw [z]; exact ⟨ps, e, t⟩
    · obtain ⟨qs, e2, t2⟩ := hb
      exact ⟨qs, by rw [hk b z]; exact e2, t2⟩
  · intro b hb
    by_cases z : b = P
    · rw [z, e] at hb; cases hb
    · rw [hk b z] at hb; exact hb
theorem Ex.rd {H H' : Hp} {a : Addr} {u : HO} (x : Ex H H') (h : Rd H a u) (n : ∀ ps, u ≠ .tbl ps) : Rd H' a u := by
  rcases h with h | ⟨o, h⟩
  · exact Or.inl (x.keep _ _ h n)
  · exact Or.inr ⟨o, x.keep _ _ h (fun ps z => by cases z)⟩
theorem Ex.tup {K : PySem.W.Frag} {H H' : Hp} {a : Addr} {xs : List V} (x : Ex H H') (h : SqT K H a xs) : SqT K H' a xs := by
  rcases h with h | h
  · exact Or.inl (x.rd h (fun ps z => by cases z))
  · exact Or.inr h
theorem Ex.lst {K : PySem.W.Frag} {H H' : Hp} {a : Addr} {xs : List V} (x : Ex H H') (h : SqL K H a xs) : SqL K H' a xs := by
  rcases h with h | h
  · exact Or.inl (x.rd h (fun ps z => by cases z))
  · exact Or.inr h

/-! ### kinds of things -/
inductive Kn (K : PySem.W.Frag) (H : Hp) : V → String → Prop
  | non : Kn K H .non "NoneType"
  | bl (b : Bool) : Kn K H (.bl b) "bool"
  | int (i : Int) : Kn K H (.int i) "int"
  | str (z : Str) : Kn K H (.str z) "str"
  | lst {a : Addr} {xs : List V} (e : SqL K H a xs) : Kn K H (.ref a) "list"
  | tup {a : Addr} {xs : List V} (e : SqT K H a xs) : Kn K H (.ref a) "tuple"
  | dK {a : Addr} {kvs : List (Key × V)} (e : H a = some (.dK kvs)) : Kn K H (.ref a) "dict"
  | dT {a : Addr} {kvs : List (List Key × V)} (e : H a = some (.dT kvs)) : Kn K H (.ref a) "dict"
  | dX {a : Addr} {f : Heap → Prop} (e : H a = some (.ext f)) (c : ∀ h, f h → ∃ o, h.get? a = some o ∧ o.cls = .type "dict") : Kn K H (.ref a) "dict"
theorem Kn.ex {K : PySem.W.Frag} {H H' : Hp} {v : V} {n : String} (x : Ex H H') (h : Kn K H v n) : Kn K H' v n := by
  cases h with
  | non => exact .non
  | bl b => exact .bl b
  | int i => exact .int i
  | str z => exact .str z
  | lst e => exact .lst (x.lst e)
  | tup e => exact .tup (x.tup e)
  | dK e => exact .dK (x.keep _ _ e (fun ps z => by cases z))
  | dT e => exact .dT (x.keep _ _ e (fun ps z => by cases z))
  | dX e c => exact .dX (x.keep _ _ e (fun ps z => by cases z)) c
def isB (n m : String) : Bool := n == m || (n == "bool" && m == "int")
def okT (m : String) : Bool := ["str", "tuple", "int", "bool", "dict", "list"].contains m
def rIs (K : PySem.W.Frag) : List V → Hp → VK → Prop := fun xs H Q => ∃ (x : V) (n m : String), xs = [x, .ty m] ∧ Kn K H x n ∧ okT m = true ∧ Q (.bl (isB n m)) H
theorem okT_cases {m : String} (h : okT m = true) : m = "str" ∨ m = "tuple" ∨ m = "int" ∨ m = "bool" ∨ m = "dict" ∨ m = "list" := by
  have h2 : m ∈ ["str", "tuple", "int", "bool", "dict", "list"] := List.contains_iff_mem.mp h
  simpa using h2
theorem Kn.isStr {K : PySem.W.Frag} {H : Hp} {v : V} (h : Kn K H v "str") : ∃ z, v = .str z := by
  generalize e : "str" = n at h
  cases h with
  | str z => exact ⟨z, rfl⟩
  | _ => exact absurd e (by decide)
theorem Kn.isTup {K : PySem.W.Frag} {H : Hp} {v : V} (h : Kn K H v "tuple") : ∃ a xs, v = .ref a ∧ SqT K H a xs := by
  generalize e : "tuple" = n at h
  cases h with
  | tup k => exact ⟨_, _, rfl, k⟩
  | _ => exact absurd e (by decide)
theorem Kn.is {K : PySem.W.Frag} {H : Hp} {v : V} {n m : String} (h : Kn K H v n) (hn : n ≠ m) (hb : n = "bool" → m ≠ "int") : isB n m = false := by
  unfold isB
  rw [beq_false_of_ne hn, Bool.false_or]
  cases e : n == "bool" with
  | false => rfl
  | true => rw [beq_false_of_ne (hb (beq_iff_eq.mp e))]; rfl
theorem Kn.notStr {K : PySem.W.Frag} {H : Hp} {v : V} {n : String} (h : Kn K H v n) (hn : n ≠ "str") : isB n "str" = false := h.is hn (fun _ => by decide)
theorem Kn.notTup {K : PySem.W.Frag} {H : Hp} {v : V} {n : String} (h : Kn K H v n) (hn : n ≠ "tuple") : isB n "tuple" = false := h.is hn (fun _ => by decide)
section
variable {X : Cx}
theorem call_is : CallR X (.builtin "isinstance") (rIs X.K) := by
  intro pins s σ H xs us Q I r h
  obtain ⟨x, n, m, rfl, kn, hm, q⟩ := h
  obtain ⟨u1, u2, rfl, r1, r2⟩ := vals2 r
  obtain rfl : u2 = Value.type m := r2
  have fin : ∀ tk, EP X pins σ Q (.bool (isB n m)) { s with toks := tk } := fun tk => ⟨.bl _, H, I.tok tk, rfl, q⟩
  have go : ∀ (t : String) (P : Heap → Prop), PySem.W.KitX X.K u1 (.type t) P → P s.heap → u1 ≠ .builtin "__main__.__loader__#opaque" → kitB t m = some (isB n m) →
      wpAny (model X.prog X.w) X.A (call (.builtin "isinstance") [u1, .type m]) (EP X pins σ Q) X.xe s :=
    fun t P Z p hx e => PySem.W.kia_one Z I.kIn p (kit_ty e) hx fin
  have base : ∀ t, TyX X.K H x (.type t) → kitB t m = some (isB n m) → wpAny (model X.prog X.w) X.A (call (.builtin "isinstance") [u1, .type m]) (EP X pins σ Q) X.xe s := fun t ty e => by
    obtain ⟨P, Z, p, hx⟩ := kit_of I r1 ty
    exact PySem.W.kia_one Z I.kIn p (kit_ty e) hx fin
  have seqT : ∀ {a : Addr} {ys : List V}, SqT X.K H a ys → TyX X.K H (.ref a) (.type "tuple") := fun {a ys} e => by
    rcases e with (e | ⟨o, e⟩) | ⟨o, its, k, e, c, _⟩
    · exact .base (.tup e)
    · exact .fTuple e
    · exact .kTuple e c
  have seqL : ∀ {a : Addr} {ys : List V}, SqL X.K H a ys → TyX X.K H (.ref a) (.type "list") := fun {a ys} e => by
    rcases e with (e | ⟨o, e⟩) | ⟨o, its, k, e, c, _⟩
    · exact .base (.lst e)
    · exact .base (.frz e)
    · exact .kList e c
  rcases okT_cases hm with rfl | rfl | rfl | rfl | rfl | rfl <;> cases kn
  all_goals first
    | exact base _ (.base .non) (by decide +kernel)
    | exact base _ (.base (.bl _)) (by decide +kernel)
    | exact base _ (.base (.int _)) (by decide +kernel)
    | exact base _ (.base (.str _)) (by decide +kernel)
    | exact base _ (seqL (by assumption)) (by decide +kernel)
    | exact base _ (seqT (by assumption)) (by decide +kernel)
    | exact base _ (.base (.dK (by assumption))) (by decide +kernel)
    | exact base _ (.base (.dT (by assumption))) (by decide +kernel)
    | (rename_i a f e c
       cases (show u1 = Value.ref a from r1)
       exact go "dict" _ PySem.W.kitx_dict (c _ (I.hok a _ e).1) (fun z => nomatch z) (by decide +kernel))
end

/-! ### a def whose code object's table is told -/
structure FunC (K : PySem.W.Frag) (x qual : Str) (st : Stmt) (f : Addr) (fd : FuncData) (c : Addr) : Prop where
  ex : ∃ (oc : Value) (od : Option Addr) (kV doc pm : Value) (an : Option Addr) (ct : Value) (osl : Array (Option Value)),
    fd = PySem.W.fnOf x qual (defArgs st) (defBody st) (defScope st) .none kV doc pm an (.ref c) ct ∧ K.lookup f = some ⟨oc, od, .func fd, osl⟩ ∧ PySem.W.codeIn K (.ref c) qual = true
  kp : PySem.W.keepIn K (.ref f) = true
theorem FunC.fn {K : PySem.W.Frag} {x qual : Str} {st : Stmt} {f c : Addr} {fd : FuncData} (F : FunC K x qual st f fd c) : Fun K x qual st f fd := by
  obtain ⟨oc, od, kV, doc, pm, an, ct, osl, e, l, h⟩ := F.ex
  exact ⟨⟨oc, od, kV, doc, pm, an, _, ct, osl, e, l, h⟩, F.kp⟩
section
variable {P : Program} {w : World} {K : PySem.W.Frag} {mg : Str → Option Value} {base : Heap}
theorem FunC.ok {x qual : Str} {st : Stmt} {f c : Addr} {fd : FuncData} {N ps : List Str} {k : Nat} {sp : Sp} (F : FunC K x qual st f fd c) (S : FnScope N ps (defScope st)) (len : ∀ vs H Q E, sp vs H Q E → vs.length = ps.length)
    (hbody : ∀ (A : Around) (outer : List Env) (s : Shared) (H : Hp) (vs : List V) (Q : VK) (E : XK), Room k (A.deeper (envOfC qual (defScope st) s.heap.objs.size f (.ref c))) → sp vs H Q E →
      ∃ t, PSs (cxOf CX0 P w K mg base N qual (defScope st) f (.ref c) A outer s H E).nox (defBody st) t ∧ t { nx := fun _ H' => Q .non H', rt := Q } (start N vs) H) :
    FnOk P w K mg base CX0 (k + 1) f fd ps sp := by
  obtain ⟨oc, od, kV, doc, pm, an, ct, osl, rfl, lk, hcd⟩ := F.ex
  refine fn_of lk hcd S len ?_
  intro A outer s H vs Q E hr hsp
  obtain ⟨t, h, q⟩ := hbody A outer s H vs Q E hr hsp
  exact ⟨t, h.nox, q⟩
end

/-! ### more operators -/
section
variable {X : Cx}
/-- xs[i], by values -/
theorem get_list : PGet X (rIxL X.K) := by
  intro pins s σ H x y v u Q I rx ry h
  obtain ⟨p, xs, i, z, rfl, rfl, hq, he, q⟩ := h
  cases rx
  obtain ⟨t, rfl⟩ := ry
  obtain ⟨its, r, pl, hz⟩ := I.list hq
  obtain ⟨j, h1, h2, h3, h4, h5⟩ := atI_get he
  obtain ⟨w, ew, rw'⟩ := r.get h2
  have hl := r.length
  have hn := line63
  have fin : EP X pins σ Q w s := ⟨z, H, I, rw', q⟩
  by_cases h0 : 0 ≤ i
  · have hj : i.toNat = j := by
      rw [seqIndex_of h0 h5] at h1
      exact Option.some.inj h1
    exact wpAny_getItem_list pl.isList h0 (by omega) (by rw [hj]; simpa using ew) fin
  · have hj : (i + (its.toArray.size : Int)).toNat = j := by
      rw [seqIndex_neg (by omega) h4] at h1
      rw [List.size_toArray, ← hl]
      exact Option.some.inj h1
    exact wpAny_getItem_list_neg pl.isList (by omega) (by rw [List.size_toArray] <;> omega) (by omega) (by rw [hj]; simpa using ew) fin
/-- a text times a number -/
theorem op_repS : OpR X (binaryOp .Mult) (fun x y H Q => ∃ (z : Str) (n : Int), x = .str z ∧ y = .int n ∧ MulOk z n ∧ Q (.str (Txt.mul z n)) H) := by
  intro pins s σ H x y v u Q I rx ry h
  obtain ⟨z, n, rfl, rfl, hm, q⟩ := h
  obtain ⟨t, rfl⟩ := rx
  obtain ⟨t', rfl⟩ := ry
  exact SB.mul hm fun t' k => ⟨.str _, H, I.tok _, ⟨_, rfl⟩, q⟩
end

/-! ### a generator's names, by computation -/
def gnB (N0 N : List Str) (sc scope : Scope) (x : Str) (pad j : Nat) : Bool :=
  (match scope.kind with | .function => true | _ => false) && (!scope.isCoroutine) && (scope.names.all fun y => !(y.2 == .cell)) &&
    decide (scope.names.lookup (".0" : Str) = some NameKind.local) && decide (scope.names.lookup x = some .local) &&
    (scope.names.all fun y => !(y.2 == .local) || decide (y.1 = x) || decide (y.1 ∉ N)) &&
    (scope.names.all fun y => !(y.2 == .free) || decide (sc.names.lookup y.1 = some .cell) || decide (sc.names.lookup y.1 = some .free)) &&
    decide N.Nodup && decide (N[j]? = some x) && decide (N.length = N0.length + pad) && decide (N.take N0.length = N0)
theorem gn_by {N0 N : List Str} {sc scope : Scope} {x : Str} {pad j : Nat} (h : gnB N0 N sc scope x pad j = true) : GN N0 sc scope x N pad j := by
  unfold gnB at h
  simp only [Bool.and_eq_true, decide_eq_true_eq, List.all_eq_true, Bool.or_eq_true, Bool.not_eq_true'] at h
  obtain ⟨⟨⟨⟨⟨⟨⟨⟨⟨⟨h1, h2⟩, h3⟩, h4⟩, h5⟩, h6⟩, h7⟩, h8⟩, h9⟩, h10⟩, h11⟩ := h
  refine ⟨?_, h2, ?_, h4, h5, ?_, ?_, h8, h9, h10, h11⟩
  · cases e : scope.kind <;> rw [e] at h1 <;> first | rfl | cases h1
  · intro y hy e
    have := h3 y hy
    rw [e] at this
    exact absurd this (by decide)
  · intro y hy e
    rcases h6 y hy with (z | z) | z
    · rw [e] at z
      exact absurd z (by decide)
    · exact Or.inl z
    · exact Or.inr z
  · intro y hy e
    rcases h7 y hy with (z | z) | z
    · rw [e] at z
      exact absurd z (by decide)
    · exact Or.inl z
    · exact Or.inr z

/-! ### names, paths, texts -/
def lettersS : Str := "abcdefghijklmnopqrstuvwxyz"
def signsS : Str := "abcdefghijklmnopqrstuvwxyz "
def allIn (z a : Str) : Bool := z.cps.toList.all fun c => decide (c ∈ a.cps.toList)
def nameB (z : Str) : Bool := decide (1 ≤ z.length) && decide (z.length ≤ 4) && allIn z lettersS
def textB (z : Str) : Bool := decide (z.length ≤ 40) && allIn z signsS
def isNameV : V → Bool
  | .str z => nameB z
  | _ => false
def isTextV : V → Bool
  | .str z => textB z
  | _ => false
/-- a thing that may be asked: of a known kind, a text not too long -/
def Asked (K : PySem.W.Frag) (H : Hp) (v : V) : Prop := ∃ n, Kn K H v n ∧ ∀ z, v = .str z → z.length ≤ sizeLine
theorem Asked.ex {K : PySem.W.Frag} {H H' : Hp} {v : V} (x : Ex H H') (h : Asked K H v) : Asked K H' v := by
  obtain ⟨n, k, z⟩ := h
  exact ⟨n, k.ex x, z⟩
theorem Kn.noName {K : PySem.W.Frag} {H : Hp} {v : V} {n : String} (h : Kn K H v n) (hn : n ≠ "str") : isNameV v = false := by
  cases h with
  | str z => exact absurd rfl hn
  | _ => rfl
theorem Kn.noText {K : PySem.W.Frag} {H : Hp} {v : V} {n : String} (h : Kn K H v n) (hn : n ≠ "str") : isTextV v = false := by
  cases h with
  | str z => exact absurd rfl hn
  | _ => rfl
/-- is the thing a path? -/
inductive PathB (K : PySem.W.Frag) (H : Hp) : V → Bool → Prop
  | tup {a : Addr} {xs : List V} (e : SqT K H a xs) (k : ∀ x ∈ xs, Asked K H x) : PathB K H (.ref a) (decide (xs.length ≤ 5) && xs.all isNameV)
  | oth {v : V} {n : String} (k : Kn K H v n) (h : n ≠ "tuple") : PathB K H v false
theorem PathB.ex {K : PySem.W.Frag} {H H' : Hp} {v : V} {b : Bool} (x : Ex H H') (h : PathB K H v b) : PathB K H' v b := by
  cases h with
  | tup e k => exact .tup (x.tup e) fun y hy => (k y hy).ex x
  | oth k h => exact .oth (k.ex x) h
/-- a path stands at a -/
def PathAt (K : PySem.W.Frag) (H : Hp) (a : Addr) (p : List Str) : Prop := SqT K H a (p.map V.str)
def goodPath (p : List Str) : Bool := decide (p.length ≤ 5) && p.all nameB
theorem nameB_small {z : Str} (h : nameB z = true) : z.length ≤ 4 := by
  unfold nameB at h
  simp only [Bool.and_eq_true, decide_eq_true_eq] at h
  exact h.1.2
theorem PathAt.b {K : PySem.W.Frag} {H : Hp} {a : Addr} {p : List Str} (h : PathAt K H a p) (hz : ∀ z ∈ p, z.length ≤ sizeLine) : PathB K H (.ref a) (goodPath p) := by
  have e : goodPath p = (decide ((p.map V.str).length ≤ 5) && (p.map V.str).all isNameV) := by
    unfold goodPath
    rw [List.length_map, List.all_map]
    rfl
  rw [e]
  refine .tup h fun x hx => ?_
  obtain ⟨z, hm, rfl⟩ := List.mem_map.mp hx
  exact ⟨"str", .str z, fun y e => by cases e; exact hz z hm⟩

def begs (p : List Str) : List (List Str) := (List.range (p.length + 1)).map fun i => p.take i
/-- a list of paths stands at l -/
def PathsAt (K : PySem.W.Frag) (H : Hp) (l : Addr) (ps : List (List Str)) : Prop := ∃ rs : List Addr, H l = some (.lst (rs.map V.ref)) ∧ Paired (fun r p => PathAt K H r p) rs ps
/-! ### walks by a generator -/
section
variable {J : It} {te : TE} {σ0 : L2.St} {j : Nat} {Q : Bool → Hp → Prop} {H0 : Hp}
/-- all of n answers f i; the heap may grow at each -/
theorem gw_all {n : Nat} (f : Nat → Bool) (st : ∀ H, Ex H0 H → J.stop n H) (gg : ∀ i H, i < n → Ex H0 H → J.go i H)
    (step : ∀ i H y H', i < n → Ex H0 H → J.yld i H y H' → ∀ R : VK, (∀ H3, Ex H0 H3 → R (.bl (f i)) H3) → te (σ0.set j (some y)) H' R)
    (fin : ∀ H, Ex H0 H → Q ((List.range n).all f) H) : GW J te σ0 j true Q H0 := by
  refine ⟨fun i m H => i ≤ n ∧ m = n - i ∧ Ex H0 H ∧ ∀ k, k < i → f k = true, ⟨n, Nat.zero_le _, rfl, Ex.refl _, fun k hk => absurd hk (Nat.not_lt_zero _)⟩, ?_⟩
  rintro i m H ⟨hi, rfl, x, hf⟩
  rcases Nat.lt_or_ge i n with h | h
  · refine Or.inr ⟨gg i H h x, fun y H' hy => step i H y H' h x hy _ fun H3 x3 => ⟨f i, rfl, fun e => ?_, fun e => ⟨n - (i + 1), by omega, h, rfl, x3, fun k hk => ?_⟩⟩⟩
    · have e2 : f i = false := by cases q : f i <;> simp_all
      have := fin H3 x3
      rwa [show (List.range n).all f = false from List.all_eq_false.mpr ⟨i, List.mem_range.mpr h, by rw [e2]; decide⟩] at this
    · by_cases hk2 : k = i
      · rw [hk2]; exact e
      · exact hf k (by omega)
  · have hin : i = n := by omega
    subst hin
    refine Or.inl ⟨st H x, ?_⟩
    have := fin H x
    rwa [show (List.range i).all f = true from List.all_eq_true.mpr fun k hk => hf k (List.mem_range.mp hk)] at this
theorem gw_any {n : Nat} (f : Nat → Bool) (st : ∀ H, Ex H0 H → J.stop n H) (gg : ∀ i H, i < n → Ex H0 H → J.go i H)
    (step : ∀ i H y H', i < n → Ex H0 H → J.yld i H y H' → ∀ R : VK, (∀ H3, Ex H0 H3 → R (.bl (f i)) H3) → te (σ0.set j (some y)) H' R)
    (fin : ∀ H, Ex H0 H → Q ((List.range n).any f) H) : GW J te σ0 j false Q H0 := by
  refine ⟨fun i m H => i ≤ n ∧ m = n - i ∧ Ex H0 H ∧ ∀ k, k < i → f k = false, ⟨n, Nat.zero_le _, rfl, Ex.refl _, fun k hk => absurd hk (Nat.not_lt_zero _)⟩, ?_⟩
  rintro i m H ⟨hi, rfl, x, hf⟩
  rcases Nat.lt_or_ge i n with h | h
  · refine Or.inr ⟨gg i H h x, fun y H' hy => step i H y H' h x hy _ fun H3 x3 => ⟨f i, rfl, fun e => ?_, fun e => ⟨n - (i + 1), by omega, h, rfl, x3, fun k hk => ?_⟩⟩⟩
    · have e2 : f i = true := by cases q : f i <;> simp_all
      have := fin H3 x3
      rwa [show (List.range n).any f = true from List.any_eq_true.mpr ⟨i, List.mem_range.mpr h, e2⟩] at this
    · by_cases hk2 : k = i
      · rw [hk2]; exact e
      · exact hf k (by omega)
  · have hin : i = n := by omega
    subst hin
    refine Or.inl ⟨st H x, ?_⟩
    have := fin H x
    rwa [show (List.range i).any f = false from List.any_eq_false.mpr fun k hk => by rw [hf k (List.mem_range.mp hk)]; decide] at this
theorem all_of_range {α : Type} (g : α → Bool) (l : List α) (f : Nat → Bool) (h : ∀ (i : Nat) x, l[i]? = some x → f i = g x) : (List.range l.length).all f = l.all g := by
  rw [Bool.eq_iff_iff, List.all_eq_true, List.all_eq_true]
  constructor
  · intro a x hx
    obtain ⟨i, hi, e⟩ := List.getElem_of_mem hx
    have e2 : l[i]? = some x := by rw [List.getElem?_eq_getElem hi, e]
    rw [← h i x e2]
    exact a i (List.mem_range.mpr hi)
  · intro a i hi
    have hl := List.mem_range.mp hi
    rw [h i l[i] (List.getElem?_eq_getElem hl)]
    exact a _ (List.getElem_mem hl)
theorem any_of_range {α : Type} (g : α → Bool) (l : List α) (f : Nat → Bool) (h : ∀ (i : Nat) x, l[i]? = some x → f i = g x) : (List.range l.length).any f = l.any g := by
  rw [Bool.eq_iff_iff, List.any_eq_true, List.any_eq_true]
  constructor
  · rintro ⟨i, hi, a⟩
    have hl := List.mem_range.mp hi
    exact ⟨l[i], List.getElem_mem hl, by rw [← h i l[i] (List.getElem?_eq_getElem hl)]; exact a⟩
  · rintro ⟨x, hx, a⟩
    obtain ⟨i, hi, e⟩ := List.getElem_of_mem hx
    exact ⟨i, List.mem_range.mpr hi, by rw [h i x (by rw [List.getElem?_eq_getElem hi, e])]; exact a⟩
/-- the signs of a text -/
theorem gw_str {z : Str} (g : Nat → Bool) (step : ∀ c H, Ex H0 H → ∀ R : VK, R (.bl (g c)) H → te (σ0.set j (some (.str ⟨#[c]⟩))) H R)
    (fin : ∀ H, Ex H0 H → Q (z.cps.toList.all g) H) : GW (Its z) te σ0 j true Q H0 := by
  refine gw_all (n := z.cps.size) (fun i => g (z.cps.toList.getD i 0)) (fun H _ => Nat.le_refl _) (fun i H h _ => h) ?_ ?_
  · rintro i H y H' h x ⟨rfl, c, hc, rfl⟩ R hR
    have e : z.cps.toList.getD i 0 = c := by
      rw [List.getD_eq_getElem?_getD, Array.getElem?_toList, hc]
      rfl
    exact step c H' x R (by have := hR H' x; rwa [e] at this)
  · intro H x
    have := fin H x
    rw [← all_of_range g z.cps.toList (fun i => g (z.cps.toList.getD i 0)) (fun i c e => by rw [List.getD_eq_getElem?_getD, e]; rfl)] at this
    simpa using this
/-- the items of a tuple -/
theorem gw_tup {K : PySem.W.Frag} {a : Addr} {xs : List V} (g : V → Bool) (ha : SqT K H0 a xs)
    (step : ∀ y H, y ∈ xs → Ex H0 H → ∀ R : VK, (∀ H3, Ex H0 H3 → R (.bl (g y)) H3) → te (σ0.set j (some y)) H R)
    (fin : ∀ H, Ex H0 H → Q (xs.all g) H) : GW (Itt K a) te σ0 j true Q H0 := by
  refine gw_all (n := xs.length) (fun i => (xs[i]?.map g).getD true) (fun H x => ⟨xs, x.tup ha, Nat.le_refl _⟩) (fun i H h x => ⟨xs, xs[i], x.tup ha, List.getElem?_eq_getElem h⟩) ?_ ?_
  · rintro i H y H' h x ⟨rfl, hy⟩ R hR
    have e : xs[i]? = some y := hy xs (x.tup ha)
    refine step y H' (List.mem_of_getElem? e) x R fun H3 x3 => ?_
    have := hR H3 x3
    rw [e] at this
    exact this
  · intro H x
    have := fin H x
    rwa [← all_of_range g xs (fun i => (xs[i]?.map g).getD true) (fun i c e => by rw [e]; rfl)] at this
end

/-! ### paths as data -/
theorem letters_ok : ∀ c ∈ lettersS.cps.toList, 32 ≤ c ∧ c < 127 := by decide +kernel
theorem signs_ok : ∀ c ∈ signsS.cps.toList, 32 ≤ c ∧ c < 127 := by decide +kernel
theorem str_ok {z : Str} (h : ∀ c ∈ z.cps.toList, 32 ≤ c ∧ c < 127) : PyData.strOk z = true := by
  unfold PyData.strOk
  rw [← Array.all_toList, List.all_eq_true]
  intro c hc
  exact decide_eq_true (Nat.lt_trans (h c hc).2 (by decide))
def pathD (p : List Str) : PyData := .tuple (p.map .str)
theorem eqvAll_strs : ∀ p q : List Str, PyData.eqvAll (p.map .str) (q.map .str) = decide (p = q)
  | [], [] => by simp [PyData.eqvAll]
  | [], y :: q => by simp [PyData.eqvAll]
  | x :: p, [] => by simp [PyData.eqvAll]
  | x :: p, y :: q => by
    simp only [List.map_cons, PyData.eqvAll, PyData.eqv, eqvAll_strs p q]
    by_cases h : x = y
    · subst h
      by_cases h2 : p = q <;> simp [h2]
    · rw [beq_false_of_ne h, Bool.false_and]
      exact (decide_eq_false fun e => h (List.cons.inj e).1).symm
theorem eqv_path (p q : List Str) : PyData.eqv (pathD p) (pathD q) = decide (p = q) := by
  show PyData.eqvAll _ _ = _
  exact eqvAll_strs p q
theorem name_ok {z : Str} (h : nameB z = true) : PyData.strOk z = true := by
  unfold nameB allIn at h
  simp only [Bool.and_eq_true, List.all_eq_true, decide_eq_true_eq] at h
  exact str_ok fun c hc => letters_ok c (h.2 c hc)
theorem canLay_strs : ∀ {p : List Str}, (∀ z ∈ p, PyData.strOk z = true) → PyData.canLayAll0 (p.map .str) = true
  | [], _ => by simp [PyData.canLayAll0]
  | x :: p, h => by
    simp only [List.map_cons, PyData.canLayAll0, PyData.canLay0, Bool.and_eq_true]
    exact ⟨h x (List.mem_cons_self ..), canLay_strs fun z hz => h z (List.mem_cons_of_mem _ hz)⟩
theorem depth_strs : ∀ p : List Str, PyData.depthAll (p.map .str) = 0
  | [] => by simp [PyData.depthAll]
  | x :: p => by
    simp only [List.map_cons, PyData.depthAll, PyData.depth, depth_strs p]
    rfl
theorem shaped_path {p : List Str} (h : ∀ z ∈ p, PyData.strOk z = true) : SeqAt.shaped (pathD p) = true := by
  unfold SeqAt.shaped pathD
  rw [Bool.and_eq_true]
  refine ⟨by simp only [PyData.canLay0]; exact canLay_strs h, ?_⟩
  simp only [PyData.depth, depth_strs]
  decide
theorem dpAll_strs {K : PySem.W.Frag} {H : Hp} : ∀ p : List Str, DpAll K H (p.map V.str) (p.map .str)
  | [] => .nil
  | x :: p => .cons (.str x) (dpAll_strs p)
theorem PathAt.dp {K : PySem.W.Frag} {H : Hp} {a : Addr} {p : List Str} (h : PathAt K H a p) : Dp K H (.ref a) (pathD p) := .tup h (dpAll_strs p)
theorem PathAt.ex {K : PySem.W.Frag} {H H' : Hp} {a : Addr} {p : List Str} (x : Ex H H') (h : PathAt K H a p) : PathAt K H' a p := Ex.tup x h
theorem goodPath_names {p : List Str} (h : goodPath p = true) : p.length ≤ 5 ∧ ∀ z ∈ p, nameB z = true := by
  unfold goodPath at h
  simp only [Bool.and_eq_true, decide_eq_true_eq, List.all_eq_true] at h
  exact h
theorem goodPath_ok {p : List Str} (h : goodPath p = true) : ∀ z ∈ p, PyData.strOk z = true := fun z hz => name_ok ((goodPath_names h).2 z hz)
theorem goodPath_small {p : List Str} (h : goodPath p = true) : ∀ z ∈ p, z.length ≤ sizeLine := fun z hz => Nat.le_trans (nameB_small ((goodPath_names h).2 z hz)) (by decide)
theorem goodPath_of {p q : List Str} (h : goodPath p = true) (hl : q.length ≤ p.length) (hm : ∀ z ∈ q, z ∈ p) : goodPath q = true := by
  obtain ⟨h1, h2⟩ := goodPath_names h
  unfold goodPath
  rw [Bool.and_eq_true, decide_eq_true_eq, List.all_eq_true]
  exact ⟨Nat.le_trans hl h1, fun z hz => h2 z (hm z hz)⟩
theorem goodPath_take {p : List Str} (h : goodPath p = true) (n : Nat) : goodPath (p.take n) = true :=
  goodPath_of h (by rw [List.length_take]; omega) fun z hz => List.mem_of_mem_take hz
theorem goodPath_drop {p : List Str} (h : goodPath p = true) (n : Nat) : goodPath (p.drop n) = true :=
  goodPath_of h (by rw [List.length_drop]; omega) fun z hz => List.mem_of_mem_drop hz

/-! ### a list of ours that grows -/
theorem Ex.put {H0 H : Hp} {D : Addr} {o : HO} (x : Ex H0 H) (h : H0 D = none) : Ex H0 (upd H D o) := by
  constructor
  · intro b u e n
    rw [upd_ne (ne_of_none e h)]
    exact x.keep b u e n
  · rintro b ⟨ps, e, t⟩
    obtain ⟨qs, e2, t2⟩ := x.tab b ⟨ps, e, t⟩
    exact ⟨qs, by rw [upd_ne (ne_of_none e h)]; exact e2, t2⟩
  · intro b e
    by_cases hb : b = D
    · rw [hb]; exact h
    · rw [upd_ne hb] at e
      exact x.free b e
theorem sqT_put {K : PySem.W.Frag} {H : Hp} {a D : Addr} {o : HO} {xs ys : List V} (h : SqT K H a xs) (hD : H D = some (.lst ys)) : SqT K (upd H D o) a xs := by
  rcases h with (h | ⟨u, h⟩) | h
  · refine Or.inl (Or.inl ?_)
    rw [upd_ne (ne_of h hD (fun z => by cases z))]
    exact h
  · refine Or.inl (Or.inr ⟨u, ?_⟩)
    rw [upd_ne (ne_of h hD (fun z => by cases z))]
    exact h
  · exact Or.inr h
theorem pairImp {α β : Type} {F G : α → β → Prop} (f : ∀ a b, F a b → G a b) : ∀ {l : List α} {m : List β}, Paired F l m → Paired G l m
  | _, _, .nil => .nil
  | _, _, .cons h t => .cons (f _ _ h) (pairImp f t)
theorem pairSnoc {α β : Type} {F : α → β → Prop} {a : α} {b : β} (h : F a b) : ∀ {l : List α} {m : List β}, Paired F l m → Paired F (l ++ [a]) (m ++ [b])
  | _, _, .nil => .cons h .nil
  | _, _, .cons x t => .cons x (pairSnoc h t)
theorem cutV_to {xs : List V} (n : Nat) : cutV xs none (some (n : Int)) = xs.take n := by
  unfold cutV
  rw [HT.sIx_none, HT.sIx_nat, List.drop_zero, Nat.sub_zero]
  rcases Nat.le_total n xs.length with h | h
  · rw [Nat.min_eq_left h]
  · rw [Nat.min_eq_right h, List.take_length, List.take_of_length_le h]
theorem sIx_last (n : Nat) : HT.sIx n n (some (-1)) = n - 1 := by
  show (if (-1 : Int) < 0 then ((-1 : Int) + (n : Int)).toNat else min (-1 : Int).toNat n) = n - 1
  rw [if_pos (show (-1 : Int) < 0 by decide)]
  omega
theorem cutV_last {xs : List V} : cutV xs none (some (-1)) = xs.dropLast := by
  unfold cutV
  rw [HT.sIx_none, List.drop_zero, Nat.sub_zero, List.dropLast_eq_take, sIx_last]
theorem cutV_from {xs : List V} (n : Nat) : cutV xs (some (n : Int)) none = xs.drop n := by
  unfold cutV
  rw [HT.sIx_none, HT.sIx_nat]
  rcases Nat.le_total n xs.length with h | h
  · rw [Nat.min_eq_left h]
    exact List.take_of_length_le (by rw [List.length_drop]; omega)
  · rw [Nat.min_eq_right h, List.drop_length, List.drop_of_length_le h, List.take_nil]

/-! ### the law's town: a list of two numbers that each draw changes -/
def Town (tw : Addr) (H : Hp) : Prop := ∃ t0 t1 : Int, 0 ≤ t0 ∧ H tw = some (.lst [.int t0, .int t1])
/-- as Ex, but for the town -/
structure Ev (tw : Addr) (H H' : Hp) : Prop where
  keep : ∀ b o, b ≠ tw → H b = some o → (∀ ps, o ≠ .tbl ps) → H' b = some o
  tab : ∀ b, TabG H b → TabG H' b
  free : ∀ b, H' b = none → H b = none
  town : Town tw H'
theorem Ev.refl {tw : Addr} {H : Hp} (h : Town tw H) : Ev tw H H := ⟨fun _ _ _ h _ => h, fun _ h => h, fun _ h => h, h⟩
theorem Ev.trans {tw : Addr} {H H1 H2 : Hp} (a : Ev tw H H1) (b : Ev tw H1 H2) : Ev tw H H2 :=
  ⟨fun c o z h n => b.keep c o z (a.keep c o z h n) n, fun c h => b.tab c (a.tab c h), fun c h => a.free c (b.free c h), b.town⟩
theorem Town.ex {tw : Addr} {H H' : Hp} (h : Town tw H) (x : Ex H H') : Town tw H' := by
  obtain ⟨t0, t1, h0, e⟩ := h
  exact ⟨t0, t1, h0, x.keep _ _ e (fun ps z => by cases z)⟩
theorem Ex.ev {tw : Addr} {H H' : Hp} (x : Ex H H') (h : Town tw H) : Ev tw H H' := ⟨fun b o _ e n => x.keep b o e n, x.tab, x.free, h.ex x⟩
/-- the town is written -/
theorem Ev.write {tw : Addr} {H : Hp} {t0 t1 : Int} (h : Town tw H) (h0 : 0 ≤ t0) : Ev tw H (upd H tw (.lst [.int t0, .int t1])) := by
  obtain ⟨u0, u1, _, e⟩ := h
  constructor
  · intro b o hb e2 _
    rw [upd_ne hb]; exact e2
  · rintro b ⟨ps, e2, t⟩
    exact ⟨ps, by rw [upd_ne (ne_of e2 e (fun z => by cases z))]; exact e2, t⟩
  · intro b e2
    by_cases hb : b = tw
    · rw [hb, upd_same] at e2; cases e2
    · rw [upd_ne hb] at e2; exact e2
  · exact ⟨t0, t1, h0, upd_same⟩
theorem Ev.rd {tw : Addr} {H H' : Hp} {a : Addr} {u : HO} (x : Ev tw H H') (ha : a ≠ tw) (h : Rd H a u) (n : ∀ ps, u ≠ .tbl ps) : Rd H' a u := by
  rcases h with h | ⟨o, h⟩
  · exact Or.inl (x.keep _ _ ha h n)
  · exact Or.inr ⟨o, x.keep _ _ ha h (fun ps z => by cases z)⟩
theorem Ev.lst {K : PySem.W.Frag} {tw : Addr} {H H' : Hp} {a : Addr} {xs : List V} (x : Ev tw H H') (ha : a ≠ tw) (h : SqL K H a xs) : SqL K H' a xs := by
  rcases h with h | h
  · exact Or.inl (x.rd ha h (fun ps z => by cases z))
  · exact Or.inr h
/-- a tuple that stands is not the town -/
theorem Ev.tup {K : PySem.W.Frag} {tw : Addr} {H H' : Hp} {a : Addr} {xs : List V} (ht : Town tw H) (x : Ev tw H H') (h : SqT K H a xs) : SqT K H' a xs := by
  obtain ⟨u0, u1, _, e⟩ := ht
  rcases h with (h | ⟨o, h⟩) | h
  · exact Or.inl (Or.inl (x.keep _ _ (ne_of h e (fun z => by cases z)) h (fun ps z => by cases z)))
  · exact Or.inl (Or.inr ⟨o, x.keep _ _ (ne_of h e (fun z => by cases z)) h (fun ps z => by cases z)⟩)
  · exact Or.inr h
/-- the script and the town -/
structure Lw (K : PySem.W.Frag) (H : Hp) (sc tw : Addr) (ns : List Int) : Prop where
  at_ : (Rd H sc (.lst (ns.map V.int)) ∧ sc ≠ tw) ∨ ∀ G : Hp, SqL K G sc (ns.map V.int)
  town : Town tw H
  len : ns.length ≤ 63
theorem Lw.sq {K : PySem.W.Frag} {H : Hp} {sc tw : Addr} {ns : List Int} (h : Lw K H sc tw ns) : SqL K H sc (ns.map V.int) := by
  rcases h.at_ with q | q
  · exact Or.inl q.1
  · exact q H
theorem Lw.ev {K : PySem.W.Frag} {H H' : Hp} {sc tw : Addr} {ns : List Int} (h : Lw K H sc tw ns) (x : Ev tw H H') : Lw K H' sc tw ns := by
  refine ⟨?_, x.town, h.len⟩
  rcases h.at_ with q | q
  · exact Or.inl ⟨x.rd q.2 q.1 (fun ps z => by cases z), q.2⟩
  · exact Or.inr q
theorem Lw.ex {K : PySem.W.Frag} {H H' : Hp} {sc tw : Addr} {ns : List Int} (h : Lw K H sc tw ns) (x : Ex H H') : Lw K H' sc tw ns := h.ev (x.ev h.town)
/-- the town is made -/
theorem Lw.make {K : PySem.W.Frag} {H : Hp} {sc tw : Addr} {ns : List Int} (h : SqL K H sc (ns.map V.int)) (hl : ns.length ≤ 63) (ht : H tw = none) :
    Lw K (upd H tw (.lst [.int 0, .int 0])) sc tw ns := by
  refine ⟨?_, ⟨0, 0, Int.le_refl 0, upd_same⟩, hl⟩
  rcases h with e | e
  · have hne : sc ≠ tw := by
      rcases e with e | ⟨o, e⟩
      · exact ne_of_none e ht
      · exact ne_of_none e ht
    exact Or.inl ⟨(Ex.new ht).rd e (fun ps z => by cases z), hne⟩
  · exact Or.inr fun G => Or.inr e
theorem dpAll_ints {K : PySem.W.Frag} {H : Hp} : ∀ p : List Int, DpAll K H (p.map V.int) (p.map .int)
  | [] => .nil
  | x :: p => .cons (.int x) (dpAll_ints p)
theorem canLay_ints : ∀ p : List Int, PyData.canLayAll0 (p.map .int) = true
  | [] => by simp [PyData.canLayAll0]
  | x :: p => by simp only [List.map_cons, PyData.canLayAll0, PyData.canLay0, canLay_ints p, Bool.and_self]
theorem depth_ints : ∀ p : List Int, PyData.depthAll (p.map .int) = 0
  | [] => by simp [PyData.depthAll]
  | x :: p => by
    simp only [List.map_cons, PyData.depthAll, PyData.depth, depth_ints p]
    rfl
theorem shaped_ints (p : List Int) : SeqAt.shaped (.list (p.map .int)) = true := by
  unfold SeqAt.shaped
  rw [Bool.and_eq_true]
  refine ⟨by simp only [PyData.canLay0]; exact canLay_ints p, ?_⟩
  simp only [PyData.depth, depth_ints]
  decide
theorem shaped_nil : SeqAt.shaped (.list []) = true := shaped_ints []
theorem eqv_nil (p : List Int) : PyData.eqv (.list (p.map .int)) (.list []) = decide (p = []) := by
  cases p with
  | nil => simp [PyData.eqv, PyData.eqvAll]
  | cons x p => simp [PyData.eqv, PyData.eqvAll]

theorem Town.ne {tw D : Addr} {H : Hp} (h : Town tw H) (hD : H D = none) : D ≠ tw := by
  obtain ⟨u0, u1, _, e⟩ := h
  intro z
  rw [z, e] at hD
  cases hD
theorem Ev.put {tw D : Addr} {H0 H : Hp} {o : HO} (h0 : Town tw H0) (x : Ev tw H0 H) (h : H0 D = none) : Ev tw H0 (upd H D o) := by
  constructor
  · intro b u hb e n
    rw [upd_ne (ne_of_none e h)]
    exact x.keep b u hb e n
  · rintro b ⟨ps, e, t⟩
    obtain ⟨qs, e2, t2⟩ := x.tab b ⟨ps, e, t⟩
    exact ⟨qs, by rw [upd_ne (ne_of_none e h)]; exact e2, t2⟩
  · intro b e
    by_cases hb : b = D
    · rw [hb]; exact h
    · rw [upd_ne hb] at e
      exact x.free b e
  · obtain ⟨t0, t1, q, e⟩ := x.town
    exact ⟨t0, t1, q, by rw [upd_ne (Ne.symm (h0.ne h))]; exact e⟩

theorem PathAt.yes {K : PySem.W.Frag} {H : Hp} {a : Addr} {p : List Str} (h : PathAt K H a p) (g : goodPath p = true) : PathB K H (.ref a) true := by
  have := h.b (goodPath_small g)
  rwa [g] at this
theorem PathAt.ev {K : PySem.W.Frag} {tw : Addr} {H H' : Hp} {a : Addr} {p : List Str} (h : PathAt K H a p) (ht : Town tw H) (x : Ev tw H H') : PathAt K H' a p := Ev.tup ht x h
/-- lists of paths as data -/
theorem dpAll_paths {K : PySem.W.Frag} {H : Hp} : ∀ {rs : List Addr} {ps : List (List Str)}, Paired (fun r p => PathAt K H r p) rs ps → DpAll K H (rs.map V.ref) (ps.map pathD)
  | _, _, .nil => .nil
  | _, _, .cons h t => .cons h.dp (dpAll_paths t)
theorem PathsAt.dp {K : PySem.W.Frag} {H : Hp} {l : Addr} {ps : List (List Str)} (h : PathsAt K H l ps) : Dp K H (.ref l) (.list (ps.map pathD)) := by
  obtain ⟨rs, e, q⟩ := h
  exact .lst (SqL.of e) (dpAll_paths q)
theorem pairEx {K : PySem.W.Frag} {H H' : Hp} (x : Ex H H') {rs : List Addr} {ps : List (List Str)} (h : Paired (fun r p => PathAt K H r p) rs ps) : Paired (fun r p => PathAt K H' r p) rs ps := pairImp (fun _ _ q => q.ex x) h
theorem PathsAt.ex {K : PySem.W.Frag} {H H' : Hp} {l : Addr} {ps : List (List Str)} (x : Ex H H') (h : PathsAt K H l ps) : PathsAt K H' l ps := by
  obtain ⟨rs, e, q⟩ := h
  exact ⟨rs, x.keep _ _ e (fun ps z => by cases z), pairEx x q⟩
theorem canLay_paths : ∀ {ps : List (List Str)}, (∀ p ∈ ps, ∀ z ∈ p, PyData.strOk z = true) → PyData.canLayAll0 (ps.map pathD) = true
  | [], _ => by simp [PyData.canLayAll0]
  | x :: p, h => by
    simp only [List.map_cons, PyData.canLayAll0, PyData.canLay0, pathD, Bool.and_eq_true]
    exact ⟨canLay_strs (h x (List.mem_cons_self ..)), canLay_paths fun z hz => h z (List.mem_cons_of_mem _ hz)⟩
theorem depth_paths : ∀ ps : List (List Str), PyData.depthAll (ps.map pathD) ≤ 1
  | [] => by simp [PyData.depthAll]
  | x :: p => by
    have := depth_paths p
    have e : PyData.depth (pathD x) = 1 := by
      simp only [pathD, PyData.depth, depth_strs]
    rw [List.map_cons, PyData.depthAll, e]
    omega
theorem shaped_paths {ps : List (List Str)} (h : ∀ p ∈ ps, goodPath p = true) : SeqAt.shaped (.list (ps.map pathD)) = true := by
  unfold SeqAt.shaped
  rw [Bool.and_eq_true]
  refine ⟨by simp only [PyData.canLay0]; exact canLay_paths fun p hp => goodPath_ok (h p hp), ?_⟩
  have := depth_paths ps
  simp only [PyData.depth]
  exact decide_eq_true (by omega)
theorem eqv_same (d : PyData) (h : SeqAt.shaped d = true) : PyData.eqv d d = true := by
  unfold SeqAt.shaped at h
  exact SeqAt.eqv_refl d (Bool.and_eq_true _ _ ▸ h).1
theorem begs_good {p : List Str} (g : goodPath p = true) : ∀ q ∈ begs p, goodPath q = true := by
  intro q hq
  obtain ⟨i, _, rfl⟩ := List.mem_map.mp hq
  exact goodPath_take g i

/-- lists of texts as data -/
theorem shaped_strs {p : List Str} (h : ∀ z ∈ p, PyData.strOk z = true) : SeqAt.shaped (.list (p.map .str)) = true := by
  unfold SeqAt.shaped
  rw [Bool.and_eq_true]
  refine ⟨by simp only [PyData.canLay0]; exact canLay_strs h, ?_⟩
  simp only [PyData.depth, depth_strs]
  decide
theorem eqv_strs (p q : List Str) : PyData.eqv (.list (p.map .str)) (.list (q.map .str)) = decide (p = q) := by
  show PyData.eqvAll _ _ = _
  exact eqvAll_strs p q
theorem within_eq (p q : List Str) : (decide (p ≠ q) && decide (p.take q.length = q)) = (decide (q.length < p.length) && decide (p.take q.length = q)) := by
  by_cases h : p.take q.length = q
  · rw [decide_eq_true h, Bool.and_true, Bool.and_true]
    have hl : q.length ≤ p.length := by
      have := congrArg List.length h
      rw [List.length_take] at this
      omega
    by_cases e : p = q
    · subst e
      simp
    · rw [decide_eq_true (p := p ≠ q) e, decide_eq_true]
      refine Nat.lt_of_le_of_ne hl fun z => e ?_
      rw [← h, z, List.take_length]
  · rw [decide_eq_false h, Bool.and_false, Bool.and_false]

/-- both ways of a conditional expression come to the same -/
theorem tIf_both {ta tb : TE} {σ : L2.St} {H : Hp} {R : VK} {c : Bool} (S : V → Hp → Prop) (h1 : c = true → ∀ R' : VK, (∀ u G, S u G → R' u G) → ta σ H R') (h2 : c = false → ∀ R' : VK, (∀ u G, S u G → R' u G) → tb σ H R')
    (h : ∀ u G, S u G → R u G) : if c = true then ta σ H R else tb σ H R := by
  cases c with
  | true => rw [if_pos rfl]; exact h1 rfl R h
  | false => rw [if_neg Bool.false_ne_true]; exact h2 rfl R h

mutual
theorem Dp_ex {K : PySem.W.Frag} {H H' : Hp} (x : Ex H H') : ∀ {d : PyData} {v : V}, Dp K H v d → Dp K H' v d
  | _, _, .non => .non
  | _, _, .bl b => .bl b
  | _, _, .int i => .int i
  | _, _, .str z => .str z
  | _, _, .lst h k => .lst (x.lst h) (DpAll_ex x k)
  | _, _, .tup h k => .tup (x.tup h) (DpAll_ex x k)
theorem DpAll_ex {K : PySem.W.Frag} {H H' : Hp} (x : Ex H H') : ∀ {ds : List PyData} {vs : List V}, DpAll K H vs ds → DpAll K H' vs ds
  | _, _, .nil => .nil
  | _, _, .cons h k => .cons (Dp_ex x h) (DpAll_ex x k)
end

theorem Kn.ev {K : PySem.W.Frag} {tw : Addr} {H H' : Hp} {v : V} {n : String} (ht : Town tw H) (x : Ev tw H H') (hv : v ≠ .ref tw) (h : Kn K H v n) : Kn K H' v n := by
  have hne : ∀ a, v = .ref a → a ≠ tw := fun a e z => hv (by rw [e, z])
  cases h with
  | non => exact .non
  | bl b => exact .bl b
  | int i => exact .int i
  | str z => exact .str z
  | lst e => exact .lst (x.lst (hne _ rfl) e)
  | tup e => exact .tup (x.tup ht e)
  | dK e => exact .dK (x.keep _ _ (hne _ rfl) e (fun ps z => by cases z))
  | dT e => exact .dT (x.keep _ _ (hne _ rfl) e (fun ps z => by cases z))
  | dX e c => exact .dX (x.keep _ _ (hne _ rfl) e (fun ps z => by cases z)) c
theorem Asked.ev {K : PySem.W.Frag} {tw : Addr} {H H' : Hp} {v : V} (ht : Town tw H) (x : Ev tw H H') (hv : v ≠ .ref tw) (h : Asked K H v) : Asked K H' v := by
  obtain ⟨n, k, z⟩ := h
  exact ⟨n, k.ev ht x hv, z⟩
/-- a small number of small texts in a row -/
theorem blanks_ok : ∀ j : Nat, j < 21 → MulOk "x " (j : Int) ∧ textB (Txt.mul "x " (j : Int)) = true := by
  simp only [MulOk]
  decide +kernel

/-! ### the end: where code objects have tables -/
/-- what the head tells of the tables -/
def TabsOf (q : Program) (K : PySem.W.Frag) (h : Heap) : Prop := ∀ (x : Str) (d : DefRec) (c P : Addr), (recsOf q).find? (fun e => e.name == x) = some d → PySem.W.tabIn K x = some (c, P) →
  PySem.W.CodeHd h c P ∧ h.get? P = some (PySem.W.tabObj #[])
theorem noTab {K : PySem.W.Frag} {h : Heap} {P : Addr} (X : K.In h) (nt : PySem.W.noTabs K = true) (hP : h.get? P = some (PySem.W.tabObj #[])) : K.lookup P = none := by
  cases e : K.lookup P with
  | none => rfl
  | some o =>
    have e2 := X P o e
    rw [hP] at e2
    cases e2
    have h2 := List.all_eq_true.mp nt (P, _) (PySem.W.mem_of_lookupK e)
    exact absurd (show false = true from h2) Bool.false_ne_true
theorem walk_tabs {l : PySem.W.OpenLaw} {n k : Nat} {q : Program} {loose : List Str} {XP : (Str → Option Value) → Heap → Prop} {YP : World → Heap → Prop} {d : DefRec} {K : Params → PySem.W.Frag} {CX : World → CXT} {x : Str}
    (hn : l.most = some n) (hn2 : n ≤ sizeLine) (hdf : d.params.defaults = []) (hr : Room k callerA) (hY : ∀ (w : World) (h : Heap), YP w h → (K w.params).In h)
    (F : ∀ (w : World) (mg : Str → Option Value) (fa : Addr) (h : Heap), (K w.params).In h → h.Ns mainGlobals mg → mg d.name = some (.ref fa) → TabsOf q (K w.params) h → LamX.LawAtS l w (K w.params) (CX w) k n x mg fa h)
    (hCX : ∀ (w : World) (H : Hp) (s : Shared) (e : Value) (s' : Shared), CX w [] H s (fun _ _ _ => False) e s' → False) :
    PySem.W.WalkO q loose XP YP l.row.toRowW d [] (fun f vs => PySem.call f vs) := by
  refine Att.attach_callB hn hdf ?_
  intro w s₀ s₁ mg mb fa o pm cd doc a vs ns G Y ho hd hcd hmg hobj hints hlen hbits hg
  have KX := hY w _ Y
  have tabs : TabsOf q (K w.params) s₁.heap := fun x d c P h1 h2 => PySem.W.tab_of G.T KX h1 h2
  obtain ⟨fd, cs, sp, hT, nT, C, hb, hsp, hF⟩ := F w mg fa _ KX G.T.g hmg tabs
  refine LamX.law_callTs KX G.T.g G.T.b G.T.builtins G.T.nolimit hg hT nT C G.T.bmain hobj hints (Nat.le_trans hlen hn2) hr hF hb ?_ ?_
  · intro H hH hS
    exact hsp H a ns hlen hbits hH hS
  · intro H e s'
    exact hCX w H s₁ e s'

theorem tab_in {K : PySem.W.Frag} {x : Str} {f c P : Addr} {oc e : Value} {od dd : Option Addr} {fd : FuncData} {sl s2 : Array (Option Value)} {vs : Array Value} (a : PySem.W.nsIn K mainGlobals x = some (some (.ref f)))
    (l : K.lookup f = some ⟨oc, od, .func fd, sl⟩) (u : K.lookup c = some ⟨e, dd, .fields vs, s2⟩) (i : (vs[11]? : Option Value) = some (.ref P)) (hc : fd.code = .ref c := by rfl) : PySem.W.tabIn K x = some (c, P) := by
  unfold PySem.W.tabIn
  rw [a]
  simp only
  rw [l]
  simp only
  rw [hc]
  simp only
  rw [u]
  simp only
  rw [i]
end LT

/-! A def that the suite of an except clause calls, and that is handed the exception. -/
namespace LE
open PySem PySem.Spec PyProof.Rows L2 L2H

/-- the exception at a, of class cls -/
structure Caught (a : Addr) (oe : Obj) (cls : Value) (d : Option Addr) : Prop where
  z : Zc cls d oe
  f : ∃ vs, oe.data = .fields vs
abbrev SpE := Addr → Value → Option Addr → Sp
/-- what such a def promises -/
structure FnE (P : Program) (w : World) (K : PySem.W.Frag) (mg : Str → Option Value) (base : Heap)
    (CX : CXT) (k : Nat) (f : Addr) (fd : FuncData) (ps : List Str) (sp : SpE) : Prop where
  len : ∀ a c d vs H Q E, sp a c d vs H Q E → vs.length = ps.length
  run : ∀ (A : Around) (outer : List Env) (s : Shared) (H : Hp) (args : Args) (us : List Value) (vs : List V)
    (Q : VK) (E : XK) (a : Addr) (oe : Obj) (c : Value) (d : Option Addr), RoomH k A → Caught a oe c d → PinOk outer H s (a, oe) →
    Env0 P w K mg base A outer s H → BindsTo s fd args (ps.zip us) → Vals vs us → sp a c d vs H Q E →
    codeAny (model P w) A (.call (.ref f) args) (CR CX outer P w H s Q E) s

section
variable {CX : CXT} {P : Program} {w : World} {K : PySem.W.Frag} {mg : Str → Option Value} {base : Heap}
theorem fn_ofE {k : Nat} {f : Addr} {name qual : Str} {params : Arguments} {body : List Stmt} {scope : Scope}
    {dV kV doc pm cdv ct oc : Value} {an od : Option Addr} {osl : Array (Option Value)} {N ps : List Str} {sp : SpE}
    (lk : K.lookup f = some ⟨oc, od, .func (PySem.W.fnOf name qual params body scope dV kV doc pm an cdv ct), osl⟩)
    (hcd : PySem.W.codeIn K cdv qual = true) (S : FnScope N ps scope) (len : ∀ a c d vs H Q E, sp a c d vs H Q E → vs.length = ps.length)
    (hbody : ∀ (A : Around) (outer : List Env) (s : Shared) (H : Hp) (vs : List V) (Q : VK) (E : XK) (a : Addr) (oe : Obj) (c : Value) (d : Option Addr),
      Caught a oe c d → RoomH k (A.deeper (envOfC qual scope s.heap.objs.size f cdv)) → sp a c d vs H Q E →
      ∃ t, PSs (cxH CX P w K mg base N qual scope f cdv A outer s H E (a, oe)) body t ∧ t { nx := fun _ G => Q .non G, rt := Q } (L2.start N vs) H) :
    FnE P w K mg base CX (k + 1) f (PySem.W.fnOf name qual params body scope dV kV doc pm an cdv ct) ps sp := by
  refine ⟨len, ?_⟩
  intro A outer s H args us vs Q E a oe c d hr hc hpin e0 hb r hsp
  have hl := len _ _ _ _ _ _ _ hsp
  have KX : K.In s.heap := e0.mod.kin.keeps fun b o e => (e0.bs b o e).1
  have lim := e0.mod.nolimit.keeps fun b o e => (e0.bs b o e).1
  have hkind : ∀ y ∈ ps.zip us, scope.names.lookup y.1 = some .local ∨
      (scope.names.lookup y.1 = some .cell ∧ ((cellsFrom (s.heap.objs.size + 1) scope.names []).lookup y.1).isSome = true) := by
    rintro ⟨n, v⟩ hy
    rcases S.par n (List.of_mem_zip hy).1 with q | q
    · exact Or.inl q
    · exact Or.inr ⟨q, PySem.W.cellsFrom_some _ _ _ (Or.inl q)⟩
  refine codeAny_call_function hr.depth (KX _ _ lk) rfl S.co S.gen rfl (PySem.W.codeRec_of KX hcd) ?_
  refine hb _ _ _ _ ?_
  refine wpAny_newFunctionEnv_cells S.kind hkind ?_
  intro env he s1 x
  subst he
  refine ⟨lim.keeps x.toInCall.keep, ?_⟩
  refine codeAny_func ?_
  obtain ⟨t, ht, hq⟩ := hbody A outer s H vs Q E a oe c d hc (hr.deeper _) hsp
  have I := inv_startH (CX := CX) (P := P) (w := w) (K := K) (mg := mg) (base := base) (N := N) (E := E) S hpin e0 hl r x
  have fin : ∀ {τ : L2.St} {G : Hp} {y : V} {u : Value} {s' : Shared}, Inv (cxH CX P w K mg base N qual scope f cdv A outer s H E (a, oe)) [] τ G s' →
      RelV y u → Q y G → CE outer P w H s Q u s' := by
    intro τ G y u s' J rv q
    exact ⟨y, G, J.os, J.bare, J.base, J.hok, rv, q⟩
  refine wpAny_mono (ht.run [] s1 (L2.start N vs) H _ I hq) ?_ (fun _ _ z => z)
  intro fl s' hs
  cases fl with
  | next =>
    obtain ⟨τ, G, J, q⟩ := hs
    exact fin (y := V.non) (u := Value.none) J rfl q
  | ret u =>
    obtain ⟨y, τ, G, J, rv, q⟩ := hs
    exact fin J rv q
  | brk =>
    obtain ⟨_, _, _, q⟩ := hs
    exact q.elim
  | cont =>
    obtain ⟨_, _, _, q⟩ := hs
    exact q.elim
theorem okE {x qual : Str} {st : Stmt} {f : Addr} {fd : FuncData} {N ps : List Str} {k : Nat} {sp : SpE} (F : Fun K x qual st f fd) (S : FnScope N ps (defScope st))
    (len : ∀ a c d vs H Q E, sp a c d vs H Q E → vs.length = ps.length)
    (hbody : ∀ (cdv : Value) (A : Around) (outer : List Env) (s : Shared) (H : Hp) (vs : List V) (Q : VK) (E : XK) (a : Addr) (oe : Obj) (c : Value) (d : Option Addr),
      Caught a oe c d → RoomH k (A.deeper (envOfC qual (defScope st) s.heap.objs.size f cdv)) → sp a c d vs H Q E →
      ∃ t, PSs (cxH CX P w K mg base N qual (defScope st) f cdv A outer s H E (a, oe)) (defBody st) t ∧ t { nx := fun _ G => Q .non G, rt := Q } (L2.start N vs) H) :
    FnE P w K mg base CX (k + 1) f fd ps sp := by
  obtain ⟨⟨oc, od, kV, doc, pm, an, cdv, ct, osl, rfl, lk, hcd⟩, _⟩ := F
  exact fn_ofE lk hcd S len fun A outer s H vs Q E a oe c d => hbody cdv A outer s H vs Q E a oe c d
end

section
variable {X : Cx} {CX : CXT} {k : Nat} {f : Addr} {fd : FuncData} {ps : List Str} {sp : SpE} {E : L2.St → XK} {x : Str} {q pos : Pos} {e : Expr} {es : List Expr} {t : TA}
  {a : Addr} {oe : Obj} {c : Value} {d : Option Addr}
theorem pe_callE (F : FnE X.prog X.w X.K X.mg X.base CX k f fd ps sp) (hr : RoomH k X.A) (hc : Caught a oe c d) (hp : (a, oe) ∈ X.pn) (hg : Gl X x)
    (hm : X.mg x = some (.ref f)) (hk : PySem.W.keepIn X.K (.ref f) = true) (hb : Binds X.K fd ps []) (hx : ∀ σ, PassesAt CX X σ (E σ)) (ha : PA X (e :: es) t)
    (hdb : (x == ("__debug__" : Str)) = false := by decide) (he : starEach (e :: es) X.env = (false, eval e X.env) :: starEach es X.env := by rfl)
    (hpl : (backTo pos (starEach es X.env)).any (·.1) = false := by rfl) : PE X (.Call (.Name x q) (e :: es) [] pos) (tCallS (sp a c d) E t) := by
  constructor
  intro pins s σ H Q I h
  refine wpAny_Call_Name_kw (ld_glob I hg hm ?_ hdb)
  refine PySem.W.callWith_K (h₀ := X.base) I.ok.mod.kin hk (thn (ha.run pos pins s σ H _ I h) ?_) he hpl
  rintro us s1 ⟨vs, H1, J, r, g⟩
  refine ⟨J.kIn, ?_⟩
  have hl : us.length = ps.length := by
    rw [← r.length]
    exact F.len _ _ _ _ _ _ _ g
  have b := hb s1 us J.kIn (by rw [List.append_nil]; exact hl)
  rw [List.append_nil] at b
  have pin := J.pin (a, oe) (List.mem_append_left _ hp)
  have hpin : PinOk X.stack H1 s1 (a, oe) := by
    refine ⟨pin.1, pin.2.1, fun hm => ?_, pin.2.2.2.2⟩
    exact (List.mem_cons.mp (J.stkSub a hm)).elim pin.2.2.1 pin.2.2.2.1
  refine wpAny_call (codeAny_mono (F.run X.A X.stack s1 H1 ⟨us, []⟩ us vs Q (E σ) a oe c d hr hc hpin J.env0 b r g) ?_)
  intro z s' hq
  cases z with
  | error u => exact hx σ pins H1 s1 u s' J hq
  | ok fl =>
    cases fl with
    | ret u => exact J.after hq
    | next => exact hq.elim
    | brk => exact hq.elim
    | cont => exact hq.elim
/-- isinstance of the exception that is pinned -/
theorem call_isP {D : Addr} (C : ExcC X.K D) (hc : Caught a oe (.ref D) none) (hp : (a, oe) ∈ X.pn) : CallR X (.builtin "isinstance") (rIsE X.K D a) := by
  rintro pins s σ H xs us Q I r ⟨y, yv, b, rfl, hy, e, g⟩
  obtain ⟨u1, u2, rfl, r1, r2⟩ := vals2 r
  obtain rfl : u1 = Value.ref a := r1
  obtain rfl := hy _ r2
  have pin := I.pin (a, oe) (List.mem_append_left _ hp)
  have J : PySem.W.InstAt s.heap a oe D none := by
    obtain ⟨⟨h1, h2⟩, vs, hv⟩ := hc
    have h0 := pin.1
    cases oe with
    | mk oc od oda osl =>
      dsimp only at h1 h2 hv
      subst h1 h2 hv
      exact ⟨h0, rfl, rfl, trivial⟩
  refine PySem.W.kia_one (PySem.W.handS_kitx_exc C.hg C.hk C.hs C.hd C.ha C.hn C.ht C.hm) I.kIn J e (fun z => nomatch z) ?_
  intro tk
  exact ⟨.bl b, H, I.tok tk, rfl, g⟩
end

/-! ### how often a flat thing stands in a list of flat things -/
def rCntF (K : PySem.W.Frag) : V → List V → Hp → VK → Prop := fun x xs H Q => ∃ (p : Addr) (ys : List V) (y : V), x = .ref p ∧ xs = [y] ∧
  SqL K H p ys ∧ flatV y = true ∧ ys.all flatV = true ∧ Q (.int (ys.countP fun z => eqV z y : Nat)) H
theorem countF {y : V} : ∀ {ys : List V} {us : List Value}, Vals ys us → ys.all flatV = true → us.countP (eqU y) = ys.countP fun z => eqV z y
  | [], [], _, _ => rfl
  | x :: ys, u :: us, h, f => by
    cases h with
    | cons r t =>
      rw [List.all_cons, Bool.and_eq_true] at f
      rw [List.countP_cons, List.countP_cons, eqU_of r f.1, countF t f.2]
theorem mt_countF {X : Cx} : MtR X "list.count" (rCntF X.K) := by
  rintro pins s σ H x xs v us Q I rx rxs ⟨p, ys, y, rfl, rfl, hs, fy, fys, g⟩
  cases rx
  obtain ⟨u, rfl, ru⟩ := rxs.one
  obtain ⟨its, rv, ⟨⟨cls, dd, data, sl⟩, n, ho, hc, hdn, hd⟩, _⟩ := I.list hs
  simp only at hc hd
  subst hc hd
  refine call_meets PySem.F.slot_list_count ⟨_, ho, rfl⟩ PySem.F.entry_list_count (PySem.F.args_list_count_2 _ _) (SeqAt.list_countAt p its.toArray n dd sl u (eqU y)) ?_
  refine ⟨ho, fun z hz => mem_eqAt ru fy rv fys z (by simpa using hz), ?_⟩
  refine ⟨.int (ys.countP fun z => eqV z y : Nat), H, I.tok _, ⟨s.toks, ?_⟩, g⟩
  show Value.int ((its.toArray.toList.countP (eqU y) : Nat) : Int) s.toks = _
  rw [show its.toArray.toList = its from rfl, countF rv fys]

/-! ### a call of what stands at a place: xs[i](...) -/
/-- what may stand there -/
structure HeldX (X : Cx) (CX : CXT) (k : Nat) (f : Addr) (sp : Sp) : Prop where
  ex : ∃ (fd : FuncData) (ps : List Str), FnOk X.prog X.w X.K X.mg X.base CX k f fd ps sp ∧ PySem.W.keepIn X.K (.ref f) = true ∧ Binds X.K fd ps []
def tCallC (S : Addr → Sp → Prop) (tc : TE) (E : L2.St → XK) (t : TA) : TE := fun σ H Q => tc σ H fun x H1 => ∃ f sp, x = .ref f ∧ S f sp ∧ t σ H1 fun vs H2 => sp vs H2 Q (E σ)
section
variable {X : Cx} {CX : CXT} {k : Nat} {S : Addr → Sp → Prop} {E : L2.St → XK} {p pos : Pos} {o i e : Expr} {es : List Expr} {tc : TE} {t : TA}
theorem pe_callC (A : ∀ f sp, S f sp → HeldX X CX k f sp) (hr : Room k X.A) (hc : PE X (.Subscript o i p) tc) (hx : ∀ σ, PassesAt CX X σ (E σ)) (ha : PA X (e :: es) t)
    (he : starEach (e :: es) X.env = (false, eval e X.env) :: starEach es X.env := by rfl) (hpl : (backTo pos (starEach es X.env)).any (·.1) = false := by rfl) :
    PE X (.Call (.Subscript o i p) (e :: es) [] pos) (tCallC S tc E t) := by
  constructor
  intro pins s σ H Q I h
  have ev : eval (.Call (.Subscript o i p) (e :: es) [] pos) X.env = (do
      let f ← eval (.Subscript o i p) X.env
      callWith pos f [] (backTo pos (starEach (e :: es) X.env)) (backToKw pos (keywordEach [] X.env))) := rfl
  rw [ev]
  refine wpAny_bind (thn (hc.run pins s σ H _ I h) ?_)
  rintro u s1 ⟨x, H1, J, r, f, sp, rfl, hs, ht⟩
  cases r
  obtain ⟨fd, ps, F, hk, hb⟩ := (A f sp hs).ex
  refine PySem.W.callWith_K (h₀ := X.base) J.ok.mod.kin hk (thn (ha.run pos pins s1 σ H1 _ J ht) ?_) he hpl
  rintro us s2 ⟨vs, H2, J2, r2, g⟩
  exact ⟨J2.kIn, run_fnS F hr hb (hx σ) J2 r2 g⟩
end
end LE

/-! Dicts whose keys are tuples: displays, copies, values, sorts, equality. -/
namespace LD
open PySem PySem.Spec PyProof.Rows L2 LT

/-! ### displays -/
/-- one store behind the other -/
def mergeT (kvs more : List (List L2.Key × V)) : List (List L2.Key × V) := more.foldl (fun acc kv => putK acc kv.1 kv.2) kvs
theorem mergeT_len : ∀ (more kvs : List (List L2.Key × V)), (mergeT kvs more).length ≤ kvs.length + more.length
  | [], kvs => Nat.le_refl _
  | p :: r, kvs => by
    have h1 := mergeT_len r (putK kvs p.1 p.2)
    have h2 := length_putK kvs p.1 p.2
    show (mergeT (putK kvs p.1 p.2) r).length ≤ _
    simp only [List.length_cons]
    omega
theorem KT_merge {H : Hp} : ∀ {more : List (List L2.Key × V)} {ps : List (List L2.Key × Addr × Value)} {kvs : List (List L2.Key × V)} {xs : List (List L2.Key × Addr × Value)},
    KT H more ps → KT H kvs xs → KT H (mergeT kvs more) (storedAllH xs ps)
  | [], _, _, _, .nil, q => q
  | p :: more, _, kvs, xs, .cons (b := y) h t, q => by
    have e : KT H (putK kvs p.1 p.2) (storedH xs y.1 y.2.1 y.2.2) := by
      have := q.put p.1 h.2.1 h.2.2
      rw [← h.1]
      exact this
    show KT H (mergeT (putK kvs p.1 p.2) more) (storedAllH (storedH xs y.1 y.2.1 y.2.2) _)
    exact KT_merge t e
/-- what the pairs of a display come to -/
def PairsT (H : Hp) : List (V × V) → List (List L2.Key × V) → Prop := Paired fun q kv => (∃ b, q.1 = .ref b ∧ H b = some (.tup (kv.1.map kV))) ∧ q.2 = kv.2
theorem carriesT {P : Program} {w : World} {H : Hp} {h : Heap} (ok : HOk P w H h) : ∀ {qs : List (V × V)} {kvs : List (List L2.Key × V)} {ws : List (Value × Value)},
    PairsT H qs kvs → VV qs ws → ∃ ps, CarriesH (tupleKind (mixKind P w)) h ws ps ∧ KT H kvs ps
  | _, _, _, .nil, r => by
    cases r
    exact ⟨[], trivial, .nil⟩
  | q :: qs, kv :: kvs, _, .cons a t, r => by
    cases r with
    | cons a' t' =>
      rename_i u us
      obtain ⟨⟨b, e1, e2⟩, e3⟩ := a
      obtain ⟨ps, c, k⟩ := carriesT ok t t'
      obtain ⟨r1, r2⟩ := a'
      rw [e1] at r1
      rw [e3] at r2
      refine ⟨(kv.1, b, u.2) :: ps, ⟨r1, rfl, key_of ok e2, c⟩, .cons ⟨rfl, e2, r2⟩ k⟩
/-- {k: v, ..}, each key a tuple; the new dict stands empty while the pairs are made -/
def tDispT (trs : List (TE × TE)) : TE := fun σ H Q => ∀ p, H p = none → tPairs trs σ (upd H p (.dT [])) fun qs G => G p = some (.dT []) ∧
  ∃ kvs : List (List L2.Key × V), PairsT G qs kvs ∧ kvs.length ≤ 15 ∧ Q (.ref p) (upd G p (.dT (mergeT [] kvs)))
section
variable {X : Cx} {pos : Pos} {keys : List (Option Expr)} {values : List Expr} {trs : List (TE × TE)}
theorem pe_dispT (hu : X.A.units + 1 < cLine) (h : PPs X pos keys values trs) (hall : keys.all (·.isSome) = true) (hl : keys.length = values.length) (h0 : keys ≠ []) (h15 : keys.length ≤ 15) :
    PE X (.Dict keys values pos) (tDispT trs) := by
  constructor
  intro pins s σ H Q I q
  have hn := I.hok.fresh (Nat.le_refl s.heap.objs.size)
  have I1 := I.laid (a := s.heap.objs.size) (o := .dT []) (h' := s.heap.push { cls := .type "dict", data := .dict #[] }) (t' := s.toks) (fun _ _ q => Heap.get?_push_of_some _ q) (Nat.le_refl _) (dt_empty s.heap I.big)
  have hpl := pairTrees_length keys values X.env pos hall hl
  have hne : pairTrees keys values X.env pos ≠ [] := by
    intro he
    rw [he] at hpl
    exact h0 (List.length_eq_zero_iff.mp hpl.symm)
  rw [arm_eval_Dict, zip_pairTrees keys values X.env pos hall hl, dictDisplay_pairs _ hne (by omega)]
  refine wpAny_bind (wpAny_standAt (wpAny_bind (wpAny_subDictH (knd := tupleKind (mixKind X.prog X.w)) (Q := fun d s' => wpAny (model X.prog X.w) X.A (pure (Value.ref d)) (EP X pins σ Q) X.xe s') (show X.A.units < cLine from Nat.lt_of_succ_lt hu) (by omega) ?_)))
  refine thn (h.run pins _ σ _ _ I1 (q _ hn)) ?_
  rintro ws s2 ⟨qs, H2, I2, rel, e, kvs, pt, lk, q2⟩
  obtain ⟨ps, c, k⟩ := carriesT I2.hok pt rel
  obtain ⟨z, hd, xs0, r0, dd⟩ := dt_of I2.hok e
  cases r0
  refine ⟨ps, c, dd, fun h' tk dd' hs => wpAny_pure ⟨.ref s.heap.objs.size, _, ?_, rfl, q2⟩⟩
  have hz : (mergeT [] kvs).length ≤ sizeLine := by
    have h1 := mergeT_len kvs []
    rw [List.length_nil] at h1
    rw [sizeLine_eq]; omega
  obtain ⟨o, es, ep, ho, h2, h3, h4, _, h5⟩ := dd'
  refine d_write I2 (by rw [e]; exact True.intro) hs ⟨o, ho⟩ ⟨hz, hd, _, (KT_merge k .nil).keeps fun c ys ec => ?_, o, es, ep, ho, h2, h3, h4, h5⟩
  rw [upd_ne (ne_of ec e (fun z => nomatch z))]
  exact ec
end

/-! ### d.setdefault(k, x), keys numbers or texts -/
def rSetDef : V → List V → Hp → VK → Prop := fun x xs H Q => ∃ (a : Addr) (kvs : List (L2.Key × V)) (k : L2.Key) (y : V), x = .ref a ∧ xs = [kV k, y] ∧ H a = some (.dK kvs) ∧ kvs.length < sizeLine ∧
  (∀ v, valV kvs k = some v → Q v H) ∧ (valV kvs k = none → Q y (upd H a (.dK (putK kvs k y))))
theorem mt_setDef {X : Cx} : MtR X "dict.setdefault" rSetDef := by
  rintro pins s σ H x xs v us Q I rx rxs ⟨a, kvs, k, y, rfl, rfl, ha, hl, q1, q2⟩
  cases rx
  obtain ⟨u1, u2, rfl, r1, r2⟩ := vals2 rxs
  obtain ⟨z, hd, vs, rel, dd⟩ := dk_of I.hok ha
  have hz : vs.length ≤ sizeLine := by rw [← rel.length]; exact z
  refine call_meetsIn PySem.F.slot_dict_setdefault dd.typeIs PySem.F.entry_dict_setdefault (PySem.F.args_dict_setdefault_3 _ _ _) (kt_meets_setdefault (mixKind X.prog X.w) a (kV_is r1) hd u2) ⟨vs, dd, hz, fun w hw => ?_, fun hn h' dd' hs => ?_⟩
  · have rl := rel.val k
    rw [hw] at rl
    cases hv : valV kvs k with
    | none =>
      rw [hv] at rl
      exact rl.elim
    | some y' =>
      rw [hv] at rl
      exact ⟨y', H, I.tok _, rl, q1 y' hv⟩
  · have rl := rel.val k
    rw [hn] at rl
    have hv : valV kvs k = none := by
      cases hv : valV kvs k with
      | none => rfl
      | some y' =>
        rw [hv] at rl
        exact rl.elim
    have hl2 : (putK kvs k y).length ≤ sizeLine := by
      have := length_putK kvs k y
      omega
    have he : ∃ q, h'.get? a = some q := let ⟨q, _, _, hq, _⟩ := dd'; ⟨q, hq⟩
    exact ⟨y, _, d_write I (by rw [ha]; exact True.intro) hs he (dk_new hl2 hd (rel.put k r2) dd'), r2, q2 hv⟩

/-! ### list(d.values()), keys tuples -/
/-- a view of the values of the dict at a -/
def valsO (p a : Addr) : HO := .ext fun h => h.IsValuesView p a
def tVals (to : TE) : TE := fun σ H Q => to σ H fun x H1 => ∃ (a : Addr) (kvs : List (List L2.Key × V)), x = .ref a ∧ Rd H1 a (.dT kvs) ∧ ∀ p, H1 p = none → Q (.ref p) (upd H1 p (valsO p a))
theorem pe_vals {X : Cx} {o : Expr} {to : TE} {apos cpos : Pos} (ho : PE X o to) (hbase : attributeBase o "values" X.env (eval o X.env) = eval o X.env := by rfl) (hline : (apos.endLine == cpos.line) = true := by rfl) :
    PE X (.Call (.Attribute o "values" apos) [] [] cpos) (tVals to) := by
  constructor
  intro pins s σ H Q I h
  refine wpAny_Call_method0_late hbase hline (thn (ho.run pins s σ H _ I h) ?_)
  rintro v s1 ⟨x, H1, I1, r1, a, kvs, rfl, hd, q⟩
  cases r1
  obtain ⟨hz, hs, xs, rel, ob, es, ep, hob, hx, hdt, he, _, _⟩ := dt_rd I1.hok hd
  refine ⟨"dict", "dict.values", PySem.F.plainAttrs_dict, PySem.F.slot_dict_values, PySem.F.type_dict_values, ⟨ob, hob, hx.1⟩, ?_, Calls.callWith_builtin rfl (PySem.evalArgs_none ?_)⟩
  · intro b e
    cases e
    exact ⟨ob, hob, hx.2.1⟩
  · refine call_meetsIn PySem.F.slot_dict_values ⟨ob, hob, hx.1⟩ PySem.F.entry_dict_values (PySem.F.args_dict_values_1 _) (meets_dict_values_raw a hs) ⟨⟨es, ep, ob, hob, hx, hdt⟩, ?_⟩
    refine ⟨.ref s1.heap.objs.size, _, I1.laid (a := s1.heap.objs.size) (o := valsO s1.heap.objs.size a) (t' := s1.toks) (fun _ _ e => Heap.get?_push_of_some _ e) (Nat.le_refl _) ?_, rfl, q _ (I1.hok.fresh (Nat.le_refl _))⟩
    refine ⟨⟨_, Heap.get?_push_size _ rfl, rfl, rfl⟩, ⟨_, Heap.get?_push_size _ rfl⟩, fun h1 h2 v k => ?_⟩
    obtain ⟨o', e1, e2⟩ := v
    exact ⟨o', k _ e1, e2⟩
def rListVals : List V → Hp → VK → Prop := fun xs H Q => ∃ (p a : Addr) (kvs : List (List L2.Key × V)), xs = [.ref p] ∧ H p = some (valsO p a) ∧ Rd H a (.dT kvs) ∧ ∀ l, H l = none → Q (.ref l) (upd H l (.lst (kvs.map (·.2))))
theorem KT_vals {H : Hp} : ∀ {kvs : List (List L2.Key × V)} {xs : List (List L2.Key × Addr × Value)}, KT H kvs xs → Vals (kvs.map (·.2)) (xs.map (·.2.2))
  | _, _, .nil => .nil
  | _, _, .cons a t => .cons a.2.2 (KT_vals t)
theorem call_listVals {X : Cx} (hc : X.calm = true) : CallR X (.type "list") rListVals := by
  rintro pins s σ H xs us Q I r ⟨p, a, kvs, rfl, hp, hd, q⟩
  obtain ⟨u, rfl, ru⟩ := vals1 r
  obtain rfl : u = Value.ref p := ru
  obtain ⟨hz, hs, ks, rel, ob, es, ep, hob, hx, hdt, he, _, _⟩ := dt_rd I.hok hd
  have l1 : es.size = ks.length := size_of_entries he
  have l2 : kvs.length = ks.length := Paired.length rel
  have view : s.heap.IsValuesView p a := (show ObjOk X.prog X.w H s.heap p (valsO p a) from I.hok p _ hp).1
  refine PySem.W.kdl_call (KdlSrc.rawValues (es := es) (ep := ep)) (I.ok.hd hc) ⟨view, ob, hob, hx, hdt⟩ (by omega) ?_
  intro h' tk acc c kp e it
  have ea : acc.toList = ks.map (·.2.2) := by
    apply List.ext_getElem?
    intro j
    rw [List.getElem?_map]
    by_cases hj : j < es.size
    · have hja : j < acc.size := by rw [it.1]; exact hj
      obtain ⟨hi, hv⟩ := it.2 j acc[j] (Array.getElem?_eq_getElem hja)
      rw [Array.getElem?_toList, Array.getElem?_eq_getElem hja, hv]
      have qe := entry_at he j
      rw [Array.getElem?_eq_getElem hi] at qe
      cases hb : ks[j]? with
      | none =>
        rw [hb] at qe
        exact nomatch (show some es[j] = none from qe)
      | some b =>
        rw [hb] at qe
        rw [show es[j] = entryOfKey (tupleKind (mixKind X.prog X.w)) b from Option.some.inj qe]
        rfl
    · rw [List.getElem?_eq_none (by rw [Array.length_toList, it.1]; omega), List.getElem?_eq_none (by omega)]
      rfl
  have rv : Vals (kvs.map (·.2)) acc.toList := by
    rw [ea]
    exact KT_vals rel
  refine ⟨.ref s.heap.objs.size, _, I.laid (t' := tk) (o := .lst (kvs.map (·.2))) kp (Nat.le_refl _) ⟨by rw [List.length_map]; exact hz, acc.toList, c, rv, by rw [Array.toArray_toList]; exact e⟩, rfl, q _ (I.hok.fresh (Nat.le_refl _))⟩

/-! ### len(d), isinstance(d, dict), the dict locked or not -/
def rLenR : List V → Hp → VK → Prop := fun xs H Q => ∃ (p : Addr) (kvs : List (List L2.Key × V)), xs = [.ref p] ∧ Rd H p (.dT kvs) ∧ Q (.int ((kvs.length : Nat) : Int)) H
theorem call_lenR {X : Cx} : CallR X (.builtin "len") rLenR := by
  rintro pins s σ H xs us Q I r ⟨p, kvs, rfl, hd, q⟩
  obtain ⟨u, rfl, ru⟩ := vals1 r
  obtain rfl : u = Value.ref p := ru
  obtain ⟨hz, hs, ks, rel, dd⟩ := dt_rd I.hok hd
  have l2 : kvs.length = ks.length := Paired.length rel
  have h63 := line63
  refine call_len_dictH hs dd (by omega) ?_
  rw [← l2]
  exact ⟨.int ((kvs.length : Nat) : Int), H, I.tok _, ⟨_, rfl⟩, q⟩
def rIsD : List V → Hp → VK → Prop := fun xs H Q => ∃ (d : Addr) (kvs : List (List L2.Key × V)), xs = [.ref d, .ty "dict"] ∧ Rd H d (.dT kvs) ∧ Q (.bl true) H
theorem call_isD {X : Cx} : CallR X (.builtin "isinstance") rIsD := by
  rintro pins s σ H xs us Q I r ⟨d, kvs, rfl, hd, q⟩
  obtain ⟨u1, u2, rfl, r1, r2⟩ := vals2 r
  obtain rfl : u1 = Value.ref d := r1
  obtain rfl : u2 = Value.type "dict" := r2
  obtain ⟨hz, hs, xs, rel, ob, es, ep, hob, hx, _⟩ := dt_rd I.hok hd
  exact PySem.W.kia_one PySem.W.kitx_dict I.kIn ⟨ob, hob, hx.1⟩ (kit_ty (show kitB "dict" "dict" = some true by decide +kernel)) (fun z => nomatch z) fun tk => ⟨.bl true, H, I.tok tk, rfl, q⟩
theorem call_isR {X : Cx} : CallR X (.builtin "isinstance") (fun xs H Q => rIs X.K xs H Q ∨ rIsD xs H Q) := by
  intro pins s σ H xs us Q I r h
  rcases h with h | h
  · exact call_is pins s σ H xs us Q I r h
  · exact call_isD pins s σ H xs us Q I r h
end LD

/-! sorted(..) of paths: tuples of texts, one of them perhaps empty. -/
namespace LS
open PySem PyProof.Rows SrtO

def rk (p : List Str) : List (List Nat) := p.map fun z => z.cps.toList
def ltP (p q : List Str) : Bool := decide (rk p < rk q)
theorem rk_cons {x : Str} {p : List Str} : rk (x :: p) = x.cps.toList :: rk p := rfl
theorem cps_inj {x y : Str} (h : x.cps.toList = y.cps.toList) : x = y := by
  cases x with
  | mk a =>
    cases y with
    | mk b =>
      obtain ⟨a⟩ := a
      obtain ⟨b⟩ := b
      simp only at h
      rw [h]
theorem rk_inj : ∀ {p q : List Str}, rk p = rk q → p = q
  | [], [], _ => rfl
  | [], _ :: _, h => by simp [rk] at h
  | _ :: _, [], h => by simp [rk] at h
  | x :: p, y :: q, h => by
    rw [rk_cons, rk_cons] at h
    injection h with h1 h2
    rw [cps_inj h1, rk_inj h2]
theorem ltP_cons {x y : Str} {p q : List Str} : ltP (x :: p) (y :: q) = if x = y then ltP p q else decide (x.cps.toList < y.cps.toList) := by
  unfold ltP
  rw [rk_cons, rk_cons]
  by_cases e : x = y
  · subst e
    rw [if_pos rfl]
    refine decide_eq_decide.mpr ?_
    rw [List.cons_lt_cons_iff]
    constructor
    · rintro (h | ⟨_, h⟩)
      · exact absurd h (List.lt_irrefl _)
      · exact h
    · exact fun h => Or.inr ⟨rfl, h⟩
  · rw [if_neg e]
    refine decide_eq_decide.mpr ?_
    rw [List.cons_lt_cons_iff]
    constructor
    · rintro (h | ⟨h, _⟩)
      · exact h
      · exact absurd (cps_inj h) e
    · exact Or.inl
theorem ltP_nil {p : List Str} : ltP p [] = false := by
  unfold ltP
  refine decide_eq_false ?_
  exact List.not_lt_nil _
theorem ltP_nil_cons {x : Str} {p : List Str} : ltP [] (x :: p) = true := by
  unfold ltP
  rw [rk_cons]
  refine decide_eq_true ?_
  exact List.nil_lt_cons _ _
theorem rk_asym {a b : List (List Nat)} (h : a < b) : ¬ b < a := List.lt_asymm h
theorem rk_tr {a b c : List (List Nat)} (h1 : ¬ b < a) (h2 : ¬ c < b) : ¬ c < a := by
  have h1' : a ≤ b := h1
  have h2' : b ≤ c := h2
  exact (List.le_trans h1' h2' : a ≤ c)
theorem swoP (k : Value → List Str) : Swo fun u v => ltP (k u) (k v) := by
  constructor
  · intro x y h
    exact decide_eq_false (rk_asym (of_decide_eq_true h))
  · intro x y z h1 h2
    exact decide_eq_false (rk_tr (of_decide_eq_false h1) (of_decide_eq_false h2))
theorem ltP_anti {p q : List Str} (h1 : ltP p q = false) (h2 : ltP q p = false) : p = q := by
  have a : ¬ rk p < rk q := of_decide_eq_false h1
  have b : ¬ rk q < rk p := of_decide_eq_false h2
  exact rk_inj (List.le_antisymm (b : rk p ≤ rk q) (a : rk q ≤ rk p))

/-! ### tuples of texts, compared -/
def TupS (h : Heap) (v : Value) (p : List Str) : Prop := ∃ (a : Addr) (xs : Array Value), v = .ref a ∧ h.IsTuple a xs ∧ StrsAre xs.toList p
theorem TupS.keeps {h h' : Heap} {v : Value} {p : List Str} (x : TupS h v p) (k : ∀ b o, h.get? b = some o → o.cls = .type "tuple" → h'.get? b = some o) : TupS h' v p := by
  obtain ⟨a, xs, e, ⟨o, ho, hc, hd⟩, i⟩ := x
  exact ⟨a, xs, e, ⟨o, k _ _ ho hc, hc, hd⟩, i⟩
theorem strs_at : ∀ {vs : List Value} {p : List Str}, StrsAre vs p → vs.length = p.length ∧ ∀ j (h : j < vs.length), ∃ t, vs[j] = .str (p.getD j "") t
  | _, _, .nil => ⟨rfl, fun j h => absurd h (Nat.not_lt_zero _)⟩
  | _, _, .cons y t r => by
    obtain ⟨h1, h2⟩ := strs_at r
    refine ⟨by rw [List.length_cons, List.length_cons, h1], fun j h => ?_⟩
    cases j with
    | zero => exact ⟨t, rfl⟩
    | succ j => exact h2 j (Nat.lt_of_succ_lt_succ h)
theorem lexAt_ltP : ∀ (p q : List Str) (e r : Nat → Bool) (i : Nat), (∀ j, j < min p.length q.length → e (i + j) = decide (p.getD j "" = q.getD j "")) →
    (∀ j, j < min p.length q.length → r (i + j) = decide ((p.getD j "").cps.toList < (q.getD j "").cps.toList)) →
    Ob.lexAt e r (decide (p.length < q.length)) i (min p.length q.length) = ltP p q
  | [], [], e, r, i, _, _ => by rw [ltP_nil]; rfl
  | [], y :: q, e, r, i, _, _ => by
    rw [ltP_nil_cons, List.length_nil, Nat.zero_min]
    exact decide_eq_true (by rw [List.length_cons]; omega)
  | x :: p, [], e, r, i, _, _ => by
    rw [ltP_nil, List.length_nil, Nat.min_zero]
    exact decide_eq_false (Nat.not_lt_zero _)
  | x :: p, y :: q, e, r, i, he, hr => by
    have hm : min (x :: p).length (y :: q).length = min p.length q.length + 1 := by
      rw [List.length_cons, List.length_cons]
      omega
    have e0 : e i = decide (x = y) := by
      have := he 0 (by rw [hm]; omega)
      exact this
    have r0 : r i = decide (x.cps.toList < y.cps.toList) := by
      have := hr 0 (by rw [hm]; omega)
      exact this
    rw [hm, Ob.lexAt_succ, e0, r0, ltP_cons]
    by_cases h : x = y
    · rw [decide_eq_true h, if_pos rfl, if_pos h]
      have hz : decide ((x :: p).length < (y :: q).length) = decide (p.length < q.length) := decide_eq_decide.mpr (by rw [List.length_cons, List.length_cons]; omega)
      rw [hz]
      refine lexAt_ltP p q e r (i + 1) (fun j hj => ?_) (fun j hj => ?_)
      · have := he (j + 1) (by rw [hm]; omega)
        rw [Nat.add_assoc, Nat.add_comm 1 j]
        exact this
      · have := hr (j + 1) (by rw [hm]; omega)
        rw [Nat.add_assoc, Nat.add_comm 1 j]
        exact this
    · rw [decide_eq_false h, if_neg Bool.false_ne_true, if_neg h]
section
variable {prog : Program} {w : World} {A : Around} {E : Value → Shared → Prop} {s : Shared} {u v : Value} {p q : List Str}
theorem eq_str {x y : Str} {t t' : Tok} {A : Around} : SeqAt.EqAt A s (.str x t) (.str y t') (decide (x = y)) := fun _ _ _ _ h => wpAny_eqBool_str h
theorem lt_str_rc {x y : Str} {t t' : Tok} {A : Around} : Ob.RcOp .Lt A s (.str x t) (.str y t') (decide (x.cps.toList < y.cps.toList)) := fun _ _ _ _ h => PyProof.Rows.lt_str h
/-- t < u of two tuples of texts -/
theorem rc_ltP (hu : A.units < cLine) (h1 : TupS s.heap u p) (h2 : TupS s.heap v q) : Ob.RcOp .Lt A s u v (ltP p q) := by
  obtain ⟨a, xs, rfl, t1, i1⟩ := h1
  obtain ⟨b, ys, rfl, t2, i2⟩ := h2
  obtain ⟨l1, g1⟩ := strs_at i1
  obtain ⟨l2, g2⟩ := strs_at i2
  rw [Array.length_toList] at l1 l2
  have R := Ob.RcOp.tuples_lt (A := A) (s := s) (e := fun j => decide (p.getD j "" = q.getD j "")) (r := fun j => decide ((p.getD j "").cps.toList < (q.getD j "").cps.toList)) t1 t2 hu
    (fun j h1 h2 => by
      obtain ⟨t, e1⟩ := g1 j (by rw [Array.length_toList]; exact h1)
      obtain ⟨t', e2⟩ := g2 j (by rw [Array.length_toList]; exact h2)
      rw [Array.getElem_toList] at e1 e2
      rw [e1, e2]
      exact eq_str)
    (fun j h1 h2 _ => by
      obtain ⟨t, e1⟩ := g1 j (by rw [Array.length_toList]; exact h1)
      obtain ⟨t', e2⟩ := g2 j (by rw [Array.length_toList]; exact h2)
      rw [Array.getElem_toList] at e1 e2
      rw [e1, e2]
      exact lt_str_rc)
  rw [l1, l2] at R
  rw [lexAt_ltP p q _ _ 0 (fun j _ => by rw [Nat.zero_add]) (fun j _ => by rw [Nat.zero_add])] at R
  exact R
/-- the same, by the slot of tuples -/
theorem slot_ltP {Q : Bool → Shared → Prop} (hu : A.units + 1 < cLine) (h1 : TupS s.heap u p) (h2 : TupS s.heap v q) (h : Q (ltP p q) s) : wpAny (model prog w) A (oneLt' true u v) Q E s := by
  obtain ⟨a, xs, rfl, t1, i1⟩ := h1
  obtain ⟨b, ys, rfl, t2, i2⟩ := h2
  obtain ⟨l1, g1⟩ := strs_at i1
  obtain ⟨l2, g2⟩ := strs_at i2
  rw [Array.length_toList] at l1 l2
  rw [oneLt'_eq]
  simp only [if_true]
  refine wpAny_bind (wpAny_cRoomFor (Nat.lt_of_succ_lt hu) ?_)
  obtain ⟨⟨cls, dd, data, sl⟩, ho, hc, n, hd⟩ := id t1
  obtain ⟨⟨cls2, dd2, data2, sl2⟩, ho2, hc2, n2, hd2⟩ := id t2
  simp only at hc hd hc2 hd2
  subst hc hd hc2 hd2
  refine wpAny_bind (wpAny_callSpecialIfBound?_slot (T := "tuple") ⟨_, ho, rfl⟩ PySem.F.slot_tuple_lt ?_)
  refine call_meets PySem.F.slot_tuple_lt ⟨_, ho, rfl⟩ PySem.F.entry_tuple_lt (PySem.F.args_tuple_lt_2 _ _)
    (Ob.tuple_ltAt a b xs ys n n2 dd dd2 sl sl2 (fun j => decide (p.getD j "" = q.getD j "")) (fun j => decide ((p.getD j "").cps.toList < (q.getD j "").cps.toList))) ⟨ho, ho2, ?_, ?_, ?_⟩
  · intro j h1 h2
    obtain ⟨t, e1⟩ := g1 j (by rw [Array.length_toList]; exact h1)
    obtain ⟨t', e2⟩ := g2 j (by rw [Array.length_toList]; exact h2)
    rw [Array.getElem_toList] at e1 e2
    rw [e1, e2]
    exact eq_str
  · intro j h1 h2 _
    obtain ⟨t, e1⟩ := g1 j (by rw [Array.length_toList]; exact h1)
    obtain ⟨t', e2⟩ := g2 j (by rw [Array.length_toList]; exact h2)
    rw [Array.getElem_toList] at e1 e2
    rw [e1, e2]
    exact lt_str_rc
  · rw [l1, l2, lexAt_ltP p q _ _ 0 (fun j _ => by rw [Nat.zero_add]) (fun j _ => by rw [Nat.zero_add])]
    exact wpAny_truthy_bool h
end

/-! ### the three ways in which a sort may compare them -/
section
variable {prog : Program} {w : World} {A : Around} {E : Value → Shared → Prop} {s : Shared} {vs : List Value} {k : Value → List Str}
theorem lex_kat {b fin : Bool} {Q : Bool → Shared → Prop} : ∀ {xs ys : List Value} {p q : List Str} (i : Nat), StrsAre xs p → StrsAre ys q → (fin = decide (p.length < q.length)) → Q (ltP p q) s →
    PySem.W.KatLex prog w A b fin Q (xs.zip ys) i s
  | _, _, _, _, i, .nil, .nil, hf, h => by
    rw [ltP_nil] at h
    refine PySem.W.kat_nil ?_
    rw [hf]
    exact h
  | _, _, _, _, i, .nil, .cons y t r, hf, h => by
    rw [ltP_nil_cons] at h
    refine PySem.W.kat_nil ?_
    rw [hf, decide_eq_true (by rw [List.length_cons, List.length_nil]; omega)]
    exact h
  | _, _, _, _, i, .cons x t r, .nil, hf, h => by
    rw [ltP_nil] at h
    refine PySem.W.kat_nil ?_
    rw [hf, decide_eq_false (show ¬ (x :: _).length < ([] : List Str).length from Nat.not_lt_zero _)]
    exact h
  | _, _, _, _, i, .cons (ys := p) x t r, .cons (ys := q) y t' r', hf, h => by
    rw [ltP_cons] at h
    refine PySem.W.kat_cons (wpAny_eqBool_str ?_)
    refine PySem.W.kat_go (fun e => ?_) (fun e => ?_)
    · rw [if_pos (of_decide_eq_true e)] at h
      refine PySem.W.kat_yes (lex_kat (i + 1) r r' ?_ h)
      rw [hf]
      exact decide_eq_decide.mpr (by rw [List.length_cons, List.length_cons]; omega)
    · rw [if_neg (of_decide_eq_false e)] at h
      refine PySem.W.kat_no ?_
      cases hb : (b && i == 0) with
      | true => exact oneLt_str h
      | false => exact PySem.W.kat_one _ _ (PyProof.Rows.lt_str (Q := PySem.W.BoolBack Q) h)
theorem cmp_tuples (hp : ∀ v ∈ vs, TupS s.heap v (k v)) : Cmp prog w A s (tuples' true) (fun p => p.1 ∈ vs) (lt2 fun u v => ltP (k u) (k v)) := by
  intro p q hm hm'
  obtain ⟨a, xs, e1, ⟨o, ho, hc, n, hd⟩, i1⟩ := hp _ hm
  obtain ⟨b, ys, e2, ⟨o2, ho2, hc2, n2, hd2⟩, i2⟩ := hp _ hm'
  show wpAny (model prog w) A (keyLt' (tuples' true) p.1 q.1) (fun r s' => s' = s ∧ r = ltP (k p.1) (k q.1)) (fun _ _ => False) s
  generalize k p.1 = P at i1 ⊢
  generalize k q.1 = R at i2 ⊢
  rw [e1, e2]
  have l1 := (strs_at i1).1
  have l2 := (strs_at i2).1
  rw [Array.length_toList] at l1 l2
  refine PySem.W.kat_lt ho hd ho2 hd2 (lex_kat 0 i1 i2 ?_ ⟨rfl, rfl⟩)
  rw [l1, l2]
theorem cmp_general (hu : A.units < cLine) (hp : ∀ v ∈ vs, TupS s.heap v (k v)) : Cmp prog w A s general' (fun p => p.1 ∈ vs) (lt2 fun u v => ltP (k u) (k v)) := by
  intro p q hm hm'
  show wpAny (model prog w) A (oneLt' false p.1 q.1) (fun r s' => s' = s ∧ r = ltP (k p.1) (k q.1)) (fun _ _ => False) s
  refine PySem.W.kat_one _ _ ?_
  exact rc_ltP hu (hp _ hm) (hp _ hm') prog w _ _ ⟨rfl, rfl⟩
theorem cmp_one (hu : A.units + 1 < cLine) (hp : ∀ v ∈ vs, TupS s.heap v (k v)) : Cmp prog w A s oneType' (fun p => p.1 ∈ vs) (lt2 fun u v => ltP (k u) (k v)) := by
  intro p q hm hm'
  show wpAny (model prog w) A (oneLt' true p.1 q.1) (fun r s' => s' = s ∧ r = ltP (k p.1) (k q.1)) (fun _ _ => False) s
  exact slot_ltP hu (hp _ hm) (hp _ hm') ⟨rfl, rfl⟩

/-! ### which way it is -/
theorem firsts_any : ∀ {vs : List Value} {Q : List (Option Value) → Shared → Prop}, (∀ v ∈ vs, TupS s.heap v (k v)) →
    (∀ fs : List (Option Value), fs.length = vs.length → (fs.map Option.isSome = vs.map fun v => !(k v).isEmpty) → (∀ f ∈ fs, ∀ x, f = some x → ∃ z t, x = Value.str z t) → Q fs s) → wpAny (model prog w) A (vs.mapM firstOfTuple') Q E s
  | [], Q, _, h => by
    rw [List.mapM_nil]
    exact wpAny_pure (h [] rfl rfl fun f hf => nomatch hf)
  | v :: vs, Q, hp, h => by
    obtain ⟨a, xs, e1, ⟨o, ho, hc, n, hd⟩, i1⟩ := hp v (List.mem_cons_self ..)
    rw [List.mapM_cons, e1]
    refine wpAny_bind ?_
    rw [PySem.W.kas_first_eq]
    refine wpAny_bind (PySem.W.Looks.here (show PySem.W.Looks (model prog w) s.heap (typeOf (.ref a)) o.cls from (PySem.W.Looks.ld ho).andThen .now) ?_)
    rw [hc, if_neg (by first | decide | simp)]
    refine wpAny_bind (listItems_at ho hd (wpAny_pure ?_))
    refine wpAny_bind (firsts_any (fun u hu => hp u (List.mem_cons_of_mem _ hu)) fun fs hl hs hf => wpAny_pure (h _ (by rw [List.length_cons, List.length_cons, hl]) ?_ fun f hm x e => ?_))
    · rw [List.map_cons, List.map_cons, hs]
      have l1 := (strs_at i1).1
      rw [Array.length_toList] at l1
      have e2 : (xs[0]?).isSome = !(k v).isEmpty := by
        cases hk : k v with
        | nil =>
          rw [hk, List.length_nil] at l1
          rw [Array.getElem?_eq_none (by omega)]
          rfl
        | cons z r =>
          rw [hk, List.length_cons] at l1
          rw [Array.getElem?_eq_getElem (by omega)]
          rfl
      rw [e2]
    rcases List.mem_cons.mp hm with rfl | hm
    · obtain ⟨l1, g1⟩ := strs_at i1
      have hx : xs.toList[0]? = some x := by rw [Array.getElem?_toList]; exact e
      obtain ⟨h0, e0⟩ := List.getElem?_eq_some_iff.mp hx
      obtain ⟨t, et⟩ := g1 0 h0
      exact ⟨_, t, e0.symm.trans et⟩
    · exact hf f hm x e
theorem one_type {T : Value} {gs : List Value} {Q : Option Value → Shared → Prop} (hne : gs ≠ []) (hT : ∀ v ∈ gs, PySem.W.Looks (model prog w) s.heap (typeOf v) T) (hTT : (T == T) = true) (h : Q (some T) s) :
    wpAny (model prog w) A (oneTypeOnly' gs.toArray) Q E s := by
  obtain ⟨g, gr, rfl⟩ : ∃ g gr, gs = g :: gr := by
    cases gs with
    | nil => exact absurd rfl hne
    | cons g gr => exact ⟨g, gr, rfl⟩
  rw [oneTypeOnly'_eq, List.mapM_toArray, map_eq_pure_bind]
  refine wpAny_bind (wpAny_bind (PySem.W.kas_mapM (r := T) _ (fun v hv Q' hq => (hT v hv).here hq) (wpAny_pure ?_)))
  have hall : ((List.map (fun _ => T) (g :: gr)).toArray.all fun x => x == T) = true := by
    simp only [List.all_toArray, List.all_map, List.all_eq_true]
    intro _ _
    exact hTT
  have h0 : (List.map (fun _ => T) (g :: gr)).toArray[0]? = some T := by simp
  rw [h0]
  simp only [hall, if_true]
  exact wpAny_pure h
/-- which of the three it is -/
def wayOf (k : Value → List Str) (vs : List Value) : SortKind := if (vs.all fun v => !(k v).isEmpty) = true then tuples' true else if ((vs.map fun v => !(k v).isEmpty)[0]? = some true) then general' else oneType'
theorem kind_any (h2 : 2 ≤ vs.length) (hp : ∀ v ∈ vs, TupS s.heap v (k v)) {Q : SortKind → Shared → Prop} (q : Q (wayOf k vs) s) :
    wpAny (model prog w) A (keyKind' vs.toArray) Q E s := by
  rw [kat_kind_eq, List.mapM_toArray, map_eq_pure_bind]
  refine wpAny_bind (wpAny_bind (firsts_any hp fun fs hl hs hf => wpAny_pure ?_))
  have hav : (fs.toArray.all fun x => x.isSome) = vs.all fun v => !(k v).isEmpty := by
    have e1 : (fs.toArray.all fun x => x.isSome) = (fs.map Option.isSome).all id := by
      rw [List.all_map, List.all_toArray]
      rfl
    rw [e1, hs, List.all_map]
    rfl
  have h0v : (fs.toArray[0]?.bind id).isSome = true ↔ (vs.map fun v => !(k v).isEmpty)[0]? = some true := by
    rw [← hs]
    cases fs with
    | nil => simp
    | cons f fr => cases f <;> simp
  unfold wayOf at q
  rw [← hav] at q
  by_cases hall : (fs.toArray.all fun x => x.isSome) = true
  · rw [if_pos hall] at q ⊢
    refine wpAny_bind (wpAny_rule ?_)
    have hfm : Array.filterMap id fs.toArray = (fs.filterMap id).toArray := by simp
    rw [hfm]
    have hgs : ∀ g ∈ fs.filterMap id, ∃ z t, g = Value.str z t := by
      intro g hg
      obtain ⟨f, hm, e⟩ := List.mem_filterMap.mp hg
      exact hf f hm g e
    have hne : fs.filterMap id ≠ [] := by
      intro e
      cases fs with
      | nil =>
        rw [List.length_nil] at hl
        omega
      | cons f fr =>
        cases f with
        | none => simp at hall
        | some x => simp at e
    refine wpAny_bind (one_type (T := .type "str") hne (fun v hv => ?_) (by rfl) (wpAny_pure ?_))
    · obtain ⟨z, t, rfl⟩ := hgs v hv
      exact PySem.W.Looks.of_pure rfl
    · have e : (Option.any (fun x => x != Value.type "tuple") (some (Value.type "str"))) = true := by first | decide +kernel | rfl
      rw [e]
      exact q
  · rw [if_neg hall] at q ⊢
    refine wpAny_ite_split (fun h => ?_) (fun h => ?_)
    · rw [if_pos (h0v.mp h)] at q
      exact wpAny_pure q
    rw [if_neg (fun z => h (h0v.mpr z))] at q
    have hne : vs ≠ [] := by
      intro e
      rw [e, List.length_nil] at h2
      omega
    refine wpAny_bind (one_type (T := .type "tuple") hne (fun v hv => ?_) (by rfl) (wpAny_pure q))
    obtain ⟨a, xs, rfl, ⟨o, ho, hc, n, hd⟩, i1⟩ := hp v hv
    rw [← hc]
    exact (PySem.W.Looks.ld ho).andThen .now
/-- paths can be sorted, whatever the way -/
theorem sortable {a : Addr} (hu : A.units + 1 < cLine) (h2 : 2 ≤ vs.length) (hp : ∀ v ∈ vs, TupS s.heap v (k v)) (ha : ∀ o, s.heap.get? a = some o → o.cls ≠ .type "tuple") :
    SortableO prog w A s a vs fun u v => ltP (k u) (k v) := by
  intro h' keep
  have hp' : ∀ v ∈ vs, TupS h' v (k v) := fun v hm => (hp v hm).keeps fun b o e c => keep b o (fun z => by subst z; exact ha o e c) e
  refine ⟨wayOf k vs, fun Q E hq => kind_any h2 hp' hq, ?_⟩
  unfold wayOf
  split
  · exact cmp_tuples hp'
  · split
    · exact cmp_general (Nat.lt_of_succ_lt hu) hp'
    · exact cmp_one hu hp'
end

/-! ### sorted(x), x anything that can be walked -/
section
variable {prog : Program} {w : World} {A : Around} {E : Value → Shared → Prop} {s : Shared} {T : String} {r d : Addr} {n : Nat} {P : Nat → Value → Prop} {OK : Heap → Prop}
theorem collect_src {R : List Value → Shared → Prop} (K : PySem.W.KdlSrc prog w T r d n P OK) (hh : A.handled = none) (hok : OK s.heap) (hn : n ≤ sizeLine)
    (h : ∀ (h' : Heap) (tk : Nat) (acc : Array Value), (∀ b o, s.heap.get? b = some o → h'.get? b = some o) → s.heap.objs.size < h'.objs.size → ItemsOf P acc n → R acc.toList { s with heap := h', toks := tk }) :
    wpAny (model prog w) A (collect (.ref r)) R E s := by
  have hlt := K.there _ hok
  have hS : (s.heap.push { cls := .type "list", data := .seq ([] : List Value).toArray }).get? s.heap.objs.size = some { cls := .type "list", data := .seq #[] } := Heap.get?_push_size _ rfl
  have key := PySem.W.kdl_extend (A := A) (s := { s with heap := s.heap.push { cls := .type "list", data := .seq ([] : List Value).toArray } })
    (R := fun (q : Result) (s' : Shared) => ∃ (h' : Heap) (tk : Nat) (acc : Array Value) (c : Nat), q = .ok (.ret (.ref s.heap.objs.size)) ∧ s' = { s with heap := h', toks := tk } ∧ (∀ b o, s.heap.get? b = some o → h'.get? b = some o) ∧
      h'.get? s.heap.objs.size = some { cls := .type "list", dict := none, data := .seq acc c, slots := #[] } ∧ ItemsOf P acc n)
    K hh (K.keep _ _ hok fun b _ o e => Heap.get?_push_of_some _ e) s.heap.objs.size (Nat.ne_of_gt hlt.1) (Nat.ne_of_gt hlt.2) (.ref s.heap.objs.size) 0 hS
    (fun h' tk acc c kp at_ it => ⟨h', tk, acc, c, rfl, rfl, fun b o e => kp b o (Nat.ne_of_lt (Heap.lt_size e)) (Heap.get?_push_of_some _ e), at_, it⟩) hn
  have fin : ∀ {s' : Shared} {h' : Heap} {tk : Nat} {acc : Array Value} {c : Nat}, s' = { s with heap := h', toks := tk } → (∀ b o, s.heap.get? b = some o → h'.get? b = some o) →
      h'.get? s.heap.objs.size = some { cls := .type "list", dict := none, data := .seq acc c, slots := #[] } → ItemsOf P acc n →
      wpAny (model prog w) A (load s.heap.objs.size >>= fun o => match o.data with
        | .seq xs _ => pure xs.toList
        | _ => unsupported "internal:collect") R E s' := by
    intro s' h' tk acc c e kp at_ it
    subst e
    refine wpAny_bind (wpAny_load at_ ?_)
    exact wpAny_pure (h h' tk acc kp (Heap.lt_size at_) it)
  unfold collect
  refine wpAny_bind (wpAny_runValue (codeAny_builtin entry_proto_collect' ?_))
  rw [Around.under_plainId PySem.F.plain_proto_collect _]
  refine wpAny_bind (m := newList []) (wpAny_newObj_type (wpAny_pure ⟨plainId_quiet PySem.F.plain_list_iadd _, codeAny_builtin entry_list_iadd' ?_⟩))
  rw [Around.under_plainId PySem.F.plain_list_iadd _]
  refine wpAny_mono key ?_ ?_
  · intro fl s' x
    cases fl with
    | again c₁ =>
      obtain ⟨x1, x2⟩ := x
      refine ⟨x1, codeAny_mono x2 ?_⟩
      rintro q s₂ ⟨h', tk, acc, c, rfl, e, kp, at_, it⟩
      exact fin e kp at_ it
    | done f =>
      obtain ⟨h', tk, acc, c, eq, e, kp, at_, it⟩ := x
      cases eq
      exact fin e kp at_ it
  · intro e s' x
    obtain ⟨_, _, _, _, e', _⟩ := x
    cases e'
/-- what a sort leaves -/
def Leaves (s : Shared) (ltv : Value → Value → Bool) (vs : List Value) (tk : Nat) (Q : Value → Shared → Prop) : Prop := ∀ (h2 : Heap) (l : Addr) (out : List Value), Srtd ltv out → Stb ltv out vs →
  (∀ b o, s.heap.get? b = some o → h2.get? b = some o) → s.heap.objs.size ≤ l → (∃ c, h2.get? l = some (seqObj "list" out.toArray c)) → Q (.ref l) { s with heap := h2, toks := tk }
theorem sorted_src {ltv : List Value → Value → Value → Bool} {Q : Value → Shared → Prop} (O : ∀ vs, Swo (ltv vs)) (K : PySem.W.KdlSrc prog w T r d n P OK) (hh : A.handled = none) (hok : OK s.heap) (hn : n ≤ sizeLine)
    (hS : ∀ (acc : Array Value) (tk : Nat), ItemsOf P acc n → 2 ≤ acc.size → ∀ (h₁ : Heap) (a : Addr), h₁.get? a = some (seqObj "list" acc 0) → (∀ b o, s.heap.get? b = some o → b ≠ a ∧ h₁.get? b = some o) →
      SortableO prog w A.in1.in1 { s with heap := h₁, toks := tk } a acc.toList (ltv acc.toList))
    (h : ∀ (acc : Array Value) (tk : Nat), ItemsOf P acc n → Leaves s (ltv acc.toList) acc.toList tk Q) :
    wpAny (model prog w) A (call (.builtin "sorted") [.ref r]) Q E s := by
  refine Calls.call_function_entry kind_sorted plain_sorted entry_sorted (args_sorted1 _) ?_
  unfold Builtin.«sorted»
  refine wpAny_bind (m := checkCount "sorted" 1 1 _) (wpAny_pure (wpAny_bind (collect_src (A := A.in1) K hh hok hn fun h' tk acc kp hlt it => ?_)))
  have hz : acc.toList.length ≤ sizeLine := by
    rw [Array.length_toList, it.1]
    exact hn
  refine wpAny_bind (wpAny_newList ?_ hz)
  have hL : (h'.push (seqObj "list" acc.toList.toArray 0)).get? h'.objs.size = some (seqObj "list" acc.toList.toArray 0) := Heap.get?_push_size _ rfl
  have keep : ∀ b o, s.heap.get? b = some o → b ≠ h'.objs.size ∧ (h'.push (seqObj "list" acc.toList.toArray 0)).get? b = some o := fun b o q =>
    ⟨Nat.ne_of_lt (Heap.lt_size (kp b o q)), Heap.get?_push_of_some _ (kp b o q)⟩
  show wpAny _ _ _ _ _ { s with heap := h'.push (seqObj "list" acc.toList.toArray 0), toks := tk }
  refine wpAny_bind (wpAny_holding (wpAny_call_entry slot_list_sort ⟨_, hL, rfl⟩ entry_list_sort (list_sort_ord (O acc.toList) hL hz (fun h2 => ?_) fun out hs hb => ⟨_, rfl, ?_⟩) (args_list_sort _)))
  · exact hS acc tk it (by rw [← Array.length_toList]; exact h2) _ _ hL keep
  · refine wpAny_pure ⟨_, rfl, h acc tk it _ h'.objs.size out hs hb (fun b o e => ?_) (Nat.le_of_lt hlt) ?_⟩
    · exact (PyProof.Rows.sortedHeap_old (keep b o e).1 (Heap.lt_size (keep b o e).2)).trans (keep b o e).2
    · obtain ⟨c, hc⟩ := PyProof.Rows.sortedHeap_at (n := 0) (vs := acc.toList) (out := out.toArray) hL
      exact ⟨c, hc⟩
end
end LS

namespace LS
open PySem PySem.Spec PyProof.Rows SrtO L2 LT
/-- the texts of a tuple, read off the heap -/
def strsOf (h : Heap) : Value → List Str
  | .ref a => match h.get? a with
    | some o => match o.data with
      | .seq xs _ => xs.toList.map fun v => match v with | .str z _ => z | _ => ""
      | _ => []
    | none => []
  | _ => []
theorem strs_back : ∀ {vs : List Value} {p : List Str}, StrsAre vs p → vs.map (fun v => match v with | .str z _ => z | _ => "") = p
  | _, _, .nil => rfl
  | _, _, .cons y t r => by
    rw [List.map_cons, strs_back r]
theorem TupS.of {h : Heap} {v : Value} {p : List Str} (x : TupS h v p) : strsOf h v = p := by
  obtain ⟨a, xs, rfl, ⟨o, ho, hc, n, hd⟩, i⟩ := x
  unfold strsOf
  simp only [ho, hd]
  exact strs_back i
theorem strs_of_vals : ∀ {p : List Str} {us : List Value}, Vals (p.map V.str) us → StrsAre us p
  | [], _, r => by
    cases r
    exact .nil
  | z :: p, _, r => by
    cases r with
    | cons r1 r2 =>
      obtain ⟨t, rfl⟩ := r1
      exact .cons z t (strs_of_vals r2)
theorem tupS_of {X : Cx} {pins : List (Addr × Obj)} {σ : L2.St} {H : Hp} {s : Shared} {a : Addr} {p : List Str} (I : Inv X pins σ H s) (h : PathAt X.K H a p) : TupS s.heap (.ref a) p := by
  obtain ⟨its, r, t, _⟩ := I.tuple h
  exact ⟨a, its.toArray, rfl, t, by simpa using strs_of_vals r⟩
abbrev Zs := List (Addr × List Str)
def addrs (zs : Zs) : List V := zs.map fun z => V.ref z.1
def Rising (zs : Zs) : Prop := zs.Pairwise fun x y => ltP y.2 x.2 = false
theorem addrs_back : ∀ {zs : Zs} {us : List Value}, Vals (addrs zs) us → us = zs.map fun z => Value.ref z.1
  | [], _, r => by
    cases r
    rfl
  | z :: zs, _, r => by
    cases r with
    | cons r1 r2 =>
      cases r1
      rw [addrs_back r2]
      rfl
theorem addrs_vals : ∀ zs : Zs, Vals (addrs zs) (zs.map fun z => Value.ref z.1)
  | [] => .nil
  | z :: zs => .cons rfl (addrs_vals zs)
/-- sorted(xs), xs a list of paths -/
def rSortL (K : PySem.W.Frag) : List V → Hp → VK → Prop := fun vs H Q => ∃ (a : Addr) (zs : Zs), vs = [V.ref a] ∧ SqL K H a (addrs zs) ∧ (∀ z ∈ zs, PathAt K H z.1 z.2) ∧
  ∀ l ys, ys.Perm zs → Rising ys → H l = none → Q (.ref l) (upd H l (.lst (addrs ys)))
section
variable {X : Cx}
theorem sort_end {pins : List (Addr × Obj)} {σ : L2.St} {H : Hp} {s : Shared} {Q : VK} {zs : Zs} {tk : Nat} {vs : List Value} (I : Inv X pins σ H s) (hz : zs.length ≤ sizeLine) (hp : ∀ z ∈ zs, PathAt X.K H z.1 z.2) (e : vs = zs.map fun z => Value.ref z.1)
    (q : ∀ l ys, ys.Perm zs → Rising ys → H l = none → Q (.ref l) (upd H l (.lst (addrs ys)))) : Leaves s (fun u v => ltP (strsOf s.heap u) (strsOf s.heap v)) vs tk (EP X pins σ Q) := by
  intro h2 l out hs hb kp hl hc
  subst e
  obtain ⟨ys, py, ey⟩ := L2.perm_lift (fun z : Addr × List Str => Value.ref z.1) hb.perm zs rfl
  have hlen : ys.length ≤ sizeLine := by rw [py.length_eq]; exact hz
  obtain ⟨c, hc⟩ := hc
  refine ⟨.ref l, upd H l (.lst (addrs ys)), I.laid (t' := tk) kp hl ⟨by unfold addrs; rw [List.length_map]; exact hlen, out, c, ?_, hc⟩, rfl, q l ys py ?_ (I.hok.fresh hl)⟩
  · rw [← ey]
    exact addrs_vals ys
  · rw [← ey] at hs
    have hs2 := List.pairwise_map.mp hs
    refine List.Pairwise.imp_of_mem (fun {x y} hx hy h => ?_) hs2
    have e1 := (tupS_of I (hp x (py.mem_iff.mp hx))).of
    have e2 := (tupS_of I (hp y (py.mem_iff.mp hy))).of
    have h' : ltP (strsOf s.heap (.ref y.1)) (strsOf s.heap (.ref x.1)) = false := h
    rw [e1, e2] at h'
    exact h'
theorem sort_able {pins : List (Addr × Obj)} {σ : L2.St} {H : Hp} {s : Shared} {zs : Zs} {tk : Nat} {vs : List Value} {A : Around} (I : Inv X pins σ H s) (hu : A.units + 1 < cLine) (hp : ∀ z ∈ zs, PathAt X.K H z.1 z.2) (e : vs = zs.map fun z => Value.ref z.1) (h2 : 2 ≤ vs.length)
    {h₁ : Heap} {a : Addr} (ha : h₁.get? a = some (seqObj "list" vs.toArray 0)) (kk : ∀ b o, s.heap.get? b = some o → b ≠ a ∧ h₁.get? b = some o) :
    SortableO X.prog X.w A { s with heap := h₁, toks := tk } a vs (fun u v => ltP (strsOf s.heap u) (strsOf s.heap v)) := by
  refine sortable (s := { s with heap := h₁, toks := tk }) hu h2 (fun v hv => ?_) fun o e1 => ?_
  · rw [e] at hv
    obtain ⟨z, hz, rfl⟩ := List.mem_map.mp hv
    have t := tupS_of I (hp z hz)
    rw [t.of]
    exact t.keeps fun b o e _ => (kk b o e).2
  · have e' : some o = some (seqObj "list" vs.toArray 0) := e1.symm.trans ha
    cases e'
    intro c
    exact absurd (Value.type.inj c) (by decide)
theorem cr_sortL (hu : X.A.units + 3 < cLine) : CallR X (.builtin "sorted") (rSortL X.K) := by
  rintro pins s σ H vs us Q I r ⟨a, zs, rfl, hs, hp, q⟩
  obtain ⟨its, rv, hl, hz⟩ := I.list hs
  obtain ⟨u, rfl, ru⟩ := vals1 r
  obtain rfl : u = Value.ref a := ru
  have e := addrs_back rv
  have hzs : zs.length ≤ sizeLine := by
    have := hz
    unfold addrs at this
    rw [List.length_map] at this
    exact this
  have L := sort_end (tk := s.toks) I hzs hp e q
  refine sorted_ord (swoP (strsOf s.heap)) hl.isList (by rw [← rv.length]; exact hz) (fun h2 h₁ a ha kk => ?_) fun out h1 h2 => ?_
  · exact sort_able (tk := s.toks) I (show X.A.units + 1 + 1 + 1 < cLine by omega) hp e h2 ha kk
  · exact L _ _ out h1 h2 (fun b o e => sortedAll_old e) (Nat.le_succ _) (sortedAll_at s.heap its out.toArray)
/-- the keys of a dict, each a path -/
def KeysP (kvs : List (List L2.Key × V)) (ps : List (List Str)) : Prop := kvs.map (·.1) = ps.map fun p => p.map Sum.inr
theorem kV_strs (p : List Str) : (p.map (Sum.inr : Str → L2.Key)).map kV = p.map V.str := by
  rw [List.map_map]
  rfl
theorem zs_of {H : Hp} : ∀ {kvs : List (List L2.Key × V)} {xs : List (List L2.Key × Addr × Value)} {ps : List (List Str)}, KT H kvs xs → KeysP kvs ps →
    ∃ zs : Zs, zs.map (·.2) = ps ∧ zs.map (fun z => Value.ref z.1) = xs.map (fun x => Value.ref x.2.1) ∧ ∀ z ∈ zs, H z.1 = some (.tup (z.2.map V.str))
  | [], _, ps, .nil, h => by
    have e : ps = [] := by
      cases ps with
      | nil => rfl
      | cons p ps => exact absurd h (by simp [KeysP])
    subst e
    exact ⟨[], rfl, rfl, fun z hz => nomatch hz⟩
  | kv :: kvs, _, ps, .cons (b := x) a t, h => by
    cases ps with
    | nil => exact absurd h (by simp [KeysP])
    | cons p ps =>
      unfold KeysP at h
      rw [List.map_cons, List.map_cons] at h
      injection h with h1 h2
      obtain ⟨zs, e1, e2, e3⟩ := zs_of t h2
      obtain ⟨a1, a2, a3⟩ := a
      refine ⟨(x.2.1, p) :: zs, by rw [List.map_cons, e1], by rw [List.map_cons, List.map_cons, e2], fun z hz => ?_⟩
      rcases List.mem_cons.mp hz with rfl | hz
      · rw [h1, kV_strs] at a2
        exact a2
      · exact e3 z hz
/-- sorted(d), d a dict whose keys are paths -/
def rSortD : List V → Hp → VK → Prop := fun vs H Q => ∃ (d : Addr) (kvs : List (List L2.Key × V)) (ps : List (List Str)), vs = [V.ref d] ∧ Rd H d (.dT kvs) ∧ KeysP kvs ps ∧
  ∀ l ys, (ys.map (·.2)).Perm ps → Rising ys → (∀ z ∈ ys, H z.1 = some (.tup (z.2.map V.str))) → H l = none → Q (.ref l) (upd H l (.lst (addrs ys)))
theorem cr_sortD (hc : X.calm = true) (hu : X.A.units + 3 < cLine) : CallR X (.builtin "sorted") rSortD := by
  rintro pins s σ H vs us Q I r ⟨d, kvs, ps, rfl, hd, hk, q⟩
  obtain ⟨u, rfl, ru⟩ := vals1 r
  obtain rfl : u = Value.ref d := ru
  obtain ⟨hz, hs, xs, rel, o, es, ep, ho, hx, hdt, he, _, _⟩ := dt_rd I.hok hd
  obtain ⟨zs, z1, z2, z3⟩ := zs_of rel hk
  have l1 : es.size = xs.length := size_of_entries he
  have l2 : kvs.length = xs.length := Paired.length rel
  have l3 : zs.length = xs.length := by
    have := congrArg List.length z2
    rw [List.length_map, List.length_map] at this
    exact this
  have hp : ∀ z ∈ zs, PathAt X.K H z.1 z.2 := fun z hz => SqT.of (z3 z hz)
  have ea : ∀ acc : Array Value, ItemsOf (fun i v => ∃ hi : i < es.size, v = es[i].key) acc es.size → acc.toList = zs.map fun z => Value.ref z.1 := by
    intro acc it
    rw [z2]
    apply List.ext_getElem?
    intro j
    rw [List.getElem?_map]
    by_cases hj : j < es.size
    · have hja : j < acc.size := by rw [it.1]; exact hj
      obtain ⟨hi, hv⟩ := it.2 j acc[j] (Array.getElem?_eq_getElem hja)
      rw [Array.getElem?_toList, Array.getElem?_eq_getElem hja, hv]
      have qe := entry_at he j
      rw [Array.getElem?_eq_getElem hi] at qe
      cases hb : xs[j]? with
      | none =>
        rw [hb] at qe
        exact nomatch (show some es[j] = none from qe)
      | some b =>
        rw [hb] at qe
        rw [show es[j] = entryOfKey (tupleKind (mixKind X.prog X.w)) b from Option.some.inj qe]
        rfl
    · rw [List.getElem?_eq_none (by rw [Array.length_toList, it.1]; omega), List.getElem?_eq_none (by omega)]
      rfl
  have hzs : zs.length ≤ sizeLine := by rw [l3, ← l2]; exact hz
  refine sorted_src (T := "dict") (ltv := fun _ u v => ltP (strsOf s.heap u) (strsOf s.heap v)) (fun _ => swoP (strsOf s.heap)) (KdlSrc.rawDict (es := es) (ep := ep) hs) (I.ok.hd hc) ⟨o, ho, hx, hdt⟩ (by rw [l1, ← l2]; exact hz) ?_ ?_
  · intro acc tk it h2 h₁ a ha kk
    exact sort_able I (show X.A.units + 1 + 1 + 1 < cLine by omega) hp (ea acc it) (by rw [Array.length_toList]; exact h2) (by rw [Array.toArray_toList]; exact ha) kk
  · intro acc tk it
    refine sort_end I hzs hp (ea acc it) fun l ys py hr hl => q l ys ?_ hr (fun z hz => z3 z (py.mem_iff.mp hz)) hl
    rw [← z1]
    exact py.map _
end
end LS

/-! Dicts of paths: locked or not, walked, looked up. -/
namespace LT
open PySem PySem.Spec PyProof.Rows L2 GA LD

/-! ### a lock where there is none yet -/
def tLockR (t : TE) : TE := fun σ H Q => tLockE t σ H Q ∨ t σ H Q
theorem pe_lockR {X : Cx} {e : Expr} {t : TE} (h : PE X e t) : PE X e (tLockR t) := by
  constructor
  intro pins s σ H Q I q
  rcases q with q | q
  · exact (pe_lock h).run pins s σ H Q I q
  · exact h.run pins s σ H Q I q
def tLockS (t : TS) : TS := fun D σ H => tLock t D σ H ∨ t D σ H
theorem ps_lockS {X : Cx} {st : Stmt} {t : TS} (h : PS X st t) : PS X st (tLockS t) := by
  constructor
  intro pins s σ H D I q
  rcases q with q | q
  · exact (ps_lock h).run pins s σ H D I q
  · exact h.run pins s σ H D I q
theorem Ex.unlock {H H' : Hp} {d : Addr} {od : Obj} {kvs : List (List L2.Key × V)} (hd : H d = some (.dT kvs)) (x : Ex (upd H d (.frz od (.dT kvs))) H') : Ex H (upd H' d (.dT kvs)) := by
  constructor
  · intro b o e n
    by_cases hb : b = d
    · rw [hb] at e ⊢
      rw [upd_same, ← hd, e]
    · rw [upd_ne hb]
      exact x.keep b o (by rw [upd_ne hb]; exact e) n
  · rintro b ⟨ps, e, t⟩
    have hb : b ≠ d := fun z => by
      rw [z, hd] at e
      cases e
    obtain ⟨qs, e2, t2⟩ := x.tab b ⟨ps, by rw [upd_ne hb]; exact e, t⟩
    exact ⟨qs, by rw [upd_ne hb]; exact e2, t2⟩
  · intro b e
    by_cases hb : b = d
    · rw [hb, upd_same] at e
      cases e
    · rw [upd_ne hb] at e
      have := x.free b e
      rwa [upd_ne hb] at this
/-- what a walk over a dict at d does: it is locked there (H1), and the answer is told of the heap with the dict as it was -/
theorem lock_go {t : TE} {σ : L2.St} {H : Hp} {Q : VK} {d : Addr} {kvs : List (List L2.Key × V)} (hd : Rd H d (.dT kvs))
    (h : ∀ (H1 : Hp) (od : Obj) (R : VK), (∀ b o, H b = some o → b ≠ d → H1 b = some o) → (∀ b, TabG H b → TabG H1 b) → (∀ b, H1 b = none → H b = none) → H1 d = some (.frz od (.dT kvs)) →
      (∀ v H', Ex H1 H' → (∀ H2, Ex H H2 → (∀ b o, H' b = some o → b ≠ d → H2 b = some o) → Q v H2) → R v H') → t σ H1 R) : tLockR t σ H Q := by
  rcases hd with hd | ⟨od, hd⟩
  · refine Or.inl ⟨d, _, hd, trivial, fun od => ?_⟩
    refine h _ od _ (fun b o e hb => by rw [upd_ne hb]; exact e) (fun b => ?_) (fun b e => ?_) upd_same fun v H' x q => ⟨x.keep _ _ upd_same (fun ps z => by cases z), q _ (Ex.unlock hd x) fun b o e hb => by rw [upd_ne hb]; exact e⟩
    · rintro ⟨ps, e, t⟩
      refine ⟨ps, ?_, t⟩
      rw [upd_ne (fun z => by
        rw [z, hd] at e
        cases e)]
      exact e
    · by_cases hb : b = d
      · rw [hb, upd_same] at e
        cases e
      · rwa [upd_ne hb] at e
  · exact Or.inr (h H od Q (fun b o e _ => e) (fun b t => t) (fun b e => e) hd fun v H' x q => q H' x fun b o e _ => e)

/-! ### walks of keys and lists by a generator -/
section
variable {J : It} {te : TE} {σ0 : L2.St} {j : Nat} {Q : Bool → Hp → Prop} {H0 : Hp}
theorem gw_keysT {d : Addr} {o : Obj} {kvs : List (List L2.Key × V)} (g : List L2.Key × V → Bool) (hd : H0 d = some (.frz o (.dT kvs)))
    (step : ∀ kv q H, kv ∈ kvs → Ex H0 H → H q = some (.tup (kv.1.map kV)) → ∀ R : VK, (∀ H3, Ex H0 H3 → R (.bl (g kv)) H3) → te (σ0.set j (some (.ref q))) H R)
    (fin : ∀ H, Ex H0 H → Q (kvs.all g) H) : GW (Itkt d o kvs) te σ0 j true Q H0 := by
  have at_ : ∀ H, Ex H0 H → H d = some (.frz o (.dT kvs)) := fun H x => x.keep _ _ hd fun ps z => by cases z
  refine gw_all (n := kvs.length) (fun i => (kvs[i]?.map g).getD true) (fun H x => ⟨at_ H x, Nat.le_refl _⟩) (fun i H h x => ⟨at_ H x, h⟩) ?_ ?_
  · rintro i H y H' h x ⟨rfl, k, v, q, hk, rfl, hq⟩ R hR
    refine step (k, v) q H' (List.mem_of_getElem? hk) x hq R fun H3 x3 => ?_
    have := hR H3 x3
    rw [hk] at this
    exact this
  · intro H x
    have := fin H x
    rwa [← all_of_range g kvs (fun i => (kvs[i]?.map g).getD true) (fun i c e => by rw [e]; rfl)] at this
theorem gw_lst {K : PySem.W.Frag} {a : Addr} {xs : List V} (g : Nat → Bool) (ha : SqL K H0 a xs) (hl : ∀ H, Ex H0 H → SqL K H a xs)
    (step : ∀ i y H, xs[i]? = some y → Ex H0 H → ∀ R : VK, (∀ H3, Ex H0 H3 → R (.bl (g i)) H3) → te (σ0.set j (some y)) H R)
    (fin : ∀ H, Ex H0 H → Q ((List.range xs.length).all g) H) : GW (Itl K a) te σ0 j true Q H0 := by
  refine gw_all (n := xs.length) g (fun H x => ⟨xs, hl H x, Nat.le_refl _⟩) (fun i H h x => ⟨xs, xs[i], hl H x, List.getElem?_eq_getElem h⟩) ?_ fin
  rintro i H y H' h x ⟨rfl, hy⟩ R hR
  exact step i y H' (hy xs (hl H' x)) x R hR
end

/-! ### a tree, or what looks like one: a dict of paths -/
abbrev Ents := List (List Str × PyData)
def RowE (K : PySem.W.Frag) (H : Hp) (kvs : List (List L2.Key × V)) (es : Ents) : Prop := Paired (fun kv e => kv.1 = e.1.map Sum.inr ∧ Dp K H kv.2 e.2) kvs es
def TrAt (K : PySem.W.Frag) (H : Hp) (d : Addr) (es : Ents) : Prop := ∃ kvs, Rd H d (.dT kvs) ∧ RowE K H kvs es
theorem RowE.ex {K : PySem.W.Frag} {H H' : Hp} {kvs : List (List L2.Key × V)} {es : Ents} (x : Ex H H') (h : RowE K H kvs es) : RowE K H' kvs es := pairImp (fun _ _ q => ⟨q.1, Dp_ex x q.2⟩) h
theorem TrAt.ex {K : PySem.W.Frag} {H H' : Hp} {d : Addr} {es : Ents} (x : Ex H H') (h : TrAt K H d es) : TrAt K H' d es := by
  obtain ⟨kvs, hd, r⟩ := h
  exact ⟨kvs, x.rd hd (fun ps z => by cases z), r.ex x⟩
def valE (es : Ents) (p : List Str) : Option PyData := (es.find? fun e => decide (e.1 = p)).map (·.2)
theorem inr_inj : ∀ {p q : List Str}, p.map (Sum.inr : Str → L2.Key) = q.map Sum.inr → p = q
  | [], [], _ => rfl
  | [], _ :: _, h => by cases h
  | _ :: _, [], h => by cases h
  | x :: p, y :: q, h => by
    rw [List.map_cons, List.map_cons] at h
    injection h with h1 h2
    injection h1 with h1
    rw [h1, inr_inj h2]
theorem RowE.val {K : PySem.W.Frag} {H : Hp} {p : List Str} : ∀ {kvs : List (List L2.Key × V)} {es : Ents}, RowE K H kvs es →
    (valV kvs (p.map Sum.inr) = none ∧ valE es p = none) ∨ ∃ v d, valV kvs (p.map Sum.inr) = some v ∧ valE es p = some d ∧ Dp K H v d
  | _, _, .nil => Or.inl ⟨rfl, rfl⟩
  | kv :: kvs, e :: es, .cons a t => by
    obtain ⟨a1, a2⟩ := a
    by_cases h : e.1 = p
    · refine Or.inr ⟨kv.2, e.2, valV_pos (by rw [a1, h]), ?_, a2⟩
      unfold valE
      rw [List.find?_cons, decide_eq_true h]
      rfl
    · have h2 : ¬ kv.1 = p.map Sum.inr := fun z => h (inr_inj (a1.symm.trans z))
      have e1 : valE (e :: es) p = valE es p := by
        unfold valE
        rw [List.find?_cons, decide_eq_false h]
      rw [valV_neg h2, e1]
      exact RowE.val t
theorem RowE.keys {K : PySem.W.Frag} {H : Hp} : ∀ {kvs : List (List L2.Key × V)} {es : Ents}, RowE K H kvs es → LS.KeysP kvs (es.map (·.1))
  | _, _, .nil => rfl
  | kv :: kvs, e :: es, .cons a t => by
    have := RowE.keys t
    unfold LS.KeysP at this ⊢
    rw [List.map_cons, List.map_cons, List.map_cons, this, a.1]
theorem RowE.get {K : PySem.W.Frag} {H : Hp} {kvs : List (List L2.Key × V)} {es : Ents} (h : RowE K H kvs es) {i : Nat} {kv : List L2.Key × V} (e : kvs[i]? = some kv) : ∃ en, es[i]? = some en ∧ kv.1 = en.1.map Sum.inr ∧ Dp K H kv.2 en.2 := by
  obtain ⟨en, h1, h2⟩ := paired_get h e
  exact ⟨en, h1, h2⟩
theorem RowE.len {K : PySem.W.Frag} {H : Hp} {kvs : List (List L2.Key × V)} {es : Ents} (h : RowE K H kvs es) : kvs.length = es.length := Paired.length h
theorem RowE.all {K : PySem.W.Frag} {H : Hp} (g : List L2.Key × V → Bool) (f : List Str × PyData → Bool) (hg : ∀ kv e, kv.1 = e.1.map Sum.inr → Dp K H kv.2 e.2 → g kv = f e) : ∀ {kvs : List (List L2.Key × V)} {es : Ents}, RowE K H kvs es → kvs.all g = es.all f
  | _, _, .nil => rfl
  | kv :: kvs, e :: es, .cons a t => by
    rw [List.all_cons, List.all_cons, hg kv e a.1 a.2, RowE.all g f hg t]
/-- a path that stands as a tracked tuple: it may be asked as a key -/
def PathX (H : Hp) (a : Addr) (p : List Str) : Prop := H a = some (.tup (p.map V.str))
theorem PathX.at {K : PySem.W.Frag} {H : Hp} {a : Addr} {p : List Str} (h : PathX H a p) : PathAt K H a p := SqT.of h
theorem PathX.ex {H H' : Hp} {a : Addr} {p : List Str} (x : Ex H H') (h : PathX H a p) : PathX H' a p := x.keep _ _ h fun ps z => by cases z
theorem PathX.key {H : Hp} {a : Addr} {p : List Str} (h : PathX H a p) : H a = some (.tup ((p.map Sum.inr).map kV)) := by
  rw [LS.kV_strs]
  exact h
theorem PathX.of_key {H : Hp} {a : Addr} {p : List Str} (h : H a = some (.tup ((p.map Sum.inr).map kV))) : PathX H a p := by
  rw [LS.kV_strs] at h
  exact h
theorem get_tr {H : Hp} {d a : Addr} {kvs : List (List L2.Key × V)} {p : List Str} (hd : Rd H d (.dT kvs)) (ha : PathX H a p) : DGet H d (.ref a) (valV kvs (p.map Sum.inr)) := Or.inr ⟨kvs, _, a, hd, rfl, ha.key, rfl⟩
/-! ### what stays while a dict is locked -/
theorem lk_sqT {K : PySem.W.Frag} {H H1 : Hp} {d a : Addr} {kvs : List (List L2.Key × V)} {xs : List V} (hd : Rd H d (.dT kvs)) (k : ∀ b o, H b = some o → b ≠ d → H1 b = some o) (h : SqT K H a xs) : SqT K H1 a xs := by
  have ne : ∀ o, H a = some o → (∀ kvs, o ≠ .dT kvs) → (∀ ob kvs, o ≠ .frz ob (.dT kvs)) → a ≠ d := fun o e h1 h2 z => by
    rw [z] at e
    rcases hd with hd | ⟨ob, hd⟩
    · rw [hd] at e
      cases e
      exact h1 _ rfl
    · rw [hd] at e
      cases e
      exact h2 _ _ rfl
  rcases h with (h | ⟨o, h⟩) | h
  · exact Or.inl (Or.inl (k a _ h (ne _ h (fun _ z => by cases z) (fun _ _ z => by cases z))))
  · exact Or.inl (Or.inr ⟨o, k a _ h (ne _ h (fun _ z => by cases z) (fun _ _ z => by cases z))⟩)
  · exact Or.inr h
theorem lk_sqL {K : PySem.W.Frag} {H H1 : Hp} {d a : Addr} {kvs : List (List L2.Key × V)} {xs : List V} (hd : Rd H d (.dT kvs)) (k : ∀ b o, H b = some o → b ≠ d → H1 b = some o) (h : SqL K H a xs) : SqL K H1 a xs := by
  have ne : ∀ o, H a = some o → (∀ kvs, o ≠ .dT kvs) → (∀ ob kvs, o ≠ .frz ob (.dT kvs)) → a ≠ d := fun o e h1 h2 z => by
    rw [z] at e
    rcases hd with hd | ⟨ob, hd⟩
    · rw [hd] at e
      cases e
      exact h1 _ rfl
    · rw [hd] at e
      cases e
      exact h2 _ _ rfl
  rcases h with (h | ⟨o, h⟩) | h
  · exact Or.inl (Or.inl (k a _ h (ne _ h (fun _ z => by cases z) (fun _ _ z => by cases z))))
  · exact Or.inl (Or.inr ⟨o, k a _ h (ne _ h (fun _ z => by cases z) (fun _ _ z => by cases z))⟩)
  · exact Or.inr h
mutual
theorem lk_dp {K : PySem.W.Frag} {H H1 : Hp} {d : Addr} {kvs : List (List L2.Key × V)} (hd : Rd H d (.dT kvs)) (k : ∀ b o, H b = some o → b ≠ d → H1 b = some o) : ∀ {D : PyData} {v : V}, Dp K H v D → Dp K H1 v D
  | _, _, .non => .non
  | _, _, .bl b => .bl b
  | _, _, .int i => .int i
  | _, _, .str z => .str z
  | _, _, .lst h t => .lst (lk_sqL hd k h) (lk_dpAll hd k t)
  | _, _, .tup h t => .tup (lk_sqT hd k h) (lk_dpAll hd k t)
theorem lk_dpAll {K : PySem.W.Frag} {H H1 : Hp} {d : Addr} {kvs : List (List L2.Key × V)} (hd : Rd H d (.dT kvs)) (k : ∀ b o, H b = some o → b ≠ d → H1 b = some o) : ∀ {ds : List PyData} {vs : List V}, DpAll K H vs ds → DpAll K H1 vs ds
  | _, _, .nil => .nil
  | _, _, .cons h t => .cons (lk_dp hd k h) (lk_dpAll hd k t)
end
theorem RowE.lk {K : PySem.W.Frag} {H H1 : Hp} {d : Addr} {kvs kvs' : List (List L2.Key × V)} {es : Ents} (hd : Rd H d (.dT kvs)) (k : ∀ b o, H b = some o → b ≠ d → H1 b = some o) (h : RowE K H kvs' es) : RowE K H1 kvs' es := pairImp (fun _ _ q => ⟨q.1, lk_dp hd k q.2⟩) h
/-- a condition that is a value's truth -/
def tTru (K : PySem.W.Frag) (ta : TE) : TT := fun σ H Q => ta σ H fun x H' => ∃ k, TruV K x H' k ∧ Q k H'
theorem pts_truth {X : Cx} {a : Expr} {ta : TE} (ha : PE X a ta) (he : ∀ whole, isTrue a X.env whole = (do let v ← whole; standAt a.pos; holding [v] (truthy v))) : PTs X [a] (tTru X.K ta) := pts_one (pt_truth ha he)
theorem pts_cmp {X : Cx} {op : CmpOp} {r : R2} {a b : Expr} {ta tb : TE} {pos : Pos} (ho : OpR X (compareOp op) r) (ha : PE X a ta) (hb : PE X b tb) (hm : lastMarks [op] [b] = false) : PTs X [.Compare a [op] [b] pos] (tTest (tOp r ta tb)) := pts_one (pt_cmpR ho ha hb hm)
end LT

/-! sorted(..) of lists of paths. -/
namespace LT
open PySem PySem.Spec PyProof.Rows L2 GA LD SrtO
def PathsX (H : Hp) (l : Addr) (ps : List (List Str)) : Prop := ∃ rs : List Addr, H l = some (.lst (rs.map V.ref)) ∧ Paired (fun r q => PathX H r q) rs ps
theorem PathsX.at {K : PySem.W.Frag} {H : Hp} {l : Addr} {ps : List (List Str)} (h : PathsX H l ps) : PathsAt K H l ps := by
  obtain ⟨rs, e, q⟩ := h
  exact ⟨rs, e, pairImp (fun _ _ h => h.at) q⟩
theorem PathsX.ex {H H' : Hp} {l : Addr} {ps : List (List Str)} (x : Ex H H') (h : PathsX H l ps) : PathsX H' l ps := by
  obtain ⟨rs, e, q⟩ := h
  exact ⟨rs, x.keep _ _ e (fun ps z => by cases z), pairImp (fun _ _ h => h.ex x) q⟩
theorem strs_inj : ∀ {p q : List Str}, p.map V.str = q.map V.str → p = q
  | [], [], _ => rfl
  | [], _ :: _, h => by cases h
  | _ :: _, [], h => by cases h
  | x :: p, y :: q, h => by
    rw [List.map_cons, List.map_cons] at h
    injection h with h1 h2
    injection h1 with h1
    rw [h1, strs_inj h2]
theorem PathX.uniq {H : Hp} {a : Addr} {p q : List Str} (h1 : PathX H a p) (h2 : PathX H a q) : p = q := by
  have e : some (HO.tup (p.map V.str)) = some (HO.tup (q.map V.str)) := h1.symm.trans h2
  injection e with e
  injection e with e
  exact strs_inj e
theorem paired_uniq {H : Hp} : ∀ {rs : List Addr} {ps qs : List (List Str)}, Paired (fun r q => PathX H r q) rs ps → Paired (fun r q => PathX H r q) rs qs → ps = qs
  | _, _, _, .nil, .nil => rfl
  | _, _, _, .cons a t, .cons b u => by rw [PathX.uniq a b, paired_uniq t u]
theorem refs_inj : ∀ {p q : List Addr}, p.map V.ref = q.map V.ref → p = q
  | [], [], _ => rfl
  | [], _ :: _, h => by cases h
  | _ :: _, [], h => by cases h
  | x :: p, y :: q, h => by
    rw [List.map_cons, List.map_cons] at h
    injection h with h1 h2
    injection h1 with h1
    rw [h1, refs_inj h2]
theorem PathsX.uniq {H : Hp} {l : Addr} {ps qs : List (List Str)} (h1 : PathsX H l ps) (h2 : PathsX H l qs) : ps = qs := by
  obtain ⟨rs, e1, p1⟩ := h1
  obtain ⟨rs', e2, p2⟩ := h2
  rw [e1] at e2
  injection e2 with e2
  injection e2 with e2
  have := refs_inj e2
  subst this
  exact paired_uniq p1 p2
def groupD (ps : List (List Str)) : PyData := .list (ps.map pathD)
theorem alike_strs : ∀ p q : List Str, PySem.W.alikeAll (p.map .str) (q.map .str) = true
  | [], _ => by rw [List.map_nil, PySem.W.alikeAll]
  | _ :: _, [] => by rw [List.map_cons, List.map_nil, PySem.W.alikeAll]
  | x :: p, y :: q => by rw [List.map_cons, List.map_cons, PySem.W.alikeAll, PySem.W.alike, alike_strs p q, Bool.true_and]
theorem alike_paths : ∀ p q : List (List Str), PySem.W.alikeAll (p.map pathD) (q.map pathD) = true
  | [], _ => by rw [List.map_nil, PySem.W.alikeAll]
  | _ :: _, [] => by rw [List.map_cons, List.map_nil, PySem.W.alikeAll]
  | x :: p, y :: q => by
    have : PySem.W.alike (pathD x) (pathD y) = true := by
      unfold pathD
      rw [PySem.W.alike]
      exact alike_strs x y
    rw [List.map_cons, List.map_cons, PySem.W.alikeAll, this, alike_paths p q, Bool.true_and]
theorem alike_group (p q : List (List Str)) : PySem.W.alike (groupD p) (groupD q) = true := by
  unfold groupD
  rw [PySem.W.alike]
  exact alike_paths p q
theorem depth_group (ps : List (List Str)) : (groupD ps).depth ≤ 2 := by
  have := depth_paths ps
  unfold groupD
  simp only [PyData.depth]
  omega
theorem swoD (k : Value → PyData) : Swo fun u v => PySem.W.dataLt (k u) (k v) := by
  constructor
  · intro x y h
    cases hq : PySem.W.dataLt (k y) (k x) with
    | false => rfl
    | true =>
      have := lex_trans _ _ _ h hq
      rw [lex_irrefl] at this
      cases this
  · intro x y z h1 h2
    cases hq : PySem.W.dataLt (k z) (k x) with
    | false => rfl
    | true =>
      rcases lex_negTrans (O := itemOrd) (PySem.W.keyToks (k z)) (PySem.W.keyToks (k y)) (PySem.W.keyToks (k x)) hq with h | h
      · rw [show PySem.W.dataLt (k z) (k y) = true from h] at h2
        cases h2
      · rw [show PySem.W.dataLt (k y) (k x) = true from h] at h1
        cases h1
abbrev Gs := List (Addr × List (List Str))
def gAddrs (gs : Gs) : List V := gs.map fun g => V.ref g.1
theorem gAddrs_back : ∀ {gs : Gs} {us : List Value}, Vals (gAddrs gs) us → us = gs.map fun g => Value.ref g.1
  | [], _, r => by
    cases r
    rfl
  | z :: gs, _, r => by
    cases r with
    | cons r1 r2 =>
      cases r1
      rw [gAddrs_back r2]
      rfl
theorem gAddrs_vals : ∀ gs : Gs, Vals (gAddrs gs) (gs.map fun g => Value.ref g.1)
  | [] => .nil
  | z :: gs => .cons rfl (gAddrs_vals gs)
def RisingG (gs : Gs) : Prop := gs.Pairwise fun x y => PySem.W.dataLt (groupD y.2) (groupD x.2) = false
/-- the data of a list of paths, by its address -/
def dataOf (gs : Gs) : Value → PyData
  | .ref a => match gs.find? fun g => g.1 == a with
    | some g => groupD g.2
    | none => .none
  | _ => .none
theorem dataOf_mem {H : Hp} {gs : Gs} (hg : ∀ g ∈ gs, PathsX H g.1 g.2) {g : Addr × List (List Str)} (hm : g ∈ gs) : dataOf gs (.ref g.1) = groupD g.2 := by
  unfold dataOf
  cases h : gs.find? fun x => x.1 == g.1 with
  | none =>
    have := List.find?_eq_none.mp h g hm
    simp at this
  | some x =>
    have h1 : x.1 = g.1 := by simpa using List.find?_some h
    have h2 := hg x (List.mem_of_find?_eq_some h)
    rw [h1] at h2
    simp only [h]
    rw [h2.uniq (hg g hm)]
/-- sorted(xs), xs a list of lists of paths -/
def rSortG (K : PySem.W.Frag) : List V → Hp → VK → Prop := fun vs H Q => ∃ (a : Addr) (gs : Gs), vs = [V.ref a] ∧ SqL K H a (gAddrs gs) ∧ (∀ g ∈ gs, PathsX H g.1 g.2) ∧
  ∀ l ys, ys.Perm gs → RisingG ys → H l = none → Q (.ref l) (upd H l (.lst (gAddrs ys)))
section
variable {X : Cx}
theorem cr_sortG (hu : X.A.units + 64 < cLine) : CallR X (.builtin "sorted") (rSortG X.K) := by
  rintro pins s σ H vs us Q I r ⟨a, gs, rfl, hs, hg, q⟩
  obtain ⟨its, rv, hl, hz⟩ := I.list hs
  obtain ⟨u, rfl, ru⟩ := vals1 r
  obtain rfl : u = Value.ref a := ru
  have e := gAddrs_back rv
  have hgs : gs.length ≤ sizeLine := by
    have := hz
    unfold gAddrs at this
    rw [List.length_map] at this
    exact this
  refine sorted_ord (swoD (dataOf gs)) hl.isList (by rw [← rv.length]; exact hz) (fun h2 h₁ b hb kk => ?_) fun out hs hb => ?_
  · intro h' keep
    have hlist : ∀ g ∈ gs, ∃ (d : PyData) (as : List Addr), Reads h' (.ref g.1) d as ∧ d = groupD g.2 ∧ ∃ o, h'.get? g.1 = some o ∧ o.cls = .type "list" := by
      intro g hm
      obtain ⟨as, r⟩ := Dp.reads I (groupD g.2) (.ref g.1) (.ref g.1) (hg g hm).at.dp rfl
      have kp : ∀ b o, s.heap.get? b = some o → h'.get? b = some o := fun b o e => keep b o (kk b o e).1 (kk b o e).2
      obtain ⟨rs, eg, _⟩ := hg g hm
      obtain ⟨_, its', n', _, _, eo⟩ := I.lstM eg
      exact ⟨_, as, Reads.keeps kp r, rfl, _, kp _ _ eo, rfl⟩
    refine ⟨oneType', fun Q' E hq => ?_, ?_⟩
    · refine PySem.W.kas_kind (T := .type "list") h2 (fun v hv => ?_) (by first | decide +kernel | rfl) (by rfl) hq
      rw [e] at hv
      obtain ⟨g, hm, rfl⟩ := List.mem_map.mp hv
      obtain ⟨d, as, _, _, o, ho, hc⟩ := hlist g hm
      rw [← hc]
      exact (PySem.W.Looks.ld ho).andThen .now
    · intro p q hp hq
      have hp : p.1 ∈ its := hp
      have hq : q.1 ∈ its := hq
      show wpAny (model X.prog X.w) X.A.in1.in1 (oneLt' true p.1 q.1) (fun r s' => s' = { s with heap := h' } ∧ r = PySem.W.dataLt (dataOf gs p.1) (dataOf gs q.1)) (fun _ _ => False) { s with heap := h' }
      rw [e] at hp hq
      obtain ⟨g1, m1, e1⟩ := List.mem_map.mp hp
      obtain ⟨g2, m2, e2⟩ := List.mem_map.mp hq
      obtain ⟨d1, as1, r1, rfl, _⟩ := hlist g1 m1
      obtain ⟨d2, as2, r2, rfl, _⟩ := hlist g2 m2
      rw [← e1, ← e2, dataOf_mem hg m1, dataOf_mem hg m2]
      refine PySem.W.oneLt_alike (fun _ xs z => by cases z) r1 r2 (alike_group _ _) (by intro z; cases z) ?_ ⟨rfl, rfl⟩
      have := depth_group g1.2
      show X.A.units + 1 + 1 + min (groupD g1.2).depth (groupD g2.2).depth < cLine
      omega
  · obtain ⟨ys, py, ey⟩ := perm_lift (fun z : Addr × List (List Str) => Value.ref z.1) hb.perm gs e.symm
    have hlen : ys.length ≤ sizeLine := by rw [py.length_eq]; exact hgs
    have hfr : s.heap.objs.size ≤ s.heap.objs.size + 1 := Nat.le_succ _
    obtain ⟨c, hc⟩ := sortedAll_at s.heap its out.toArray
    refine ⟨.ref (s.heap.objs.size + 1), upd H (s.heap.objs.size + 1) (.lst (gAddrs ys)), I.laid (t' := s.toks) (fun b o e => sortedAll_old e) hfr ⟨by unfold gAddrs; rw [List.length_map]; exact hlen, out, c, ?_, hc⟩, rfl, q _ ys py ?_ (I.hok.fresh hfr)⟩
    · rw [← ey]
      exact gAddrs_vals ys
    · rw [← ey] at hs
      have hs2 := List.pairwise_map.mp hs
      refine List.Pairwise.imp_of_mem (fun {x y} hx hy h => ?_) hs2
      have h' : PySem.W.dataLt (dataOf gs (.ref y.1)) (dataOf gs (.ref x.1)) = false := h
      rw [dataOf_mem hg (py.mem_iff.mp hx), dataOf_mem hg (py.mem_iff.mp hy)] at h'
      exact h'
end
end LT

/-! for k, v in d.items(), keys tuples. -/
namespace LD
open PySem PySem.Spec PyProof.Rows L2 LT
/-- the pairs of the locked dict at d, each a new tuple; keys are tuples -/
def Itit (d : Addr) (o : Obj) (kvs : List (List L2.Key × V)) : It :=
  ⟨fun i H => H d = some (.frz o (.dT kvs)) ∧ i < kvs.length, fun i H x H' => ∃ T k v q, kvs[i]? = some (k, v) ∧ x = .ref T ∧ H T = none ∧ H q = some (.tup (k.map kV)) ∧ H' = upd H T (.tup [.ref q, v]),
    fun i H => H d = some (.frz o (.dT kvs)) ∧ kvs.length ≤ i⟩
section
variable {P : Program} {w : World} {K : PySem.W.Frag} {d : Addr} {o : Obj} {es : Array DictEntry} {ep : Nat}
theorem frzT_raw {X : Cx} {pins : List (Addr × Obj)} {σ : L2.St} {H : Hp} {s : Shared} {kvs : List (List L2.Key × V)} (I : Inv X pins σ H s) (h : H d = some (.frz o (.dT kvs))) :
    (d == sysModules) = false ∧ s.heap.get? d = some o ∧ o.ExactDict ∧ ∃ (es : Array DictEntry) (ep : Nat), o.data = .dict es ep ∧ es.size = kvs.length ∧
      ∀ (i : Nat) (k : List L2.Key) (v : V), kvs[i]? = some (k, v) → ∃ (en : DictEntry) (q : Addr), es[i]? = some en ∧ en.key = .ref q ∧ H q = some (.tup (k.map kV)) ∧ RelV v en.val := by
  obtain ⟨hd, z, hs, xs, pr, o', es, ep, ho, hx, hdt, he, _⟩ := I.hok d _ h
  rw [hd] at ho
  cases ho
  refine ⟨hs, hd, hx, es, ep, hdt, ?_, fun i k v e => ?_⟩
  · have l1 : es.size = xs.length := size_of_entries he
    have l2 : kvs.length = xs.length := Paired.length pr
    omega
  · obtain ⟨b, hb, e1, e2, e3⟩ := paired_get pr e
    have q := entry_at he i
    rw [hb] at q
    exact ⟨_, b.2.1, q, rfl, e2, e3⟩
theorem turn_itemsT {kvs : List (List L2.Key × V)} {elts : List Expr} {kk : Nat} {tpos : Pos} (it : Addr) (hod : o.data = .dict es ep) :
    Turn P w K (.Tuple elts kk tpos) (Itit d o kvs) [it] it (fun i h => ∃ ok ov, IsItemIter h it d i kvs.length ep ok ov) where
  mem := by simp
  obj := fun i h st b hb => by
    have e : b = it := by simpa using hb
    subst e
    obtain ⟨ok, ov, e⟩ := st
    exact ⟨_, e, fun v z => nomatch z⟩
  keep := fun i h h' st k => let ⟨ok, ov, e⟩ := st; ⟨ok, ov, k it (by simp) _ e⟩
  item := by
    intro X hP hw hK hc i pins s σ H E I hf st hg
    subst hP hw hK
    obtain ⟨hd, hi⟩ := hg
    obtain ⟨hs, hgd, hx, es', ep', hdt, hsz, ent⟩ := frzT_raw I hd
    obtain ⟨rfl, rfl⟩ := dict_ep hod hdt
    obtain ⟨⟨k, v⟩, hkv⟩ : ∃ p, kvs[i]? = some p := ⟨kvs[i], List.getElem?_eq_getElem hi⟩
    obtain ⟨en, q, hen, hkey, hq, rv⟩ := ent i k v hkv
    obtain ⟨ok, ov, he⟩ := st
    rw [← hsz] at he
    have hlt : it < s.heap.objs.size := Heap.lt_size he
    have hi2 : i < es'.size := by omega
    have hen2 : es'[i] = en := by
      rw [Array.getElem?_eq_getElem hi2] at hen
      exact Option.some.inj hen
    refine wpAny_pyNext_items_item_raw he ⟨_, hgd, hx, hdt⟩ hi2 fun h' ho hT hz hk => ?_
    rw [hen2, hkey] at ho hT
    refine ⟨_, rfl, wpAny_letOwnedTupleGo_items (s := { s with heap := h' }) ho fun h'' he' sb => ?_⟩
    have hT2 : h''.get? s.heap.objs.size = some { cls := .type "tuple", data := .seq #[.ref q, en.val] } := (sb.2 _ (Nat.ne_of_gt hlt)).trans hT
    have new : ObjOk X.prog X.w (upd H s.heap.objs.size (.tup [.ref q, v])) h'' s.heap.objs.size (.tup [.ref q, v]) :=
      ⟨by show 2 ≤ sizeLine; decide, [.ref q, en.val], .cons rfl (.cons rv .nil), ⟨_, hT2, rfl, _, rfl⟩⟩
    have I1 : Inv X pins σ (upd H s.heap.objs.size (.tup [.ref q, v])) { s with heap := h'' } :=
      I.turnedNew (t' := s.toks) (ch := [it]) (fun b ob hb e => (sb.2 b (by simpa using hb)).trans (hk b ob (by simpa using hb) e)) hf (Nat.le_refl _) new
    refine ⟨.ref s.heap.objs.size, _, I1, rfl, ⟨_, k, v, q, hkv, rfl, I.hok.fresh (Nat.le_refl _), hq, rfl⟩, ⟨.ref q, en.val, ?_⟩, fun b hb => ?_⟩
    · rw [← hsz]; exact he'
    · have e : b = it := by simpa using hb
      rw [e, upd_ne (Nat.ne_of_lt hlt)]
      exact (hf it (by simp)).1
  done := by
    intro X hP hw hK hc i pins s σ H E I hf st hg
    subst hP hw hK
    obtain ⟨hd, hi⟩ := hg
    obtain ⟨f0, f1, f2, f3, f4, f5⟩ := hf it (by simp)
    obtain ⟨hs, hgd, hx, es', ep', hdt, hsz, ent⟩ := frzT_raw I hd
    obtain ⟨rfl, rfl⟩ := dict_ep hod hdt
    obtain ⟨ok, ov, he⟩ := st
    rw [← hsz] at he
    exact wpAny_pyNext_items_end_raw (I.ok.hd hc) he ⟨_, hgd, hx, hdt⟩ (by omega) fun h' eb => ⟨rfl, I.turned (t' := s.toks) (fun b ob hb e => eb b ob hb e) f0 f1 f3 f4 f5⟩
  self := fun A i s Q E st h => let ⟨_, _, e⟩ := st; PySem.W.kcp_self e h
end
def iItemsT (td : TE) : TI := fun σ H R => td σ H fun x H1 => ∃ d o kvs, x = .ref d ∧ H1 d = some (.frz o (.dT kvs)) ∧ R (Itit d o kvs) H1
section
variable {X : Cx} {tg e : Expr} {td : TE} {apos cpos : Pos}
theorem pi_itemsT {elts : List Expr} {kk : Nat} {tpos : Pos} (he : PE X e td) (hbase : attributeBase e "items" X.env (eval e X.env) = eval e X.env := by rfl) (hline : (apos.endLine == cpos.line) = true := by rfl) :
    PI X (.Tuple elts kk tpos) (.Call (.Attribute e "items" apos) [] [] cpos) (iItemsT td) := by
  refine ⟨fun pins s σ H R I h => ?_⟩
  refine wpAny_Call_method (T := "dict") (id := "dict.items") hbase rfl hline PySem.F.plainAttrs_dict PySem.F.slot_dict_items PySem.F.type_dict_items (thn (he.run pins s σ H _ I h) fun u s1 ⟨x, H1, I1, rx, d, o, kvs, ex, hd, q⟩ => ?_)
  subst ex
  obtain rfl : u = Value.ref d := rx
  obtain ⟨hs, hgd, hx, es, ep, hdt, hsz, ent⟩ := frzT_raw I1 hd
  refine ⟨⟨_, hgd, hx.1⟩, fun b e => by cases e; exact ⟨_, hgd, hx.2.1⟩, ?_⟩
  have I2 : Inv X pins σ H1 { s1 with heap := s1.heap.push { cls := .type "dict_items", data := .fields #[.ref d] } } := I1.kept (t' := s1.toks) fun b ob q => Heap.get?_push_of_some _ q
  have fin : wpAny (model X.prog X.w) X.A (pyIter (.ref s1.heap.objs.size)) (PIE X pins σ (.Tuple elts kk tpos) R) X.xe { s1 with heap := s1.heap.push { cls := .type "dict_items", data := .fields #[.ref d] } } := by
    refine wpAny_pyIter_items_raw (d := d) ⟨_, Heap.get?_push_size _ rfl, rfl, rfl⟩ ⟨_, Heap.get?_push_of_some _ hgd, hx, hdt⟩ (pi_one (tk := s1.toks) I2 _ (turn_itemsT _ hdt) ⟨.none, .none, ?_⟩ q)
    rw [← hsz]
    exact Heap.get?_push_size _ rfl
  show wpAny _ _ (callWith cpos (.builtin "dict.items") [.ref d] [] []) _ X.xe s1
  exact method_meetsIn PySem.F.slot_dict_items PySem.F.entry_dict_items rfl (PySem.evalArgs_none ⟨rfl, ⟨_, hgd, hx.1⟩, PySem.F.args_dict_items_1 _, _, meets_dict_items_raw d hs, ⟨es, ep, _, hgd, hx, hdt⟩, fin⟩)
theorem walk_itemsT {d : Addr} {o : Obj} {kvs : List (List L2.Key × V)} : Walk (Itit d o kvs) kvs.length (fun H => H d = some (.frz o (.dT kvs)))
    (fun i H x H' => ∃ T k v q, kvs[i]? = some (k, v) ∧ x = .ref T ∧ H T = none ∧ H q = some (.tup (k.map kV)) ∧ H' = upd H T (.tup [.ref q, v])) :=
  ⟨fun _ _ hi q => ⟨q, hi⟩, fun _ q => ⟨q, Nat.le_refl _⟩, fun _ _ _ _ _ _ y => y⟩
end
end LD

/-! A dict display of two pairs, the first key a tuple, the second a text. -/
namespace LD
open PySem PySem.Spec PyProof.Rows L2 LT
section
variable {prog : Program} {w : World} {A : Around} {E : Value → Shared → Prop} {s : Shared}
theorem tell_mix {q : Addr} {z : Str} {t : Tok} {k : List L2.Key} {Q : Bool → Shared → Prop} (hq : (tupleKind (mixKind prog w)).is s.heap k q) (h : Q false s) : wpAny (model prog w) A (tableMayTell (.str z t) [.ref q]) Q E s := by
  unfold tableMayTell
  rw [if_neg (by simp)]
  rw [eqIsQuiet_byValue _ (by rfl)]
  refine wpAny_bind (wpAny_pure ?_)
  simp only [Bool.not_true, Bool.false_eq_true, if_false]
  refine wpAny_bind ?_
  rw [List.forIn_cons]
  refine wpAny_bind (wpAny_bind ((tupleKind (mixKind prog w)).quiet hq ?_))
  simp only [Bool.not_true, Bool.false_eq_true, if_false]
  refine wpAny_pure ?_
  dsimp only
  rw [List.forIn_nil]
  exact wpAny_pure (wpAny_pure h)
theorem find_mix {d q : Addr} {o : Obj} {ep : Nat} {h0 : Int} {v0 : Value} {z : Str} {t : Tok} {h : Int} {k : List L2.Key} {Q : Option Nat → Shared → Prop} (hu : A.units < cLine) (ho : s.heap.get? d = some o) (hd : o.data = .dict #[⟨h0, .ref q, v0⟩] ep)
    (hq : (tupleKind (mixKind prog w)).is s.heap k q) (hQ : Q none s) : wpAny (model prog w) A (dictFind d (.str z t) h) Q E s := by
  unfold dictFind
  try with_reducible refine wpAny_holding ?_
  refine wpAny_bind (wpAny_dictEntries ho hd ?_)
  dsimp only
  rw [if_neg (show ¬ ((#[(⟨h0, .ref q, v0⟩ : DictEntry)].all fun e => isExactStrKey e.key) = true) by simp [isExactStrKey])]
  by_cases hh : h0 = h
  · subst hh
    have hp : placesWithHash (#[(⟨h0, .ref q, v0⟩ : DictEntry)] : Array DictEntry).size (fun i => (#[(⟨h0, .ref q, v0⟩ : DictEntry)] : Array DictEntry)[i]?.map (·.hash)) h0 = [0] := by
      simp [placesWithHash, List.range_succ]
    rw [hp]
    rw [show List.filterMap (fun i => Option.map (fun x => x.key) (#[(⟨h0, .ref q, v0⟩ : DictEntry)] : Array DictEntry)[i]?) [0] = [Value.ref q] from rfl]
    rw [if_neg (show ¬ ((Value.str z t :: [Value.ref q]).all carriedByValue) = true by simp [carriedByValue])]
    rw [if_neg (show ¬ (([Value.ref q] == [Value.str z t]) = true) from Bool.false_ne_true)]
    refine wpAny_bind (tell_mix hq ?_)
    rw [if_neg (by simp)]
    refine wpAny_bind ?_
    rw [List.forIn_cons]
    refine wpAny_bind ?_
    dsimp only
    rw [show (#[(⟨h0, .ref q, v0⟩ : DictEntry)] : Array DictEntry)[0]? = some ⟨h0, .ref q, v0⟩ from rfl]
    dsimp only
    rw [if_pos (by simp)]
    obtain ⟨o', items, n, g1, g2, g3, _⟩ := hq
    have hi : s.heap.IsTuple q items := ⟨o', g1, g2, n, g3⟩
    refine wpAny_bind (wpAny_dictEpoch ho hd (wpAny_bind (SeqAt.EqAt.tuple_str z t hi hu _ _ _ _ (wpAny_bind (wpAny_dictEpoch ho hd ?_)))))
    show wpAny _ _ (if (ep != ep) = true then _ else _) _ E _
    rw [if_neg (by simp)]
    simp only [Bool.false_eq_true, if_false]
    refine wpAny_bind (wpAny_rule ?_)
    first | rw [if_neg (by simp)] | skip
    refine wpAny_pure ?_
    dsimp only
    rw [List.forIn_nil]
    exact wpAny_pure (wpAny_pure hQ)
  · have hp : placesWithHash (#[(⟨h0, .ref q, v0⟩ : DictEntry)] : Array DictEntry).size (fun i => (#[(⟨h0, .ref q, v0⟩ : DictEntry)] : Array DictEntry)[i]?.map (·.hash)) h = [] := by
      simp [placesWithHash, List.range_succ, hh]
    rw [hp]
    rw [List.filterMap_nil]
    rw [if_pos (show ((Value.str z t :: []).all carriedByValue) = true by simp [carriedByValue])]
    unfold dictWalkPlain
    rw [List.forIn_nil]
    exact wpAny_bind (wpAny_pure (wpAny_pure hQ))
theorem set_mix {d q : Addr} {o : Obj} {ep : Nat} {h0 : Int} {v0 v1 : Value} {z : Str} {t : Tok} {k : List L2.Key} {Q : Unit → Shared → Prop} (hu : A.units < cLine) (ho : s.heap.get? d = some o) (hx : o.ExactDict) (hd : o.data = .dict #[⟨h0, .ref q, v0⟩] ep)
    (hq : (tupleKind (mixKind prog w)).is s.heap k q)
    (hQ : ∀ h' tk o' h1 ep', h'.get? d = some o' → o'.ExactDict → o'.data = .dict #[⟨h0, .ref q, v0⟩, ⟨h1, .str z t, v1⟩] ep' → Heap.SameBut d s.heap h' → Q () { s with heap := h', toks := tk }) :
    wpAny (model prog w) A (dictSet d (.str z t) v1) Q E s := by
  unfold dictSet
  try with_reducible refine wpAny_holding ?_
  refine wpAny_bind (wpAny_pyHash_str ?_)
  unfold dictSetHashed
  try with_reducible refine wpAny_holding ?_
  refine wpAny_bind (find_mix (s := { s with toks := s.toks + 1 }) hu ho hd hq ?_)
  refine wpAny_bind (wpAny_rule (wpAny_updateDictKeys (hz := by show 1 ≤ sizeLine; decide) (s := { s with toks := s.toks + 1 }) ho hd (hQ _ _ _ _ _ (Heap.get?_update_self _ ho (Obj.isFreed_of_dict (Obj.data_mapDictKeys hd _))) (hx.mapDictKeys _) (Obj.data_mapDictKeys hd _) (Heap.SameBut.update ..))))
end

/-! ### the thing -/
def mixO (d : Addr) (ob : Obj) (q : Addr) (z : Str) : HO := .ext fun h => h.get? d = some ob ∧ (d == sysModules) = false ∧ ob.ExactDict ∧ ∃ (h0 h1 : Int) (v0 v1 : Value) (t : Tok) (ep : Nat), ob.data = .dict #[⟨h0, .ref q, v0⟩, ⟨h1, .str z t, v1⟩] ep
theorem mixO_dict {d : Addr} {ob : Obj} {q : Addr} {z : Str} {h : Heap} (x : h.get? d = some ob ∧ (d == sysModules) = false ∧ ob.ExactDict ∧ ∃ (h0 h1 : Int) (v0 v1 : Value) (t : Tok) (ep : Nat), ob.data = .dict #[⟨h0, .ref q, v0⟩, ⟨h1, .str z t, v1⟩] ep) : ∃ o, h.get? d = some o ∧ o.cls = .type "dict" := ⟨ob, x.1, x.2.2.1.1⟩
section
variable {prog : Program} {w : World} {A : Around} {E : Value → Shared → Prop} {s : Shared}
theorem subDict_mix {pairs : List (Sem Value × Sem Value)} {Q : Addr → Shared → Prop} (hu : A.units < cLine) (hlen : pairs.length ≤ 15)
    (h : wpAny (model prog w) A (evalPairs pairs) (fun vs s₁ => ∃ k q v0 z t v1, vs = [(.ref q, v0), (.str z t, v1)] ∧ (tupleKind (mixKind prog w)).is s₁.heap k q ∧ s₁.heap.DictOfH (tupleKind (mixKind prog w)) s.heap.objs.size [] ∧
      ∀ h' tk o h0 h1 ep, h'.get? s.heap.objs.size = some o → o.ExactDict → o.data = .dict #[⟨h0, .ref q, v0⟩, ⟨h1, .str z t, v1⟩] ep → Heap.SameBut s.heap.objs.size s₁.heap h' → Q s.heap.objs.size { s₁ with heap := h', toks := tk }) E
      { s with heap := s.heap.push { cls := .type "dict", data := .dict #[] } }) :
    wpAny (model prog w) A (subDict pairs) Q E s := by
  unfold subDict
  refine wpAny_bind (wpAny_alloc ?_)
  refine wpAny_bind (wpAny_holding ?_)
  rw [if_pos hlen]
  refine wpAny_bind (wpAny_mono (wpAny_evalPairs_len h) (fun vs s₁ h₁ => ?_) fun _ _ e => e)
  obtain ⟨hvl, k, q, v0, z, t, v1, rfl, hq, hm, hQ⟩ := h₁
  refine wpAny_holding ?_
  refine wpAny_bind ?_
  rw [List.forIn_cons]
  refine wpAny_bind (wpAny_bind (wpAny_dictSet_heap (knd := tupleKind (mixKind prog w)) (hsz := by simp) hu hq hm fun h₁ hm₁ hs₁ => wpAny_pure ?_))
  obtain ⟨o, es, ep, ho, hx, hd, he, his, _⟩ := hm₁
  have he : es = #[entryOfKey (tupleKind (mixKind prog w)) (k, q, v0)] := by
    apply Array.toList_inj.mp
    rw [he]
    rfl
  subst he
  have hq1 : (tupleKind (mixKind prog w)).is h₁ k q := his (k, q, v0) (by simp [storedH, atKey])
  dsimp only
  rw [List.forIn_cons]
  refine wpAny_bind (wpAny_bind (set_mix (s := { s₁ with heap := h₁, toks := s₁.toks + (tupleKind (mixKind prog w)).draws k }) (k := k) hu ho hx hd hq1 fun h' tk o' h1 ep' g1 g2 g3 g4 => wpAny_pure ?_))
  dsimp only
  rw [List.forIn_nil]
  exact wpAny_pure (wpAny_pure (wpAny_pure (hQ h' tk o' _ h1 ep' g1 g2 g3 (hs₁.trans g4))))
end
/-- {k: v, t: u}: k a tuple, t a text -/
def tDispM (trs : List (TE × TE)) : TE := fun σ H Q => ∀ p, H p = none → tPairs trs σ (upd H p (.dT [])) fun qs G => G p = some (.dT []) ∧
  ∃ (q : Addr) (z : Str) (k : List L2.Key) (v0 v1 : V), qs = [(.ref q, v0), (.str z, v1)] ∧ G q = some (.tup (k.map kV)) ∧ ∀ ob, Q (.ref p) (upd G p (mixO p ob q z))
section
variable {X : Cx} {pos : Pos} {keys : List (Option Expr)} {values : List Expr} {trs : List (TE × TE)}
theorem pe_dispM (hu : X.A.units + 1 < cLine) (h : PPs X pos keys values trs) (hall : keys.all (·.isSome) = true) (hl : keys.length = values.length) (h0 : keys ≠ []) (h15 : keys.length ≤ 15) :
    PE X (.Dict keys values pos) (tDispM trs) := by
  constructor
  intro pins s σ H Q I q
  have hn := I.hok.fresh (Nat.le_refl s.heap.objs.size)
  have I1 := I.laid (a := s.heap.objs.size) (o := .dT []) (h' := s.heap.push { cls := .type "dict", data := .dict #[] }) (t' := s.toks) (fun _ _ q => Heap.get?_push_of_some _ q) (Nat.le_refl _) (dt_empty s.heap I.big)
  have hpl := pairTrees_length keys values X.env pos hall hl
  have hne : pairTrees keys values X.env pos ≠ [] := by
    intro he
    rw [he] at hpl
    exact h0 (List.length_eq_zero_iff.mp hpl.symm)
  rw [arm_eval_Dict, zip_pairTrees keys values X.env pos hall hl, dictDisplay_pairs _ hne (by omega)]
  refine wpAny_bind (wpAny_standAt (wpAny_bind (subDict_mix (Q := fun d s' => wpAny (model X.prog X.w) X.A (pure (Value.ref d)) (EP X pins σ Q) X.xe s') (Nat.lt_of_succ_lt hu) (by omega) ?_)))
  refine thn (h.run pins _ σ _ _ I1 (q _ hn)) ?_
  rintro ws s2 ⟨qs, H2, I2, rel, e, qa, z, k, v0, v1, rfl, hq, q2⟩
  obtain ⟨hz0, hd, xs0, r0, dd⟩ := dt_of I2.hok e
  cases r0
  cases rel with
  | cons a t =>
    cases t with
    | cons a' t' =>
      cases t'
      rename_i u1 u2
      obtain ⟨u1a, u1b⟩ := u1
      obtain ⟨u2a, u2b⟩ := u2
      obtain ⟨ra, rb⟩ := a
      obtain ⟨ra', rb'⟩ := a'
      cases ra
      obtain ⟨tk0, rfl⟩ := ra'
      refine ⟨k, qa, u1b, z, tk0, u2b, rfl, key_of I2.hok hq, dd, fun h' tk o h0' h1' ep g1 g2 g3 g4 => wpAny_pure ⟨.ref s.heap.objs.size, _, ?_, rfl, q2 o⟩⟩
      refine d_write I2 (by rw [e]; exact True.intro) g4 ⟨o, g1⟩ ⟨⟨g1, hd, g2, h0', h1', u1b, u2b, tk0, ep, g3⟩, ⟨o, g1⟩, fun a b c d => ?_⟩
      obtain ⟨c1, c2⟩ := c
      exact ⟨d _ c1, c2⟩
end
/-! ### len, isinstance, the walk -/
section
variable {prog : Program} {w : World} {A : Around} {E : Value → Shared → Prop} {s : Shared}
theorem call_len_rawB {d : Addr} {es : Array DictEntry} {ep : Nat} {Q : Value → Shared → Prop} (hd : (d == sysModules) = false) (hm : s.heap.DictRaw d es ep) (hfit : (es.size : Int) < 2 ^ 63)
    (h : Q (.int es.size (s.toks + 1)) { s with toks := s.toks + 1 + 1 }) : wpAny (model prog w) A (call (.builtin "len") [.ref d]) Q E s := by
  refine Calls.call_function_entry kind_len plain_len entry_len (args_len1 _) ?_
  unfold Builtin.«len»
  refine wpAny_bind (m := oneArg "len" _) (wpAny_pure ?_)
  refine wpAny_bind (m := callSpecial? (.ref d) (Str.ofString "__len__")) (wpAny_callSpecial?_slot (name := Str.ofString "__len__") hm.typeIs PySem.F.slot_dict_len
    (call_meetsIn PySem.F.slot_dict_len hm.typeIs PySem.F.entry_dict_len (PySem.F.args_dict_len_1 _) (meets_dict_len_raw d hd) ⟨es, ep, hm, ?_⟩))
  show wpAny _ _ _ _ _ { s with toks := s.toks + 1 }
  refine wpAny_bind (wpAny_holding (wpAny_pure ?_))
  refine wpAny_bind (wpAny_letGo ?_)
  show wpAny _ _ (if ((es.size : Nat) : Int) < 0 then _ else _) _ _ _
  rw [if_neg (by omega)]
  show wpAny _ _ (if ((es.size : Nat) : Int) ≥ 2 ^ 63 then _ else _) _ _ _
  rw [if_neg (by omega)]
  exact wpAny_bind (wpAny_mkInt (wpAny_pure ⟨_, rfl, h⟩))
end
def rLenM : List V → Hp → VK → Prop := fun xs H Q => ∃ (p : Addr) (ob : Obj) (q : Addr) (z : Str), xs = [.ref p] ∧ H p = some (mixO p ob q z) ∧ Q (.int 2) H
theorem call_lenM {X : Cx} : CallR X (.builtin "len") rLenM := by
  rintro pins s σ H xs us Q I r ⟨p, ob, q, z, rfl, hp, g⟩
  obtain ⟨u, rfl, ru⟩ := vals1 r
  obtain rfl : u = Value.ref p := ru
  obtain ⟨g1, g2, g3, h0, h1, v0, v1, t, ep, g4⟩ := (I.hok p _ hp).1
  refine call_len_rawB g2 ⟨ob, g1, g3, g4⟩ (by show (2 : Int) < 2 ^ 63; decide) ?_
  exact ⟨.int 2, H, I.tok _, ⟨_, rfl⟩, g⟩
/-- the keys -/
def Itm (d : Addr) (ob : Obj) (q : Addr) (z : Str) : It :=
  ⟨fun i H => H d = some (mixO d ob q z) ∧ i < 2, fun i H x H' => H' = H ∧ ((i = 0 ∧ x = .ref q) ∨ (i = 1 ∧ x = .str z)), fun i H => H d = some (mixO d ob q z) ∧ 2 ≤ i⟩
section
variable {P : Program} {w : World} {K : PySem.W.Frag} {tg : Expr} {d q : Addr} {z : Str} {o : Obj} {es : Array DictEntry} {ep : Nat}
theorem turn_mix (it : Addr) (hod : o.data = .dict es ep) : Turn P w K tg (Itm d o q z) [it] it (fun i h => h.IsKeyIter it d i 2 ep) where
  mem := by simp
  obj := fun i h st b hb => by
    have e : b = it := by simpa using hb
    subst e
    obtain ⟨oi, e, c, dd⟩ := st
    exact ⟨oi, e, fun v z => by rw [dd] at z; cases z⟩
  keep := fun i h h' st k => st.at fun oi e => k it (by simp) oi e
  item := by
    intro X hP hw hK hc i pins s σ H E I hf st hg
    subst hP hw hK
    obtain ⟨hd, hi⟩ := hg
    obtain ⟨f0, f1, f2, f3, f4, f5⟩ := hf it (by simp)
    obtain ⟨hgd, hs, hx, h0, h1, v0, v1, t, ep', hdt⟩ := (I.hok d _ hd).1
    obtain ⟨rfl, rfl⟩ := dict_ep hod hdt
    match i, hi with
    | 0, _ =>
      refine next_key_item st hgd hdt rfl (en := ⟨h0, .ref q, v0⟩) rfl fun h' st' sb => ?_
      have I1 : Inv X pins σ H { s with heap := h' } := I.turned (t' := s.toks) (fun b ob hb e => (sb.2 b hb).trans e) f0 f1 f3 f4 f5
      obtain ⟨oi, e, c, dd⟩ := id st'
      exact ⟨_, rfl, go_of (s := { s with heap := h' }) e c dd (by decide) ⟨.ref q, H, I1, rfl, ⟨rfl, Or.inl ⟨rfl, rfl⟩⟩, st', fun b hb => (hf b hb).1⟩⟩
    | 1, _ =>
      refine next_key_item st hgd hdt rfl (en := ⟨h1, .str z t, v1⟩) rfl fun h' st' sb => ?_
      have I1 : Inv X pins σ H { s with heap := h' } := I.turned (t' := s.toks) (fun b ob hb e => (sb.2 b hb).trans e) f0 f1 f3 f4 f5
      obtain ⟨oi, e, c, dd⟩ := id st'
      exact ⟨_, rfl, go_of (s := { s with heap := h' }) e c dd (by decide) ⟨.str z, H, I1, ⟨t, rfl⟩, ⟨rfl, Or.inr ⟨rfl, rfl⟩⟩, st', fun b hb => (hf b hb).1⟩⟩
    | i + 2, h => exact absurd h (by omega)
  done := by
    intro X hP hw hK hc i pins s σ H E I hf st hg
    subst hP hw hK
    obtain ⟨hd, hi⟩ := hg
    obtain ⟨f0, f1, f2, f3, f4, f5⟩ := hf it (by simp)
    obtain ⟨hgd, hs, hx, h0, h1, v0, v1, t, ep', hdt⟩ := (I.hok d _ hd).1
    obtain ⟨rfl, rfl⟩ := dict_ep hod hdt
    exact next_key_end (I.ok.hd hc) st hgd hdt rfl hi fun h' eb => ⟨rfl, I.turned (t' := s.toks) (fun b ob hb e => eb b ob hb e) f0 f1 f3 f4 f5⟩
  self := fun A i s Q E st h => by
    refine wpAny_pyIter_slot st.typeIs PySem.F.slot_dict_keyiterator_iter (wpAny_call_entry PySem.F.slot_dict_keyiterator_iter st.typeIs PySem.F.entry_dict_keyiterator_iter ?_ (PySem.F.args_dict_keyiterator_iter_1 _))
    show wpAny _ _ (ret (.ref it)) _ _ s
    exact wpAny_pure ⟨_, rfl, "dict_keyiterator", _, st.typeIs, PySem.F.slot_dict_keyiterator_next.lookup, h⟩
end
/-- a walk over a dict: of keys that are tuples, or of a mixed one -/
def iKeysX (td : TE) : TI := fun σ H R => iKeys td σ H R ∨ td σ H fun x H1 => ∃ d ob q z, x = .ref d ∧ H1 d = some (mixO d ob q z) ∧ R (Itm d ob q z) H1
theorem pi_keysX {X : Cx} {tg e : Expr} {td : TE} (he : PE X e td) : PI X tg e (iKeysX td) := by
  refine ⟨fun pins s σ H R I h => ?_⟩
  rcases h with h | h
  · exact (pi_keys he).run pins s σ H R I h
  · refine thn (he.run pins s σ H _ I h) fun u s1 ⟨x, H1, I1, rx, d, ob, qa, z, ex, hd, q⟩ => ?_
    subst ex
    obtain rfl : u = Value.ref d := rx
    obtain ⟨hgd, hs, hx, h0, h1, v0, v1, t, ep', hdt⟩ := (I1.hok d _ hd).1
    exact iter_keys hs hgd hx hdt (pi_one (tk := s1.toks) I1 _ (turn_mix _ hdt) ⟨_, Heap.get?_push_size _ rfl, rfl, rfl⟩ q)
end LD

/-! == and != of dicts whose keys are tuples. -/
namespace LD
open PySem PySem.Spec PyProof.Rows L2 LT
open PySem.Calls PyProof.V
section
variable {prog : Program} {w : World} {A : Around} {E : Value → Shared → Prop} {s : Shared}
abbrev Es := List (List L2.Key × Addr × Value)
inductive HitsT (prog : Program) (w : World) (A : Around) (s : Shared) (kb : Es) : Es → Bool → Prop
  | nil : HitsT prog w A s kb [] true
  | miss {k : List L2.Key} {a : Addr} {v : Value} {r : Es} : atKey kb k = none → HitsT prog w A s kb ((k, a, v) :: r) false
  | hit {k : List L2.Key} {a b : Addr} {v y : Value} {r : Es} {e b' : Bool} : atKey kb k = some (b, y) → SeqAt.EqP prog w A s v y e → HitsT prog w A s kb r b' → HitsT prog w A s kb ((k, a, v) :: r) (e && b')
theorem HitsT.inv {kb : Es} {k : List L2.Key} {a : Addr} {v : Value} {r : Es} {b : Bool} (h : HitsT prog w A s kb ((k, a, v) :: r) b) :
    (atKey kb k = none ∧ b = false) ∨ ∃ q y e b', atKey kb k = some (q, y) ∧ SeqAt.EqP prog w A s v y e ∧ HitsT prog w A s kb r b' ∧ b = (e && b') := by
  cases h with
  | miss hn => exact .inl ⟨hn, rfl⟩
  | hit hy he hr => exact .inr ⟨_, _, _, _, hy, he, hr, rfl⟩
theorem samePairsT {nm : String} {a b : Addr} {ka kb : Es} {r : Bool} {Q : Bool → Shared → Prop} (hu : A.units < cLine) (ha : (a == sysModules) = false) (hb : (b == sysModules) = false)
    (da : s.heap.DictOfH (tupleKind (mixKind prog w)) a ka) (db : s.heap.DictOfH (tupleKind (mixKind prog w)) b kb) (hits : ka.length = kb.length → HitsT prog w A s kb ka r) (h : Q (ka.length == kb.length && r) s) :
    wpAny (model prog w) A (Builtin.Dict.samePairs nm a b) Q E s := by
  obtain ⟨oa, es, ep, hoa, _, hda, hea, hisa, hna⟩ := da
  obtain ⟨ob, es', ep', hob, _, hdb, heb, hisb, hnb⟩ := db
  have hla : ka.length = es.size := (size_of_entries hea).symm
  have hlb : kb.length = es'.size := (size_of_entries heb).symm
  rw [hla, hlb] at h
  unfold Builtin.Dict.samePairs Builtin.Dict.showsAll
  rw [if_neg (show ¬ (a == sysModules) = true by rw [ha]; exact Bool.false_ne_true), if_neg (show ¬ (b == sysModules) = true by rw [hb]; exact Bool.false_ne_true)]
  refine wpAny_bind (wpAny_pure (wpAny_bind (wpAny_pure ?_)))
  refine wpAny_bind (wpAny_dictEntries hoa hda ?_)
  dsimp only
  refine wpAny_bind (wpAny_dictEntries hob hdb ?_)
  by_cases hsz : es.size = es'.size
  case neg =>
    rw [if_pos (by simpa using hsz)]
    have hbf : (es.size == es'.size) = false := by simpa using hsz
    rw [hbf, Bool.false_and] at h
    exact wpAny_bind (wpAny_rule (wpAny_pure h))
  case pos =>
    have h' : Q r s := by simpa [hsz] using h
    have hits' := hits (by rw [hla, hlb]; exact hsz)
    rw [if_neg (by rw [hsz]; simp)]
    refine wpAny_bind (wpAny_dictEpoch hoa hda ?_)
    refine wpAny_bind ?_
    rw [Std.Legacy.Range.forIn_eq_forIn_range']
    simp only [Std.Legacy.Range.size, Nat.sub_zero, Nat.add_sub_cancel, Nat.div_one]
    refine wpAny_forIn_list _
      (fun rest q s' => s' = s ∧ q = (none, ()) ∧ ∃ i, rest = List.range' i (es.size - i) ∧ i ≤ es.size ∧ HitsT prog w A s kb (ka.drop i) r)
      _ ?_ ?_ _ _ ⟨rfl, rfl, 0, by simp, Nat.zero_le _, hits'⟩
    · rintro x rest q s' ⟨rfl, rfl, i, hr, hi, hpre⟩
      have hlt : i < es.size := by
        rcases Nat.lt_or_ge i es.size with h | h
        · exact h
        · rw [Nat.sub_eq_zero_of_le h] at hr; simp at hr
      obtain ⟨rfl, hrest⟩ : x = i ∧ rest = List.range' (i + 1) (es.size - (i + 1)) := by
        have e : es.size - i = (es.size - (i + 1)) + 1 := by omega
        rw [e, List.range'_succ] at hr
        injection hr with h1 h2
        exact ⟨h1, h2⟩
      refine wpAny_bind (wpAny_dictEntries hoa hda ?_)
      rw [Array.getElem?_eq_getElem hlt]
      have hlt' : x < ka.length := by rw [hla]; exact hlt
      obtain ⟨k, qa, v, hkv⟩ : ∃ k qa v, ka[x] = (k, qa, v) := ⟨_, _, _, rfl⟩
      have hdrop : ka.drop x = (k, qa, v) :: ka.drop (x + 1) := by rw [← hkv]; exact List.drop_eq_getElem_cons hlt'
      have hex : es[x] = entryOfKey (tupleKind (mixKind prog w)) (k, qa, v) := by
        have q := entry_at hea x
        rw [Array.getElem?_eq_getElem hlt, List.getElem?_eq_getElem hlt', hkv] at q
        exact Option.some.inj q
      have hkey : (tupleKind (mixKind prog w)).is s'.heap k qa := hisa (k, qa, v) (by rw [← hkv]; exact List.getElem_mem hlt')
      rw [hdrop] at hpre
      show wpAny _ _ (holding [es[x].key, es[x].val] _ >>= _) _ _ _
      rw [hex]
      refine wpAny_bind (wpAny_holding (wpAny_bind (wpAny_dictFind_heap (knd := tupleKind (mixKind prog w)) (k := k) (a := qa) hu hkey hob hdb heb hisb hnb ?_ ?_)))
      · intro hno
        have hn := atKey_none_of_get hno
        rcases hpre.inv with ⟨_, er⟩ | ⟨q, y, _, _, hy, _⟩
        · rw [er] at h'
          refine wpAny_pure ?_
          show wpAny _ _ (if (!false) = true then _ else _) _ _ _
          rw [if_pos (by decide)]
          exact wpAny_pure (wpAny_pure h')
        · rw [hn] at hy; exact nomatch hy
      · intro j p hj
        have hv' := atKey_of_get hnb hj
        have hjl : j < es'.size := by
          rw [← hlb]
          rcases Nat.lt_or_ge j kb.length with h | h
          · exact h
          · rw [List.getElem?_eq_none h] at hj; exact nomatch hj
        have hejx : es'[j] = entryOfKey (tupleKind (mixKind prog w)) (k, p) := by
          have q := entry_at heb j
          rw [Array.getElem?_eq_getElem hjl, hj] at q
          exact Option.some.inj q
        refine wpAny_bind (wpAny_dictEntries hob hdb ?_)
        rw [Array.getElem?_eq_getElem hjl]
        rcases hpre.inv with ⟨hn, _⟩ | ⟨q, y, e, b', hy, he, hrr, er⟩
        · rw [hv'] at hn; exact nomatch hn
        · have ey : p = (q, y) := Option.some.inj (hv'.symm.trans hy)
          rw [hejx, ey]
          refine wpAny_holding (he _ _ ?_)
          cases e with
          | false =>
            rw [er, Bool.false_and] at h'
            show wpAny _ _ (if (!false) = true then _ else _) _ _ _
            rw [if_pos (by decide)]
            exact wpAny_pure (wpAny_pure h')
          | true =>
            rw [Bool.true_and] at er
            rw [← er] at hrr
            show wpAny _ _ (if (!true) = true then _ else _) _ _ _
            rw [if_neg (by decide)]
            refine wpAny_bind (wpAny_dictEpoch hoa hda ?_)
            rw [if_neg (by simp)]
            exact wpAny_pure ⟨rfl, rfl, x + 1, hrest, hlt, hrr⟩
    · rintro q s' ⟨rfl, rfl, i, hr, hi, hpre⟩
      have hin : i = es.size := by
        rcases Nat.lt_or_ge i es.size with h | h
        · have e : es.size - i = (es.size - (i + 1)) + 1 := by omega
          rw [e, List.range'_succ] at hr; exact nomatch hr
        · exact Nat.le_antisymm hi h
      refine wpAny_pure ?_
      rw [hin, ← hla, List.drop_length] at hpre
      cases hpre
      exact h'
theorem eq_dT {a b : Addr} {ka kb : Es} {r : Bool} {Q : Value → Shared → Prop} (ha : (a == sysModules) = false) (hb : (b == sysModules) = false)
    (da : s.heap.DictOfH (tupleKind (mixKind prog w)) a ka) (db : s.heap.DictOfH (tupleKind (mixKind prog w)) b kb) (hu : A.units < cLine) (hu1 : A.in1.units < cLine) (hits : ka.length = kb.length → HitsT prog w A.in1 s kb ka r) (h : Q (.bool (ka.length == kb.length && r)) s) :
    wpAny (model prog w) A (compareOp .Eq (.ref a) (.ref b)) Q E s := by
  refine wpAny_richCompare_same_room (op := .Eq) da.typeIs db.typeIs PySem.F.slot_dict_eq (wpAny_call_entry PySem.F.slot_dict_eq da.typeIs PySem.F.entry_dict_eq ?_ (PySem.F.args_dict_eq_2 _ _)) hu
  show wpAny _ _ (Builtin.Dict.dictSlotArgs "__eq__" ⟨[.ref a, .ref b], []⟩ >>= _) _ _ s
  refine wpAny_bind ?_
  unfold Builtin.Dict.dictSlotArgs
  refine wpAny_bind (wpAny_notOrdered_dict da.typeIs ?_)
  show wpAny _ _ (pure (Value.ref a, Value.ref b)) _ _ s
  refine wpAny_pure ?_
  refine wpAny_bind (wpAny_isInstance (T := "dict") db.typeIs PySem.F.sub_dict_dict ?_)
  simp only [Bool.not_true, Bool.false_eq_true, if_false]
  refine wpAny_bind (wpAny_pure (wpAny_bind (wpAny_pure ?_)))
  refine wpAny_bind (samePairsT hu1 ha hb da db hits ?_)
  refine wpAny_pure ⟨_, rfl, ?_, ?_⟩
  · exact fun x => nomatch x
  · simpa using h
theorem ne_dT {a b : Addr} {ka kb : Es} {r : Bool} {Q : Value → Shared → Prop} (ha : (a == sysModules) = false) (hb : (b == sysModules) = false)
    (da : s.heap.DictOfH (tupleKind (mixKind prog w)) a ka) (db : s.heap.DictOfH (tupleKind (mixKind prog w)) b kb) (hu : A.units < cLine) (hu1 : A.in1.units < cLine) (hits : ka.length = kb.length → HitsT prog w A.in1 s kb ka r) (h : Q (.bool (!(ka.length == kb.length && r))) s) :
    wpAny (model prog w) A (compareOp .NotEq (.ref a) (.ref b)) Q E s := by
  refine wpAny_richCompare_same_room (op := .NotEq) da.typeIs db.typeIs PySem.F.slot_dict_ne (wpAny_call_entry PySem.F.slot_dict_ne da.typeIs PySem.F.entry_dict_ne ?_ (PySem.F.args_dict_ne_2 _ _)) hu
  show wpAny _ _ (Builtin.Dict.dictSlotArgs "__ne__" ⟨[.ref a, .ref b], []⟩ >>= _) _ _ s
  refine wpAny_bind ?_
  unfold Builtin.Dict.dictSlotArgs
  refine wpAny_bind (wpAny_notOrdered_dict da.typeIs ?_)
  show wpAny _ _ (pure (Value.ref a, Value.ref b)) _ _ s
  refine wpAny_pure ?_
  refine wpAny_bind (wpAny_isInstance (T := "dict") db.typeIs PySem.F.sub_dict_dict ?_)
  simp only [Bool.not_true, Bool.false_eq_true, if_false]
  refine wpAny_bind (wpAny_pure (wpAny_bind (wpAny_pure ?_)))
  refine wpAny_bind (samePairsT hu1 ha hb da db hits ?_)
  refine wpAny_pure ⟨_, rfl, ?_, ?_⟩
  · exact fun x => nomatch x
  · simpa using h
end
/-! ### as rules: dicts of paths as data -/
def eqvE (es fs : Ents) : Bool := es.all fun e => match valE fs e.1 with
  | some d => PyData.eqv e.2 d
  | none => false
def sameE (es fs : Ents) : Bool := (es.length == fs.length) && eqvE es fs
section
variable {X : Cx} {pins : List (Addr × Obj)} {σ : L2.St} {H : Hp} {s : Shared}
theorem KT_at {H : Hp} {k : List L2.Key} : ∀ {kvs : List (List L2.Key × V)} {xs : Es}, KT H kvs xs →
    (valV kvs k = none ∧ atKey xs k = none) ∨ ∃ v q u, valV kvs k = some v ∧ atKey xs k = some (q, u) ∧ RelV v u
  | [], _, .nil => Or.inl ⟨rfl, rfl⟩
  | kv :: kvs, x :: xs, .cons a t => by
    obtain ⟨a1, a2, a3⟩ := a
    by_cases h : kv.1 = k
    · refine Or.inr ⟨kv.2, x.2.1, x.2.2, valV_pos h, ?_, a3⟩
      unfold atKey
      rw [List.find?_cons, decide_eq_true (a1.symm.trans h)]
      rfl
    · have e1 : atKey (x :: xs) k = atKey xs k := by
        unfold atKey
        rw [List.find?_cons, decide_eq_false (fun e => h (a1.trans e))]
      rw [valV_neg h, e1]
      exact KT_at t
theorem hits_of {A : Around} (I : Inv X pins σ H s) (hu : A.in1.units + 64 < cLine) {ls : List (List L2.Key × V)} {kb : Es} {fs : Ents} (rb : KT H ls kb) (rf : RowE X.K H ls fs) (sf : ∀ f ∈ fs, SeqAt.shaped f.2 = true) :
    ∀ {ks : List (List L2.Key × V)} {ka : Es} {es : Ents}, KT H ks ka → RowE X.K H ks es → (∀ e ∈ es, SeqAt.shaped e.2 = true) → HitsT X.prog X.w A.in1 s kb ka (eqvE es fs)
  | [], _, _, .nil, .nil, _ => .nil
  | kv :: ks, (k, q, v) :: ka, e :: es, .cons a t, .cons b t', se => by
    obtain ⟨a1, a2, a3⟩ := a
    obtain ⟨b1, b2⟩ := b
    have a1 : kv.1 = k := a1
    have a3 : RelV kv.2 v := a3
    have ih := hits_of I hu rb rf sf t t' fun e he => se e (List.mem_cons_of_mem _ he)
    have hk : k = e.1.map Sum.inr := a1.symm.trans b1
    have hv := KT_at (k := e.1.map Sum.inr) rb
    have hr := RowE.val (p := e.1) rf
    have heq : eqvE (e :: es) fs = ((match valE fs e.1 with | some d => PyData.eqv e.2 d | none => false) && eqvE es fs) := rfl
    rw [heq]
    rcases hv with ⟨v1, v2⟩ | ⟨vv, qq, u, v1, v2, v3⟩
    · rcases hr with ⟨r1, r2⟩ | ⟨_, _, r1, _, _⟩
      · rw [r2]
        exact .miss (by rw [hk]; exact v2)
      · rw [v1] at r1
        cases r1
    · rcases hr with ⟨r1, _⟩ | ⟨v', d, r1, r2, dv⟩
      · rw [v1] at r1
        cases r1
      · rw [v1] at r1
        cases r1
        rw [r2]
        obtain ⟨as, g1⟩ := Dp.reads I e.2 kv.2 v b2 a3
        obtain ⟨bs, g2⟩ := Dp.reads I d vv u dv v3
        have hsf : SeqAt.shaped d = true := by
          unfold valE at r2
          obtain ⟨x, h1, h2⟩ := Option.map_eq_some_iff.mp r2
          rw [← h2]
          exact sf x (List.mem_of_find?_eq_some h1)
        exact .hit (by rw [hk]; exact v2) (PySem.W.keq_at g1 g2 (se e (List.mem_cons_self ..)) hsf hu).eqP ih
def EqArg (K : PySem.W.Frag) (H : Hp) (x : V) (es : Ents) : Prop := ∃ a ks, x = .ref a ∧ Rd H a (.dT ks) ∧ RowE K H ks es ∧ ∀ e ∈ es, SeqAt.shaped e.2 = true
def rEqT (K : PySem.W.Frag) : R2 := fun x y H Q => ∃ es fs, EqArg K H x es ∧ EqArg K H y fs ∧ Q (.bl (sameE es fs)) H
def rNeT (K : PySem.W.Frag) : R2 := fun x y H Q => ∃ es fs, EqArg K H x es ∧ EqArg K H y fs ∧ Q (.bl (!sameE es fs)) H
theorem op_eqT (hu : X.A.units + 66 < cLine) : OpR X (compareOp .Eq) (rEqT X.K) := by
  intro pins s σ H x y v u Q I rx ry h
  obtain ⟨es, fs, ⟨a, ks, rfl, ha, ra, sa⟩, ⟨b, ls, rfl, hb, rb, sb⟩, q⟩ := h
  obtain rfl : v = Value.ref a := rx
  obtain rfl : u = Value.ref b := ry
  obtain ⟨_, ya, va, ka, da⟩ := dt_rd I.hok ha
  obtain ⟨_, yb, vb, kb, db⟩ := dt_rd I.hok hb
  have h1 : X.A.in1.units ≤ X.A.units + 1 := by exact Nat.le_refl _
  have e1 : va.length = es.length := (Paired.length ka).symm.trans ra.len
  have e2 : vb.length = fs.length := (Paired.length kb).symm.trans rb.len
  refine eq_dT (r := eqvE es fs) ya yb da db (by omega) (by omega) (fun _ => hits_of I (by omega) kb rb sb ka ra sa) (fin_bl I q ?_)
  unfold sameE
  rw [e1, e2]
theorem op_neT (hu : X.A.units + 66 < cLine) : OpR X (compareOp .NotEq) (rNeT X.K) := by
  intro pins s σ H x y v u Q I rx ry h
  obtain ⟨es, fs, ⟨a, ks, rfl, ha, ra, sa⟩, ⟨b, ls, rfl, hb, rb, sb⟩, q⟩ := h
  obtain rfl : v = Value.ref a := rx
  obtain rfl : u = Value.ref b := ry
  obtain ⟨_, ya, va, ka, da⟩ := dt_rd I.hok ha
  obtain ⟨_, yb, vb, kb, db⟩ := dt_rd I.hok hb
  have h1 : X.A.in1.units ≤ X.A.units + 1 := by exact Nat.le_refl _
  have e1 : va.length = es.length := (Paired.length ka).symm.trans ra.len
  have e2 : vb.length = fs.length := (Paired.length kb).symm.trans rb.len
  refine ne_dT (r := eqvE es fs) ya yb da db (by omega) (by omega) (fun _ => hits_of I (by omega) kb rb sb ka ra sa) (fin_bl I q ?_)
  unfold sameE
  rw [e1, e2]
end
end LD

/-! dict comprehensions whose keys are tuples -/
namespace L2
open PySem PySem.Spec PyProof.Rows
section
variable {X : Cx}
theorem setT_comp {ps : List (Addr × Obj)} {τ : St} {F : Hp} {t : Shared} {E : Value → Shared → Prop} {D b : Addr} {kvs : List (List Key × V)} {k : List Key} {z : V} {r : Value} {Q : Unit → Shared → Prop}
    (hu : X.A.units < cLine) (J : Inv X ps τ F t) (eD : F D = some (.dT kvs)) (eb : F b = some (.tup (k.map kV))) (room : kvs.length < sizeLine) (rz : RelV z r)
    (go : ∀ t', Inv X ps τ (upd F D (.dT (putK kvs k z))) t' → Q () t') : wpAny (model X.prog X.w) X.A (dictSet D (.ref b) r) Q E t := by
  obtain ⟨n0, nD, xs, rel, dd⟩ := dt_of J.hok eD
  have small : (putK kvs k z).length ≤ sizeLine := Nat.le_trans (length_putK kvs k z) (by omega)
  have rl := Paired.length rel
  refine wpAny_dictSet_heap (hsz := by rw [← rl]; exact n0) (show (tupleKind _).room X.A from hu) (key_of J.hok eb) dd fun heap2 dd2 same => go _ ?_
  obtain ⟨o, es, ep, got, f1, f2, f3, _, f5⟩ := dd2
  refine d_write J (by rw [eD]; trivial) same ⟨o, got⟩ ⟨small, nD, _, (rel.put k eb rz).keeps fun c ys ec => ?_, o, es, ep, got, f1, f2, f3, f5⟩
  have ne : c ≠ D := ne_of ec eD fun q => nomatch q
  exact (upd_ne ne).trans ec
/-- {k: v for target in iter if ..}: D the new dict, its keys tuples -/
def tDcT (wi : TI) (g : TG) (tt : TT) (tk tv : TE) (vs : List Nat) : TE := fun σ H Q => wi σ H fun J G => ∀ D, G D = none →
  ∃ Wh : Nat → Nat → Hp → Prop, (∃ m, Wh 0 m (upd G D (.dT []))) ∧ ∀ i m F, Wh i m F →
    (J.stop i F ∧ Q (.ref D) F) ∨
    (J.go i F ∧ ∃ Nx : Hp → Prop, (∀ F', Nx F' → ∃ m', m' < m ∧ Wh (i + 1) m' F') ∧
      ∀ x F', J.yld i F x F' → g x (wipe σ vs) F' fun τ F2 => wipe τ vs = wipe σ vs ∧ tt τ F2 fun yes F3 =>
        if yes = true then tk τ F3 fun y F4 => tv τ F4 fun z F5 => ∃ b kvs k, y = .ref b ∧ F5 b = some (.tup (k.map kV)) ∧ F5 D = some (.dT kvs) ∧ kvs.length < sizeLine ∧ Nx (upd F5 D (.dT (putK kvs k z)))
        else Nx F3)
/-- what holds between two turns of the block -/
def Between (X : Cx) (Y : Cx) (σ : St) (tn : Nat → Heap → Prop) (fp : List Addr) (Wh : Nat → Nat → Hp → Prop) (n : Nat) (t : Shared) : Prop :=
  ∃ i F, Inv Y [] σ F t ∧ tn i t.heap ∧ (∀ b ∈ fp, F b = none) ∧ Wh i n F
theorem dcT_core {use : Option (Value → Sem Unit)} {Post : Value → Shared → Prop} {lpos : Pos} {ps : List (Addr × Obj)} {s0 : Shared} {σ : St} {H : Hp} {Q : VK} {kx vx tg iter : Expr} {ifs : List Expr} {scope : Scope} {own : List (Str × Nat)} {pos : Pos} {wi : TI} {g : TG} {tt : TT} {tk tv : TE} (hu : X.A.units < cLine) (calm : X.calm = true) (nd : X.N.Nodup) (src : PI X tg iter wi) (blk : BlkOk X.N X.env.scope scope own)
    (pTarget : ∀ (t : Shared) (F : Hp) (C : Addr) (cl : List (Str × Addr)) (fp : List Addr), PG (X.blk t F scope (compEnvC scope cl C X.env) fp) tg g)
    (pTest : ∀ (t : Shared) (F : Hp) (C : Addr) (cl : List (Str × Addr)) (fp : List Addr), PTs (X.blk t F scope (compEnvC scope cl C X.env) fp) ifs tt)
    (pKey : ∀ (t : Shared) (F : Hp) (C : Addr) (cl : List (Str × Addr)) (fp : List Addr), PE (X.blk t F scope (compEnvC scope cl C X.env) fp) kx tk)
    (pVal : ∀ (t : Shared) (F : Hp) (C : Addr) (cl : List (Str × Addr)) (fp : List Addr), PE (X.blk t F scope (compEnvC scope cl C X.env) fp) vx tv)
    (plainSet : ∀ x, foldedSetIterable iter X.env x = pure x) (I0 : Inv X ps σ H s0) (asked : tDcT wi g tt tk tv (own.map (·.2)) σ H Q)
    (after : ∀ D C t m F, Inv X ps σ F t → Q (.ref D) F → t.heap.Ns C m → FpOk X ps F C → compPost (model X.prog X.w) X.A X.xe use Post (.ref D) C (.ok .next) t) :
    wpAny (model X.prog X.w) X.A (comprehension (.DictComp kx vx [⟨tg, iter, ifs, 0⟩] scope pos) scope X.env lpos newDict false (eval iter X.env) use) Post X.xe s0 := by
  have cellsOf : ∀ y ∈ scope.names, y.2 = .free → ∃ c, X.env.cells.lookup y.1 = some c := by
    intro y hy free
    exact I0.ok.has _ (blk.free y hy free)
  refine wpAny_comprehension_free rfl plainSet (closure_ok cellsOf) blk.kind (fun y hy loc => (blk.uniq y hy).trans (by rw [loc])) ?_
  refine thn (src.run ps s0 σ H _ I0 asked) fun sv s1 found => thn found fun itv s2 turns => ?_
  obtain ⟨it, fp, tn, J, G, rfl, I2, T, at0, apart, q⟩ := turns
  refine wpAny_newObj_type (newEnv_comp ?_)
  -- the dict
  have fresh : G s2.heap.objs.size = none := I2.hok.fresh (Nat.le_refl _)
  obtain ⟨Wh, ⟨m0, start⟩, turn⟩ := q _ fresh
  have lower : ∀ b ∈ fp, b < s2.heap.objs.size := by
    intro b hb
    obtain ⟨o, got, _⟩ := T.obj _ _ at0 b hb
    exact Heap.lt_size got
  generalize eD : s2.heap.objs.size = D at fresh start turn lower ⊢
  have Inew : Inv X ps σ (upd G D (.dT [])) { s2 with heap := s2.heap.push { cls := .type "dict", data := .dict #[] } } := by
    rw [← eD]
    exact I2.laid (t' := s2.toks) (fun _ _ got => Heap.get?_push_of_some _ got) (Nat.le_refl _) (dt_empty s2.heap I2.big)
  have grown : ∀ b o, s2.heap.get? b = some o → (s2.heap.push { cls := .type "dict", data := .dict #[] }).get? b = some o := fun _ _ got => Heap.get?_push_of_some _ got
  have size3 : (s2.heap.push { cls := .type "dict", data := .dict #[] }).objs.size = D + 1 := by rw [Heap.size_push, eD]
  have at3 := T.keep _ _ _ at0 fun b _ o got => grown b o got
  generalize hs3 : ({ s2 with heap := s2.heap.push { cls := .type "dict", data := .dict #[] } } : Shared) = s3 at Inew
  have h3 : s3.heap = s2.heap.push { cls := .type "dict", data := .dict #[] } := by rw [← hs3]
  rw [← h3] at at3 size3
  have apart3 : ∀ b ∈ fp, FpOk X ps (upd G D (.dT [])) b ∧ b < s3.heap.objs.size := by
    intro b hb
    have lt := lower b hb
    refine ⟨⟨?_, (apart b hb).2⟩, by rw [size3]; exact Nat.lt_succ_of_lt lt⟩
    rw [upd_ne (Nat.ne_of_lt lt)]
    exact (apart b hb).1
  have Istart := block_start Inew blk nd apart3
  have emp3 : ∀ b ∈ fp, (upd G D (.dT [])) b = none := fun b hb => (apart3 b hb).1.1
  generalize upd G D (.dT []) = G3 at Inew Istart apart3 emp3 start
  -- the block's rules
  have ruleG := pTarget s3 G3 s3.heap.objs.size (cellsFrom (s3.heap.objs.size + 1) scope.names (cloFrom X.env.cells scope.names [])) fp
  have ruleT := pTest s3 G3 s3.heap.objs.size (cellsFrom (s3.heap.objs.size + 1) scope.names (cloFrom X.env.cells scope.names [])) fp
  have ruleK := pKey s3 G3 s3.heap.objs.size (cellsFrom (s3.heap.objs.size + 1) scope.names (cloFrom X.env.cells scope.names [])) fp
  have ruleV := pVal s3 G3 s3.heap.objs.size (cellsFrom (s3.heap.objs.size + 1) scope.names (cloFrom X.env.cells scope.names [])) fp
  show codeAny _ X.A (.compStart _ 0 (.ref it) (.ref D) (compEnvC scope (cellsFrom (s3.heap.objs.size + 1) scope.names (cloFrom X.env.cells scope.names [])) s3.heap.objs.size X.env)) (compPost _ X.A X.xe use Post (.ref D) s3.heap.objs.size) _
  generalize eB : compEnvC scope (cellsFrom (s3.heap.objs.size + 1) scope.names (cloFrom X.env.cells scope.names [])) s3.heap.objs.size X.env = B at Istart ruleG ruleT ruleK ruleV ⊢
  have locB : B.locals = s3.heap.objs.size := by rw [← eB]; rfl
  have at4 : tn 0 (pushCells (s3.heap.push { cls := .type "dict", data := .dict #[] }) scope.names) :=
    T.keep _ _ _ at3 fun b _ o got => pushCells_keeps _ _ _ _ (Heap.get?_push_of_some _ got)
  generalize hs4 : ({ s3 with heap := pushCells (s3.heap.push { cls := .type "dict", data := .dict #[] }) scope.names } : Shared) = s4 at Istart ⊢
  have at5 : tn 0 s4.heap := by rw [← hs4]; exact at4
  have away : ∀ {τ : St} {F : Hp} {t : Shared}, Inv (X.blk s3 G3 scope B fp) [] τ F t → (∀ b ∈ fp, F b = Option.none) → ∀ b ∈ fp, FpOk (X.blk s3 G3 scope B fp) [] F b := by
    intro τ F t K empt b hb
    refine ⟨empt b hb, (K.ok.exf b hb).1, K.ok.exfs b hb, .inl hb, fun x c got => (K.ok.exf b hb).2 x c got, fun p hp => ?_⟩
    cases (show p ∈ ([] : List (Addr × Obj)) from hp)
  have whole : codeAny (model X.prog X.w) X.A (.compLoop (.DictComp kx vx [⟨tg, iter, ifs, 0⟩] scope pos) 0 (.ref it) (.ref D) B) (compPost (model X.prog X.w) X.A X.xe use Post (.ref D) s3.heap.objs.size) s4 := by
    refine compLoop_anyD (Between X (X.blk s3 G3 scope B fp) (wipe σ (own.map (·.2))) tn fp Wh) (fun n t st => ?_) m0 ⟨0, G3, Istart, at5, emp3, start⟩
    obtain ⟨i, F, K, here, empt, wh⟩ := st
    rcases turn i n F wh with ⟨over, last⟩ | ⟨more, Nx, less, step⟩
    · refine thnF (T.done (X.blk s3 G3 scope B fp) rfl rfl rfl calm i [] t _ F (fun _ _ => False) K (away K empt) here over) fun r t1 ⟨er, K1⟩ => ?_
      subst er
      have home : Inv X ps σ F t1 := Inew.call' (ch := fp) K1.os K1.base K1.hok K1.bare fun b hb => by
        obtain ⟨_, g1, g2, g3, g4, g5⟩ := (apart3 b hb).1
        exact ⟨g3, g1, g4, g5⟩
      have noLoc : F s3.heap.objs.size = none := by
        rw [← locB]
        exact K1.free
      obtain ⟨m, spaces, _⟩ := K1.loc
      have spaces : t1.heap.Ns s3.heap.objs.size m := by
        rw [← locB]
        exact spaces
      exact after D s3.heap.objs.size t1 m F home last spaces (Inew.fpOk (Nat.le_refl _) noLoc)
    · refine thnF (T.item (X.blk s3 G3 scope B fp) rfl rfl rfl calm i [] t _ F (fun _ _ => False) K (away K empt) here more) fun r t1 ⟨u, er, rest⟩ => ?_
      subst er
      refine thnF rest fun _ t2 ⟨x, F2, K2, rx, yielded, here2, none2⟩ => ?_
      have pinned := K2.pinned (away K2 none2) (T.obj _ _ here2)
      -- a turn's end
      have again : ∀ {τ : St} {t' : Shared} {F' : Hp}, wipe τ (own.map (·.2)) = wipe σ (own.map (·.2)) → Inv (X.blk s3 G3 scope B fp) ([] ++ pinsAt fp t2.heap) τ F' t' → Nx F' →
          ∃ m, m < n ∧ Between X (X.blk s3 G3 scope B fp) (wipe σ (own.map (·.2))) tn fp Wh m t' := by
        intro τ t' F' same K' nx
        obtain ⟨m, lt, wh'⟩ := less F' nx
        have still : ∀ b ∈ fp, ∀ o, t2.heap.get? b = some o → t'.heap.get? b = some o ∧ F' b = Option.none := by
          intro b hb o got
          obtain ⟨e1, e2, _⟩ := K'.pin (b, o) (List.mem_append_right _ (List.mem_append_right _ (mem_pinsAt hb got)))
          exact ⟨e1, e2⟩
        refine ⟨m, lt, i + 1, F', K'.unpinned.weak ?_ fun j v got => ?_, T.keep _ _ _ here2 fun b hb o got => (still b hb o got).1, fun b hb => ?_, wh'⟩
        · rw [← same, wipe_length]
        · rw [← same] at got
          exact (wipe_some got).1
        · obtain ⟨o, got, _⟩ := T.obj _ _ here2 b hb
          exact (still b hb o got).2
      refine thnF (ruleG.run _ t2 _ F2 x u _ pinned rx (step x F2 yielded)) fun _ t3 ⟨τ, F3, K3, same, q3⟩ => ?_
      refine thnF (ruleT.run _ t3 τ F3 _ K3 q3) fun yes t4 ⟨F4, K4, q4⟩ => ?_
      cases yes with
      | false => exact again same K4 q4
      | true =>
        refine thnF (ruleK.run _ t4 τ F4 _ K4 q4) fun kw t5 ⟨y, F5, K5, ry, q5⟩ => ?_
        refine thnF (ruleV.run _ t5 τ F5 _ K5 q5) fun vw t6 ⟨z, F6, K6, rz, b, kvs, k, ey, eb, eD6, room, nx⟩ => ?_
        subst ey
        cases (show kw = Value.ref b from ry)
        exact setT_comp (X := X.blk s3 G3 scope B fp) hu K6 eD6 eb room rz fun t7 K7 => again same K7 nx
  exact codeAny_compStart_dict whole (T.self X.A 0 _ _ _ at5 whole)
/-- as a value -/
theorem pe_dcT {kx vx tg iter : Expr} {ifs : List Expr} {scope : Scope} {own : List (Str × Nat)} {pos : Pos} {wi : TI} {g : TG} {tt : TT} {tk tv : TE} (hu : X.A.units < cLine) (calm : X.calm = true) (nd : X.N.Nodup) (src : PI X tg iter wi) (blk : BlkOk X.N X.env.scope scope own)
    (pTarget : ∀ (t : Shared) (F : Hp) (C : Addr) (cl : List (Str × Addr)) (fp : List Addr), PG (X.blk t F scope (compEnvC scope cl C X.env) fp) tg g)
    (pTest : ∀ (t : Shared) (F : Hp) (C : Addr) (cl : List (Str × Addr)) (fp : List Addr), PTs (X.blk t F scope (compEnvC scope cl C X.env) fp) ifs tt)
    (pKey : ∀ (t : Shared) (F : Hp) (C : Addr) (cl : List (Str × Addr)) (fp : List Addr), PE (X.blk t F scope (compEnvC scope cl C X.env) fp) kx tk)
    (pVal : ∀ (t : Shared) (F : Hp) (C : Addr) (cl : List (Str × Addr)) (fp : List Addr), PE (X.blk t F scope (compEnvC scope cl C X.env) fp) vx tv)
    (plainSet : ∀ x, foldedSetIterable iter X.env x = pure x := by intro _; rfl) :
    PE X (.DictComp kx vx [⟨tg, iter, ifs, 0⟩] scope pos) (tDcT wi g tt tk tv (own.map (·.2))) := by
  refine ⟨fun ps s0 σ H Q I0 asked => ?_⟩
  rw [arm_eval_DictComp]
  refine dcT_core hu calm nd src blk pTarget pTest pKey pVal plainSet I0 asked fun D C t m F home last spaces away => ?_
  obtain ⟨c0, c1, _, c3, c4, c5⟩ := away
  refine ⟨m, spaces, fun heap3 same => ⟨.ref D, F, ?_, rfl, last⟩⟩
  exact home.turned (t' := t.toks) (fun b o ne got => (same.2 b ne).trans got) c0 c1 c3 c4 c5
/-- y = {k: v for ..}, y a local that the block does not read -/
theorem ps_setDcT {i : Nat} {y : Str} {py : Pos} {kx vx tg iter : Expr} {ifs : List Expr} {scope : Scope} {own : List (Str × Nat)} {pos spos : Pos} {wi : TI} {g : TG} {tt : TT} {tk tv : TE} (hu : X.A.units < cLine) (calm : X.calm = true) (nd : X.N.Nodup) (at_ : X.N[i]? = some y) (loc : X.env.scope.names.lookup y = some .local)
    (swaps : swapsWith (.DictComp kx vx [⟨tg, iter, ifs, 0⟩] scope pos) (some (.Name y py)) spos.line X.env = pure true) (src : PI X tg iter wi) (blk : BlkOk X.N X.env.scope scope own)
    (pTarget : ∀ (t : Shared) (F : Hp) (C : Addr) (cl : List (Str × Addr)) (fp : List Addr), PG (X.blk t F scope (compEnvC scope cl C X.env) fp) tg g)
    (pTest : ∀ (t : Shared) (F : Hp) (C : Addr) (cl : List (Str × Addr)) (fp : List Addr), PTs (X.blk t F scope (compEnvC scope cl C X.env) fp) ifs tt)
    (pKey : ∀ (t : Shared) (F : Hp) (C : Addr) (cl : List (Str × Addr)) (fp : List Addr), PE (X.blk t F scope (compEnvC scope cl C X.env) fp) kx tk)
    (pVal : ∀ (t : Shared) (F : Hp) (C : Addr) (cl : List (Str × Addr)) (fp : List Addr), PE (X.blk t F scope (compEnvC scope cl C X.env) fp) vx tv)
    (plainSet : ∀ x, foldedSetIterable iter X.env x = pure x := by intro _; rfl) :
    PS X (.Assign [.Name y py] (.DictComp kx vx [⟨tg, iter, ifs, 0⟩] scope pos) spos) (tAsg (tDcT wi g tt tk tv (own.map (·.2))) (gName i)) := by
  refine ⟨fun ps s0 σ H D0 I0 asked => ?_⟩
  rw [exec_Assign_Name_used _ _ _ _ swaps]
  refine wpAny_bind (wpAny_standAt (wpAny_bind ?_))
  show wpAny _ X.A (do let _ ← comprehension (.DictComp kx vx [⟨tg, iter, ifs, 0⟩] scope pos) scope X.env (firstIterPos [⟨tg, iter, ifs, 0⟩] pos) newDict false (eval iter X.env) (some (assign (.Name y py) X.env))) _ _ s0
  have asked : tDcT wi g tt tk tv (own.map (·.2)) σ H (fun x F => gName i x σ F D0.nx) := asked
  refine wpAny_bind (thn (dcT_core (Post := fun _ t => SP X ps D0 .next t) hu calm nd src blk pTarget pTest pKey pVal plainSet I0 asked fun D C t m F home last spaces away => ?_) fun _ t done => wpAny_pure (wpAny_pure done))
  show wpAny _ _ (assign (.Name y py) X.env (.ref D)) _ _ _
  obtain ⟨c0, c1, _, c3, c4, c5⟩ := away
  refine wpAny_assign_Name (store_ok2 (v := V.ref D) home nd at_ (.inl loc) rfl (fun t2 I2 ⟨a, sb, ha⟩ => ?_) (.inr loc))
  have ne : C ≠ a := ha.elim (fun z => z ▸ c1) fun z e => c4 y a z e.symm
  refine ⟨m, spaces.sameBut sb ne, fun heap3 same => ⟨_, F, ?_, last⟩⟩
  exact I2.turned (t' := t2.toks) (fun b o nb got => (same.2 b nb).trans got) c0 c1 c3 c4 c5
theorem swapsDc {kx vx : Expr} {gs : List Comprehension} {scope : Scope} {pos py : Pos} {y : Str} {l : Nat} {env : Env} (kind : env.scope.kind = .function) (loc : env.scope.names.lookup y = some .local) (row : (py.line == pos.line) = true)
    (other : (scope.names.any fun (n, k) => n == y && (k == .local || k == .cell)) = false) : swapsWith (.DictComp kx vx gs scope pos) (some (.Name y py)) l env = pure true := by
  have k1 : env.blockKind = .function := by unfold Env.blockKind; rw [kind]; rfl
  have k2 : env.kindOf y = some .local := loc
  unfold swapsWith
  simp only [k1, k2, other, row, Expr.pos]
  rfl
/-- the turns of such a comprehension, by what holds before each -/
theorem dcT_it {J : It} {n : Nat} {Gd : Hp → Prop} {Y : Nat → Hp → V → Hp → Prop} (wk : Walk J n Gd Y) {g : TG} {tt : TT} {tk tv : TE} {vs : List Nat} {σ : St} {D : Addr} {S : Hp} {Qd : Hp → Prop} (Pv : Nat → Hp → Prop)
    (first : Pv 0 S) (served : ∀ i F, i ≤ n → Pv i F → Gd F)
    (each : ∀ i x F F', i < n → Pv i F → Y i F x F' → g x (wipe σ vs) F' fun τ F2 => wipe τ vs = wipe σ vs ∧ tt τ F2 fun yes F3 =>
      if yes = true then tk τ F3 fun y F4 => tv τ F4 fun z F5 => ∃ b kvs k, y = .ref b ∧ F5 b = some (.tup (k.map kV)) ∧ F5 D = some (.dT kvs) ∧ kvs.length < sizeLine ∧ Pv (i + 1) (upd F5 D (.dT (putK kvs k z)))
      else Pv (i + 1) F3) (done : ∀ F, Pv n F → Qd F) :
    ∃ Wh : Nat → Nat → Hp → Prop, (∃ m, Wh 0 m S) ∧ ∀ i m F, Wh i m F → (J.stop i F ∧ Qd F) ∨
      (J.go i F ∧ ∃ Nx : Hp → Prop, (∀ F', Nx F' → ∃ m', m' < m ∧ Wh (i + 1) m' F') ∧
        ∀ x F', J.yld i F x F' → g x (wipe σ vs) F' fun τ F2 => wipe τ vs = wipe σ vs ∧ tt τ F2 fun yes F3 =>
          if yes = true then tk τ F3 fun y F4 => tv τ F4 fun z F5 => ∃ b kvs k, y = .ref b ∧ F5 b = some (.tup (k.map kV)) ∧ F5 D = some (.dT kvs) ∧ kvs.length < sizeLine ∧ Nx (upd F5 D (.dT (putK kvs k z)))
          else Nx F3) := by
  refine ⟨fun i m F => i + m = n ∧ Pv i F, ⟨n, by omega, first⟩, ?_⟩
  rintro i m F ⟨sum, now⟩
  have ok := served i F (by omega) now
  cases m with
  | zero =>
    have e : i = n := by omega
    subst e
    exact Or.inl ⟨wk.stops F ok, done F now⟩
  | succ m =>
    have lt : i < n := by omega
    exact Or.inr ⟨wk.goes i F lt ok, Pv (i + 1), fun F' nx => ⟨m, Nat.lt_succ_self m, by omega, nx⟩, fun x F' yl => each i x F F' lt now (wk.yields i F x F' lt ok yl)⟩
end
end L2

/-! *d in a display, d a dict whose keys are paths. -/
namespace LS
open PySem PySem.W PySem.Spec PyProof.Rows SrtO L2 LT
section
variable {X : Cx} {pins : List (Addr × Obj)} {σ : L2.St} {H : Hp} {s : Shared}
theorem star_dt {d : Addr} {kvs : List (List L2.Key × V)} {ps : List (List Str)} {E : Value → Shared → Prop} {Q : List Value → Shared → Prop} (hc : X.calm = true) (I : Inv X pins σ H s) (hd : Rd H d (.dT kvs)) (hk : KeysP kvs ps)
    (hQ : ∀ zs : Zs, zs.map (·.2) = ps → (∀ z ∈ zs, H z.1 = some (.tup (z.2.map V.str))) → ∀ us s', Inv X pins σ H s' → Vals (addrs zs) us → Q us s') : PySem.W.StarOf (model X.prog X.w) X.A E (.ref d) Q s := by
  obtain ⟨hz, hs, xs, rel, o, es, ep, ho, hx, hdt, he, _, _⟩ := dt_rd I.hok hd
  obtain ⟨zs, z1, z2, z3⟩ := zs_of rel hk
  have l1 : es.size = xs.length := size_of_entries he
  have l2 : kvs.length = xs.length := Paired.length rel
  have l3 : zs.length = xs.length := by
    have := congrArg List.length z2
    rw [List.length_map, List.length_map] at this
    exact this
  have ea : ∀ acc : Array Value, ItemsOf (fun i v => ∃ hi : i < es.size, v = es[i].key) acc es.size → acc.toList = zs.map fun z => Value.ref z.1 := by
    intro acc it
    rw [z2]
    apply List.ext_getElem?
    intro j
    rw [List.getElem?_map]
    by_cases hj : j < es.size
    · have hja : j < acc.size := by rw [it.1]; exact hj
      obtain ⟨hi, hv⟩ := it.2 j acc[j] (Array.getElem?_eq_getElem hja)
      rw [Array.getElem?_toList, Array.getElem?_eq_getElem hja, hv]
      have qe := entry_at he j
      rw [Array.getElem?_eq_getElem hi] at qe
      cases hb : xs[j]? with
      | none =>
        rw [hb] at qe
        exact nomatch (show some es[j] = none from qe)
      | some b =>
        rw [hb] at qe
        rw [show es[j] = entryOfKey (tupleKind (mixKind X.prog X.w)) b from Option.some.inj qe]
        rfl
    · rw [List.getElem?_eq_none (by rw [Array.length_toList, it.1]; omega), List.getElem?_eq_none (by omega)]
      rfl
  have hT : s.TypeIs (.ref d) "dict" := (show Heap.DictRaw s.heap d es ep from ⟨o, ho, hx, hdt⟩).typeIs
  have z : wpAny (model X.prog X.w) X.A (collect (.ref d)) Q E s := by
    refine collect_src (T := "dict") (KdlSrc.rawDict (es := es) (ep := ep) hs) (I.ok.hd hc) ⟨o, ho, hx, hdt⟩ (by rw [l1, ← l2]; exact hz) fun h' tk acc kp hlt it => ?_
    rw [ea acc it]
    exact hQ zs z1 z3 _ _ (I.kept (t' := tk) kp) (addrs_vals zs)
  unfold PySem.W.StarOf notIterableAtAll
  exact wpAny_bind (wpAny_specialOf hT PySem.F.slot_dict_iter.lookup (wpAny_pure ⟨rfl, z⟩))
end
/-- *e in a display: a dict of paths, its keys -/
def tStarD (te : TE) (t : TA) : TA := fun σ H Q => te σ H fun x H1 => ∃ d kvs ps, x = V.ref d ∧ Rd H1 d (.dT kvs) ∧ KeysP kvs ps ∧ ∀ zs : Zs, zs.map (·.2) = ps → (∀ z ∈ zs, H1 z.1 = some (.tup (z.2.map V.str))) → t σ H1 fun ys H2 => Q (addrs zs ++ ys) H2
theorem pa_starD {X : Cx} {e : Expr} {es : List Expr} {te : TE} {t : TA} {p : Pos} (hc : X.calm = true) (he : PE X e te) (hr : PA X es t) (hs : starEach (.Starred e p :: es) X.env = (true, eval e X.env) :: starEach es X.env := by rfl) : PA X (.Starred e p :: es) (tStarD te t) := by
  refine ⟨fun pos pins s σ H Q I h => ?_⟩
  refine PySem.W.items_star (thn (he.run pins s σ H _ I h) fun v s1 ⟨y, H1, I1, ry, d, kvs, ps, ey, hd, hk, q⟩ => ?_) hs
  subst ey
  obtain rfl : v = Value.ref d := ry
  refine star_dt hc I1 hd hk fun zs hz hp us s2 I2 rv => ?_
  exact thn (hr.run pos pins s2 σ H1 _ I2 (q zs hz hp)) fun ws s3 ⟨vs, H3, I3, r3, q3⟩ => ⟨addrs zs ++ vs, H3, I3, rv.append r3, q3⟩
end LS

namespace LK
open PySem PySem.Spec PyProof.Rows L2 GA LT LE L2H LD
def topS (i : Nat) : Stmt := PySem.Challenge.pw_laidtrees_k22_layers_refused.main.body.getD i (.Pass ⟨0, 0, 0, 0⟩)
abbrev sIsName : Stmt := topS 25
abbrev sIsPath : Stmt := topS 26
abbrev sIsText : Stmt := topS 27
abbrev sCheckPath : Stmt := topS 28
abbrev sAbove : Stmt := topS 29
abbrev sBeginnings : Stmt := topS 30
abbrev sIsNumber : Stmt := topS 35
abbrev sIsKind : Stmt := topS 36
abbrev sIsDrawer : Stmt := topS 37
abbrev sIsFile : Stmt := topS 38
abbrev sHasDrawers : Stmt := topS 39
abbrev sHasOneText : Stmt := topS 40
abbrev sIsTree : Stmt := topS 41
abbrev sCheckTree : Stmt := topS 42
abbrev sRenumbered : Stmt := topS 43
abbrev sIsEntry : Stmt := topS 49
abbrev sIsLayer : Stmt := topS 50
abbrev sIsStack : Stmt := topS 51
abbrev sCheckLayer : Stmt := topS 52
abbrev sCheckStack : Stmt := topS 53
abbrev sApart : Stmt := topS 54
abbrev sLongest : Stmt := topS 55
abbrev sLetsThrough : Stmt := topS 56
abbrev sAsSeen : Stmt := topS 57
abbrev sLaidOver : Stmt := topS 58
abbrev sWithRoom : Stmt := topS 59
abbrev sShown : Stmt := topS 60
abbrev sLaidP : Stmt := topS 61
abbrev sAsLooked : Stmt := topS 62
abbrev sLook : Stmt := topS 63
abbrev sOpenDrawers : Stmt := topS 64
abbrev sDraw : Stmt := topS 66
abbrev sPick : Stmt := topS 67
abbrev sLetter : Stmt := topS 68
abbrev sText : Stmt := topS 69
abbrev sTree : Stmt := topS 70
abbrev sLayer : Stmt := topS 71
abbrev sNoPath : Stmt := topS 72
abbrev sNoTree : Stmt := topS 73
abbrev sNoLayer : Stmt := topS 74
abbrev sWhich : Stmt := topS 75
abbrev sWide : Stmt := topS 76
abbrev sAsk : Stmt := topS 77
abbrev sLaw : Stmt := topS 78
/-- what the module's names hold: those that paths.py asks -/
structure Mg (mg : Str → Option Value) : Prop where
  isinstance : mg "isinstance" = none
  str : mg "str" = none
  tuple : mg "tuple" = none
  len : mg "len" = none
  all : mg "all" = none
  range : mg "range" = none
  letters : ∃ t, mg "LETTERS" = some (.str lettersS t)
  mostLetters : ∃ t, mg "MOST_LETTERS" = some (.int 4 t)
  mostNames : ∃ t, mg "MOST_NAMES" = some (.int 5 t)

def spIsName (K : PySem.W.Frag) (P1 : Addr) : Sp := fun vs H Q _ => ∃ v, vs = [v] ∧ Asked K H v ∧ TabG H P1 ∧ ∀ H', Ex H H' → Q (.bl (isNameV v)) H'
/-- a call that is handed a thing: it is a path or not -/
def spIsPath (K : PySem.W.Frag) (P1 P2 : Addr) : Sp := fun vs H Q _ => ∃ v b, vs = [v] ∧ PathB K H v b ∧ TabG H P1 ∧ TabG H P2 ∧ ∀ H', Ex H H' → Q (.bl b) H'
/-- C: the class that is raised -/
def spCheck (K : PySem.W.Frag) (P1 P2 C : Addr) : Sp := fun vs H Q E => ∃ v b, vs = [v] ∧ PathB K H v b ∧ TabG H P1 ∧ TabG H P2 ∧
  (b = true → ∀ H', Ex H H' → Q .non H') ∧ (b = false → ∀ H', Ex H H' → E (.ref C) none H')
/-- the thing is no path, and is refused; or it is the path p, of which R holds -/
def PathOr (K : PySem.W.Frag) (H : Hp) (v : V) (bad : Prop) (R : Addr → List Str → Prop) : Prop :=
  (PathB K H v false ∧ bad) ∨ ∃ a p, v = .ref a ∧ PathAt K H a p ∧ goodPath p = true ∧ R a p
def Refused (H : Hp) (E : XK) (C : Addr) : Prop := ∀ H', Ex H H' → E (.ref C) none H'
def spAbove (K : PySem.W.Frag) (P1 P2 C : Addr) : Sp := fun vs H Q E => ∃ v, vs = [v] ∧ TabG H P1 ∧ TabG H P2 ∧
  PathOr K H v (Refused H E C) fun _ p => ∀ H' r, Ex H H' → (p = [] ∧ r = .non ∨ p ≠ [] ∧ ∃ q, r = .ref q ∧ PathAt K H' q p.dropLast) → Q r H'
def beginsB (p q : List Str) : Bool := decide (p.take q.length = q)
def withinB (p q : List Str) : Bool := decide (p ≠ q) && beginsB p q
def spBegins (K : PySem.W.Frag) : Sp := fun vs H Q _ => ∃ a b p q, vs = [.ref a, .ref b] ∧ PathAt K H a p ∧ PathAt K H b q ∧ goodPath p = true ∧ goodPath q = true ∧ ∀ H', Ex H H' → Q (.bl (beginsB p q)) H'
def spWithin (K : PySem.W.Frag) (P1 P2 C : Addr) : Sp := fun vs H Q E => ∃ u v, vs = [u, v] ∧ TabG H P1 ∧ TabG H P2 ∧
  PathOr K H u (Refused H E C) fun _ p => PathOr K H v (Refused H E C) fun _ q => ∀ H', Ex H H' → Q (.bl (withinB p q)) H'
def spBeginnings (K : PySem.W.Frag) (P1 P2 C : Addr) : Sp := fun vs H Q E => ∃ v, vs = [v] ∧ TabG H P1 ∧ TabG H P2 ∧
  PathOr K H v (Refused H E C) fun _ p => ∀ H' l, Ex H H' → PathsAt K H' l (begs p) → Q (.ref l) H'
/-- a class of refusals -/
structure Ref (K : PySem.W.Frag) (mg : Str → Option Value) (nm : Str) (C : Addr) : Prop where
  g : mg nm = some (.ref C)
  x : PySem.W.excIn K C [.type "ValueError", .type "Exception", .type "BaseException", .type "object"] "ValueError.__new__" = true
  k : PySem.W.keepIn K (.ref C) = true
  b : PySem.W.subIn K (.ref C) (.type "BaseException") = some true
  t : PySem.W.typeIn K (.ref C) = some (.type "type")

section
variable {P : Program} {w : World} {K : PySem.W.Frag} {mg : Str → Option Value} {base : Heap}
theorem scIsName : FnScope ["thing"] ["thing"] (defScope sIsName) := ⟨rfl, rfl, rfl, by decide +kernel, rfl, by decide +kernel, by decide +kernel⟩
theorem ok_isName {f c P1 : Addr} {fd : FuncData} (F : FunC K "is_name" "is_name" sIsName f fd c) (M : Mg mg) (TB : LamX.TabB base mg c P1) : FnOk P w K mg base CX0 3 f fd ["thing"] (spIsName K P1) := by
  refine F.ok scIsName (fun vs H Q E h => ?_) (fun A outer s H vs Q E hr h => ?_)
  · obtain ⟨v, rfl, _⟩ := h
    rfl
  · obtain ⟨v, rfl, ⟨n, kn, hz⟩, hT, k⟩ := h
    obtain ⟨tl, hl⟩ := M.letters
    obtain ⟨tm, hm⟩ := M.mostLetters
    refine ⟨_, pss_cons (ps_if (PW.pt (pw_or (pt_not (pt_val (pe_callB call_is (by rfl) M.isinstance boot_isinstance (pa_cons (pv 0) (pa_cons (pe_bltn (v := .ty "str") (by rfl) M.str (by decide +kernel) rfl) pa_nil)))))
        (pw_or1 (pt_not (pt_chain op_le op_le pe_int (pe_callB call_len_str (by rfl) M.len PySem.boot_len (pa_cons (pv 0) pa_nil)) (pe_glob (v := .int 4) (by rfl) hm ⟨_, rfl⟩)))))) (pss_one (ps_ret pe_bl)) pss_nil)
      (pss_one (ps_ret (pe_all (k := 1) (N := ["thing", "letter"]) (pad := 1) (j := 1) (x := "letter") (P := P1) hr rfl (by rfl) M.all TB rfl (gn_by (N0 := ["thing"]) (sc := defScope sIsName) (by decide +kernel)) (pi_str (pv 0))
        (fun A s H cl C code fp pn hr => pe_cmpR op_in_sign (pv 1) (pe_glob (v := .str lettersS) (by rfl) hl ⟨_, rfl⟩) (by rfl))))), ?_⟩
    refine ⟨_, rfl, v, n, "str", rfl, kn, rfl, _, rfl, ?_⟩
    have done : isNameV v = false → Q (.bl false) H := fun e => by
      have := k H (Ex.refl H)
      rwa [e] at this
    by_cases hs : n = "str"
    · subst hs
      obtain ⟨z, rfl⟩ : ∃ z, v = .str z := kn.isStr
      rw [show isB "str" "str" = true by decide]
      refine iteF ?_
      refine ⟨_, rfl, z, rfl, hz z rfl, _, _, rfl, rfl, _, rfl, ?_⟩
      by_cases h1 : (1 : Int) ≤ z.length
      · rw [decide_eq_true h1]
        refine iteT ⟨_, _, rfl, rfl, _, rfl, ?_⟩
        by_cases h4 : (z.length : Int) ≤ 4
        · rw [decide_eq_true h4]
          refine iteF ⟨_, rfl, z, rfl, hT, fun H2 hT2 => gw_str (fun c => decide (c ∈ lettersS.cps.toList)) (fun c H3 x R hR => ⟨_, rfl, c, lettersS, rfl, rfl, hR⟩) fun H3 x => ?_⟩
          have := k H3 ((Ex.tabd hT2 hT).trans x)
          rwa [show isNameV (.str z) = z.cps.toList.all (fun c => decide (c ∈ lettersS.cps.toList)) by
            show (decide (1 ≤ z.length) && decide (z.length ≤ 4) && allIn z lettersS) = _
            rw [decide_eq_true (by omega), decide_eq_true (by omega)]
            rfl] at this
        · rw [decide_eq_false h4]
          refine iteT (done ?_)
          show (decide (1 ≤ z.length) && decide (z.length ≤ 4) && allIn z lettersS) = _
          rw [decide_eq_false (p := z.length ≤ 4) (by omega), Bool.and_false, Bool.false_and]
      · rw [decide_eq_false h1]
        refine iteF ⟨_, rfl, iteT (done ?_)⟩
        show (decide (1 ≤ z.length) && decide (z.length ≤ 4) && allIn z lettersS) = _
        rw [decide_eq_false (p := 1 ≤ z.length) (by omega), Bool.false_and, Bool.false_and]
    · rw [kn.notStr hs]
      refine iteT ?_
      exact done (kn.noName hs)
theorem scIsPath : FnScope ["thing"] ["thing"] (defScope sIsPath) := ⟨rfl, rfl, rfl, by decide +kernel, rfl, by decide +kernel, by decide +kernel⟩
theorem ok_isPath {f c f1 P1 P2 : Addr} {fd fd1 : FuncData} (F : FunC K "is_path" "is_path" sIsPath f fd c) (M : Mg mg) (TB : LamX.TabB base mg c P2)
    (G1 : FnOk P w K mg base CX0 3 f1 fd1 ["thing"] (spIsName K P1)) (m1 : mg "is_name" = some (.ref f1)) (k1 : PySem.W.keepIn K (.ref f1) = true) (b1 : Binds K fd1 ["thing"] []) :
    FnOk P w K mg base CX0 5 f fd ["thing"] (spIsPath K P1 P2) := by
  refine F.ok scIsPath (fun vs H Q E h => ?_) (fun A outer s H vs Q E hr h => ?_)
  · obtain ⟨v, b, rfl, _⟩ := h
    rfl
  · obtain ⟨v, b, rfl, pb, hT1, hT2, k⟩ := h
    obtain ⟨tm, hm⟩ := M.mostNames
    refine ⟨_, pss_cons (ps_if (PW.pt (pw_or (pt_not (pt_val (pe_callB call_is (by rfl) M.isinstance boot_isinstance (pa_cons (pv 0) (pa_cons (pe_bltn (v := .ty "tuple") (by rfl) M.tuple (by decide +kernel) rfl) pa_nil)))))
        (pw_or1 (pt_cmpR op_gt (pe_callB call_len_seq (by rfl) M.len PySem.boot_len (pa_cons (pv 0) pa_nil)) (pe_glob (v := .int 5) (by rfl) hm ⟨_, rfl⟩) (nomark _))))) (pss_one (ps_ret pe_bl)) pss_nil)
      (pss_one (ps_ret (pe_all (k := 3) (N := ["thing", "name"]) (pad := 1) (j := 1) (x := "name") (P := P2) hr rfl (by rfl) M.all TB rfl (gn_by (N0 := ["thing"]) (sc := defScope sIsPath) (by decide +kernel)) (pi_tup (pv 0))
        (fun A s H cl C code fp pn hr => pe_call (E := E0) G1 hr (by rfl) m1 k1 b1 .nil pass0 (pa_cons (pv 1) pa_nil))))), ?_⟩
    cases pb with
    | oth kn hn =>
      rename_i n
      refine ⟨_, rfl, v, n, "tuple", rfl, kn, rfl, _, rfl, ?_⟩
      rw [kn.notTup hn]
      exact iteT (k H (Ex.refl H))
    | tup e q =>
      rename_i a xs
      refine ⟨_, rfl, .ref a, "tuple", "tuple", rfl, .tup e, rfl, _, rfl, ?_⟩
      rw [show isB "tuple" "tuple" = true by decide]
      refine iteF ⟨_, rfl, a, xs, rfl, .inr e, _, _, rfl, rfl, _, rfl, ?_⟩
      by_cases h5 : (5 : Int) < xs.length
      · rw [decide_eq_true h5]
        refine iteT ?_
        have := k H (Ex.refl H)
        rwa [decide_eq_false (p := xs.length ≤ 5) (by omega), Bool.false_and] at this
      · rw [decide_eq_false h5]
        refine iteF ⟨_, rfl, a, rfl, ⟨xs, e⟩, hT2, fun H2 hT => ?_⟩
        have x2 := Ex.tabd hT hT2
        refine gw_tup isNameV (x2.tup e) (fun y H3 hy x3 R hR => ?_) fun H3 x3 => ?_
        · exact ⟨_, rfl, y, rfl, (q y hy).ex (x2.trans x3), (x2.trans x3).tab _ hT1, fun H4 x4 => hR H4 (x3.trans x4)⟩
        · have := k H3 (x2.trans x3)
          rwa [decide_eq_true (p := xs.length ≤ 5) (by omega), Bool.true_and] at this
theorem scCheckPath : FnScope ["thing"] ["thing"] (defScope sCheckPath) := ⟨rfl, rfl, rfl, by decide +kernel, rfl, by decide +kernel, by decide +kernel⟩
theorem ok_checkPath {f f2 P1 P2 C : Addr} {fd fd2 : FuncData} (F : Fun K "check_path" "check_path" sCheckPath f fd) (R : Ref K mg "NoPath" C)
    (G2 : FnOk P w K mg base CX0 5 f2 fd2 ["thing"] (spIsPath K P1 P2)) (m2 : mg "is_path" = some (.ref f2)) (k2 : PySem.W.keepIn K (.ref f2) = true) (b2 : Binds K fd2 ["thing"] []) :
    FnOk P w K mg base (L2.CX P w) 6 f fd ["thing"] (spCheck K P1 P2 C) := by
  refine F.okX scCheckPath (fun vs H Q E h => ?_) (fun cdv A outer s H vs Q E hr h => ?_)
  · obtain ⟨v, b, rfl, _⟩ := h
    rfl
  · obtain ⟨v, b, rfl, pb, hT1, hT2, kt, kf⟩ := h
    refine ⟨_, pss_one (ps_if (pt_not (pt_val (pe_call (E := E0) G2 hr (by rfl) m2 k2 b2 .nil pass0 (pa_cons (pv 0) pa_nil))))
      (pss_one (ps_raise rfl (takes_of rfl rfl rfl rfl) (pmk_own PySem.F.excBase_ValueError R.x R.g R.k (raises_own R.b R.t) rfl))) pss_nil), ?_⟩
    refine ⟨_, rfl, v, b, rfl, pb, hT1, hT2, fun H' x => ⟨_, rfl, ?_⟩⟩
    cases b with
    | true => exact iteF (kt rfl H' x)
    | false => exact iteT (kf rfl H' x)
end
/-- above, its answer a tuple that may be asked as a key -/
def spAboveX (K : PySem.W.Frag) (P1 P2 C : Addr) : Sp := fun vs H Q E => ∃ v, vs = [v] ∧ TabG H P1 ∧ TabG H P2 ∧
  PathOr K H v (Refused H E C) fun _ p => ∀ H' r, Ex H H' → (p = [] ∧ r = .non ∨ p ≠ [] ∧ ∃ q, r = .ref q ∧ PathX H' q p.dropLast) → Q r H'
section
variable {P : Program} {w : World} {K : PySem.W.Frag} {mg : Str → Option Value} {base : Heap}
theorem scAboveX : FnScope ["path"] ["path"] (defScope sAbove) := ⟨rfl, rfl, rfl, by decide +kernel, rfl, by decide +kernel, by decide +kernel⟩
theorem ok_aboveX {f f3 P1 P2 C : Addr} {fd fd3 : FuncData} (F : Fun K "above" "above" sAbove f fd)
    (G3 : FnOk P w K mg base (L2.CX P w) 6 f3 fd3 ["thing"] (spCheck K P1 P2 C)) (m3 : mg "check_path" = some (.ref f3)) (k3 : PySem.W.keepIn K (.ref f3) = true) (b3 : Binds K fd3 ["thing"] []) :
    FnOk P w K mg base (L2.CX P w) 7 f fd ["path"] (spAboveX K P1 P2 C) := by
  refine F.okX scAboveX (fun vs H Q E h => ?_) (fun cdv A outer s H vs Q E hr h => ?_)
  · obtain ⟨v, rfl, _⟩ := h
    rfl
  · obtain ⟨v, rfl, hT1, hT2, h⟩ := h
    refine ⟨_, pss_cons (ps_expr (pe_call (E := E) G3 hr (by rfl) m3 k3 b3 .nil (passes_call (takes_of rfl rfl rfl rfl) (fun _ _ _ _ h => h)) (pa_cons (pv 0) pa_nil)))
      (pss_one (ps_ret (pe_ifExp (pt_truth (pv 0) (by intro _; rfl)) (pe_slice sl_tupA (pv 0) po_none (po_some (pe_un un_neg pe_int))) pe_non))), ?_⟩
    rcases h with ⟨pb, hbad⟩ | ⟨a, p, rfl, pa, gp, k⟩
    · exact ⟨_, rfl, v, false, rfl, pb, hT1, hT2, (fun z => nomatch z), fun _ => hbad⟩
    · have pb := pa.b (goodPath_small gp)
      rw [gp] at pb
      refine ⟨_, rfl, .ref a, true, rfl, pb, hT1, hT2, fun _ H' x => ?_, fun z => nomatch z⟩
      have pa' := pa.ex x
      refine ⟨_, rfl, _, .inr (.inl ⟨p.map V.str, pa', rfl⟩), ?_⟩
      cases p with
      | nil => exact iteF (k H' _ x (.inl ⟨rfl, rfl⟩))
      | cons z q =>
        refine iteT ⟨_, rfl, 1, rfl, _, rfl, a, _, rfl, pa', fun hw => ?_, fun _ r hr => ?_⟩
        · exfalso
          have h2 := hw.2
          rw [sIx_last] at h2
          simp only [List.length_map, List.length_cons] at h2
          omega
        · have x2 := Ex.new (o := .tup (cutV ((z :: q).map V.str) none (some (-1)))) hr
          refine k _ _ (x.trans x2) (.inr ⟨by simp, r, rfl, ?_⟩)
          show _ = some (HO.tup ((z :: q).dropLast.map V.str))
          rw [upd_same]
          have e : cutV ((z :: q).map V.str) none (some (-1)) = (z :: q).dropLast.map V.str := by rw [cutV_last, List.map_dropLast]
          exact congrArg (fun l => some (HO.tup l)) e
end
section
variable {P : Program} {w : World} {K : PySem.W.Frag} {mg : Str → Option Value} {base : Heap}
/-- path[:n] -/
theorem slice_to {H : Hp} {a : Addr} {p : List Str} (n : Nat) (pa : PathAt K H a p) {R : VK} (h : ∀ H' r, Ex H H' → PathAt K H' r (p.take n) → R (.ref r) H') : rSlA K (.ref a) none (some (n : Int)) H R := by
  refine ⟨a, _, rfl, pa, fun hw => h H a (Ex.refl H) ?_, fun _ r hr => h _ r (Ex.new hr) ?_⟩
  · have h2 := hw.2
    rw [HT.sIx_nat, List.length_map] at h2
    rw [List.take_of_length_le (by omega)]
    exact pa
  · refine SqT.of ?_
    rw [upd_same, cutV_to, List.map_take]
theorem slice_from {H : Hp} {a : Addr} {p : List Str} (n : Nat) (pa : PathAt K H a p) {R : VK} (h : ∀ H' r, Ex H H' → PathAt K H' r (p.drop n) → R (.ref r) H') : rSlA K (.ref a) (some (n : Int)) none H R := by
  refine ⟨a, _, rfl, pa, fun hw => h H a (Ex.refl H) ?_, fun _ r hr => h _ r (Ex.new hr) ?_⟩
  · have h2 := hw.1
    rw [HT.sIx_nat, List.length_map] at h2
    cases n with
    | zero => exact pa
    | succ n =>
      have hp : p = [] := by
        cases p with
        | nil => rfl
        | cons z q => simp at h2
      subst hp
      exact pa
  · refine SqT.of ?_
    rw [upd_same, cutV_from, List.map_drop]
theorem slice_fromN {H : Hp} {a : Addr} {p : List Str} {σ : L2.St} (n : Nat) (pa : PathAt K H a p) {R : VK} (h : ∀ H' r, Ex H H' → PathAt K H' r (p.drop n) → R (.ref r) H') :
    tNoPart σ H (fun u H3 => rSlA K (.ref a) (some (n : Int)) u H3 R) := slice_from n pa h
end
/-! ### is_text -/
structure MgT (mg : Str → Option Value) : Prop where
  signs : ∃ t, mg "SIGNS" = some (.str signsS t)
  mostSigns : ∃ t, mg "MOST_SIGNS" = some (.int 40 t)
def spIsText (K : PySem.W.Frag) (P1 : Addr) : Sp := fun vs H Q _ => ∃ v, vs = [v] ∧ Asked K H v ∧ TabG H P1 ∧ ∀ H', Ex H H' → Q (.bl (isTextV v)) H'
section
variable {P : Program} {w : World} {K : PySem.W.Frag} {mg : Str → Option Value} {base : Heap}
theorem scIsText : FnScope ["thing"] ["thing"] (defScope sIsText) := ⟨rfl, rfl, rfl, by decide +kernel, rfl, by decide +kernel, by decide +kernel⟩
theorem ok_isText {f c P1 : Addr} {fd : FuncData} (F : FunC K "is_text" "is_text" sIsText f fd c) (M : Mg mg) (MT : MgT mg) (TB : LamX.TabB base mg c P1) : FnOk P w K mg base CX0 3 f fd ["thing"] (spIsText K P1) := by
  refine F.ok scIsText (fun vs H Q E h => ?_) (fun A outer s H vs Q E hr h => ?_)
  · obtain ⟨v, rfl, _⟩ := h
    rfl
  · obtain ⟨v, rfl, ⟨n, kn, hz⟩, hT, k⟩ := h
    obtain ⟨tl, hl⟩ := MT.signs
    obtain ⟨tm, hm⟩ := MT.mostSigns
    refine ⟨_, pss_cons (ps_if (PW.pt (pw_or (pt_not (pt_val (pe_callB call_is (by rfl) M.isinstance boot_isinstance (pa_cons (pv 0) (pa_cons (pe_bltn (v := .ty "str") (by rfl) M.str (by decide +kernel) rfl) pa_nil)))))
        (pw_or1 (pt_cmpR op_gt (pe_callB call_len_str (by rfl) M.len PySem.boot_len (pa_cons (pv 0) pa_nil)) (pe_glob (v := .int 40) (by rfl) hm ⟨_, rfl⟩) (nomark _))))) (pss_one (ps_ret pe_bl)) pss_nil)
      (pss_one (ps_ret (pe_all (k := 1) (N := ["thing", "sign"]) (pad := 1) (j := 1) (x := "sign") (P := P1) hr rfl (by rfl) M.all TB rfl (gn_by (N0 := ["thing"]) (sc := defScope sIsText) (by decide +kernel)) (pi_str (pv 0))
        (fun A s H cl C code fp pn hr => pe_cmpR op_in_sign (pv 1) (pe_glob (v := .str signsS) (by rfl) hl ⟨_, rfl⟩) (by rfl))))), ?_⟩
    refine ⟨_, rfl, v, n, "str", rfl, kn, rfl, _, rfl, ?_⟩
    have done : isTextV v = false → Q (.bl false) H := fun e => by
      have := k H (Ex.refl H)
      rwa [e] at this
    by_cases hs : n = "str"
    · subst hs
      obtain ⟨z, rfl⟩ : ∃ z, v = .str z := kn.isStr
      rw [show isB "str" "str" = true by decide]
      refine iteF ⟨_, rfl, z, rfl, hz z rfl, _, _, rfl, rfl, _, rfl, ?_⟩
      by_cases h4 : (40 : Int) < z.length
      · rw [decide_eq_true h4]
        refine iteT (done ?_)
        show (decide (z.length ≤ 40) && allIn z signsS) = _
        rw [decide_eq_false (by omega), Bool.false_and]
      · rw [decide_eq_false h4]
        refine iteF ⟨_, rfl, z, rfl, hT, fun H2 hT2 => gw_str (fun c => decide (c ∈ signsS.cps.toList)) (fun c H3 x R hR => ⟨_, rfl, c, signsS, rfl, rfl, hR⟩) fun H3 x => ?_⟩
        have := k H3 ((Ex.tabd hT2 hT).trans x)
        rwa [show isTextV (.str z) = z.cps.toList.all (fun c => decide (c ∈ signsS.cps.toList)) by
          show (decide (z.length ≤ 40) && allIn z signsS) = _
          rw [decide_eq_true (by omega)]
          rfl] at this
    · rw [kn.notStr hs]
      refine iteT ?_
      exact done (kn.noText hs)
end
/-! ### things of a tree, as data -/
mutual
/-- no text is longer than a line -/
def smallD : PyData → Bool
  | .str z => decide (z.length ≤ sizeLine)
  | .list xs => smallAll xs
  | .tuple xs => smallAll xs
  | _ => true
def smallAll : List PyData → Bool
  | [] => true
  | x :: xs => smallD x && smallAll xs
end
def numB : PyData → Bool
  | .int n => decide (0 ≤ n) && decide (n ≤ 999)
  | _ => false
def textDB : PyData → Bool
  | .str z => textB z
  | _ => false
def headIs (word : Str) : PyData → Bool
  | .str z => decide (z = word)
  | _ => false
def kindB (word : Str) (many : Nat) : PyData → Bool
  | .tuple xs => decide (xs.length = many) && headIs word (xs.getD 0 .none)
  | _ => false
def partD (i : Nat) : PyData → PyData
  | .tuple xs => xs.getD i .none
  | _ => .none
def drawerB (d : PyData) : Bool := kindB "drawer" 1 d
def fileB (d : PyData) : Bool := kindB "file" 3 d && (numB (partD 1 d) && textDB (partD 2 d))
theorem Dp_kn {K : PySem.W.Frag} {H : Hp} {v : V} {d : PyData} (h : Dp K H v d) : ∃ n, Kn K H v n := by
  cases h with
  | non => exact ⟨_, .non⟩
  | bl b => exact ⟨_, .bl b⟩
  | int i => exact ⟨_, .int i⟩
  | str z => exact ⟨_, .str z⟩
  | lst e _ => exact ⟨_, .lst e⟩
  | tup e _ => exact ⟨_, .tup e⟩
theorem Dp_asked {K : PySem.W.Frag} {H : Hp} {v : V} {d : PyData} (h : Dp K H v d) (s : smallD d = true) : Asked K H v := by
  obtain ⟨n, k⟩ := Dp_kn h
  refine ⟨n, k, fun z e => ?_⟩
  subst e
  cases h with
  | str z =>
    unfold smallD at s
    exact of_decide_eq_true s
theorem Dp_text {K : PySem.W.Frag} {H : Hp} {v : V} {d : PyData} (h : Dp K H v d) : isTextV v = textDB d := by
  cases h <;> rfl
theorem dpAll_len {K : PySem.W.Frag} {H : Hp} : ∀ {vs : List V} {ds : List PyData}, DpAll K H vs ds → vs.length = ds.length
  | _, _, .nil => rfl
  | _, _, .cons _ t => by rw [List.length_cons, List.length_cons, dpAll_len t]
theorem dpAll_get {K : PySem.W.Frag} {H : Hp} : ∀ {vs : List V} {ds : List PyData} (i : Nat), DpAll K H vs ds → i < ds.length → ∃ v, vs[i]? = some v ∧ Dp K H v (ds.getD i .none)
  | _, _, i, .nil, h => absurd h (Nat.not_lt_zero _)
  | _, _, 0, .cons a _, _ => ⟨_, rfl, a⟩
  | _, _, i + 1, .cons _ t, h => dpAll_get i t (Nat.lt_of_succ_lt_succ h)
theorem smallAll_get : ∀ {ds : List PyData} (i : Nat), smallAll ds = true → i < ds.length → smallD (ds.getD i .none) = true
  | [], i, _, h => absurd h (Nat.not_lt_zero _)
  | d :: ds, 0, s, _ => by
    unfold smallAll at s
    exact (Bool.and_eq_true _ _ ▸ s).1
  | d :: ds, i + 1, s, h => by
    unfold smallAll at s
    exact smallAll_get i (Bool.and_eq_true _ _ ▸ s).2 (Nat.lt_of_succ_lt_succ h)
/-- the module's names that trees.py asks -/
structure MgR (mg : Str → Option Value) : Prop where
  int : mg "int" = none
  bool : mg "bool" = none
  dict : mg "dict" = none
  list : mg "list" = none
  lastNumber : ∃ t, mg "LAST_NUMBER" = some (.int 999 t)
  mostPaths : ∃ t, mg "MOST_PATHS" = some (.int 80 t)
def spIsNumber (K : PySem.W.Frag) : Sp := fun vs H Q _ => ∃ v d, vs = [v] ∧ Dp K H v d ∧ Q (.bl (numB d)) H
def spIsKind (K : PySem.W.Frag) : Sp := fun vs H Q _ => ∃ v d word many, vs = [v, .str word, .int (many : Nat)] ∧ 0 < many ∧ Dp K H v d ∧ Q (.bl (kindB word many d)) H
def spIsDrawer (K : PySem.W.Frag) : Sp := fun vs H Q _ => ∃ v d, vs = [v] ∧ Dp K H v d ∧ Q (.bl (drawerB d)) H
def spIsFile (K : PySem.W.Frag) (P3 : Addr) : Sp := fun vs H Q _ => ∃ v d, vs = [v] ∧ Dp K H v d ∧ smallD d = true ∧ TabG H P3 ∧ ∀ H', Ex H H' → Q (.bl (fileB d)) H'
section
variable {P : Program} {w : World} {K : PySem.W.Frag} {mg : Str → Option Value} {base : Heap}
theorem scIsNumber : FnScope ["thing"] ["thing"] (defScope sIsNumber) := ⟨rfl, rfl, rfl, by decide +kernel, rfl, by decide +kernel, by decide +kernel⟩
theorem ok_isNumber {f : Addr} {fd : FuncData} (F : Fun K "is_number" "is_number" sIsNumber f fd) (M : Mg mg) (R : MgR mg) : FnOk P w K mg base CX0 1 f fd ["thing"] (spIsNumber K) := by
  refine F.ok scIsNumber (fun vs H Q E h => ?_) (fun cdv A outer s H vs Q E hr h => ?_)
  · obtain ⟨v, d, rfl, _⟩ := h
    rfl
  · obtain ⟨v, d, rfl, hd, k⟩ := h
    obtain ⟨tl, hl⟩ := R.lastNumber
    refine ⟨_, pss_cons (ps_if (PW.pt (pw_or (pt_not (pt_val (pe_callB call_is (by rfl) M.isinstance boot_isinstance (pa_cons (pv 0) (pa_cons (pe_bltn (v := .ty "int") (by rfl) R.int (by decide +kernel) rfl) pa_nil)))))
        (pw_or1 (pt_val (pe_callB call_is (by rfl) M.isinstance boot_isinstance (pa_cons (pv 0) (pa_cons (pe_bltn (v := .ty "bool") (by rfl) R.bool (by decide +kernel) rfl) pa_nil))))))) (pss_one (ps_ret pe_bl)) pss_nil)
      (pss_one (ps_ret (pe_chain op_le op_le pe_int (pv 0) (pe_glob (v := .int 999) (by rfl) hl ⟨_, rfl⟩)))), ?_⟩
    obtain ⟨n, kn⟩ := Dp_kn hd
    refine ⟨_, rfl, v, n, "int", rfl, kn, rfl, _, rfl, ?_⟩
    have no : numB d = false → Q (.bl false) H := fun e => by rwa [e] at k
    cases hd with
    | int i =>
      cases kn
      rw [show isB "int" "int" = true by decide]
      refine iteF ⟨_, rfl, .int i, "int", "bool", rfl, .int i, rfl, _, rfl, ?_⟩
      rw [show isB "int" "bool" = false by decide]
      refine iteF ⟨_, rfl, 0, i, rfl, rfl, _, rfl, ?_⟩
      by_cases h0 : 0 ≤ i
      · rw [decide_eq_true h0]
        refine iteT ⟨i, 999, rfl, rfl, ?_⟩
        have : numB (.int i) = decide (i ≤ 999) := by
          show (decide (0 ≤ i) && decide (i ≤ 999)) = _
          rw [decide_eq_true h0, Bool.true_and]
        rwa [this] at k
      · rw [decide_eq_false h0]
        refine iteF (no ?_)
        show (decide (0 ≤ i) && decide (i ≤ 999)) = _
        rw [decide_eq_false h0, Bool.false_and]
    | bl b =>
      cases kn
      rw [show isB "bool" "int" = true by decide]
      refine iteF ⟨_, rfl, .bl b, "bool", "bool", rfl, .bl b, rfl, _, rfl, ?_⟩
      rw [show isB "bool" "bool" = true by decide]
      exact iteT (no rfl)
    | non =>
      cases kn
      exact iteT (no rfl)
    | str z =>
      cases kn
      exact iteT (no rfl)
    | lst e _ =>
      have : isB n "int" = false := kn.is (fun z => by
        subst z
        generalize hq : "int" = q at kn
        cases kn <;> exact absurd hq (by decide)) (fun z => by
        subst z
        generalize hq : "bool" = q at kn
        cases kn <;> exact absurd hq (by decide))
      rw [this]
      exact iteT (no rfl)
    | tup e _ =>
      have : isB n "int" = false := kn.is (fun z => by
        subst z
        generalize hq : "int" = q at kn
        cases kn <;> exact absurd hq (by decide)) (fun z => by
        subst z
        generalize hq : "bool" = q at kn
        cases kn <;> exact absurd hq (by decide))
      rw [this]
      exact iteT (no rfl)
end
/-! ### drawers and files -/
theorem kn_tuple {K : PySem.W.Frag} {H : Hp} {v : V} {d : PyData} (h : Dp K H v d) : (∃ a xs ds, v = .ref a ∧ d = .tuple ds ∧ SqT K H a xs ∧ DpAll K H xs ds) ∨ ((∀ ds, d ≠ .tuple ds) ∧ ∃ n, Kn K H v n ∧ n ≠ "tuple") := by
  cases h with
  | non => exact Or.inr ⟨fun ds z => (by cases z), _, .non, by decide⟩
  | bl b => exact Or.inr ⟨fun ds z => (by cases z), _, .bl b, by decide⟩
  | int i => exact Or.inr ⟨fun ds z => (by cases z), _, .int i, by decide⟩
  | str z => exact Or.inr ⟨fun ds z => (by cases z), _, .str z, by decide⟩
  | lst e _ => exact Or.inr ⟨fun ds z => (by cases z), _, .lst e, by decide⟩
  | tup e k => exact Or.inl ⟨_, _, _, rfl, rfl, e, k⟩
theorem kindB_not {word : Str} {many : Nat} {d : PyData} (h : ∀ ds, d ≠ .tuple ds) : kindB word many d = false := by
  cases d with
  | tuple xs => exact absurd rfl (h xs)
  | _ => rfl
section
variable {P : Program} {w : World} {K : PySem.W.Frag} {mg : Str → Option Value} {base : Heap}
theorem scIsKind : FnScope ["thing", "word", "many"] ["thing", "word", "many"] (defScope sIsKind) := ⟨rfl, rfl, rfl, by decide +kernel, rfl, by decide +kernel, by decide +kernel⟩
theorem ok_isKind {f : Addr} {fd : FuncData} (F : Fun K "is_kind" "is_kind" sIsKind f fd) (M : Mg mg) : FnOk P w K mg base CX0 1 f fd ["thing", "word", "many"] (spIsKind K) := by
  refine F.ok scIsKind (fun vs H Q E h => ?_) (fun cdv A outer s H vs Q E hr h => ?_)
  · obtain ⟨v, d, word, many, rfl, _⟩ := h
    rfl
  · obtain ⟨v, d, word, many, rfl, hm, hd, k⟩ := h
    refine ⟨_, pss_cons (ps_if (PW.pt (pw_or (pt_not (pt_val (pe_callB call_is (by rfl) M.isinstance boot_isinstance (pa_cons (pv 0) (pa_cons (pe_bltn (v := .ty "tuple") (by rfl) M.tuple (by decide +kernel) rfl) pa_nil)))))
        (pw_or1 (pt_cmpR op_ne (pe_callB call_len_seq (by rfl) M.len PySem.boot_len (pa_cons (pv 0) pa_nil)) (pv 2) (nomark _))))) (pss_one (ps_ret pe_bl)) pss_nil)
      (pss_one (ps_ret (pe_and (pe_callB call_is (by rfl) M.isinstance boot_isinstance (pa_cons (pe_ix ix_tup (pv 0) pe_int (fun _ _ => rfl)) (pa_cons (pe_bltn (v := .ty "str") (by rfl) M.str (by decide +kernel) rfl) pa_nil)))
        (pe_one (pe_cmpR op_eq (pe_ix ix_tup (pv 0) pe_int (fun _ _ => rfl)) (pv 1) (nomark _)))))), ?_⟩
    rcases kn_tuple hd with ⟨a, xs, ds, rfl, rfl, ha, hx⟩ | ⟨hn, n, kn, hnt⟩
    · refine ⟨_, rfl, .ref a, "tuple", "tuple", rfl, .tup ha, rfl, _, rfl, ?_⟩
      rw [show isB "tuple" "tuple" = true by decide]
      refine iteF ⟨_, rfl, a, xs, rfl, .inr ha, _, rfl, rfl, _, rfl, ?_⟩
      have hl := dpAll_len hx
      rw [dec_int]
      have kb : kindB word many (.tuple ds) = (decide (ds.length = many) && headIs word (ds.getD 0 .none)) := rfl
      rw [kb] at k
      by_cases e : ds.length = many
      · have e2 : (!((xs.length : Int) == (many : Int))) = false := by
          rw [hl, e, beq_self_eq_true]
          rfl
        rw [e2]
        rw [decide_eq_true e, Bool.true_and] at k
        obtain ⟨v0, h0, d0⟩ := dpAll_get 0 hx (by omega)
        have at0 : atI xs 0 = some v0 := at_of (j := 0) rfl h0
        refine iteF ⟨_, rfl, a, xs, 0, v0, rfl, rfl, ha, at0, ?_⟩
        generalize ds.getD 0 .none = dd at d0 k
        by_cases hs : ∃ z, dd = .str z
        · obtain ⟨z, rfl⟩ := hs
          cases d0
          refine ⟨.str z, "str", "str", rfl, .str z, rfl, _, rfl, ?_⟩
          rw [show isB "str" "str" = true by decide]
          refine iteT ⟨_, rfl, a, xs, 0, .str z, rfl, rfl, ha, at0, _, rfl, rfl, ?_⟩
          have e3 : headIs word (.str z) = decide (V.str z = V.str word) := decide_eq_decide.mpr ⟨fun e => by rw [e], fun e => by injection e⟩
          rwa [e3] at k
        · have hne : ∀ z, v0 ≠ .str z := fun z e => by
            subst e
            cases d0 with
            | str _ => exact hs ⟨_, rfl⟩
          have hk : headIs word dd = false := by
            cases dd with
            | str z => exact absurd ⟨z, rfl⟩ hs
            | _ => rfl
          obtain ⟨n, kn⟩ := Dp_kn d0
          refine ⟨v0, n, "str", rfl, kn, rfl, _, rfl, ?_⟩
          rw [kn.notStr (fun z => by
            subst z
            obtain ⟨y, e⟩ := kn.isStr
            exact hne y e)]
          refine iteF ?_
          rwa [hk] at k
      · have e2 : (!((xs.length : Int) == (many : Int))) = true := by
          have : ((xs.length : Int) == (many : Int)) = false := beq_eq_false_iff_ne.mpr (by omega)
          rw [this]
          rfl
        rw [e2]
        refine iteT ?_
        rwa [decide_eq_false e, Bool.false_and] at k
    · refine ⟨_, rfl, v, n, "tuple", rfl, kn, rfl, _, rfl, ?_⟩
      rw [kn.notTup hnt]
      refine iteT ?_
      rwa [kindB_not hn] at k
theorem scIsDrawer : FnScope ["thing"] ["thing"] (defScope sIsDrawer) := ⟨rfl, rfl, rfl, by decide +kernel, rfl, by decide +kernel, by decide +kernel⟩
theorem ok_isDrawer {f f1 : Addr} {fd fd1 : FuncData} (F : Fun K "is_drawer" "is_drawer" sIsDrawer f fd)
    (G1 : FnOk P w K mg base CX0 1 f1 fd1 ["thing", "word", "many"] (spIsKind K)) (m1 : mg "is_kind" = some (.ref f1)) (k1 : PySem.W.keepIn K (.ref f1) = true) (b1 : Binds K fd1 ["thing", "word", "many"] []) :
    FnOk P w K mg base CX0 2 f fd ["thing"] (spIsDrawer K) := by
  refine F.ok scIsDrawer (fun vs H Q E h => ?_) (fun cdv A outer s H vs Q E hr h => ?_)
  · obtain ⟨v, d, rfl, _⟩ := h
    rfl
  · obtain ⟨v, d, rfl, hd, k⟩ := h
    exact ⟨_, pss_one (ps_ret (pe_call (E := E0) G1 hr (by rfl) m1 k1 b1 .nil pass0 (pa_cons (pv 0) (pa_cons pe_str (pa_cons pe_int pa_nil))))), _, rfl, v, d, "drawer", 1, rfl, by decide, hd, k⟩
theorem scIsFile : FnScope ["thing"] ["thing"] (defScope sIsFile) := ⟨rfl, rfl, rfl, by decide +kernel, rfl, by decide +kernel, by decide +kernel⟩
theorem ok_isFile {f f1 f2 f3 P3 : Addr} {fd fd1 fd2 fd3 : FuncData} (F : Fun K "is_file" "is_file" sIsFile f fd)
    (G1 : FnOk P w K mg base CX0 1 f1 fd1 ["thing", "word", "many"] (spIsKind K)) (m1 : mg "is_kind" = some (.ref f1)) (k1 : PySem.W.keepIn K (.ref f1) = true) (b1 : Binds K fd1 ["thing", "word", "many"] [])
    (G2 : FnOk P w K mg base CX0 1 f2 fd2 ["thing"] (spIsNumber K)) (m2 : mg "is_number" = some (.ref f2)) (k2 : PySem.W.keepIn K (.ref f2) = true) (b2 : Binds K fd2 ["thing"] [])
    (G3 : FnOk P w K mg base CX0 3 f3 fd3 ["thing"] (spIsText K P3)) (m3 : mg "is_text" = some (.ref f3)) (k3 : PySem.W.keepIn K (.ref f3) = true) (b3 : Binds K fd3 ["thing"] []) :
    FnOk P w K mg base CX0 4 f fd ["thing"] (spIsFile K P3) := by
  refine F.ok scIsFile (fun vs H Q E h => ?_) (fun cdv A outer s H vs Q E hr h => ?_)
  · obtain ⟨v, d, rfl, _⟩ := h
    rfl
  · obtain ⟨v, d, rfl, hd, sd, hT, k⟩ := h
    have r1 := hr.mono (show 1 ≤ 3 by decide)
    refine ⟨_, pss_one (ps_ret (pe_and (pe_call (E := E0) G1 r1 (by rfl) m1 k1 b1 .nil pass0 (pa_cons (pv 0) (pa_cons pe_str (pa_cons pe_int pa_nil))))
      (pe_and (pe_call (E := E0) G2 r1 (by rfl) m2 k2 b2 .nil pass0 (pa_cons (pe_ix ix_tup (pv 0) pe_int (fun _ _ => rfl)) pa_nil))
      (pe_one (pe_call (E := E0) G3 hr (by rfl) m3 k3 b3 .nil pass0 (pa_cons (pe_ix ix_tup (pv 0) pe_int (fun _ _ => rfl)) pa_nil)))))), ?_⟩
    refine ⟨_, rfl, v, d, "file", 3, rfl, by decide, hd, _, rfl, ?_⟩
    have fb : fileB d = (kindB "file" 3 d && (numB (partD 1 d) && textDB (partD 2 d))) := rfl
    rw [fb] at k
    cases hk : kindB "file" 3 d with
    | false =>
      rw [hk, Bool.false_and] at k
      exact iteF (k H (Ex.refl H))
    | true =>
      rw [hk, Bool.true_and] at k
      rcases kn_tuple hd with ⟨a, xs, ds, rfl, rfl, ha, hx⟩ | ⟨hn, _⟩
      · have hl : ds.length = 3 := by
          have : (decide (ds.length = 3) && headIs "file" (ds.getD 0 .none)) = true := hk
          rw [Bool.and_eq_true] at this
          exact of_decide_eq_true this.1
        have hs : smallAll ds = true := by
          unfold smallD at sd
          exact sd
        obtain ⟨v1, h1, d1⟩ := dpAll_get 1 hx (by omega)
        obtain ⟨v2, h2, d2⟩ := dpAll_get 2 hx (by omega)
        refine iteT ⟨_, rfl, a, xs, 1, v1, rfl, rfl, ha, at_of (j := 1) rfl h1, v1, ds.getD 1 .none, rfl, d1, _, rfl, ?_⟩
        have p1 : partD 1 (.tuple ds) = ds.getD 1 .none := rfl
        have p2 : partD 2 (.tuple ds) = ds.getD 2 .none := rfl
        rw [p1, p2] at k
        cases hn1 : numB (ds.getD 1 .none) with
        | false =>
          rw [hn1, Bool.false_and] at k
          exact iteF (k H (Ex.refl H))
        | true =>
          rw [hn1, Bool.true_and] at k
          refine iteT ⟨_, rfl, a, xs, 2, v2, rfl, rfl, ha, at_of (j := 2) rfl h2, v2, rfl, Dp_asked d2 (smallAll_get 2 hs (by omega)), hT, fun H' x => ?_⟩
          rw [Dp_text d2]
          exact k H' x
      · rw [kindB_not hn] at hk
        cases hk
end
/-! ### drawers above, one text each -/
def drawerAt (es : Ents) (p : List Str) : Bool := match valE es p with
  | some d => drawerB d
  | none => false
def roofB (es : Ents) : Bool := drawerAt es [] && es.all fun e => decide (e.1 = []) || drawerAt es e.1.dropLast
/-- a tuple that begins with a text -/
def headedD (d : PyData) : Prop := ∃ w ds, d = .tuple (.str w :: ds)
def dirD (d : PyData) : Bool := headIs "drawer" (partD 0 d)
def dirAt (es : Ents) (p : List Str) : Bool := match valE es p with
  | some d => dirD d
  | none => false
def roofH (es : Ents) : Bool := dirAt es [] && es.all fun e => decide (e.1 = []) || dirAt es e.1.dropLast
theorem valE_mem {es : Ents} {p : List Str} {D : PyData} (h : valE es p = some D) : ∃ e ∈ es, e.1 = p ∧ e.2 = D := by
  unfold valE at h
  obtain ⟨e, h1, h2⟩ := Option.map_eq_some_iff.mp h
  exact ⟨e, List.mem_of_find?_eq_some h1, of_decide_eq_true (List.find?_some (p := fun e : List Str × PyData => decide (e.1 = p)) h1), h2⟩
theorem kind_headed {word : Str} {many : Nat} {d : PyData} (hm : 0 < many) (h : kindB word many d = true) : ∃ ds, d = .tuple (.str word :: ds) := by
  cases d with
  | tuple ds =>
    have : (decide (ds.length = many) && headIs word (ds.getD 0 .none)) = true := h
    rw [Bool.and_eq_true] at this
    obtain ⟨h1, h2⟩ := this
    have hl := of_decide_eq_true h1
    cases ds with
    | nil => exact absurd hl (by show ¬ (0 = many); omega)
    | cons x ds =>
      cases x with
      | str z =>
        have : z = word := of_decide_eq_true h2
        exact ⟨ds, by rw [this]⟩
      | _ => exact absurd (show false = true from h2) Bool.false_ne_true
  | _ => exact absurd (show false = true from h) Bool.false_ne_true
theorem file_kind {d : PyData} (h : fileB d = true) : kindB "file" 3 d = true := by
  unfold fileB at h
  exact (Bool.and_eq_true _ _ ▸ h).1
theorem tree_headed {d : PyData} (h : drawerB d = true ∨ fileB d = true) : headedD d := by
  rcases h with h | h
  · obtain ⟨ds, e⟩ := kind_headed (by decide) (show kindB "drawer" 1 d = true from h)
    exact ⟨_, _, e⟩
  · obtain ⟨ds, e⟩ := kind_headed (by decide) (file_kind h)
    exact ⟨_, _, e⟩
theorem dir_tree {d : PyData} (h : drawerB d = true ∨ fileB d = true) : dirD d = drawerB d := by
  rcases h with h | h
  · obtain ⟨ds, e⟩ := kind_headed (by decide) (show kindB "drawer" 1 d = true from h)
    rw [h, e]
    rfl
  · obtain ⟨ds, e⟩ := kind_headed (by decide) (file_kind h)
    have : drawerB d = false := by
      rw [e]
      show (decide _ && headIs "drawer" (.str "file")) = false
      rw [show headIs "drawer" (.str "file") = false by decide +kernel, Bool.and_false]
    rw [this, e]
    show headIs "drawer" (.str "file") = false
    decide +kernel
theorem roof_tree {es : Ents} (h : ∀ e ∈ es, drawerB e.2 = true ∨ fileB e.2 = true) : roofH es = roofB es := by
  have e : dirAt es = drawerAt es := by
    funext p
    unfold dirAt drawerAt
    cases hv : valE es p with
    | none => rfl
    | some d =>
      obtain ⟨x, hx, _, rfl⟩ := valE_mem hv
      exact dir_tree (h x hx)
  unfold roofH roofB
  rw [e]
/-- the places that are asked: the root, and what is above each path -/
def topsOf (es : Ents) : List (List Str) := [] :: (es.filter fun e => !decide (e.1 = [])).map fun e => e.1.dropLast
theorem topsOf_allF (es : Ents) (f : List Str → Bool) : (topsOf es).all f = (f [] && es.all fun e => decide (e.1 = []) || f e.1.dropLast) := by
  unfold topsOf
  rw [List.all_cons]
  congr 1
  induction es with
  | nil => rfl
  | cons e es ih =>
    rw [List.all_cons, ← ih]
    by_cases h : e.1 = []
    · rw [List.filter_cons_of_neg (by rw [decide_eq_true h]; decide), decide_eq_true h, Bool.true_or, Bool.true_and]
    · rw [List.filter_cons_of_pos (by rw [decide_eq_false h]; rfl), List.map_cons, List.all_cons, decide_eq_false h, Bool.false_or]
theorem topsOf_all (es : Ents) : (topsOf es).all (dirAt es) = roofH es := topsOf_allF es _
/-- what is above the first n paths -/
def aboveOf (es : Ents) : List (List Str) := (es.filter fun e => !decide (e.1 = [])).map fun e => e.1.dropLast
theorem aboveOf_snoc (es : Ents) (e : List Str × PyData) : aboveOf (es ++ [e]) = if e.1 = [] then aboveOf es else aboveOf es ++ [e.1.dropLast] := by
  unfold aboveOf
  by_cases h : e.1 = []
  · rw [if_pos h, List.filter_append, List.filter_cons_of_neg (by rw [decide_eq_true h]; decide), List.filter_nil, List.append_nil]
  · rw [if_neg h, List.filter_append, List.filter_cons_of_pos (by rw [decide_eq_false h]; rfl), List.filter_nil, List.map_append]
    rfl
def spHasDrawers (K : PySem.W.Frag) (P1 P2 P4 : Addr) : Sp := fun vs H Q _ => ∃ d es, vs = [.ref d] ∧ TrAt K H d es ∧ (∀ e ∈ es, goodPath e.1 = true ∧ headedD e.2) ∧ es.length ≤ 1000 ∧ TabG H P1 ∧ TabG H P2 ∧ TabG H P4 ∧ ∀ H', Ex H H' → Q (.bl (roofH es)) H'
section
variable {P : Program} {w : World} {K : PySem.W.Frag} {mg : Str → Option Value} {base : Heap}
abbrev hdN : List Str := ["tree", "tops", "path"]
theorem scHasDrawers : FnScope hdN ["tree"] (defScope sHasDrawers) := ⟨rfl, rfl, rfl, by decide +kernel, rfl, by decide +kernel, by decide +kernel⟩
theorem ok_hasDrawers {f c fA P1 P2 P4 C : Addr} {fd fdA : FuncData} (F : FunC K "has_drawers_above" "has_drawers_above" sHasDrawers f fd c) (M : Mg mg) (TB : LamX.TabB base mg c P4)
    (GA : FnOk P w K mg base (L2.CX P w) 7 fA fdA ["path"] (spAboveX K P1 P2 C)) (mA : mg "above" = some (.ref fA)) (kA : PySem.W.keepIn K (.ref fA) = true) (bA : Binds K fdA ["path"] []) :
    FnOk P w K mg base CX0 8 f fd ["tree"] (spHasDrawers K P1 P2 P4) := by
  refine F.ok scHasDrawers (fun vs H Q E h => ?_) (fun A outer s H vs Q E hr h => ?_)
  · obtain ⟨d, es, rfl, _⟩ := h
    rfl
  · obtain ⟨d, es, rfl, ⟨kvs, hd, row⟩, hg, hl, hT1, hT2, hT4, k⟩ := h
    have r4 := hr.mono (show 4 ≤ 7 by decide)
    refine ⟨_, pss_cons (ps_set (i := 1) scHasDrawers.nd rfl (Or.inl rfl) (pe_op op_cat (pe_lst (pa_cons (pe_tup pa_nil) pa_nil))
        (pe_lockR (pe_lc (own := [("path", 2)]) (g := gName 2) (tt := tTru K (tVar 2)) rfl scHasDrawers.nd (pi_keys (pv 0)) (blkOk_by (N := hdN) (sc := defScope sHasDrawers) (by decide +kernel)) (fun _ _ _ _ _ => pg_name (i := 2) scHasDrawers.nd rfl (Or.inl rfl))
          (fun _ _ _ _ _ => pts_truth (pv 2) (by intro _; rfl)) (fun _ _ _ _ _ => pe_call (E := E0) GA hr (by rfl) mA kA bA .nil passL (pa_cons (pv 2) pa_nil))))))
      (pss_one (ps_ret (pe_all (k := 3) (N := ["tree", "tops", "path", "top"]) (pad := 1) (j := 3) (x := "top") (P := P4) r4 rfl (by rfl) M.all TB rfl (gn_by (N0 := hdN) (sc := defScope sHasDrawers) (by decide +kernel)) (pi_list (pv 1))
        (fun A s H cl C code fp pn hr => pe_and (pe_cmp (pc_din (by have := hr.units; show A.units + 1 < cLine; omega) (pv 3) (pv 0))) (pe_one (pe_cmpR op_eq (pe_ix (r := rIxT K) ix_tup (pe_dget (by have := hr.units; show A.units + 1 < cLine; omega) (pv 0) (pv 3) (fun _ _ => rfl)) pe_int (fun _ _ => rfl)) pe_str (nomark _))))))), ?_⟩
    -- the root in a list
    refine ⟨Nat.zero_le _, fun p0 h0 => ⟨(by show 1 ≤ sizeLine; decide), fun p1 h1 => ?_⟩⟩
    have xa := (Ex.new (o := .tup []) h0).trans (Ex.new (o := .lst [.ref p0]) h1)
    have t0 : PathX (upd (upd H p0 (.tup [])) p1 (.lst [.ref p0])) p0 [] := PathX.ex (Ex.new h1) upd_same
    have l1 : (upd (upd H p0 (.tup [])) p1 (.lst [.ref p0])) p1 = some (.lst [.ref p0]) := upd_same
    generalize upd (upd H p0 (.tup [])) p1 (.lst [.ref p0]) = Ha at xa t0 l1 ⊢
    have hd1 : Rd Ha d (.dT kvs) := xa.rd hd (fun ps z => by cases z)
    -- what is above each path
    refine lock_go hd1 fun H1 od R lk lt lf ld hR => ⟨_, rfl, d, od, rfl, .inr ⟨kvs, ld, fun D hD => ?_⟩⟩
    have hDd : D ≠ d := fun z => by
      rw [z, ld] at hD
      cases hD
    refine lc_it walk_keysT (fun i G => Ex H1 G ∧ ∃ rs : List Addr, G D = some (.lst (rs.map V.ref)) ∧ rs.length ≤ i ∧ Paired (fun r p => PathX G r p) rs (aboveOf (es.take i)))
      ⟨Ex.new hD, [], upd_same, Nat.le_refl _, .nil⟩ (fun i G _ h => h.1.keep _ _ ld (fun ps z => by cases z)) ?_ ?_
    · rintro i x G G' hi ⟨xg, rs, hrs, hlen, hp⟩ ⟨rfl, kk, v, q, hk, rfl, hq⟩
      obtain ⟨en, hen, ek, _⟩ := row.get hk
      have ek : kk = en.1.map Sum.inr := ek
      rw [ek] at hq
      have pq : PathX G' q en.1 := PathX.of_key hq
      have hes : i < es.length := by rw [← row.len]; exact hi
      have etake : es.take (i + 1) = es.take i ++ [en] := by rw [List.take_add_one, hen]; rfl
      have hgo := (hg en (List.mem_of_getElem? hen)).1
      by_cases hn : en.1 = []
      · rw [hn] at pq
        refine ⟨rfl, _, rfl, false, .inr (.inl ⟨[], SqT.of pq, rfl⟩), ?_⟩
        refine iteF ⟨xg, rs, hrs, by omega, ?_⟩
        rw [etake, aboveOf_snoc, if_pos hn]
        exact hp
      · refine ⟨rfl, _, rfl, true, .inr (.inl ⟨en.1.map V.str, SqT.of pq, ?_⟩), ?_⟩
        · cases h : en.1 with
          | nil => exact absurd h hn
          | cons z r => rfl
        refine iteT ⟨_, rfl, .ref q, rfl, xg.tab _ (lt _ (xa.tab _ hT1)), xg.tab _ (lt _ (xa.tab _ hT2)), .inr ⟨q, en.1, rfl, pq.at, hgo, fun G2 r x2 hr2 => ?_⟩⟩
        rcases hr2 with ⟨h, _⟩ | ⟨_, r, rfl, pr⟩
        · exact absurd h hn
        have hrs2 := x2.keep _ _ hrs (fun ps z => by cases z)
        have stay : ∀ {u : Addr} {t : List Str}, PathX G2 u t → PathX (upd G2 D (.lst (rs.map V.ref ++ [.ref r]))) u t := fun {u t} h => by
          show upd _ _ _ _ = _
          rw [upd_ne (ne_of h hrs2 (fun z => by cases z))]
          exact h
        refine ⟨rs.map V.ref, hrs2, ?_, (xg.trans x2).put hD, rs ++ [r], ?_, ?_, ?_⟩
        · rw [List.length_map, sizeLine_eq]
          omega
        · rw [upd_same, List.map_append]
          rfl
        · rw [List.length_append, List.length_singleton]
          omega
        · rw [etake, aboveOf_snoc, if_neg hn]
          exact pairSnoc (F := fun r q => PathX _ r q) (stay pr) (pairImp (fun u t h => stay (PathX.ex x2 h)) hp)
    · rintro G ⟨xg, rs, hrs, hlen, hp⟩
      refine hR (.ref D) G xg fun H2 x2 kp => ?_
      have hrs2 := kp D _ hrs hDd
      have hp2 : Paired (fun r p => PathX H2 r p) rs (aboveOf (es.take kvs.length)) := pairImp (fun u t h => kp u _ h fun z => by
        have hdG := xg.keep _ _ ld (fun ps z => by cases z)
        have h' : G u = some (.tup (t.map V.str)) := h
        rw [z, hdG] at h'
        cases h') hp
      rw [row.len, List.take_length] at hp2
      have l2 := x2.keep _ _ l1 (fun ps z => by cases z)
      refine ⟨p1, D, [.ref p0], rs.map V.ref, rfl, rfl, l2, hrs2, ?_, fun p hp3 => ?_⟩
      · rw [List.length_map, sizeLine_eq, row.len] at *
        show 1 + rs.length ≤ _
        omega
      have x3 := Ex.new (o := .lst ([.ref p0] ++ rs.map V.ref)) hp3
      have all3 : Paired (fun u t => PathX (upd H2 p (.lst ([.ref p0] ++ rs.map V.ref))) u t) (p0 :: rs) (topsOf es) := .cons ((t0.ex x2).ex x3) (pairImp (fun _ _ h => PathX.ex x3 h) hp2)
      have l3 : (upd H2 p (.lst ([.ref p0] ++ rs.map V.ref))) p = some (.lst ((p0 :: rs).map V.ref)) := upd_same
      have x0 := (xa.trans x2).trans x3
      generalize upd H2 p (.lst ([.ref p0] ++ rs.map V.ref)) = H3 at all3 l3 x0 ⊢
      refine ⟨_, rfl, p, rfl, ⟨_, SqL.of l3⟩, x0.tab _ hT4, fun H4 hT => ?_⟩
      have x4 := x0.trans (Ex.tabd hT (x0.tab _ hT4))
      have xt := Ex.tabd hT (x0.tab _ hT4)
      have l4 := xt.keep _ _ l3 (fun ps z => by cases z)
      refine gw_lst (xs := (p0 :: rs).map V.ref) (fun i => dirAt es ((topsOf es).getD i [])) (SqL.of l4) (fun G x => SqL.of (x.keep _ _ l4 (fun ps z => by cases z))) ?_ ?_
      · intro i y G5 hy x5 R5 hR5
        rw [List.getElem?_map] at hy
        obtain ⟨r, hr5, rfl⟩ := Option.map_eq_some_iff.mp hy
        obtain ⟨t, ht, pt⟩ := paired_get all3 hr5
        have px : PathX G5 r t := (PathX.ex xt pt).ex x5
        have hd5 : Rd G5 d (.dT kvs) := (x4.trans x5).rd hd (fun ps z => by cases z)
        have row5 := row.ex (x4.trans x5)
        have et : (topsOf es).getD i [] = t := by rw [List.getD_eq_getElem?_getD, ht]; rfl
        rw [et] at hR5
        refine ⟨_, rfl, _, rfl, d, _, rfl, get_tr hd5 px, _, rfl, ?_⟩
        rcases row5.val (p := t) with ⟨e1, e2⟩ | ⟨v, D0, e1, e2, dv⟩
        · rw [e1]
          refine iteF ?_
          have := hR5 G5 x5
          rwa [show dirAt es t = false by unfold dirAt; rw [e2]] at this
        · rw [e1]
          obtain ⟨en, hen, _, rfl⟩ := valE_mem e2
          obtain ⟨wd, ds, ed⟩ := (hg en hen).2
          rw [ed] at dv
          rcases kn_tuple dv with ⟨a0, ys, ds', rfl, ed', ha, hy⟩ | ⟨hn, _⟩
          rotate_left
          · exact absurd rfl (hn _)
          cases ed'
          obtain ⟨w0, at0, d0⟩ := dpAll_get 0 hy (by simp)
          cases d0
          refine iteT ⟨_, rfl, _, rfl, d, .ref a0, rfl, by have := get_tr hd5 px; rwa [e1] at this, a0, ys, 0, .str wd, rfl, rfl, ha, at_of (j := 0) rfl at0, rfl, ?_⟩
          have := hR5 G5 x5
          rwa [show dirAt es t = decide (V.str wd = V.str "drawer") by
            unfold dirAt
            rw [e2, ed]
            exact decide_eq_decide.mpr ⟨fun e => by rw [e], fun e => by injection e⟩] at this
      · intro G5 x5
        have := k G5 (x4.trans x5)
        have e : (List.range ((p0 :: rs).map V.ref).length).all (fun i => dirAt es ((topsOf es).getD i [])) = roofH es := by
          rw [List.length_map, all3.length, ← topsOf_all]
          exact all_of_range (dirAt es) (topsOf es) _ fun i x e => by rw [List.getD_eq_getElem?_getD, e]; rfl
        rwa [e]
end
/-! ### one text to each number -/
def textsGo : List (L2.Key × V) → List PyData → Bool
  | _, [] => true
  | seen, d :: ds => if fileB d = true then
      (match partD 1 d, partD 2 d with
      | .int n, .str z => match valV seen (Sum.inl n) with
        | some (.str y) => if y = z then textsGo seen ds else false
        | some _ => false
        | none => textsGo (putK seen (Sum.inl n) (.str z)) ds
      | _, _ => false)
    else textsGo seen ds
def oneTextB (ds : List PyData) : Bool := textsGo [] ds
def spOneText (K : PySem.W.Frag) (P3 : Addr) : Sp := fun vs H Q _ => ∃ l xs ds, vs = [.ref l] ∧ SqL K H l xs ∧ (∀ H', Ex H H' → SqL K H' l xs) ∧ DpAll K H xs ds ∧ smallAll ds = true ∧ ds.length ≤ 1000 ∧ TabG H P3 ∧ ∀ H', Ex H H' → Q (.bl (oneTextB ds)) H'
theorem file_parts {d : PyData} (h : fileB d = true) : ∃ ds n z, d = .tuple ds ∧ ds.length = 3 ∧ partD 1 d = .int n ∧ partD 2 d = .str z ∧ ds.getD 1 .none = .int n ∧ ds.getD 2 .none = .str z := by
  unfold fileB at h
  simp only [Bool.and_eq_true] at h
  obtain ⟨h1, h2, h3⟩ := h
  cases d with
  | tuple ds =>
    have hl : ds.length = 3 := by
      have : (decide (ds.length = 3) && headIs "file" (ds.getD 0 .none)) = true := h1
      rw [Bool.and_eq_true] at this
      exact of_decide_eq_true this.1
    have p1 : partD 1 (.tuple ds) = ds.getD 1 .none := rfl
    have p2 : partD 2 (.tuple ds) = ds.getD 2 .none := rfl
    rw [p1] at h2
    rw [p2] at h3
    cases e1 : ds.getD 1 .none with
    | int n =>
      cases e2 : ds.getD 2 .none with
      | str z => exact ⟨ds, n, z, rfl, hl, p1.trans e1, p2.trans e2, e1, e2⟩
      | _ => rw [e2] at h3; exact absurd (show false = true from h3) Bool.false_ne_true
    | _ => rw [e1] at h2; exact absurd (show false = true from h2) Bool.false_ne_true
  | _ => exact absurd (show false = true from h1) Bool.false_ne_true
theorem textsGo_not {seen : List (L2.Key × V)} {d : PyData} {ds : List PyData} (h : fileB d = false) : textsGo seen (d :: ds) = textsGo seen ds := by
  rw [textsGo, if_neg (by rw [h]; decide)]
theorem textsGo_new {seen : List (L2.Key × V)} {d : PyData} {ds : List PyData} {n : Int} {z : Str} (h : fileB d = true) (h1 : partD 1 d = .int n) (h2 : partD 2 d = .str z) (hn : valV seen (Sum.inl n) = none) :
    textsGo seen (d :: ds) = textsGo (putK seen (Sum.inl n) (.str z)) ds := by
  rw [textsGo, if_pos h, h1, h2]
  simp only [hn]
theorem textsGo_old {seen : List (L2.Key × V)} {d : PyData} {ds : List PyData} {n : Int} {z y : Str} (h : fileB d = true) (h1 : partD 1 d = .int n) (h2 : partD 2 d = .str z) (hn : valV seen (Sum.inl n) = some (.str y)) :
    textsGo seen (d :: ds) = if y = z then textsGo seen ds else false := by
  rw [textsGo, if_pos h, h1, h2]
  simp only [hn]
section
variable {P : Program} {w : World} {K : PySem.W.Frag} {mg : Str → Option Value} {base : Heap}
abbrev otN : List Str := ["things", "texts", "thing"]
theorem scHasOneText : FnScope otN ["things"] (defScope sHasOneText) := ⟨rfl, rfl, rfl, by decide +kernel, rfl, by decide +kernel, by decide +kernel⟩
theorem ok_hasOneText {f fF P3 : Addr} {fd fdF : FuncData} (F : Fun K "has_one_text_each" "has_one_text_each" sHasOneText f fd)
    (GF : FnOk P w K mg base CX0 4 fF fdF ["thing"] (spIsFile K P3)) (mF : mg "is_file" = some (.ref fF)) (kF : PySem.W.keepIn K (.ref fF) = true) (bF : Binds K fdF ["thing"] []) :
    FnOk P w K mg base CX0 5 f fd ["things"] (spOneText K P3) := by
  refine F.ok scHasOneText (fun vs H Q E h => ?_) (fun cdv A outer s H vs Q E hr h => ?_)
  · obtain ⟨l, xs, ds, rfl, _⟩ := h
    rfl
  · obtain ⟨l, xs, ds, rfl, hl, hst, hx, hsm, hlen, hT, k⟩ := h
    refine ⟨_, pss_cons (ps_set (i := 1) scHasOneText.nd rfl (Or.inl rfl) pe_dnewK)
      (pss_cons (ps_for PassesOwn.never rfl (pi_list (pv 0)) (pg_name (i := 2) scHasOneText.nd rfl (Or.inl rfl))
        (pss_one (ps_if (PW.pt (pw_and (pt_val (pe_call (E := E0) GF hr (by rfl) mF kF bF .nil pass0 (pa_cons (pv 2) pa_nil)))
          (pw_and1 (pt_cmpR op_ne (pe_bm PySem.F.plainAttrs_dict PySem.F.slot_dict_setdefault PySem.F.type_dict_setdefault mt_setDef (pv 1) (pa_cons (pe_ix ix_tup (pv 2) pe_int (fun _ _ => rfl)) (pa_cons (pe_ix ix_tup (pv 2) pe_int (fun _ _ => rfl)) pa_nil)))
            (pe_ix ix_tup (pv 2) pe_int (fun _ _ => rfl)) (nomark _))))) (pss_one (ps_ret pe_bl)) pss_nil)))
      (pss_one (ps_ret pe_bl))), ?_⟩
    intro p hp
    have hld := dpAll_len hx
    have xp := Ex.new (o := .dK []) hp
    refine ⟨_, rfl, l, rfl, ⟨xs, hst _ xp⟩, for_it walk_list (fun i σ G => (∃ v, σ = [some (.ref l), some (.ref p), v]) ∧ Ex H G ∧ ∃ seen : List (L2.Key × V), G p = some (.dK seen) ∧ seen.length ≤ i ∧ (∀ k v, valV seen k = some v → ∃ z, v = .str z) ∧
      textsGo seen (ds.drop i) = oneTextB ds) ⟨⟨none, rfl⟩, xp, [], upd_same, Nat.le_refl _, (fun k v h => by cases h), rfl⟩ (fun i σ G _ h => hst G h.2.1) ?_ ?_⟩
    · rintro i x σ G G' hi ⟨⟨v, rfl⟩, xg, seen, hs, hsl, hstr, hgo⟩ ⟨rfl, hxi⟩
      obtain ⟨v', hv', dv⟩ := dpAll_get i hx (by rw [← hld]; exact hi)
      rw [hxi] at hv'
      cases hv'
      have hdrop : ds.drop i = ds.getD i .none :: ds.drop (i + 1) := by
        have hi2 : i < ds.length := by rw [← hld]; exact hi
        rw [List.drop_eq_getElem_cons hi2, List.getD_eq_getElem?_getD, List.getElem?_eq_getElem hi2]
        rfl
      have sm := smallAll_get i hsm (by rw [← hld]; exact hi)
      rw [hdrop] at hgo
      generalize ds.getD i .none = d at dv sm hgo
      have dv := Dp_ex xg dv
      refine ⟨_, rfl, x, d, rfl, dv, sm, xg.tab _ hT, fun G1 x1 => ?_⟩
      have hs1 := x1.keep _ _ hs (fun ps z => by cases z)
      have x01 := xg.trans x1
      cases hf : fileB d with
      | false =>
        rw [textsGo_not hf] at hgo
        refine ⟨_, rfl, iteF (iteF ⟨⟨_, rfl⟩, x01, seen, hs1, by omega, hstr, hgo⟩)⟩
      | true =>
        obtain ⟨fs, n, z, rfl, hl3, e1, e2, g1, g2⟩ := file_parts hf
        obtain ⟨a, ys, ds', rfl, ed, ha, hy⟩ | ⟨hn, _⟩ := kn_tuple (Dp_ex x1 dv)
        · cases ed
          obtain ⟨v1, at1, d1⟩ := dpAll_get 1 hy (by omega)
          obtain ⟨v2, at2, d2⟩ := dpAll_get 2 hy (by omega)
          rw [g1] at d1
          rw [g2] at d2
          cases d1
          cases d2
          have a1 : atI ys 1 = some (.int n) := at_of (j := 1) rfl at1
          have a2 : atI ys 2 = some (.str z) := at_of (j := 2) rfl at2
          have hl4 : seen.length < sizeLine := by
            rw [sizeLine_eq]
            omega
          refine ⟨_, rfl, iteT ⟨_, rfl, .inr (.inr (.inl ⟨rfl, .inl ⟨_, hs1⟩⟩)), _, rfl, a, ys, 1, .int n, rfl, rfl, ha, a1, _, rfl, a, ys, 2, .str z, rfl, rfl, ha, a2, p, seen, .inl n, .str z, rfl, rfl, hs1, hl4, fun y hyv => ?_, fun hnv => ?_⟩⟩
          · obtain ⟨y, rfl⟩ := hstr _ _ hyv
            rw [textsGo_old hf e1 e2 hyv] at hgo
            refine ⟨_, rfl, a, ys, 2, .str z, rfl, rfl, ha, a2, rfl, _, rfl, ?_⟩
            by_cases hyz : y = z
            · subst hyz
              rw [if_pos rfl] at hgo
              rw [decide_eq_true rfl]
              exact iteF ⟨⟨_, rfl⟩, x01, seen, hs1, by omega, hstr, hgo⟩
            · rw [if_neg hyz] at hgo
              rw [decide_eq_false (fun e => hyz (by injection e))]
              refine iteT ?_
              have := k G1 x01
              rwa [← hgo] at this
          · rw [textsGo_new hf e1 e2 hnv] at hgo
            have put : Ex H (upd G1 p (.dK (putK seen (Sum.inl n) (.str z)))) := x01.put hp
            have ha2 : SqT K (upd G1 p (.dK (putK seen (Sum.inl n) (.str z)))) a ys := by
              have hd1 : Rd G1 p (.dK seen) := Or.inl hs1
              rcases ha with (h | ⟨o, h⟩) | h
              · exact Or.inl (Or.inl (by rw [upd_ne (ne_of h hs1 (fun z => by cases z))]; exact h))
              · exact Or.inl (Or.inr ⟨o, by rw [upd_ne (ne_of h hs1 (fun z => by cases z))]; exact h⟩)
              · exact Or.inr h
            refine ⟨_, rfl, a, ys, 2, .str z, rfl, rfl, ha2, a2, rfl, _, rfl, ?_⟩
            rw [decide_eq_true rfl]
            refine iteF ⟨⟨_, rfl⟩, put, putK seen (Sum.inl n) (.str z), upd_same, ?_, fun k v hkv => ?_, hgo⟩
            · have := length_putK seen (Sum.inl n) (V.str z)
              omega
            · rw [valV_put] at hkv
              split at hkv
              · exact ⟨z, (Option.some.inj hkv).symm⟩
              · exact hstr k v hkv
        · exact absurd rfl (hn fs)
    · rintro σ G ⟨⟨v, rfl⟩, xg, seen, hs, hsl, hstr, hgo⟩
      have : ds.drop xs.length = [] := by rw [hld, List.drop_length]
      rw [this] at hgo
      have hk := k G xg
      rwa [← hgo] at hk
end
/-! ### is_tree -/
def treeB (es : Ents) : Bool := decide (es.length ≤ 80) && ((es.all fun e => goodPath e.1) && ((es.all fun e => drawerB e.2 || fileB e.2) && (roofB es && oneTextB (es.map (·.2)))))
/-- nothing in it is longer than a line -/
def smallE (es : Ents) : Prop := (∀ e ∈ es, (∀ z ∈ e.1, z.length ≤ sizeLine) ∧ smallD e.2 = true) ∧ es.length ≤ 1000
structure Tabs5 (H : Hp) (P1 P2 P3 P4 P5 : Addr) : Prop where
  t1 : TabG H P1
  t2 : TabG H P2
  t3 : TabG H P3
  t4 : TabG H P4
  t5 : TabG H P5
theorem Tabs5.ex {H H' : Hp} {P1 P2 P3 P4 P5 : Addr} (x : Ex H H') (T : Tabs5 H P1 P2 P3 P4 P5) : Tabs5 H' P1 P2 P3 P4 P5 := ⟨x.tab _ T.t1, x.tab _ T.t2, x.tab _ T.t3, x.tab _ T.t4, x.tab _ T.t5⟩
/-- is the thing a tree? -/
inductive TreeQ (K : PySem.W.Frag) (H : Hp) : V → Bool → Prop
  | dict {d : Addr} {es : Ents} (t : TrAt K H d es) (s : smallE es) : TreeQ K H (.ref d) (treeB es)
  | oth {v : V} {n : String} (k : Kn K H v n) (h : n ≠ "dict") : TreeQ K H v false
  | mix {d : Addr} {ob : Obj} {q : Addr} {z : Str} {p : List Str} (e : H d = some (mixO d ob q z)) (px : PathX H q p) (gp : goodPath p = true) : TreeQ K H (.ref d) false
theorem TreeQ.ex {K : PySem.W.Frag} {H H' : Hp} {v : V} {b : Bool} (x : Ex H H') (h : TreeQ K H v b) : TreeQ K H' v b := by
  cases h with
  | dict t s => exact .dict (t.ex x) s
  | oth k h => exact .oth (k.ex x) h
  | mix e px gp => exact .mix (x.keep _ _ e (fun ps z => by cases z)) (PathX.ex x px) gp
def rLenX : List V → Hp → VK → Prop := fun xs H Q => rLenR xs H Q ∨ rLenM xs H Q
theorem call_lenX {X : Cx} : CallR X (.builtin "len") rLenX := by
  intro pins s σ H xs us Q I r h
  rcases h with h | h
  · exact call_lenR pins s σ H xs us Q I r h
  · exact call_lenM pins s σ H xs us Q I r h
def spIsTree (K : PySem.W.Frag) (P1 P2 P3 P4 P5 : Addr) : Sp := fun vs H Q _ => ∃ v b, vs = [v] ∧ TreeQ K H v b ∧ Tabs5 H P1 P2 P3 P4 P5 ∧ ∀ H', Ex H H' → Q (.bl b) H'
def pathOf (k : List L2.Key) : List Str := k.map fun x => match x with
  | .inr z => z
  | .inl _ => ""
theorem pathOf_inr (p : List Str) : pathOf (p.map Sum.inr) = p := by
  unfold pathOf
  rw [List.map_map]
  exact List.map_id' p
theorem row_dpAll {K : PySem.W.Frag} {H : Hp} : ∀ {kvs : List (List L2.Key × V)} {es : Ents}, RowE K H kvs es → DpAll K H (kvs.map (·.2)) (es.map (·.2))
  | _, _, .nil => .nil
  | _, _, .cons a t => .cons a.2 (row_dpAll t)
theorem smallAll_of : ∀ {ds : List PyData}, (∀ d ∈ ds, smallD d = true) → smallAll ds = true
  | [], _ => by unfold smallAll; rfl
  | d :: ds, h => by
    unfold smallAll
    rw [h d (List.mem_cons_self ..), smallAll_of fun x hx => h x (List.mem_cons_of_mem _ hx)]
    rfl
section
variable {P : Program} {w : World} {K : PySem.W.Frag} {mg : Str → Option Value} {base : Heap}
abbrev itN : List Str := ["thing", "things"]
theorem scIsTree : FnScope itN ["thing"] (defScope sIsTree) := ⟨rfl, rfl, rfl, by decide +kernel, rfl, by decide +kernel, by decide +kernel⟩
theorem ok_isTree {f c fP fD fF fH fO P1 P2 P3 P4 P5 : Addr} {fd fdP fdD fdF fdH fdO : FuncData} (F : FunC K "is_tree" "is_tree" sIsTree f fd c) (M : Mg mg) (R : MgR mg) (TB : LamX.TabB base mg c P5)
    (GP : FnOk P w K mg base CX0 5 fP fdP ["thing"] (spIsPath K P1 P2)) (mP : mg "is_path" = some (.ref fP)) (kP : PySem.W.keepIn K (.ref fP) = true) (bP : Binds K fdP ["thing"] [])
    (GD : FnOk P w K mg base CX0 2 fD fdD ["thing"] (spIsDrawer K)) (mD : mg "is_drawer" = some (.ref fD)) (kD : PySem.W.keepIn K (.ref fD) = true) (bD : Binds K fdD ["thing"] [])
    (GF : FnOk P w K mg base CX0 4 fF fdF ["thing"] (spIsFile K P3)) (mF : mg "is_file" = some (.ref fF)) (kF : PySem.W.keepIn K (.ref fF) = true) (bF : Binds K fdF ["thing"] [])
    (GH : FnOk P w K mg base CX0 8 fH fdH ["tree"] (spHasDrawers K P1 P2 P4)) (mH : mg "has_drawers_above" = some (.ref fH)) (kH : PySem.W.keepIn K (.ref fH) = true) (bH : Binds K fdH ["tree"] [])
    (GO : FnOk P w K mg base CX0 5 fO fdO ["things"] (spOneText K P3)) (mO : mg "has_one_text_each" = some (.ref fO)) (kO : PySem.W.keepIn K (.ref fO) = true) (bO : Binds K fdO ["things"] []) :
    FnOk P w K mg base CX0 9 f fd ["thing"] (spIsTree K P1 P2 P3 P4 P5) := by
  refine F.ok scIsTree (fun vs H Q E h => ?_) (fun A outer s H vs Q E hr h => ?_)
  · obtain ⟨v, b, rfl, _⟩ := h
    rfl
  · obtain ⟨v, b, rfl, hq, T, k⟩ := h
    obtain ⟨tm, hm⟩ := R.mostPaths
    have r6 := hr.mono (show 6 ≤ 8 by decide)
    have r5 := hr.mono (show 5 ≤ 8 by decide)
    refine ⟨_, pss_cons (ps_if (PW.pt (pw_or (pt_not (pt_val (pe_callB call_isR (by rfl) M.isinstance boot_isinstance (pa_cons (pv 0) (pa_cons (pe_bltn (v := .ty "dict") (by rfl) R.dict (by decide +kernel) rfl) pa_nil)))))
        (pw_or1 (pt_cmpR op_gt (pe_callB call_lenX (by rfl) M.len PySem.boot_len (pa_cons (pv 0) pa_nil)) (pe_glob (v := .int 80) (by rfl) hm ⟨_, rfl⟩) (nomark _))))) (pss_one (ps_ret pe_bl)) pss_nil)
      (pss_cons (ps_if (pt_not (pt_val (pe_lockR (pe_all (k := 5) (N := ["thing", "things", "path"]) (pad := 1) (j := 2) (x := "path") (P := P5) r6 rfl (by rfl) M.all TB rfl (gn_by (N0 := itN) (sc := defScope sIsTree) (by decide +kernel)) (pi_keysX (pv 0))
          (fun A s H cl C code fp pn hr => pe_call (E := E0) GP hr (by rfl) mP kP bP .nil pass0 (pa_cons (pv 2) pa_nil)))))) (pss_one (ps_ret pe_bl)) pss_nil)
      (pss_cons (ps_set (i := 1) scIsTree.nd rfl (Or.inl rfl) (pe_callTy (call_listVals rfl) (by rfl) R.list (by decide +kernel) (pa_cons (pe_vals (pv 0)) pa_nil)))
      (pss_cons (ps_if (pt_not (pt_val (pe_all (k := 4) (N := ["thing", "things", "what"]) (pad := 1) (j := 2) (x := "what") (P := P5) r5 rfl (by rfl) M.all TB rfl (gn_by (N0 := itN) (sc := defScope sIsTree) (by decide +kernel)) (pi_list (pv 1))
          (fun A s H cl C code fp pn hr => pe_or (pe_call (E := E0) GD (hr.mono (by decide)) (by rfl) mD kD bD .nil pass0 (pa_cons (pv 2) pa_nil)) (pe_one (pe_call (E := E0) GF hr (by rfl) mF kF bF .nil pass0 (pa_cons (pv 2) pa_nil))))))) (pss_one (ps_ret pe_bl)) pss_nil)
      (pss_one (ps_ret (pe_and (pe_call (E := E0) GH hr (by rfl) mH kH bH .nil pass0 (pa_cons (pv 0) pa_nil)) (pe_one (pe_call (E := E0) GO r5 (by rfl) mO kO bO .nil pass0 (pa_cons (pv 1) pa_nil))))))))), ?_⟩
    cases hq with
    | oth kn hn =>
      rename_i n
      refine ⟨_, rfl, .inl ⟨v, n, "dict", rfl, kn, rfl, _, rfl, ?_⟩⟩
      rw [kn.is hn (fun _ => by decide)]
      exact iteT (k H (Ex.refl H))
    | mix e px gp =>
      rename_i d ob q z p
      refine ⟨_, rfl, .inl ⟨.ref d, "dict", "dict", rfl, .dX e (fun h x => mixO_dict x), rfl, _, rfl, ?_⟩⟩
      rw [show isB "dict" "dict" = true by decide]
      refine iteF ⟨_, rfl, .inr ⟨d, ob, q, z, rfl, e, _, _, rfl, rfl, _, rfl, ?_⟩⟩
      rw [decide_eq_false (show ¬ (80 : Int) < 2 by decide)]
      refine iteF (.inr (.inr ⟨_, rfl, d, ob, q, z, rfl, e, T.t5, fun H2 hT => ?_⟩))
      have x2 : Ex H H2 := Ex.tabd hT T.t5
      have e2 := x2.keep _ _ e (fun ps z => by cases z)
      refine gw_all (n := 2) (fun i => decide (i = 0)) (fun G x => ⟨x.keep _ _ e2 (fun ps z => by cases z), Nat.le_refl _⟩) (fun i G h x => ⟨x.keep _ _ e2 (fun ps z => by cases z), h⟩) ?_ fun G x => ?_
      · rintro i G y G' hi x ⟨rfl, hy⟩ R2 hR2
        rcases hy with ⟨rfl, rfl⟩ | ⟨rfl, rfl⟩
        · refine ⟨_, rfl, .ref q, true, rfl, ((PathX.ex (x2.trans x) px).at).yes gp, x.tab _ (x2.tab _ T.t1), x.tab _ (x2.tab _ T.t2), fun H' x' => hR2 H' (x.trans x')⟩
        · refine ⟨_, rfl, .str z, false, rfl, .oth (.str z) (by decide), x.tab _ (x2.tab _ T.t1), x.tab _ (x2.tab _ T.t2), fun H' x' => hR2 H' (x.trans x')⟩
      · refine ⟨_, rfl, ?_⟩
        rw [show ((List.range 2).all fun i => decide (i = 0)) = false by decide]
        exact iteT (k G (x2.trans x))
    | dict t sm =>
      rename_i d es
      obtain ⟨kvs, hd, row⟩ := t
      obtain ⟨sm1, sm2⟩ := sm
      refine ⟨_, rfl, .inr ⟨d, kvs, rfl, hd, _, rfl, iteF ⟨_, rfl, .inl ⟨d, kvs, rfl, hd, _, _, rfl, rfl, _, rfl, ?_⟩⟩⟩⟩
      have hl := row.len
      by_cases h80 : (80 : Int) < ((kvs.length : Nat) : Int)
      · rw [decide_eq_true h80]
        refine iteT ?_
        have := k H (Ex.refl H)
        rwa [show treeB es = false by
          unfold treeB
          rw [decide_eq_false (p := es.length ≤ 80) (by omega), Bool.false_and]] at this
      rw [decide_eq_false h80]
      refine iteF ?_
      have e80 : decide (es.length ≤ 80) = true := decide_eq_true (by omega)
      -- the paths
      refine lock_go hd fun H1 od R' lk lt lf ld hR => .inl ⟨_, rfl, d, od, rfl, .inr ⟨kvs, ld, lt _ T.t5, fun H2 hT => ?_⟩⟩
      have x12 : Ex H1 H2 := Ex.tabd hT (lt _ T.t5)
      have ld2 := x12.keep _ _ ld (fun ps z => by cases z)
      refine gw_keysT (fun kv => goodPath (pathOf kv.1)) ld2 (fun kv q G hm x hq R2 hR2 => ?_) fun G x => ?_
      · obtain ⟨i, hi⟩ := List.mem_iff_getElem?.mp hm
        obtain ⟨en, hen, ek, _⟩ := row.get hi
        rw [ek] at hq
        have px : PathX G q en.1 := PathX.of_key hq
        refine ⟨_, rfl, .ref q, _, rfl, px.at.b (sm1 en (List.mem_of_getElem? hen)).1, x.tab _ (x12.tab _ (lt _ T.t1)), x.tab _ (x12.tab _ (lt _ T.t2)), fun H' x' => ?_⟩
        have := hR2 H' (x.trans x')
        rwa [ek, pathOf_inr] at this
      refine hR _ G (x12.trans x) fun H3 x3 kp => ⟨_, rfl, ?_⟩
      have eg : (kvs.all fun kv => goodPath (pathOf kv.1)) = es.all fun e => goodPath e.1 := RowE.all _ _ (fun kv e h1 _ => by rw [h1, pathOf_inr]) row
      rw [eg]
      cases hgood : (es.all fun e => goodPath e.1) with
      | false =>
        refine iteT ?_
        have := k H3 x3
        rwa [show treeB es = false by
          unfold treeB
          rw [hgood, Bool.false_and, Bool.and_false]] at this
      | true =>
        refine iteF ?_
        have T3 := T.ex x3
        have hd3 : Rd H3 d (.dT kvs) := x3.rd hd (fun ps z => by cases z)
        have row3 := row.ex x3
        -- what stands there
        refine ⟨_, rfl, d, kvs, rfl, hd3, fun p hp => ?_⟩
        have xv := Ex.new (o := valsO p d) hp
        refine ⟨p, d, kvs, rfl, upd_same, xv.rd hd3 (fun ps z => by cases z), fun l hl2 => ?_⟩
        have xl := Ex.new (o := .lst (kvs.map (·.2))) hl2
        have l1 : (upd (upd H3 p (valsO p d)) l (.lst (kvs.map (·.2)))) l = some (.lst (kvs.map (·.2))) := upd_same
        have x4 := xv.trans xl
        generalize upd (upd H3 p (valsO p d)) l (.lst (kvs.map (·.2))) = H4 at l1 x4 ⊢
        have T4 := T3.ex x4
        have row4 := row3.ex x4
        refine ⟨_, rfl, l, rfl, ⟨_, SqL.of l1⟩, T4.t5, fun H5 hT5 => ?_⟩
        have x5 := Ex.tabd hT5 T4.t5
        have l5 := x5.keep _ _ l1 (fun ps z => by cases z)
        have row5 := row4.ex x5
        have T5 := T4.ex x5
        have dps := row_dpAll row5
        refine gw_lst (xs := kvs.map (·.2)) (fun i => drawerB ((es.map (·.2)).getD i .none) || fileB ((es.map (·.2)).getD i .none)) (SqL.of l5) (fun G x => SqL.of (x.keep _ _ l5 (fun ps z => by cases z))) (fun i y G hy x R2 hR2 => ?_) fun G x => ?_
        · have hi : i < es.length := by
            have := (List.getElem?_eq_some_iff.mp hy).1
            rw [List.length_map] at this
            omega
          obtain ⟨v', hv', dv⟩ := dpAll_get i dps (by rw [List.length_map]; exact hi)
          rw [hy] at hv'
          cases hv'
          have hm : (es.map (·.2)).getD i .none ∈ es.map (·.2) := by
            rw [List.getD_eq_getElem?_getD, List.getElem?_eq_getElem (by rw [List.length_map]; exact hi)]
            exact List.getElem_mem _
          have sd : smallD ((es.map (·.2)).getD i .none) = true := by
            obtain ⟨e, he, ee⟩ := List.mem_map.mp hm
            rw [← ee]
            exact (sm1 e he).2
          generalize (es.map (·.2)).getD i .none = D at dv sd hR2
          have dv := Dp_ex x dv
          refine ⟨_, rfl, y, D, rfl, dv, _, rfl, ?_⟩
          cases hdr : drawerB D with
          | true =>
            refine iteT ?_
            have := hR2 G x
            rwa [hdr, Bool.true_or] at this
          | false =>
            refine iteF ⟨_, rfl, y, D, rfl, dv, sd, x.tab _ T5.t3, fun H' x' => ?_⟩
            have := hR2 H' (x.trans x')
            rwa [hdr, Bool.false_or] at this
        · refine ⟨_, rfl, ?_⟩
          have ew : (List.range (kvs.map (·.2)).length).all (fun i => drawerB ((es.map (·.2)).getD i .none) || fileB ((es.map (·.2)).getD i .none)) = es.all fun e => drawerB e.2 || fileB e.2 := by
            have e1 := all_of_range (fun d => drawerB d || fileB d) (es.map (·.2)) (fun i => drawerB ((es.map (·.2)).getD i .none) || fileB ((es.map (·.2)).getD i .none)) fun i x e => by
              rw [List.getD_eq_getElem?_getD, e]
              rfl
            rw [List.length_map] at e1 ⊢
            rw [hl, e1, List.all_map]
            rfl
          rw [ew]
          cases hthing : (es.all fun e => drawerB e.2 || fileB e.2) with
          | false =>
            refine iteT ?_
            have := k G (((x3.trans x4).trans x5).trans x)
            rwa [show treeB es = false by
              unfold treeB
              rw [hthing, Bool.false_and, Bool.and_false, Bool.and_false]] at this
          | true =>
            refine iteF ?_
            have xG := ((x3.trans x4).trans x5).trans x
            have TG := T.ex xG
            have lG := x.keep _ _ l5 (fun ps z => by cases z)
            have hgs : ∀ e ∈ es, goodPath e.1 = true := List.all_eq_true.mp hgood
            have et : treeB es = (roofB es && oneTextB (es.map (·.2))) := by
              unfold treeB
              rw [e80, hgood, hthing, Bool.true_and, Bool.true_and, Bool.true_and]
            have hth : ∀ e ∈ es, drawerB e.2 = true ∨ fileB e.2 = true := fun e he => (Bool.or_eq_true _ _).mp (List.all_eq_true.mp hthing e he)
            refine ⟨_, rfl, d, es, rfl, ⟨kvs, xG.rd hd (fun ps z => by cases z), row.ex xG⟩, (fun e he => ⟨hgs e he, tree_headed (hth e he)⟩), sm2, TG.t1, TG.t2, TG.t4, fun H6 x6 => ⟨_, rfl, ?_⟩⟩
            rw [roof_tree hth]
            cases hroof : roofB es with
            | false =>
              refine iteF ?_
              have := k H6 (xG.trans x6)
              rwa [et, hroof, Bool.false_and] at this
            | true =>
              have l6 := x6.keep _ _ lG (fun ps z => by cases z)
              refine iteT ⟨_, rfl, l, kvs.map (·.2), es.map (·.2), rfl, SqL.of l6, fun H' x' => SqL.of (x'.keep _ _ l6 (fun ps z => by cases z)), row_dpAll (row.ex (xG.trans x6)), smallAll_of fun d hd => ?_, by rw [List.length_map]; exact sm2, (TG.ex x6).t3, fun H7 x7 => ?_⟩
              · obtain ⟨e, he, rfl⟩ := List.mem_map.mp hd
                exact (sm1 e he).2
              · have := k H7 ((xG.trans x6).trans x7)
                rwa [et, hroof, Bool.true_and] at this
end
/-! ### check_tree, names_in -/
def spCheckTree (K : PySem.W.Frag) (P1 P2 P3 P4 P5 C : Addr) : Sp := fun vs H Q E => ∃ v b, vs = [v] ∧ TreeQ K H v b ∧ Tabs5 H P1 P2 P3 P4 P5 ∧ (b = true → ∀ H', Ex H H' → Q .non H') ∧ (b = false → ∀ H', Ex H H' → E (.ref C) none H')
section
variable {P : Program} {w : World} {K : PySem.W.Frag} {mg : Str → Option Value} {base : Heap}
theorem scCheckTree : FnScope ["thing"] ["thing"] (defScope sCheckTree) := ⟨rfl, rfl, rfl, by decide +kernel, rfl, by decide +kernel, by decide +kernel⟩
theorem ok_checkTree {f f2 P1 P2 P3 P4 P5 C : Addr} {fd fd2 : FuncData} (F : Fun K "check_tree" "check_tree" sCheckTree f fd) (R : Ref K mg "NoTree" C)
    (G2 : FnOk P w K mg base CX0 9 f2 fd2 ["thing"] (spIsTree K P1 P2 P3 P4 P5)) (m2 : mg "is_tree" = some (.ref f2)) (k2 : PySem.W.keepIn K (.ref f2) = true) (b2 : Binds K fd2 ["thing"] []) :
    FnOk P w K mg base (L2.CX P w) 10 f fd ["thing"] (spCheckTree K P1 P2 P3 P4 P5 C) := by
  refine F.okX scCheckTree (fun vs H Q E h => ?_) (fun cdv A outer s H vs Q E hr h => ?_)
  · obtain ⟨v, b, rfl, _⟩ := h
    rfl
  · obtain ⟨v, b, rfl, hq, T, kt, kf⟩ := h
    refine ⟨_, pss_one (ps_if (pt_not (pt_val (pe_call (E := E0) G2 hr (by rfl) m2 k2 b2 .nil pass0 (pa_cons (pv 0) pa_nil))))
      (pss_one (ps_raise rfl (takes_of rfl rfl rfl rfl) (pmk_own PySem.F.excBase_ValueError R.x R.g R.k (raises_own R.b R.t) rfl))) pss_nil), ?_⟩
    refine ⟨_, rfl, v, b, rfl, hq, T, fun H' x => ⟨_, rfl, ?_⟩⟩
    cases b with
    | true => exact iteF (kt rfl H' x)
    | false => exact iteT (kf rfl H' x)
end
/-- what is_tree says of a tree -/
theorem treeB_parts {es : Ents} (h : treeB es = true) : es.length ≤ 80 ∧ (∀ e ∈ es, goodPath e.1 = true) ∧ (∀ e ∈ es, drawerB e.2 = true ∨ fileB e.2 = true) ∧ roofB es = true ∧ oneTextB (es.map (·.2)) = true := by
  unfold treeB at h
  simp only [Bool.and_eq_true, decide_eq_true_eq, List.all_eq_true, Bool.or_eq_true] at h
  exact ⟨h.1, h.2.1, h.2.2.1, h.2.2.2.1, h.2.2.2.2⟩
/-! ### entries of a layer -/
def boolB : PyData → Bool
  | .bool _ => true
  | _ => false
def entryB (d : PyData) : Bool := if kindB "drawer" 2 d = true then boolB (partD 1 d) else kindB "gone" 1 d || fileB d
def spIsEntry (K : PySem.W.Frag) (P3 : Addr) : Sp := fun vs H Q _ => ∃ v d, vs = [v] ∧ Dp K H v d ∧ smallD d = true ∧ TabG H P3 ∧ ∀ H', Ex H H' → Q (.bl (entryB d)) H'
theorem entry_headed {d : PyData} (h : entryB d = true) : headedD d := by
  unfold entryB at h
  split at h
  · rename_i hk
    obtain ⟨ds, e⟩ := kind_headed (by decide) hk
    exact ⟨_, _, e⟩
  · rcases (Bool.or_eq_true _ _).mp h with h | h
    · obtain ⟨ds, e⟩ := kind_headed (by decide) h
      exact ⟨_, _, e⟩
    · obtain ⟨ds, e⟩ := kind_headed (by decide) (file_kind h)
      exact ⟨_, _, e⟩
theorem boolB_not {K : PySem.W.Frag} {H : Hp} {v : V} {d : PyData} {n : String} (h : Dp K H v d) (kn : Kn K H v n) : isB n "bool" = boolB d := by
  cases h <;> cases kn <;> first | rfl | decide
section
variable {P : Program} {w : World} {K : PySem.W.Frag} {mg : Str → Option Value} {base : Heap}
theorem scIsEntry : FnScope ["thing"] ["thing"] (defScope sIsEntry) := ⟨rfl, rfl, rfl, by decide +kernel, rfl, by decide +kernel, by decide +kernel⟩
theorem ok_isEntry {f f1 f2 P3 : Addr} {fd fd1 fd2 : FuncData} (F : Fun K "_is_entry" "_is_entry" sIsEntry f fd) (M : Mg mg) (R : MgR mg)
    (G1 : FnOk P w K mg base CX0 1 f1 fd1 ["thing", "word", "many"] (spIsKind K)) (m1 : mg "is_kind" = some (.ref f1)) (k1 : PySem.W.keepIn K (.ref f1) = true) (b1 : Binds K fd1 ["thing", "word", "many"] [])
    (G2 : FnOk P w K mg base CX0 4 f2 fd2 ["thing"] (spIsFile K P3)) (m2 : mg "is_file" = some (.ref f2)) (k2 : PySem.W.keepIn K (.ref f2) = true) (b2 : Binds K fd2 ["thing"] []) :
    FnOk P w K mg base CX0 5 f fd ["thing"] (spIsEntry K P3) := by
  refine F.ok scIsEntry (fun vs H Q E h => ?_) (fun cdv A outer s H vs Q E hr h => ?_)
  · obtain ⟨v, d, rfl, _⟩ := h
    rfl
  · obtain ⟨v, d, rfl, hd, sd, hT, k⟩ := h
    have r1 := hr.mono (show 1 ≤ 4 by decide)
    refine ⟨_, pss_cons (ps_if (pt_val (pe_call (E := E0) G1 r1 (by rfl) m1 k1 b1 .nil pass0 (pa_cons (pv 0) (pa_cons pe_str (pa_cons pe_int pa_nil)))))
        (pss_one (ps_ret (pe_callB call_is (by rfl) M.isinstance boot_isinstance (pa_cons (pe_ix ix_tup (pv 0) pe_int (fun _ _ => rfl)) (pa_cons (pe_bltn (v := .ty "bool") (by rfl) R.bool (by decide +kernel) rfl) pa_nil))))) pss_nil)
      (pss_one (ps_ret (pe_or (pe_call (E := E0) G1 r1 (by rfl) m1 k1 b1 .nil pass0 (pa_cons (pv 0) (pa_cons pe_str (pa_cons pe_int pa_nil)))) (pe_one (pe_call (E := E0) G2 hr (by rfl) m2 k2 b2 .nil pass0 (pa_cons (pv 0) pa_nil)))))), ?_⟩
    refine ⟨_, rfl, v, d, "drawer", 2, rfl, by decide, hd, _, rfl, ?_⟩
    unfold entryB at k
    cases hk : kindB "drawer" 2 d with
    | true =>
      rw [if_pos hk] at k
      rcases kn_tuple hd with ⟨a, xs, ds, rfl, rfl, ha, hx⟩ | ⟨hn, _⟩
      · have hl : ds.length = 2 := by
          have : (decide (ds.length = 2) && headIs "drawer" (ds.getD 0 .none)) = true := hk
          rw [Bool.and_eq_true] at this
          exact of_decide_eq_true this.1
        obtain ⟨v1, h1, d1⟩ := dpAll_get 1 hx (by omega)
        obtain ⟨n, kn⟩ := Dp_kn d1
        refine iteT ⟨_, rfl, a, xs, 1, v1, rfl, rfl, ha, at_of (j := 1) rfl h1, v1, n, "bool", rfl, kn, rfl, ?_⟩
        rw [boolB_not d1 kn]
        exact k H (Ex.refl H)
      · rw [kindB_not hn] at hk
        cases hk
    | false =>
      rw [if_neg (by rw [hk]; decide)] at k
      refine iteF ⟨_, rfl, v, d, "gone", 1, rfl, by decide, hd, _, rfl, ?_⟩
      cases hg : kindB "gone" 1 d with
      | true =>
        refine iteT ?_
        have := k H (Ex.refl H)
        rwa [hg, Bool.true_or] at this
      | false =>
        refine iteF ⟨_, rfl, v, d, rfl, hd, sd, hT, fun H' x => ?_⟩
        have := k H' x
        rwa [hg, Bool.false_or] at this
end
/-! ### is_layer -/
def layerB (es : Ents) : Bool := decide (es.length ≤ 40) && ((es.all fun e => goodPath e.1) && ((es.all fun e => entryB e.2) && (roofH es && oneTextB (es.map (·.2)))))
/-- is the thing a layer? -/
inductive LayerQ (K : PySem.W.Frag) (H : Hp) : V → Bool → Prop
  | dict {d : Addr} {es : Ents} (t : TrAt K H d es) (s : smallE es) : LayerQ K H (.ref d) (layerB es)
  | oth {v : V} {n : String} (k : Kn K H v n) (h : n ≠ "dict") : LayerQ K H v false
theorem LayerQ.ex {K : PySem.W.Frag} {H H' : Hp} {v : V} {b : Bool} (x : Ex H H') (h : LayerQ K H v b) : LayerQ K H' v b := by
  cases h with
  | dict t s => exact .dict (t.ex x) s
  | oth k h => exact .oth (k.ex x) h
def spIsLayer (K : PySem.W.Frag) (P1 P2 P3 P4 P6 : Addr) : Sp := fun vs H Q _ => ∃ v b, vs = [v] ∧ LayerQ K H v b ∧ Tabs5 H P1 P2 P3 P4 P6 ∧ ∀ H', Ex H H' → Q (.bl b) H'
/-- the module's names that layers.py asks -/
structure MgL (mg : Str → Option Value) : Prop where
  mostEntries : ∃ t, mg "MOST_ENTRIES" = some (.int 40 t)
section
variable {P : Program} {w : World} {K : PySem.W.Frag} {mg : Str → Option Value} {base : Heap}
abbrev ilN : List Str := ["thing", "entries"]
theorem scIsLayer : FnScope ilN ["thing"] (defScope sIsLayer) := ⟨rfl, rfl, rfl, by decide +kernel, rfl, by decide +kernel, by decide +kernel⟩
theorem ok_isLayer {f c fP fF fH fO P1 P2 P3 P4 P6 : Addr} {fd fdP fdF fdH fdO : FuncData} (F : FunC K "is_layer" "is_layer" sIsLayer f fd c) (M : Mg mg) (R : MgR mg) (ML : MgL mg) (TB : LamX.TabB base mg c P6)
    (GP : FnOk P w K mg base CX0 5 fP fdP ["thing"] (spIsPath K P1 P2)) (mP : mg "is_path" = some (.ref fP)) (kP : PySem.W.keepIn K (.ref fP) = true) (bP : Binds K fdP ["thing"] [])
    (GF : FnOk P w K mg base CX0 5 fF fdF ["thing"] (spIsEntry K P3)) (mF : mg "_is_entry" = some (.ref fF)) (kF : PySem.W.keepIn K (.ref fF) = true) (bF : Binds K fdF ["thing"] [])
    (GH : FnOk P w K mg base CX0 8 fH fdH ["tree"] (spHasDrawers K P1 P2 P4)) (mH : mg "has_drawers_above" = some (.ref fH)) (kH : PySem.W.keepIn K (.ref fH) = true) (bH : Binds K fdH ["tree"] [])
    (GO : FnOk P w K mg base CX0 5 fO fdO ["things"] (spOneText K P3)) (mO : mg "has_one_text_each" = some (.ref fO)) (kO : PySem.W.keepIn K (.ref fO) = true) (bO : Binds K fdO ["things"] []) :
    FnOk P w K mg base CX0 9 f fd ["thing"] (spIsLayer K P1 P2 P3 P4 P6) := by
  refine F.ok scIsLayer (fun vs H Q E h => ?_) (fun A outer s H vs Q E hr h => ?_)
  · obtain ⟨v, b, rfl, _⟩ := h
    rfl
  · obtain ⟨v, b, rfl, hq, T, k⟩ := h
    obtain ⟨tm, hm⟩ := ML.mostEntries
    have r6 := hr.mono (show 6 ≤ 8 by decide)
    have r5 := hr.mono (show 5 ≤ 8 by decide)
    refine ⟨_, pss_cons (ps_if (PW.pt (pw_or (pt_not (pt_val (pe_callB call_isR (by rfl) M.isinstance boot_isinstance (pa_cons (pv 0) (pa_cons (pe_bltn (v := .ty "dict") (by rfl) R.dict (by decide +kernel) rfl) pa_nil)))))
        (pw_or1 (pt_cmpR op_gt (pe_callB call_lenR (by rfl) M.len PySem.boot_len (pa_cons (pv 0) pa_nil)) (pe_glob (v := .int 40) (by rfl) hm ⟨_, rfl⟩) (nomark _))))) (pss_one (ps_ret pe_bl)) pss_nil)
      (pss_cons (ps_if (pt_not (pt_val (pe_lockR (pe_all (k := 5) (N := ["thing", "entries", "path"]) (pad := 1) (j := 2) (x := "path") (P := P6) r6 rfl (by rfl) M.all TB rfl (gn_by (N0 := ilN) (sc := defScope sIsLayer) (by decide +kernel)) (pi_keys (pv 0))
          (fun A s H cl C code fp pn hr => pe_call (E := E0) GP hr (by rfl) mP kP bP .nil pass0 (pa_cons (pv 2) pa_nil)))))) (pss_one (ps_ret pe_bl)) pss_nil)
      (pss_cons (ps_set (i := 1) scIsLayer.nd rfl (Or.inl rfl) (pe_callTy (call_listVals rfl) (by rfl) R.list (by decide +kernel) (pa_cons (pe_vals (pv 0)) pa_nil)))
      (pss_cons (ps_if (pt_not (pt_val (pe_all (k := 5) (N := ["thing", "entries", "entry"]) (pad := 1) (j := 2) (x := "entry") (P := P6) r6 rfl (by rfl) M.all TB rfl (gn_by (N0 := ilN) (sc := defScope sIsLayer) (by decide +kernel)) (pi_list (pv 1))
          (fun A s H cl C code fp pn hr => pe_call (E := E0) GF hr (by rfl) mF kF bF .nil pass0 (pa_cons (pv 2) pa_nil))))) (pss_one (ps_ret pe_bl)) pss_nil)
      (pss_one (ps_ret (pe_and (pe_call (E := E0) GH hr (by rfl) mH kH bH .nil pass0 (pa_cons (pv 0) pa_nil)) (pe_one (pe_call (E := E0) GO r5 (by rfl) mO kO bO .nil pass0 (pa_cons (pv 1) pa_nil))))))))), ?_⟩
    cases hq with
    | oth kn hn =>
      rename_i n
      refine ⟨_, rfl, .inl ⟨v, n, "dict", rfl, kn, rfl, _, rfl, ?_⟩⟩
      rw [kn.is hn (fun _ => by decide)]
      exact iteT (k H (Ex.refl H))
    | dict t sm =>
      rename_i d es
      obtain ⟨kvs, hd, row⟩ := t
      obtain ⟨sm1, sm2⟩ := sm
      refine ⟨_, rfl, .inr ⟨d, kvs, rfl, hd, _, rfl, iteF ⟨_, rfl, d, kvs, rfl, hd, _, _, rfl, rfl, _, rfl, ?_⟩⟩⟩
      have hl := row.len
      by_cases h80 : (40 : Int) < ((kvs.length : Nat) : Int)
      · rw [decide_eq_true h80]
        refine iteT ?_
        have := k H (Ex.refl H)
        rwa [show layerB es = false by
          unfold layerB
          rw [decide_eq_false (p := es.length ≤ 40) (by omega), Bool.false_and]] at this
      rw [decide_eq_false h80]
      refine iteF ?_
      have e80 : decide (es.length ≤ 40) = true := decide_eq_true (by omega)
      -- the paths
      refine lock_go hd fun H1 od R' lk lt lf ld hR => ⟨_, rfl, d, od, rfl, .inr ⟨kvs, ld, lt _ T.t5, fun H2 hT => ?_⟩⟩
      have x12 : Ex H1 H2 := Ex.tabd hT (lt _ T.t5)
      have ld2 := x12.keep _ _ ld (fun ps z => by cases z)
      refine gw_keysT (fun kv => goodPath (pathOf kv.1)) ld2 (fun kv q G hm x hq R2 hR2 => ?_) fun G x => ?_
      · obtain ⟨i, hi⟩ := List.mem_iff_getElem?.mp hm
        obtain ⟨en, hen, ek, _⟩ := row.get hi
        rw [ek] at hq
        have px : PathX G q en.1 := PathX.of_key hq
        refine ⟨_, rfl, .ref q, _, rfl, px.at.b (sm1 en (List.mem_of_getElem? hen)).1, x.tab _ (x12.tab _ (lt _ T.t1)), x.tab _ (x12.tab _ (lt _ T.t2)), fun H' x' => ?_⟩
        have := hR2 H' (x.trans x')
        rwa [ek, pathOf_inr] at this
      refine hR _ G (x12.trans x) fun H3 x3 kp => ⟨_, rfl, ?_⟩
      have eg : (kvs.all fun kv => goodPath (pathOf kv.1)) = es.all fun e => goodPath e.1 := RowE.all _ _ (fun kv e h1 _ => by rw [h1, pathOf_inr]) row
      rw [eg]
      cases hgood : (es.all fun e => goodPath e.1) with
      | false =>
        refine iteT ?_
        have := k H3 x3
        rwa [show layerB es = false by
          unfold layerB
          rw [hgood, Bool.false_and, Bool.and_false]] at this
      | true =>
        refine iteF ?_
        have T3 := T.ex x3
        have hd3 : Rd H3 d (.dT kvs) := x3.rd hd (fun ps z => by cases z)
        have row3 := row.ex x3
        -- what stands there
        refine ⟨_, rfl, d, kvs, rfl, hd3, fun p hp => ?_⟩
        have xv := Ex.new (o := valsO p d) hp
        refine ⟨p, d, kvs, rfl, upd_same, xv.rd hd3 (fun ps z => by cases z), fun l hl2 => ?_⟩
        have xl := Ex.new (o := .lst (kvs.map (·.2))) hl2
        have l1 : (upd (upd H3 p (valsO p d)) l (.lst (kvs.map (·.2)))) l = some (.lst (kvs.map (·.2))) := upd_same
        have x4 := xv.trans xl
        generalize upd (upd H3 p (valsO p d)) l (.lst (kvs.map (·.2))) = H4 at l1 x4 ⊢
        have T4 := T3.ex x4
        have row4 := row3.ex x4
        refine ⟨_, rfl, l, rfl, ⟨_, SqL.of l1⟩, T4.t5, fun H5 hT5 => ?_⟩
        have x5 := Ex.tabd hT5 T4.t5
        have l5 := x5.keep _ _ l1 (fun ps z => by cases z)
        have row5 := row4.ex x5
        have T5 := T4.ex x5
        have dps := row_dpAll row5
        refine gw_lst (xs := kvs.map (·.2)) (fun i => entryB ((es.map (·.2)).getD i .none)) (SqL.of l5) (fun G x => SqL.of (x.keep _ _ l5 (fun ps z => by cases z))) (fun i y G hy x R2 hR2 => ?_) fun G x => ?_
        · have hi : i < es.length := by
            have := (List.getElem?_eq_some_iff.mp hy).1
            rw [List.length_map] at this
            omega
          obtain ⟨v', hv', dv⟩ := dpAll_get i dps (by rw [List.length_map]; exact hi)
          rw [hy] at hv'
          cases hv'
          have hm : (es.map (·.2)).getD i .none ∈ es.map (·.2) := by
            rw [List.getD_eq_getElem?_getD, List.getElem?_eq_getElem (by rw [List.length_map]; exact hi)]
            exact List.getElem_mem _
          have sd : smallD ((es.map (·.2)).getD i .none) = true := by
            obtain ⟨e, he, ee⟩ := List.mem_map.mp hm
            rw [← ee]
            exact (sm1 e he).2
          generalize (es.map (·.2)).getD i .none = D at dv sd hR2
          have dv := Dp_ex x dv
          refine ⟨_, rfl, y, D, rfl, dv, sd, x.tab _ T5.t3, fun H' x' => ?_⟩
          exact hR2 H' (x.trans x')
        · refine ⟨_, rfl, ?_⟩
          have ew : (List.range (kvs.map (·.2)).length).all (fun i => entryB ((es.map (·.2)).getD i .none)) = es.all fun e => entryB e.2 := by
            have e1 := all_of_range (fun d => entryB d) (es.map (·.2)) (fun i => entryB ((es.map (·.2)).getD i .none)) fun i x e => by
              rw [List.getD_eq_getElem?_getD, e]
              rfl
            rw [List.length_map] at e1 ⊢
            rw [hl, e1, List.all_map]
            rfl
          rw [ew]
          cases hthing : (es.all fun e => entryB e.2) with
          | false =>
            refine iteT ?_
            have := k G (((x3.trans x4).trans x5).trans x)
            rwa [show layerB es = false by
              unfold layerB
              rw [hthing, Bool.false_and, Bool.and_false, Bool.and_false]] at this
          | true =>
            refine iteF ?_
            have xG := ((x3.trans x4).trans x5).trans x
            have TG := T.ex xG
            have lG := x.keep _ _ l5 (fun ps z => by cases z)
            have hgs : ∀ e ∈ es, goodPath e.1 = true := List.all_eq_true.mp hgood
            have et : layerB es = (roofH es && oneTextB (es.map (·.2))) := by
              unfold layerB
              rw [e80, hgood, hthing, Bool.true_and, Bool.true_and, Bool.true_and]
            have hth : ∀ e ∈ es, entryB e.2 = true := fun e he => List.all_eq_true.mp hthing e he
            refine ⟨_, rfl, d, es, rfl, ⟨kvs, xG.rd hd (fun ps z => by cases z), row.ex xG⟩, (fun e he => ⟨hgs e he, entry_headed (hth e he)⟩), sm2, TG.t1, TG.t2, TG.t4, fun H6 x6 => ⟨_, rfl, ?_⟩⟩
            cases hroof : roofH es with
            | false =>
              refine iteF ?_
              have := k H6 (xG.trans x6)
              rwa [et, hroof, Bool.false_and] at this
            | true =>
              have l6 := x6.keep _ _ lG (fun ps z => by cases z)
              refine iteT ⟨_, rfl, l, kvs.map (·.2), es.map (·.2), rfl, SqL.of l6, fun H' x' => SqL.of (x'.keep _ _ l6 (fun ps z => by cases z)), row_dpAll (row.ex (xG.trans x6)), smallAll_of fun d hd => ?_, by rw [List.length_map]; exact sm2, (TG.ex x6).t3, fun H7 x7 => ?_⟩
              · obtain ⟨e, he, rfl⟩ := List.mem_map.mp hd
                exact (sm1 e he).2
              · have := k H7 ((xG.trans x6).trans x7)
                rwa [et, hroof, Bool.true_and] at this
end
/-! ### check_layer, beginnings, lets_through -/
def spCheckLayer (K : PySem.W.Frag) (P1 P2 P3 P4 P6 C : Addr) : Sp := fun vs H Q E => ∃ v b, vs = [v] ∧ LayerQ K H v b ∧ Tabs5 H P1 P2 P3 P4 P6 ∧ (b = true → ∀ H', Ex H H' → Q .non H') ∧ (b = false → ∀ H', Ex H H' → E (.ref C) none H')
/-- beginnings, of a path that may be asked as a key -/
def spBeginningsX (K : PySem.W.Frag) (P1 P2 : Addr) : Sp := fun vs H Q E => ∃ a p, vs = [.ref a] ∧ TabG H P1 ∧ TabG H P2 ∧ PathX H a p ∧ goodPath p = true ∧ ∀ H' l, Ex H H' → PathsX H' l (begs p) → Q (.ref l) H'
def seeD : PyData := .tuple [.str "drawer", .bool false]
def drD : PyData := .tuple [.str "drawer"]
def seeAt (es : Ents) (q : List Str) : Bool := match valE es q with
  | some d => PyData.eqv d seeD
  | none => false
def drAt (es : Ents) (q : List Str) : Bool := match valE es q with
  | some d => PyData.eqv d drD
  | none => false
/-- a written tuple of the module -/
structure Cst (K : PySem.W.Frag) (mg : Str → Option Value) (nm : Str) (xs : List V) (a : Addr) : Prop where
  g : mg nm = some (.ref a)
  t : ∀ H : Hp, SqT K H a xs
def spLets (K : PySem.W.Frag) (P1 P2 P7 : Addr) : Sp := fun vs H Q _ => ∃ d a es p, vs = [.ref d, .ref a] ∧ TrAt K H d es ∧ (∀ e ∈ es, SeqAt.shaped e.2 = true) ∧ PathX H a p ∧ goodPath p = true ∧ (∀ q ∈ begs p, ∃ D, valE es q = some D) ∧
  TabG H P1 ∧ TabG H P2 ∧ TabG H P7 ∧ ∀ H', Ex H H' → Q (.bl ((begs p).all (seeAt es))) H'
section
variable {P : Program} {w : World} {K : PySem.W.Frag} {mg : Str → Option Value} {base : Heap}
theorem scCheckLayer : FnScope ["thing"] ["thing"] (defScope sCheckLayer) := ⟨rfl, rfl, rfl, by decide +kernel, rfl, by decide +kernel, by decide +kernel⟩
theorem ok_checkLayer {f f2 P1 P2 P3 P4 P6 C : Addr} {fd fd2 : FuncData} (F : Fun K "check_layer" "check_layer" sCheckLayer f fd) (R : Ref K mg "NoLayer" C)
    (G2 : FnOk P w K mg base CX0 9 f2 fd2 ["thing"] (spIsLayer K P1 P2 P3 P4 P6)) (m2 : mg "is_layer" = some (.ref f2)) (k2 : PySem.W.keepIn K (.ref f2) = true) (b2 : Binds K fd2 ["thing"] []) :
    FnOk P w K mg base (L2.CX P w) 10 f fd ["thing"] (spCheckLayer K P1 P2 P3 P4 P6 C) := by
  refine F.okX scCheckLayer (fun vs H Q E h => ?_) (fun cdv A outer s H vs Q E hr h => ?_)
  · obtain ⟨v, b, rfl, _⟩ := h
    rfl
  · obtain ⟨v, b, rfl, hq, T, kt, kf⟩ := h
    refine ⟨_, pss_one (ps_if (pt_not (pt_val (pe_call (E := E0) G2 hr (by rfl) m2 k2 b2 .nil pass0 (pa_cons (pv 0) pa_nil))))
      (pss_one (ps_raise rfl (takes_of rfl rfl rfl rfl) (pmk_own PySem.F.excBase_ValueError R.x R.g R.k (raises_own R.b R.t) rfl))) pss_nil), ?_⟩
    refine ⟨_, rfl, v, b, rfl, hq, T, fun H' x => ⟨_, rfl, ?_⟩⟩
    cases b with
    | true => exact iteF (kt rfl H' x)
    | false => exact iteT (kf rfl H' x)
/-- path[:n], of a path that may be asked -/
theorem slice_toX {H : Hp} {a : Addr} {p : List Str} (n : Nat) (pa : PathX H a p) {R : VK} (h : ∀ H' r, Ex H H' → PathX H' r (p.take n) → R (.ref r) H') : rSlA K (.ref a) none (some (n : Int)) H R := by
  refine ⟨a, _, rfl, pa.at, fun hw => h H a (Ex.refl H) ?_, fun _ r hr => h _ r (Ex.new hr) ?_⟩
  · have h2 := hw.2
    rw [HT.sIx_nat, List.length_map] at h2
    rw [List.take_of_length_le (by omega)]
    exact pa
  · show upd _ _ _ _ = _
    rw [upd_same, cutV_to, List.map_take]
theorem scBeginnings : FnScope ["path", "many"] ["path"] (defScope sBeginnings) := ⟨rfl, rfl, rfl, by decide +kernel, rfl, by decide +kernel, by decide +kernel⟩
theorem ok_beginningsX {f f3 P1 P2 C : Addr} {fd fd3 : FuncData} (F : Fun K "beginnings" "beginnings" sBeginnings f fd) (M : Mg mg)
    (G3 : FnOk P w K mg base (L2.CX P w) 6 f3 fd3 ["thing"] (spCheck K P1 P2 C)) (m3 : mg "check_path" = some (.ref f3)) (k3 : PySem.W.keepIn K (.ref f3) = true) (b3 : Binds K fd3 ["thing"] []) :
    FnOk P w K mg base (L2.CX P w) 7 f fd ["path"] (spBeginningsX K P1 P2) := by
  refine F.okX scBeginnings (fun vs H Q E h => ?_) (fun cdv A outer s H vs Q E hr h => ?_)
  · obtain ⟨a, p, rfl, _⟩ := h
    rfl
  · obtain ⟨a, p, rfl, hT1, hT2, pa, gp, k⟩ := h
    refine ⟨_, pss_cons (ps_expr (pe_call (E := E) G3 hr (by rfl) m3 k3 b3 .nil (passes_call (takes_of rfl rfl rfl rfl) (fun _ _ _ _ h => h)) (pa_cons (pv 0) pa_nil)))
      (pss_one (ps_ret (pe_lc (own := [("many", 1)]) (g := gName 1) (tt := tYes) rfl scBeginnings.nd (pi_range1 (by rfl) M.range (pa_cons (pe_op op_add (pe_callB call_len_seq (by rfl) M.len PySem.boot_len (pa_cons (pv 0) pa_nil)) pe_int) pa_nil))
        (blkOk_by (N := ["path", "many"]) (sc := defScope sBeginnings) (by decide +kernel)) (fun _ _ _ _ _ => pg_name (i := 1) scBeginnings.nd rfl (Or.inl rfl)) (fun _ _ _ _ _ => pts_nil) (fun _ _ _ _ _ => pe_slice (r := rSlA K) sl_tupA (pv 0) po_none (po_some (pv 1)))))), ?_⟩
    refine ⟨_, rfl, .ref a, true, rfl, (pa.at).yes gp, hT1, hT2, fun _ H1 x1 => ?_, fun z => nomatch z⟩
    have pa1 := PathX.ex x1 pa
    have hlen := (goodPath_names gp).1
    refine ⟨_, rfl, a, _, rfl, .inr (pa1.at (K := K)), _, _, rfl, rfl, _, rfl, by rw [List.length_map]; omega, by rw [List.length_map]; omega, ?_⟩
    intro D hD
    rw [show (((p.map V.str).length : Int) + 1).toNat = p.length + 1 by rw [List.length_map]; omega]
    refine lc_range (lo := 0) (n := p.length + 1) (fun i H => Ex H1 H ∧ ∃ rs : List Addr, H D = some (.lst (rs.map V.ref)) ∧ Paired (fun r q => PathX H r q) rs ((List.range i).map fun i => p.take i))
      ⟨Ex.new hD, [], upd_same, .nil⟩ ?_ ?_
    · rintro i H hi ⟨x, rs, hl, hp⟩
      have pr := PathX.ex x pa1
      refine ⟨rfl, _, rfl, _, rfl, _, rfl, ?_⟩
      rw [show (0 : Int) + (i : Int) = ((i : Nat) : Int) from Int.zero_add _]
      refine slice_toX i pr fun H' r x2 pr2 => ?_
      have hl2 := x2.keep _ _ hl (fun ps z => by cases z)
      have hlr : rs.length = i := by rw [hp.length, List.length_map, List.length_range]
      have stay : ∀ {u : Addr} {t : List Str}, PathX H' u t → PathX (upd H' D (.lst (rs.map V.ref ++ [.ref r]))) u t := fun {u t} h => by
        show upd _ _ _ _ = _
        rw [upd_ne (ne_of h hl2 (fun z => by cases z))]
        exact h
      refine ⟨rs.map V.ref, hl2, by rw [List.length_map, hlr]; exact Nat.lt_of_lt_of_le hi (by have : sizeLine = 16777216 := sizeLine_eq; omega), (x.trans x2).put hD, rs ++ [r], ?_, ?_⟩
      · rw [upd_same, List.map_append]
        rfl
      · rw [List.range_succ, List.map_append]
        exact pairSnoc (F := fun r q => PathX _ r q) (stay pr2) (pairImp (fun u q h => stay (PathX.ex x2 h)) hp)
    · rintro H ⟨x, rs, hl, hp⟩
      exact k H D (x1.trans x) ⟨rs, hl, hp⟩
theorem scLets : FnScope ["layer", "path"] ["layer", "path"] (defScope sLetsThrough) := ⟨rfl, rfl, rfl, by decide +kernel, rfl, by decide +kernel, by decide +kernel⟩
theorem ok_lets {f c fB P1 P2 P7 aS : Addr} {fd fdB : FuncData} (F : FunC K "lets_through" "lets_through" sLetsThrough f fd c) (M : Mg mg) (TB : LamX.TabB base mg c P7) (S : Cst K mg "SEE_THROUGH" [.str "drawer", .bl false] aS)
    (GB : FnOk P w K mg base (L2.CX P w) 7 fB fdB ["path"] (spBeginningsX K P1 P2)) (mB : mg "beginnings" = some (.ref fB)) (kB : PySem.W.keepIn K (.ref fB) = true) (bB : Binds K fdB ["path"] []) :
    FnOk P w K mg base CX0 8 f fd ["layer", "path"] (spLets K P1 P2 P7) := by
  refine F.ok scLets (fun vs H Q E h => ?_) (fun A outer s H vs Q E hr h => ?_)
  · obtain ⟨d, a, es, p, rfl, _⟩ := h
    rfl
  · obtain ⟨d, a, es, p, rfl, ht, hsh, pa, gp, hval, hT1, hT2, hT7, k⟩ := h
    have r3 := hr.mono (show 3 ≤ 7 by decide)
    refine ⟨_, pss_one (ps_ret (pe_all (k := 2) (N := ["layer", "path", "top"]) (pad := 1) (j := 2) (x := "top") (P := P7) r3 rfl (by rfl) M.all TB rfl (gn_by (N0 := ["layer", "path"]) (sc := defScope sLetsThrough) (by decide +kernel))
        (pi_list (pe_call (E := E0) GB hr (by rfl) mB kB bB .nil passL (pa_cons (pv 1) pa_nil)))
        (fun A s H cl C code fp pn hr => pe_cmpR (r := rEqD K) (op_eqD hr.units) (pe_dget (by have := hr.units; show A.units + 1 < cLine; omega) (pv 0) (pv 2) (fun _ _ => rfl)) (pe_glob (v := .ref aS) (by rfl) S.g rfl) (nomark _)))), ?_⟩
    refine ⟨_, rfl, a, p, rfl, hT1, hT2, pa, gp, fun H1 l x1 hl => ?_⟩
    obtain ⟨rs, hrs, hp⟩ := hl
    refine ⟨l, rfl, ⟨_, SqL.of hrs⟩, x1.tab _ hT7, fun H2 hT => ?_⟩
    have x2 := Ex.tabd hT (x1.tab _ hT7)
    have l2 := x2.keep _ _ hrs (fun ps z => by cases z)
    refine gw_lst (xs := rs.map V.ref) (fun i => seeAt es ((begs p).getD i [])) (SqL.of l2) (fun G x => SqL.of (x.keep _ _ l2 (fun ps z => by cases z))) ?_ ?_
    · intro i y G hy x R hR
      rw [List.getElem?_map] at hy
      obtain ⟨r, hr5, rfl⟩ := Option.map_eq_some_iff.mp hy
      obtain ⟨t, htt, pt⟩ := paired_get hp hr5
      have px : PathX G r t := PathX.ex (x2.trans x) pt
      obtain ⟨kvs, hd, row⟩ := ht.ex ((x1.trans x2).trans x)
      have et : (begs p).getD i [] = t := by rw [List.getD_eq_getElem?_getD, htt]; rfl
      rw [et] at hR
      obtain ⟨D, hD⟩ := hval t (List.mem_of_getElem? htt)
      rcases row.val (p := t) with ⟨_, e2⟩ | ⟨v, D0, e1, e2, dv⟩
      · rw [hD] at e2
        cases e2
      rw [hD] at e2
      cases e2
      obtain ⟨en, hen, _, rfl⟩ := valE_mem hD
      refine ⟨_, rfl, _, rfl, d, v, rfl, by have := get_tr hd px; rwa [e1] at this, en.2, seeD, dv, .tup (S.t G) (.cons (.str _) (.cons (.bl _) .nil)), hsh en hen, by decide +kernel, ?_⟩
      have := hR G x
      rwa [show seeAt es t = PyData.eqv en.2 seeD by unfold seeAt; rw [hD]] at this
    · intro G x
      have := k G ((x1.trans x2).trans x)
      have e : (List.range (rs.map V.ref).length).all (fun i => seeAt es ((begs p).getD i [])) = (begs p).all (seeAt es) := by
        rw [List.length_map, hp.length]
        exact all_of_range (seeAt es) (begs p) _ fun i x e => by rw [List.getD_eq_getElem?_getD, e]; rfl
      rwa [e]
end
/-! ### forms of entries -/
theorem list1 {ds : List PyData} (h : ds.length = 1) : ds = [ds.getD 0 .none] := by
  match ds, h with
  | [a], _ => rfl
theorem list2 {ds : List PyData} (h : ds.length = 2) : ds = [ds.getD 0 .none, ds.getD 1 .none] := by
  match ds, h with
  | [a, b], _ => rfl
theorem list3 {ds : List PyData} (h : ds.length = 3) : ds = [ds.getD 0 .none, ds.getD 1 .none, ds.getD 2 .none] := by
  match ds, h with
  | [a, b, c], _ => rfl
theorem kind_form {word : Str} {many : Nat} {d : PyData} (h : kindB word many d = true) : ∃ ds, d = .tuple ds ∧ ds.length = many ∧ ds.getD 0 .none = .str word := by
  cases d with
  | tuple ds =>
    have : (decide (ds.length = many) && headIs word (ds.getD 0 .none)) = true := h
    rw [Bool.and_eq_true] at this
    obtain ⟨h1, h2⟩ := this
    refine ⟨ds, rfl, of_decide_eq_true h1, ?_⟩
    cases e : ds.getD 0 .none with
    | str z =>
      rw [e] at h2
      have : z = word := of_decide_eq_true h2
      rw [this]
    | _ => rw [e] at h2; exact absurd (show false = true from h2) Bool.false_ne_true
  | _ => exact absurd (show false = true from h) Bool.false_ne_true
theorem file_form {d : PyData} (h : fileB d = true) : ∃ n z, d = .tuple [.str "file", .int n, .str z] ∧ numB (.int n) = true ∧ textB z = true := by
  obtain ⟨ds, n, z, rfl, hl, p1, p2, g1, g2⟩ := file_parts h
  obtain ⟨ds', e, _, g0⟩ := kind_form (file_kind h)
  cases e
  have hx := h
  unfold fileB at hx
  simp only [Bool.and_eq_true] at hx
  rw [p1, p2] at hx
  refine ⟨n, z, ?_, hx.2.1, hx.2.2⟩
  rw [list3 hl, g0, g1, g2]
theorem entry_form {d : PyData} (h : entryB d = true) : (∃ b, d = .tuple [.str "drawer", .bool b]) ∨ d = .tuple [.str "gone"] ∨ ∃ n z, d = .tuple [.str "file", .int n, .str z] ∧ numB (.int n) = true ∧ textB z = true := by
  unfold entryB at h
  split at h
  · rename_i hk
    obtain ⟨ds, rfl, hl, g0⟩ := kind_form hk
    have p1 : partD 1 (.tuple ds) = ds.getD 1 .none := rfl
    rw [p1] at h
    refine Or.inl ?_
    rw [list2 hl, g0]
    cases e : ds.getD 1 .none with
    | bool b => exact ⟨b, rfl⟩
    | _ => rw [e] at h; exact absurd (show false = true from h) Bool.false_ne_true
  · rcases (Bool.or_eq_true _ _).mp h with h | h
    · obtain ⟨ds, rfl, hl, g0⟩ := kind_form h
      exact Or.inr (Or.inl (by rw [list1 hl, g0]))
    · exact Or.inr (Or.inr (file_form h))
theorem tree_form {d : PyData} (h : drawerB d = true ∨ fileB d = true) : d = drD ∨ ∃ n z, d = .tuple [.str "file", .int n, .str z] ∧ numB (.int n) = true ∧ textB z = true := by
  rcases h with h | h
  · obtain ⟨ds, rfl, hl, g0⟩ := kind_form (show kindB "drawer" 1 d = true from h)
    exact Or.inl (by rw [list1 hl, g0]; rfl)
  · exact Or.inr (file_form h)
theorem text_ok' {z : Str} (h : textB z = true) : PyData.strOk z = true := by
  unfold textB allIn at h
  simp only [Bool.and_eq_true, List.all_eq_true, decide_eq_true_eq] at h
  exact str_ok fun c hc => signs_ok c (h.2 c hc)
theorem file_shaped {n : Int} {z : Str} (h : textB z = true) : SeqAt.shaped (.tuple [.str "file", .int n, .str z]) = true := by
  have hz := text_ok' h
  have hf : PyData.strOk "file" = true := by decide +kernel
  simp [SeqAt.shaped, PyData.canLay0, PyData.canLayAll0, PyData.depth, PyData.depthAll, hz, hf]
theorem entry_shaped {d : PyData} (h : entryB d = true) : SeqAt.shaped d = true := by
  rcases entry_form h with ⟨b, rfl⟩ | rfl | ⟨n, z, rfl, _, hz⟩
  · cases b <;> decide +kernel
  · decide +kernel
  · exact file_shaped hz
theorem tree_shaped {d : PyData} (h : drawerB d = true ∨ fileB d = true) : SeqAt.shaped d = true := by
  rcases tree_form h with rfl | ⟨n, z, rfl, _, hz⟩
  · decide +kernel
  · exact file_shaped hz
theorem drawer_eqv {d : PyData} (h : drawerB d = true ∨ fileB d = true) : PyData.eqv d drD = drawerB d := by
  rcases tree_form h with rfl | ⟨n, z, rfl, _, hz⟩
  · decide +kernel
  · have : drawerB (.tuple [.str "file", .int n, .str z]) = false := rfl
    rw [this]
    simp [drD, PyData.eqv, PyData.eqvAll]
theorem drAt_tree {es : Ents} (h : ∀ e ∈ es, drawerB e.2 = true ∨ fileB e.2 = true) (p : List Str) : drAt es p = drawerAt es p := by
  unfold drAt drawerAt
  cases hv : valE es p with
  | none => rfl
  | some d =>
    obtain ⟨x, hx, _, rfl⟩ := valE_mem hv
    exact drawer_eqv (h x hx)
/-- below the root each path's top is there, a drawer -/
theorem roof_up {es : Ents} (h : roofB es = true) {p : List Str} (hp : drawerAt es p = true) (n : Nat) : drawerAt es (p.take (p.length - n)) = true := by
  induction n with
  | zero => rw [Nat.sub_zero, List.take_length]; exact hp
  | succ n ih =>
    generalize hq : p.take (p.length - n) = q at ih
    by_cases e : q = []
    · have : p.take (p.length - (n + 1)) = [] := by
        have h1 : p.length - n = 0 ∨ p = [] := by
          rw [e] at hq
          rcases List.take_eq_nil_iff.mp hq with h | h
          · exact Or.inl h
          · exact Or.inr h
        rcases h1 with h1 | h1
        · rw [show p.length - (n + 1) = 0 by omega]; rfl
        · rw [h1, List.take_nil]
      rw [this]
      rw [e] at ih
      exact ih
    · have h2 : drawerAt es q.dropLast = true := by
        unfold drawerAt at ih
        cases hv : valE es q with
        | none => rw [hv] at ih; cases ih
        | some d =>
          obtain ⟨x, hx, e1, _⟩ := valE_mem hv
          unfold roofB at h
          rw [Bool.and_eq_true, List.all_eq_true] at h
          have := h.2 x hx
          rw [e1, decide_eq_false e, Bool.false_or] at this
          exact this
      have hl : q.length = p.length - n := by rw [← hq, List.length_take]; omega
      have : p.take (p.length - (n + 1)) = q.dropLast := by
        rw [List.dropLast_eq_take, hl, ← hq, List.take_take]
        congr 1
        omega
      rw [this]
      exact h2
theorem roof_begs {es : Ents} (h : roofB es = true) {p : List Str} (hp : drawerAt es p = true) : ∀ q ∈ begs p, drawerAt es q = true := by
  intro q hq
  obtain ⟨i, hi, rfl⟩ := List.mem_map.mp hq
  have hi2 := List.mem_range.mp hi
  have := roof_up h hp (p.length - i)
  rwa [show p.length - (p.length - i) = i by omega] at this
theorem begs_self (p : List Str) : p ∈ begs p := List.mem_map.mpr ⟨p.length, List.mem_range.mpr (Nat.lt_succ_self _), List.take_length⟩
theorem roofH_begs {es : Ents} (h : roofH es = true) {p : List Str} {D : PyData} (hp : valE es p = some D) : ∀ q ∈ begs p, ∃ D, valE es q = some D := by
  have up : ∀ n, ∃ D, valE es (p.take (p.length - n)) = some D := by
    intro n
    induction n with
    | zero => rw [Nat.sub_zero, List.take_length]; exact ⟨D, hp⟩
    | succ n ih =>
      obtain ⟨D', ih⟩ := ih
      generalize hq : p.take (p.length - n) = q at ih
      by_cases e : q = []
      · have : p.take (p.length - (n + 1)) = [] := by
          rw [e] at hq
          rcases List.take_eq_nil_iff.mp hq with h1 | h1
          · rw [show p.length - (n + 1) = 0 by omega]; rfl
          · rw [h1, List.take_nil]
        rw [this]
        rw [e] at ih
        exact ⟨D', ih⟩
      · obtain ⟨x, hx, e1, _⟩ := valE_mem ih
        unfold roofH at h
        rw [Bool.and_eq_true, List.all_eq_true] at h
        have h2 := h.2 x hx
        rw [e1, decide_eq_false e, Bool.false_or] at h2
        have hl : q.length = p.length - n := by rw [← hq, List.length_take]; omega
        have : p.take (p.length - (n + 1)) = q.dropLast := by
          rw [List.dropLast_eq_take, hl, ← hq, List.take_take]
          congr 1
          omega
        rw [this]
        unfold dirAt at h2
        cases hv : valE es q.dropLast with
        | none => rw [hv] at h2; cases h2
        | some d => exact ⟨d, rfl⟩
  intro q hq
  obtain ⟨i, hi, rfl⟩ := List.mem_map.mp hq
  have hi2 := List.mem_range.mp hi
  have := up (p.length - i)
  rwa [show p.length - (p.length - i) = i by omega] at this
theorem layerB_parts {es : Ents} (h : layerB es = true) : es.length ≤ 40 ∧ (∀ e ∈ es, goodPath e.1 = true) ∧ (∀ e ∈ es, entryB e.2 = true) ∧ roofH es = true ∧ oneTextB (es.map (·.2)) = true := by
  unfold layerB at h
  simp only [Bool.and_eq_true, decide_eq_true_eq, List.all_eq_true] at h
  exact ⟨h.1, h.2.1, h.2.2.1, h.2.2.2.1, h.2.2.2.2⟩
/-! ### what open_drawers tells -/
def openF (ls : Ents) (e : List Str × PyData) : Bool := PyData.eqv e.2 drD && ((valE ls e.1).isSome && (begs e.1).all (seeAt ls))
def openOf (ls es : Ents) : List (List Str) := (es.filter (openF ls)).map (·.1)
def lopenB (ls es : Ents) (p : List Str) : Bool := (begs p).all fun q => seeAt ls q && drAt es q
theorem valE_nd {es : Ents} (nd : (es.map (·.1)).Nodup) {e : List Str × PyData} (h : e ∈ es) : valE es e.1 = some e.2 := by
  unfold valE
  induction es with
  | nil => cases h
  | cons x es ih =>
    rw [List.map_cons, List.nodup_cons] at nd
    rw [List.find?_cons]
    by_cases hx : x.1 = e.1
    · rw [decide_eq_true hx]
      rcases List.mem_cons.mp h with rfl | h
      · rfl
      · exact absurd (List.mem_map.mpr ⟨e, h, hx.symm⟩) nd.1
    · rw [decide_eq_false hx]
      rcases List.mem_cons.mp h with rfl | h
      · exact absurd rfl hx
      · exact ih nd.2 h
theorem valE_key {es : Ents} {p : List Str} (h : (valE es p).isSome = true) : p ∈ es.map (·.1) := by
  cases e : valE es p with
  | none => rw [e] at h; cases h
  | some d =>
    obtain ⟨x, hx, e1, _⟩ := valE_mem e
    exact List.mem_map.mpr ⟨x, hx, e1⟩
theorem open_mem {ls es : Ents} (hl : (ls.map (·.1)).Nodup) (he : (es.map (·.1)).Nodup) (ht : treeB es = true) (p : List Str) : p ∈ openOf ls es ↔ p ∈ (ls.map (·.1)).filter (lopenB ls es) := by
  obtain ⟨_, _, hth, hroof, _⟩ := treeB_parts ht
  unfold openOf
  rw [List.mem_map, List.mem_filter]
  constructor
  · rintro ⟨e, hm, rfl⟩
    rw [List.mem_filter] at hm
    obtain ⟨hm, hf⟩ := hm
    unfold openF at hf
    simp only [Bool.and_eq_true, List.all_eq_true] at hf
    obtain ⟨f1, f2, f3⟩ := hf
    refine ⟨valE_key f2, ?_⟩
    unfold lopenB
    rw [List.all_eq_true]
    intro q hq
    rw [Bool.and_eq_true]
    refine ⟨f3 q hq, ?_⟩
    rw [drAt_tree hth]
    refine roof_begs hroof ?_ q hq
    unfold drawerAt
    rw [valE_nd he hm]
    show drawerB e.2 = true
    rw [← drawer_eqv (hth e hm)]
    exact f1
  · rintro ⟨hk, hb⟩
    unfold lopenB at hb
    rw [List.all_eq_true] at hb
    have hs := hb p (begs_self p)
    rw [Bool.and_eq_true] at hs
    have hd := hs.2
    unfold drAt at hd
    cases e : valE es p with
    | none => rw [e] at hd; cases hd
    | some d =>
      rw [e] at hd
      obtain ⟨x, hx, e1, e2⟩ := valE_mem e
      refine ⟨x, List.mem_filter.mpr ⟨hx, ?_⟩, e1⟩
      unfold openF
      simp only [Bool.and_eq_true, List.all_eq_true]
      refine ⟨by rw [e2]; exact hd, ?_, fun q hq => ?_⟩
      · rw [e1]
        obtain ⟨y, hy, e3⟩ := List.mem_map.mp hk
        have := valE_nd hl hy
        rw [e3] at this
        rw [this]
        rfl
      · rw [e1] at hq
        have := hb q hq
        rw [Bool.and_eq_true] at this
        exact this.1
theorem open_perm {ls es : Ents} (hl : (ls.map (·.1)).Nodup) (he : (es.map (·.1)).Nodup) (ht : treeB es = true) : (openOf ls es).Perm ((ls.map (·.1)).filter (lopenB ls es)) := by
  refine (List.perm_ext_iff_of_nodup ?_ (hl.filter _)).mpr (open_mem hl he ht)
  unfold openOf
  exact (List.Sublist.map _ List.filter_sublist).nodup he
/-! ### a tree grows -/
def seenStep (seen : List (L2.Key × V)) (d : PyData) : List (L2.Key × V) := if fileB d = true then
      (match partD 1 d, partD 2 d with
      | .int n, .str z => if (valV seen (Sum.inl n)).isSome = true then seen else putK seen (Sum.inl n) (.str z)
      | _, _ => seen)
    else seen
def seenOf (seen : List (L2.Key × V)) (ds : List PyData) : List (L2.Key × V) := ds.foldl seenStep seen
theorem seenStep_file {seen : List (L2.Key × V)} {d : PyData} {n : Int} {z : Str} (h : fileB d = true) (e1 : partD 1 d = .int n) (e2 : partD 2 d = .str z) :
    seenStep seen d = if (valV seen (Sum.inl n)).isSome = true then seen else putK seen (Sum.inl n) (.str z) := by
  unfold seenStep
  rw [if_pos h, e1, e2]
theorem seenStep_not {seen : List (L2.Key × V)} {d : PyData} (h : fileB d = false) : seenStep seen d = seen := by
  unfold seenStep
  rw [if_neg (by rw [h]; decide)]
def StrVals (seen : List (L2.Key × V)) : Prop := ∀ k v, valV seen k = some v → ∃ z, v = .str z
theorem StrVals.put {seen : List (L2.Key × V)} {n : Int} {z : Str} (h : StrVals seen) : StrVals (putK seen (Sum.inl n) (.str z)) := by
  intro k v hkv
  rw [valV_put] at hkv
  split at hkv
  · exact ⟨z, (Option.some.inj hkv).symm⟩
  · exact h k v hkv
theorem seenStep_strs {seen : List (L2.Key × V)} {d : PyData} (h : StrVals seen) : StrVals (seenStep seen d) := by
  cases hf : fileB d with
  | false =>
    rw [seenStep_not hf]
    exact h
  | true =>
    obtain ⟨fs, n, z, _, _, e1, e2, _, _⟩ := file_parts hf
    rw [seenStep_file hf e1 e2]
    split
    · exact h
    · exact h.put
theorem seenOf_strs : ∀ (ds : List PyData) {seen : List (L2.Key × V)}, StrVals seen → StrVals (seenOf seen ds)
  | [], seen, h => h
  | d :: ds, seen, h => seenOf_strs ds (seenStep_strs h)
theorem textsGo_app : ∀ (ds : List PyData) (d : PyData) {seen : List (L2.Key × V)}, StrVals seen → textsGo seen (ds ++ [d]) = (textsGo seen ds && textsGo (seenOf seen ds) [d])
  | [], d, seen, h => by
    show textsGo seen [d] = (textsGo seen [] && textsGo (seenOf seen []) [d])
    rw [textsGo.eq_1, Bool.true_and]
    rfl
  | x :: ds, d, seen, h => by
    rw [List.cons_append]
    have es : seenOf seen (x :: ds) = seenOf (seenStep seen x) ds := rfl
    rw [es]
    cases hf : fileB x with
    | false => rw [textsGo_not hf, textsGo_not hf, seenStep_not hf, textsGo_app ds d h]
    | true =>
      obtain ⟨fs, n, z, _, _, e1, e2, _, _⟩ := file_parts hf
      rw [seenStep_file hf e1 e2]
      cases hv : valV seen (Sum.inl n) with
      | none => rw [textsGo_new hf e1 e2 hv, textsGo_new hf e1 e2 hv, if_neg (by decide), textsGo_app ds d h.put]
      | some v =>
        obtain ⟨y, rfl⟩ := h _ _ hv
        rw [textsGo_old hf e1 e2 hv, textsGo_old hf e1 e2 hv, if_pos (show (some (V.str y)).isSome = true from rfl)]
        by_cases hyz : y = z
        · rw [if_pos hyz, if_pos hyz, textsGo_app ds d h]
        · rw [if_neg hyz, if_neg hyz, Bool.false_and]
theorem seenOf_app (ds : List PyData) (d : PyData) (seen : List (L2.Key × V)) : seenOf seen (ds ++ [d]) = seenStep (seenOf seen ds) d := by
  unfold seenOf
  rw [List.foldl_append]
  rfl
theorem valE_app {es : Ents} {e : List Str × PyData} {q : List Str} : valE (es ++ [e]) q = match valE es q with
    | some d => some d
    | none => if e.1 = q then some e.2 else none := by
  unfold valE
  rw [List.find?_append]
  cases h : es.find? fun e => decide (e.1 = q) with
  | some x => rfl
  | none =>
    rw [Option.none_or, List.find?_cons]
    by_cases he : e.1 = q
    · rw [decide_eq_true he]
      simp [he]
    · rw [decide_eq_false he]
      simp [he]
theorem drawerAt_app {es : Ents} {e : List Str × PyData} {q : List Str} (h : drawerAt es q = true) : drawerAt (es ++ [e]) q = true := by
  unfold drawerAt at h ⊢
  rw [valE_app]
  cases hv : valE es q with
  | some d =>
    rw [hv] at h
    exact h
  | none =>
    rw [hv] at h
    cases h
theorem roof_app {es : Ents} {e : List Str × PyData} (h : roofB es = true) (hn : e.1 ≠ []) (ha : drawerAt es e.1.dropLast = true) : roofB (es ++ [e]) = true := by
  unfold roofB at h ⊢
  simp only [Bool.and_eq_true, List.all_eq_true, Bool.or_eq_true, decide_eq_true_eq] at h ⊢
  obtain ⟨h1, h2⟩ := h
  refine ⟨drawerAt_app h1, fun x hx => ?_⟩
  rcases List.mem_append.mp hx with hx | hx
  · exact (h2 x hx).imp id drawerAt_app
  · rw [List.mem_singleton.mp hx]
    exact Or.inr (drawerAt_app ha)
/-- a tree with one thing more -/
theorem treeB_app {es : Ents} {p : List Str} {D : PyData} (h : treeB es = true) (h80 : es.length < 80) (hn : p ≠ []) (hg : goodPath p = true) (ha : drawerAt es p.dropLast = true) (hd : drawerB D = true ∨ fileB D = true)
    (ht : ∀ n z y, fileB D = true → partD 1 D = .int n → partD 2 D = .str z → valV (seenOf [] (es.map (·.2))) (Sum.inl n) = some (.str y) → y = z) : treeB (es ++ [(p, D)]) = true := by
  obtain ⟨h1, h2, h3, h4, h5⟩ := treeB_parts h
  have t5 : oneTextB ((es ++ [(p, D)]).map (·.2)) = true := by
    rw [List.map_append]
    show textsGo [] (es.map (·.2) ++ [D]) = true
    rw [textsGo_app _ _ (fun k v h => by cases h), Bool.and_eq_true]
    refine ⟨h5, ?_⟩
    cases hf : fileB D with
    | false =>
      rw [textsGo_not hf]
      rfl
    | true =>
      obtain ⟨fs, n, z, _, _, e1, e2, _, _⟩ := file_parts hf
      cases hv : valV (seenOf [] (es.map (·.2))) (Sum.inl n) with
      | none =>
        rw [textsGo_new hf e1 e2 hv]
        rfl
      | some v =>
        obtain ⟨y, rfl⟩ := seenOf_strs (es.map (·.2)) (fun k v h => by cases h) _ _ hv
        rw [textsGo_old hf e1 e2 hv, if_pos (ht n z y hf e1 e2 hv)]
        rfl
  unfold treeB
  simp only [Bool.and_eq_true, decide_eq_true_eq, List.all_eq_true, Bool.or_eq_true]
  refine ⟨by rw [List.length_append, List.length_singleton]; omega, fun e he => ?_, fun e he => ?_, roof_app h4 hn ha, t5⟩
  · rcases List.mem_append.mp he with he | he
    · exact h2 e he
    · rw [List.mem_singleton.mp he]
      exact hg
  · rcases List.mem_append.mp he with he | he
    · exact h3 e he
    · rw [List.mem_singleton.mp he]
      exact hd
/-! ### the law's draws -/
def spDraw (K : PySem.W.Frag) : Sp := fun vs H Q _ => ∃ (sc tw : Addr) (ns : List Int) (m : Int), vs = [.ref sc, .ref tw, .int m] ∧ Lw K H sc tw ns ∧ 0 < m ∧ m < 1073741824 ∧
  ∀ H' r, Ev tw H H' → 0 ≤ r → r < m → Q (.int r) H'
section
variable {P : Program} {w : World} {K : PySem.W.Frag} {mg : Str → Option Value} {base : Heap}
theorem scDraw : FnScope ["_law_script", "_law_town", "_law_many", "_law_one", "_law_at", "_law_mixed"] ["_law_script", "_law_town", "_law_many"] (defScope sDraw) := ⟨rfl, rfl, rfl, by decide +kernel, rfl, by decide +kernel, by decide +kernel⟩
theorem ok_draw {f : Addr} {fd : FuncData} (F : Fun K "_law_draw" "_law_draw" sDraw f fd) (mLen : mg "len" = none) : FnOk P w K mg base CX0 1 f fd ["_law_script", "_law_town", "_law_many"] (spDraw K) := by
  refine F.ok scDraw (fun vs H Q E h => ?_) (fun cdv A outer s H vs Q E hr h => ?_)
  · obtain ⟨sc, tw, ns, m, rfl, _⟩ := h
    rfl
  · obtain ⟨sc, tw, ns, m, rfl, L, m0, m1, k⟩ := h
    refine ⟨_, pss_cons (ps_if (pt_cmpR op_gt (pe_ix ix_list (pv 1) pe_int (fun _ _ => rfl)) pe_int (nomark _))
        (pss_cons (ps_set (i := 3) scDraw.nd rfl (Or.inl rfl) (pe_op op_mod (pe_ix ix_list (pv 1) pe_int (fun _ _ => rfl)) (pv 2)))
        (pss_cons (ps_asg (pe_op op_fdiv (pe_ix ix_list (pv 1) pe_int (fun _ _ => rfl)) (pv 2)) (pg_sub (pv 1) pe_int set_list))
        (pss_one (ps_ret (pv 3))))) pss_nil)
      (pss_cons (ps_set (i := 4) scDraw.nd rfl (Or.inl rfl) (pe_ix ix_list (pv 1) pe_int (fun _ _ => rfl)))
      (pss_cons (ps_augS (pv 1) pe_int get_list pe_int ip_add set_list)
      (pss_cons (ps_if (pt_cmpR (op_eqD hr.units) (pv 0) (pe_lst pa_nil) (nomark _)) (pss_one (ps_ret (pe_op op_mod (pv 4) (pv 2)))) pss_nil)
      (pss_cons (ps_if (PW.pt (pw_and (pt_cmpR op_lt (pv 4) (pe_callB call_len_seq (by rfl) mLen PySem.boot_len (pa_cons (pv 0) pa_nil)) (nomark _))
          (pw_and1 (pt_cmpR op_ge (pe_ix ix_list (pv 0) (pv 4) (fun _ _ => rfl)) (pe_op op_pow pe_int pe_int) (nomark _)))))
        (pss_cons (ps_asg (pe_op op_mod (pe_op op_fdiv (pe_ix ix_list (pv 0) (pv 4) (fun _ _ => rfl)) (pv 2)) (pe_op op_mulW (pe_op op_pow pe_int pe_int) (pe_op op_pow pe_int pe_int))) (pg_sub (pv 1) pe_int set_list))
        (pss_one (ps_ret (pe_op op_mod (pe_ix ix_list (pv 0) (pv 4) (fun _ _ => rfl)) (pv 2))))) pss_nil)
      (pss_cons (ps_set (i := 5) scDraw.nd rfl (Or.inl rfl) (pe_op op_mod (pe_op op_add (pe_op op_add (pe_op op_mul (pe_ix ix_list (pv 0) (pe_op op_mod (pv 4) (pe_callB call_len_seq (by rfl) mLen PySem.boot_len (pa_cons (pv 0) pa_nil))) (fun _ _ => rfl)) pe_int) (pe_op op_mul pe_int (pv 4))) pe_int) pe_int))
      (pss_one (ps_ret (pe_op op_mod (pe_op op_mod (pe_op op_mod (pe_op op_pow (pv 5) pe_int) pe_int) pe_int) (pv 2))))))))), ?_⟩
    obtain ⟨t0, t1, h0, ht⟩ := id L.town
    have a0 : ∀ x y : Int, atI [V.int x, V.int y] 0 = some (.int x) := fun _ _ => rfl
    have a1 : ∀ x y : Int, atI [V.int x, V.int y] 1 = some (.int y) := fun _ _ => rfl
    have x0 : ∀ x y : Int, ixN [V.int x, V.int y].length 0 = some 0 := fun _ _ => rfl
    have x1 : ∀ x y : Int, ixN [V.int x, V.int y].length 1 = some 1 := fun _ _ => rfl
    have p1 : (0 : Int) < 2147483647 := by decide
    have p2 : (0 : Int) < 999983 := by decide
    refine ⟨_, rfl, tw, _, 1, .int t1, rfl, rfl, SqL.of ht, a1 _ _, _, _, rfl, rfl, _, rfl, ?_⟩
    refine ite2 (fun _ => ?_) (fun _ => ?_)
    · -- what is left of a great one
      refine ⟨_, rfl, tw, _, 1, .int t1, rfl, rfl, SqL.of ht, a1 _ _, _, rfl, _, _, rfl, rfl, m0, ?_⟩
      refine ⟨_, rfl, tw, _, 1, .int t1, rfl, rfl, SqL.of ht, a1 _ _, _, rfl, _, _, rfl, rfl, ⟨m0, m1⟩, _, rfl, tw, _, 1, 1, rfl, rfl, ht, x1 _ _, ?_⟩
      exact ⟨_, rfl, k _ _ (Ev.write L.town h0) (Int.emod_nonneg _ (by omega)) (Int.emod_lt_of_pos _ m0)⟩
    · -- a cell of the script
      refine ⟨_, rfl, tw, _, 0, .int t0, rfl, rfl, SqL.of ht, a0 _ _, ?_⟩
      refine ⟨_, rfl, tw, _, 0, .int t0, rfl, rfl, SqL.of ht, a0 _ _, _, _, rfl, rfl, tw, _, 0, 0, rfl, rfl, ht, x0 _ _, ?_⟩
      have w1 : Ev tw H (upd H tw (.lst [.int (t0 + 1), .int t1])) := Ev.write L.town (by omega)
      have L1 := L.ev w1
      generalize hH1 : upd H tw (.lst [.int (t0 + 1), .int t1]) = H1 at w1 L1
      have e1 : H1 tw = some (.lst [.int (t0 + 1), .int t1]) := by rw [← hH1, upd_same]
      have eH : upd H tw (.lst ([V.int t0, V.int t1].set 0 (V.int (t0 + 1)))) = H1 := hH1
      rw [eH]
      refine ⟨_, rfl, Nat.zero_le _, fun p hp => ?_⟩
      have x2 : Ex H1 (upd H1 p (.lst [])) := Ex.new hp
      have L2 := L1.ex x2
      have e2 : (upd H1 p (.lst [])) tw = some (.lst [.int (t0 + 1), .int t1]) := x2.keep _ _ e1 (fun ps z => by cases z)
      have ep : SqL K (upd H1 p (.lst [])) p [] := SqL.of upd_same
      have w2 : Ev tw H (upd H1 p (.lst [])) := w1.trans (x2.ev L1.town)
      generalize upd H1 p (.lst []) = H2 at L2 e2 ep w2
      refine ⟨.list (ns.map .int), .list [], .lst L2.sq (dpAll_ints ns), .lst ep .nil, shaped_ints ns, shaped_nil, _, rfl, ?_⟩
      rw [eqv_nil]
      refine ite2 (fun hn => ?_) (fun hn => ?_)
      · exact ⟨_, rfl, _, rfl, _, _, rfl, rfl, m0, k _ _ w2 (Int.emod_nonneg _ (by omega)) (Int.emod_lt_of_pos _ m0)⟩
      · have hpos : 0 < ns.length := by
          cases ns with
          | nil => exact absurd rfl hn
          | cons _ _ => simp
        have hL : ((ns.map V.int).length : Int) = (ns.length : Int) := by rw [List.length_map]
        obtain ⟨z, az⟩ : ∃ z, atI (ns.map V.int) (t0 % (((ns.map V.int).length : Nat) : Int)) = some (.int z) := by
          have q1 := Int.emod_nonneg t0 (show (((ns.map V.int).length : Nat) : Int) ≠ 0 by omega)
          have q2 := Int.emod_lt_of_pos t0 (show (0 : Int) < (((ns.map V.int).length : Nat) : Int) by omega)
          obtain ⟨j, ej⟩ := Int.eq_ofNat_of_zero_le q1
          have hj : j < ns.length := by omega
          exact ⟨ns[j], at_of ej (by rw [List.getElem?_map, List.getElem?_eq_getElem hj]; rfl)⟩
        refine ⟨_, rfl, _, rfl, sc, _, rfl, .inl L2.sq, _, _, rfl, rfl, _, rfl, ?_⟩
        refine ite2 (fun c1 => ?_) (fun c1 => ?_)
        · have c1 : t0 < ((ns.map V.int).length : Int) := of_decide_eq_true c1
          obtain ⟨y, ay⟩ : ∃ y, atI (ns.map V.int) t0 = some (.int y) := by
            obtain ⟨j, ej⟩ := Int.eq_ofNat_of_zero_le h0
            have hj : j < ns.length := by omega
            exact ⟨ns[j], at_of ej (by rw [List.getElem?_map, List.getElem?_eq_getElem hj]; rfl)⟩
          refine ⟨_, rfl, _, rfl, sc, _, t0, .int y, rfl, rfl, L2.sq, ay, _, _, rfl, rfl, ⟨by decide, by decide, by decide⟩, _, _, rfl, rfl, _, rfl, ?_⟩
          refine ite2 (fun c2 => ?_) (fun c2 => ?_)
          · refine ⟨_, rfl, _, rfl, sc, _, t0, .int y, rfl, rfl, L2.sq, ay, _, rfl, _, _, rfl, rfl, ⟨m0, m1⟩, ?_⟩
            refine ⟨_, _, rfl, rfl, ⟨by decide, by decide, by decide⟩, _, _, rfl, rfl, ⟨by decide, by decide, by decide⟩, _, _, rfl, rfl, ?_, _, _, rfl, rfl, ?_, ?_⟩
            · exact wide_mul (a := 200) (b := 200) (by decide +kernel) (by decide +kernel) (by decide) (by decide) (by decide)
            · show (0 : Int) < 10 ^ (60 : Int).toNat * 10 ^ (60 : Int).toNat
              decide +kernel
            · refine ⟨_, rfl, tw, _, 1, 1, rfl, rfl, e2, x1 _ _, ?_⟩
              have w3 := w2.trans (Ev.write (t0 := t0 + 1) (t1 := y / m % (10 ^ (60 : Int).toNat * 10 ^ (60 : Int).toNat)) L2.town (by omega))
              have L3 := L.ev w3
              refine ⟨_, rfl, _, rfl, sc, _, t0, .int y, rfl, rfl, L3.sq, ay, _, rfl, _, _, rfl, rfl, m0, ?_⟩
              exact k _ _ w3 (Int.emod_nonneg _ (by omega)) (Int.emod_lt_of_pos _ m0)
          · -- the mixed one
            refine ⟨_, rfl, _, rfl, _, rfl, sc, _, rfl, .inl L2.sq, _, _, rfl, rfl, (by rw [List.length_map]; omega), sc, _, t0 % (((ns.map V.int).length : Nat) : Int), .int z, rfl, rfl, L2.sq, az, _, _, rfl, rfl, .inr ⟨by decide, by decide⟩, ?_⟩
            refine ⟨_, rfl, _, _, rfl, rfl, .inl ⟨by decide, by decide⟩, _, _, rfl, rfl, _, _, rfl, rfl, _, _, rfl, rfl, p1, ?_⟩
            refine ⟨_, rfl, _, _, rfl, rfl, ⟨by decide, by decide, ?_⟩, _, _, rfl, rfl, p1, _, _, rfl, rfl, p2, _, rfl, _, _, rfl, rfl, m0, ?_⟩
            · have q1 := Int.emod_nonneg (z * 1103515245 + 7919 * t0 + 12345) (show (2147483647 : Int) ≠ 0 by decide)
              have q2 := Int.emod_lt_of_pos (z * 1103515245 + 7919 * t0 + 12345) (show (0 : Int) < 2147483647 by decide)
              omega
            · exact k _ _ w2 (Int.emod_nonneg _ (by omega)) (Int.emod_lt_of_pos _ m0)
        · -- the mixed one
          refine ⟨_, rfl, _, rfl, _, rfl, sc, _, rfl, .inl L2.sq, _, _, rfl, rfl, (by rw [List.length_map]; omega), sc, _, t0 % (((ns.map V.int).length : Nat) : Int), .int z, rfl, rfl, L2.sq, az, _, _, rfl, rfl, .inr ⟨by decide, by decide⟩, ?_⟩
          refine ⟨_, rfl, _, _, rfl, rfl, .inl ⟨by decide, by decide⟩, _, _, rfl, rfl, _, _, rfl, rfl, _, _, rfl, rfl, p1, ?_⟩
          refine ⟨_, rfl, _, _, rfl, rfl, ⟨by decide, by decide, ?_⟩, _, _, rfl, rfl, p1, _, _, rfl, rfl, p2, _, rfl, _, _, rfl, rfl, m0, ?_⟩
          · have q1 := Int.emod_nonneg (z * 1103515245 + 7919 * t0 + 12345) (show (2147483647 : Int) ≠ 0 by decide)
            have q2 := Int.emod_lt_of_pos (z * 1103515245 + 7919 * t0 + 12345) (show (0 : Int) < 2147483647 by decide)
            omega
          · exact k _ _ w2 (Int.emod_nonneg _ (by omega)) (Int.emod_lt_of_pos _ m0)
end
/-! ### picks -/
def spPick (K : PySem.W.Frag) : Sp := fun vs H Q _ => ∃ (sc tw l : Addr) (ns : List Int) (xs : List V), vs = [.ref sc, .ref tw, .ref l] ∧ Lw K H sc tw ns ∧ SqL K H l xs ∧ l ≠ tw ∧ 0 < xs.length ∧ xs.length < 1000 ∧
  ∀ H' x, Ev tw H H' → x ∈ xs → Q x H'
section
variable {P : Program} {w : World} {K : PySem.W.Frag} {mg : Str → Option Value} {base : Heap}
theorem scPick : FnScope ["_law_script", "_law_town", "_law_some"] ["_law_script", "_law_town", "_law_some"] (defScope sPick) := ⟨rfl, rfl, rfl, by decide +kernel, rfl, by decide +kernel, by decide +kernel⟩
theorem ok_pick {f fD : Addr} {fd fdD : FuncData} (F : Fun K "_law_pick" "_law_pick" sPick f fd) (mLen : mg "len" = none)
    (GD : FnOk P w K mg base CX0 1 fD fdD ["_law_script", "_law_town", "_law_many"] (spDraw K)) (mD : mg "_law_draw" = some (.ref fD)) (kD : PySem.W.keepIn K (.ref fD) = true) (bD : Binds K fdD ["_law_script", "_law_town", "_law_many"] []) :
    FnOk P w K mg base CX0 2 f fd ["_law_script", "_law_town", "_law_some"] (spPick K) := by
  refine F.ok scPick (fun vs H Q E h => ?_) (fun cdv A outer s H vs Q E hr h => ?_)
  · obtain ⟨sc, tw, l, ns, xs, rfl, _⟩ := h
    rfl
  · obtain ⟨sc, tw, l, ns, xs, rfl, L, hl, hlt, h0, h1, k⟩ := h
    refine ⟨_, pss_one (ps_ret (pe_ix ix_list (pv 2) (pe_call (E := E0) GD hr (by rfl) mD kD bD .nil pass0 (pa_cons (pv 0) (pa_cons (pv 1) (pa_cons (pe_callB call_len_seq (by rfl) mLen PySem.boot_len (pa_cons (pv 2) pa_nil)) pa_nil)))) (fun _ _ => rfl))), ?_⟩
    refine ⟨_, rfl, _, rfl, _, rfl, _, rfl, l, _, rfl, .inl hl, sc, tw, ns, _, rfl, L, by omega, by omega, fun H' r x r0 r1 => ?_⟩
    obtain ⟨j, ej⟩ := Int.eq_ofNat_of_zero_le r0
    have hj : j < xs.length := by omega
    exact ⟨l, xs, r, xs[j], rfl, rfl, x.lst hlt hl, at_of ej (List.getElem?_eq_getElem hj), k H' _ x (List.getElem_mem hj)⟩
end
/-! ### the law's letters and texts -/
def ltrs : List Str := ["a", "b", "c", "ab"]
def spLetter (K : PySem.W.Frag) : Sp := fun vs H Q _ => ∃ (sc tw : Addr) (ns : List Int), vs = [.ref sc, .ref tw] ∧ Lw K H sc tw ns ∧ ∀ H' z, Ev tw H H' → nameB z = true → z ∈ ltrs → Q (.str z) H'
def spLText (K : PySem.W.Frag) : Sp := fun vs H Q _ => ∃ (sc tw : Addr) (ns : List Int), vs = [.ref sc, .ref tw] ∧ Lw K H sc tw ns ∧ ∀ H' z, Ev tw H H' → textB z = true → Q (.str z) H'
section
variable {P : Program} {w : World} {K : PySem.W.Frag} {mg : Str → Option Value} {base : Heap}
theorem scLetter : FnScope ["_law_script", "_law_town"] ["_law_script", "_law_town"] (defScope sLetter) := ⟨rfl, rfl, rfl, by decide +kernel, rfl, by decide +kernel, by decide +kernel⟩
theorem ok_letter {f fP : Addr} {fd fdP : FuncData} (F : Fun K "_law_letter" "_law_letter" sLetter f fd)
    (GP : FnOk P w K mg base CX0 2 fP fdP ["_law_script", "_law_town", "_law_some"] (spPick K)) (mP : mg "_law_pick" = some (.ref fP)) (kP : PySem.W.keepIn K (.ref fP) = true) (bP : Binds K fdP ["_law_script", "_law_town", "_law_some"] []) :
    FnOk P w K mg base CX0 3 f fd ["_law_script", "_law_town"] (spLetter K) := by
  refine F.ok scLetter (fun vs H Q E h => ?_) (fun cdv A outer s H vs Q E hr h => ?_)
  · obtain ⟨sc, tw, ns, rfl, _⟩ := h
    rfl
  · obtain ⟨sc, tw, ns, rfl, L, k⟩ := h
    refine ⟨_, pss_one (ps_ret (pe_call (E := E0) GP hr (by rfl) mP kP bP .nil pass0 (pa_cons (pv 0) (pa_cons (pv 1) (pa_cons (pe_lst (pa_cons pe_str (pa_cons pe_str (pa_cons pe_str (pa_cons pe_str pa_nil))))) pa_nil))))), ?_⟩
    refine ⟨_, rfl, _, rfl, (by show 4 ≤ sizeLine; decide), fun l hl => ?_⟩
    have x1 := Ex.new (o := .lst [V.str "a", V.str "b", V.str "c", V.str "ab"]) hl
    have t1 : SqL K (upd H l (.lst [V.str "a", V.str "b", V.str "c", V.str "ab"])) l ((["a", "b", "c", "ab"] : List Str).map V.str) := SqL.of upd_same
    have L1 := L.ex x1
    have hlt := L.town.ne hl
    refine ⟨sc, tw, l, ns, _, rfl, L1, t1, hlt, (by show 0 < 4; decide), (by show 4 < 1000; decide), fun H' x v hx => ?_⟩
    obtain ⟨z, hz, rfl⟩ := List.mem_map.mp hx
    refine k H' z ((x1.ev L.town).trans v) ?_ hz
    have : ∀ z ∈ (["a", "b", "c", "ab"] : List Str), nameB z = true := by decide +kernel
    exact this z hz
theorem scText : FnScope ["_law_script", "_law_town"] ["_law_script", "_law_town"] (defScope sText) := ⟨rfl, rfl, rfl, by decide +kernel, rfl, by decide +kernel, by decide +kernel⟩
theorem ok_text {f fP : Addr} {fd fdP : FuncData} (F : Fun K "_law_text" "_law_text" sText f fd)
    (GP : FnOk P w K mg base CX0 2 fP fdP ["_law_script", "_law_town", "_law_some"] (spPick K)) (mP : mg "_law_pick" = some (.ref fP)) (kP : PySem.W.keepIn K (.ref fP) = true) (bP : Binds K fdP ["_law_script", "_law_town", "_law_some"] []) :
    FnOk P w K mg base CX0 3 f fd ["_law_script", "_law_town"] (spLText K) := by
  refine F.ok scText (fun vs H Q E h => ?_) (fun cdv A outer s H vs Q E hr h => ?_)
  · obtain ⟨sc, tw, ns, rfl, _⟩ := h
    rfl
  · obtain ⟨sc, tw, ns, rfl, L, k⟩ := h
    refine ⟨_, pss_one (ps_ret (pe_call (E := E0) GP hr (by rfl) mP kP bP .nil pass0 (pa_cons (pv 0) (pa_cons (pv 1) (pa_cons (pe_lst (pa_cons pe_str (pa_cons pe_str (pa_cons pe_str (pa_cons pe_str (pa_cons pe_str pa_nil)))))) pa_nil))))), ?_⟩
    refine ⟨_, rfl, _, rfl, (by show 5 ≤ sizeLine; decide), fun l hl => ?_⟩
    have x1 := Ex.new (o := .lst [V.str "", V.str "x", V.str "y", V.str "x y", V.str "zz"]) hl
    have t1 : SqL K (upd H l (.lst [V.str "", V.str "x", V.str "y", V.str "x y", V.str "zz"])) l ((["", "x", "y", "x y", "zz"] : List Str).map V.str) := SqL.of upd_same
    have L1 := L.ex x1
    have hlt := L.town.ne hl
    refine ⟨sc, tw, l, ns, _, rfl, L1, t1, hlt, (by show 0 < 5; decide), (by show 5 < 1000; decide), fun H' x v hx => ?_⟩
    obtain ⟨z, hz, rfl⟩ := List.mem_map.mp hx
    refine k H' z ((x1.ev L.town).trans v) ?_
    have : ∀ z ∈ (["", "x", "y", "x y", "zz"] : List Str), textB z = true := by decide +kernel
    exact this z hz
end
/-! ### trees as they are drawn -/
inductive Th where
  | dr | fl (n : Int) (z : Str)
  deriving DecidableEq
def Th.d : Th → PyData
  | .dr => .tuple [.str "drawer"]
  | .fl n z => .tuple [.str "file", .int n, .str z]
def Th.xs : Th → List V
  | .dr => [.str "drawer"]
  | .fl n z => [.str "file", .int n, .str z]
abbrev Tr := List (List Str × Th)
def entsT (t : Tr) : Ents := t.map fun e => (e.1, e.2.d)
theorem Th.drawer (h : Th) : drawerB h.d = decide (h = .dr) := by
  cases h with
  | dr => decide +kernel
  | fl n z => rfl
theorem Th.file (n : Int) (z : Str) : fileB (Th.fl n z).d = (numB (.int n) && textB z) := by
  show (kindB "file" 3 (.tuple [.str "file", .int n, .str z]) && (numB (.int n) && textB z)) = _
  rw [show kindB "file" 3 (.tuple [.str "file", .int n, .str z]) = true by rfl, Bool.true_and]
def RowT (H : Hp) (kvs : List (List L2.Key × V)) (t : Tr) : Prop := Paired (fun kv e => kv.1 = e.1.map Sum.inr ∧ ∃ r, kv.2 = .ref r ∧ H r = some (.tup e.2.xs)) kvs t
theorem Th.dp {K : PySem.W.Frag} {H : Hp} {r : Addr} {h : Th} (e : H r = some (.tup h.xs)) : Dp K H (.ref r) h.d := by
  cases h with
  | dr => exact .tup (SqT.of e) (.cons (.str _) .nil)
  | fl n z => exact .tup (SqT.of e) (.cons (.str _) (.cons (.int _) (.cons (.str _) .nil)))
theorem RowT.row {K : PySem.W.Frag} {H : Hp} : ∀ {kvs : List (List L2.Key × V)} {t : Tr}, RowT H kvs t → RowE K H kvs (entsT t)
  | _, _, .nil => .nil
  | kv :: kvs, e :: t, .cons a b => by
    obtain ⟨a1, r, a2, a3⟩ := a
    refine .cons ⟨a1, ?_⟩ (RowT.row b)
    rw [a2]
    exact Th.dp a3
theorem RowT.keep {H H' : Hp} {kvs : List (List L2.Key × V)} {t : Tr} (k : ∀ b xs, H b = some (.tup xs) → H' b = some (.tup xs)) (h : RowT H kvs t) : RowT H' kvs t := pairImp (fun _ _ ⟨q1, r, q2, q3⟩ => ⟨q1, r, q2, k r _ q3⟩) h
def TrX (H : Hp) (d : Addr) (t : Tr) : Prop := ∃ kvs, Rd H d (.dT kvs) ∧ RowT H kvs t
theorem TrX.at {K : PySem.W.Frag} {H : Hp} {d : Addr} {t : Tr} (h : TrX H d t) : TrAt K H d (entsT t) := by
  obtain ⟨kvs, h1, h2⟩ := h
  exact ⟨kvs, h1, h2.row⟩
def valT (t : Tr) (p : List Str) : Option Th := (t.find? fun e => decide (e.1 = p)).map (·.2)
theorem valT_ents (t : Tr) (p : List Str) : valE (entsT t) p = (valT t p).map Th.d := by
  unfold valE valT entsT
  rw [List.find?_map, Option.map_map, Option.map_map]
  rfl
theorem RowT.val {H : Hp} {p : List Str} : ∀ {kvs : List (List L2.Key × V)} {t : Tr}, RowT H kvs t →
    (valV kvs (p.map Sum.inr) = none ∧ valT t p = none) ∨ ∃ r h, valV kvs (p.map Sum.inr) = some (.ref r) ∧ valT t p = some h ∧ H r = some (.tup h.xs)
  | _, _, .nil => Or.inl ⟨rfl, rfl⟩
  | kv :: kvs, e :: t, .cons a b => by
    obtain ⟨a1, r, a2, a3⟩ := a
    by_cases h : e.1 = p
    · refine Or.inr ⟨r, e.2, ?_, ?_, a3⟩
      · rw [valV_pos (by rw [a1, h]), a2]
      · unfold valT
        rw [List.find?_cons, decide_eq_true h]
        rfl
    · have h2 : ¬ kv.1 = p.map Sum.inr := fun z => h (inr_inj (a1.symm.trans z))
      have e1 : valT (e :: t) p = valT t p := by
        unfold valT
        rw [List.find?_cons, decide_eq_false h]
      rw [valV_neg h2, e1]
      exact RowT.val b
/-- a tree as the document has it -/
structure Good (t : Tr) : Prop where
  tree : treeB (entsT t) = true
  nd : (t.map (·.1)).Nodup
theorem good_small {t : Tr} (h : Good t) : smallE (entsT t) := by
  obtain ⟨h1, h2, h3, _, _⟩ := treeB_parts h.tree
  refine ⟨fun e he => ⟨goodPath_small (h2 e he), ?_⟩, by omega⟩
  obtain ⟨x, hx, rfl⟩ := List.mem_map.mp he
  have hth := h3 _ he
  cases hx2 : x.2 with
  | dr =>
    show smallD (Th.dr).d = true
    rfl
  | fl n z =>
    show smallD (Th.fl n z).d = true
    have : fileB (Th.fl n z).d = true := by
      have hth : drawerB x.2.d = true ∨ fileB x.2.d = true := hth
      rw [hx2] at hth
      rcases hth with h | h
      · rw [Th.drawer] at h
        exact absurd (of_decide_eq_true h) (by intro e; cases e)
      · exact h
    rw [Th.file, Bool.and_eq_true] at this
    have hz : z.length ≤ 40 := by
      have := this.2
      unfold textB at this
      rw [Bool.and_eq_true] at this
      exact of_decide_eq_true this.1
    have e1 : decide (z.length ≤ sizeLine) = true := decide_eq_true (by rw [sizeLine_eq]; omega)
    have e2 : decide (("file" : Str).length ≤ sizeLine) = true := by decide +kernel
    simp [Th.d, smallD, smallAll, e1, e2]
/-! ### more on drawn trees -/
theorem text_ok {z : Str} (h : textB z = true) : PyData.strOk z = true := by
  unfold textB allIn at h
  simp only [Bool.and_eq_true, List.all_eq_true, decide_eq_true_eq] at h
  exact str_ok fun c hc => signs_ok c (h.2 c hc)
def Th.ok : Th → Prop
  | .dr => True
  | .fl n z => numB (.int n) = true ∧ textB z = true
theorem Th.shaped {h : Th} (ok : h.ok) : SeqAt.shaped h.d = true := by
  cases h with
  | dr => decide +kernel
  | fl n z =>
    have hz := text_ok ok.2
    have hf : PyData.strOk "file" = true := by decide +kernel
    simp [SeqAt.shaped, Th.d, PyData.canLay0, PyData.canLayAll0, PyData.depth, PyData.depthAll, hz, hf]
theorem Th.eqv_dr (h : Th) : PyData.eqv h.d (.tuple [.str "drawer"]) = decide (h = .dr) := by
  cases h with
  | dr => decide +kernel
  | fl n z =>
    rw [decide_eq_false (by intro e; cases e)]
    simp [Th.d, PyData.eqv, PyData.eqvAll]
theorem valT_mem {t : Tr} {p : List Str} {h : Th} (e : valT t p = some h) : (p, h) ∈ t := by
  unfold valT at e
  obtain ⟨x, h1, h2⟩ := Option.map_eq_some_iff.mp e
  have h3 : x.1 = p := of_decide_eq_true (List.find?_some (p := fun e : List Str × Th => decide (e.1 = p)) h1)
  have := List.mem_of_find?_eq_some h1
  rw [← h3, ← h2]
  exact this
theorem valT_none {t : Tr} {p : List Str} (e : valT t p = none) : p ∉ t.map (·.1) := by
  intro hm
  obtain ⟨x, hx, rfl⟩ := List.mem_map.mp hm
  unfold valT at e
  rw [Option.map_eq_none_iff, List.find?_eq_none] at e
  exact e x hx (decide_eq_true rfl)
theorem valT_some {t : Tr} {p : List Str} (hm : p ∈ t.map (·.1)) : ∃ h, valT t p = some h := by
  cases e : valT t p with
  | some h => exact ⟨h, rfl⟩
  | none => exact absurd hm (valT_none e)
theorem drawerAt_T (t : Tr) (p : List Str) : drawerAt (entsT t) p = decide (valT t p = some .dr) := by
  unfold drawerAt
  rw [valT_ents]
  cases h : valT t p with
  | none => rfl
  | some x =>
    show drawerB x.d = _
    rw [Th.drawer]
    exact decide_eq_decide.mpr ⟨fun e => by rw [e], fun e => Option.some.inj e⟩
theorem good_ok {t : Tr} (g : Good t) {p : List Str} {h : Th} (hm : (p, h) ∈ t) : h.ok ∧ goodPath p = true := by
  obtain ⟨_, h2, h3, _, _⟩ := treeB_parts g.tree
  have he : (p, h.d) ∈ entsT t := List.mem_map.mpr ⟨(p, h), hm, rfl⟩
  refine ⟨?_, h2 _ he⟩
  cases h with
  | dr => trivial
  | fl n z =>
    have hth := h3 _ he
    have hf : fileB (Th.fl n z).d = true := hth.resolve_left (by
      intro q
      have q : drawerB (Th.fl n z).d = true := q
      rw [Th.drawer] at q
      exact absurd (of_decide_eq_true q) (by intro e; cases e))
    rw [Th.file, Bool.and_eq_true] at hf
    exact hf
theorem good_root {t : Tr} (g : Good t) : valT t [] = some .dr := by
  obtain ⟨_, _, _, h4, _⟩ := treeB_parts g.tree
  unfold roofB at h4
  rw [Bool.and_eq_true, drawerAt_T] at h4
  exact of_decide_eq_true h4.1
theorem goodPath_snoc {p : List Str} {c : Str} (g : goodPath p = true) (hl : p.length < 5) (hc : nameB c = true) : goodPath (p ++ [c]) = true := by
  obtain ⟨h1, h2⟩ := goodPath_names g
  unfold goodPath
  rw [Bool.and_eq_true, decide_eq_true_eq, List.all_eq_true]
  refine ⟨by rw [List.length_append, List.length_singleton]; omega, fun z hz => ?_⟩
  rcases List.mem_append.mp hz with hz | hz
  · exact h2 z hz
  · rw [List.mem_singleton.mp hz]
    exact hc
theorem good_app {t : Tr} {p : List Str} {c : Str} {h : Th} (g : Good t) (hl : t.length < 80) (hd : valT t p = some .dr) (h5 : p.length < 5) (hc : nameB c = true) (hn : valT t (p ++ [c]) = none) (ok : h.ok)
    (ht : ∀ n z y, h = .fl n z → valV (seenOf [] ((entsT t).map (·.2))) (Sum.inl n) = some (.str y) → y = z) : Good (t ++ [(p ++ [c], h)]) := by
  constructor
  · have e : entsT (t ++ [(p ++ [c], h)]) = entsT t ++ [(p ++ [c], h.d)] := by
      unfold entsT
      rw [List.map_append]
      rfl
    rw [e]
    refine treeB_app g.tree (by unfold entsT; rw [List.length_map]; exact hl) (by simp) (goodPath_snoc (good_ok g (valT_mem hd)).2 h5 hc) ?_ ?_ ?_
    · rw [List.dropLast_concat, drawerAt_T]
      exact decide_eq_true hd
    · cases h with
      | dr => exact Or.inl (by rw [Th.drawer]; exact decide_eq_true rfl)
      | fl n z => exact Or.inr (by rw [Th.file, Bool.and_eq_true]; exact ok)
    · intro n z y hf e1 e2 hv
      cases h with
      | dr =>
        exact absurd hf (by decide +kernel)
      | fl n' z' =>
        have e1 : PyData.int n' = .int n := e1
        have e2 : PyData.str z' = .str z := e2
        injection e1 with e1
        injection e2 with e2
        subst e1
        subst e2
        exact ht n' z' y rfl hv
  · rw [List.map_append, List.nodup_append]
    refine ⟨g.nd, by simp, fun a ha b hb e => ?_⟩
    have hb : b = p ++ [c] := by simpa using hb
    rw [hb] at e
    exact valT_none hn (e ▸ ha)
/-- a path and one name more -/
theorem cat_path {K : PySem.W.Frag} {H : Hp} {a q : Addr} {p : List Str} {c : Str} {R : VK} (ha : SqT K H a (p.map V.str)) (hq : PathX H q [c]) (hl : p.length ≤ 100) (h : ∀ G r, Ex H G → PathX G r (p ++ [c]) → R (.ref r) G) : rCatA K (.ref a) (.ref q) H R := by
  refine ⟨a, q, p.map V.str, [.str c], rfl, rfl, ha, SqT.of hq, ?_, fun e => ?_, fun _ e => absurd e (by simp), fun _ _ r hr => ?_⟩
  · rw [List.length_map, sizeLine_eq]
    show p.length + 1 ≤ _
    omega
  · have hp : p = [] := List.map_eq_nil_iff.mp e
    subst hp
    exact h H q (Ex.refl H) hq
  · refine h _ r (Ex.new hr) ?_
    show upd _ _ _ _ = _
    rw [upd_same, List.map_append]
    rfl
theorem RowT.keys {H : Hp} : ∀ {kvs : List (List L2.Key × V)} {t : Tr}, RowT H kvs t → LS.KeysP kvs (t.map (·.1))
  | _, _, .nil => rfl
  | kv :: kvs, e :: t, .cons a b => by
    have := RowT.keys b
    unfold LS.KeysP at this ⊢
    rw [List.map_cons, List.map_cons, List.map_cons, this, a.1]
theorem seen_snoc {t : Tr} {p : List Str} {h : Th} {dx : List (L2.Key × V)} (ok : h.ok) (hs : ∀ n y, valV (seenOf [] ((entsT t).map (·.2))) (Sum.inl n) = some (.str y) → valV dx (Sum.inl n) = some (.str y))
    (hh : ∀ n z, h = .fl n z → valV dx (Sum.inl n) = some (.str z)) : ∀ n y, valV (seenOf [] ((entsT (t ++ [(p, h)])).map (·.2))) (Sum.inl n) = some (.str y) → valV dx (Sum.inl n) = some (.str y) := by
  intro n y hv
  have e : (entsT (t ++ [(p, h)])).map (·.2) = (entsT t).map (·.2) ++ [h.d] := by
    unfold entsT
    rw [List.map_append, List.map_append]
    rfl
  rw [e, seenOf_app] at hv
  cases h with
  | dr =>
    rw [seenStep_not (by decide +kernel)] at hv
    exact hs n y hv
  | fl n' z' =>
    have hf : fileB (Th.fl n' z').d = true := by rw [Th.file, Bool.and_eq_true]; exact ok
    rw [seenStep_file hf (n := n') (z := z') rfl rfl] at hv
    split at hv
    · exact hs n y hv
    · rw [valV_put] at hv
      split at hv
      · rename_i e2
        injection e2 with e2
        subst e2
        injection hv with hv
        injection hv with hv
        subst hv
        exact hh n z' rfl
      · exact hs n y hv
theorem RowT.snoc {H : Hp} {kvs : List (List L2.Key × V)} {t : Tr} {p : List Str} {h : Th} {r : Addr} (row : RowT H kvs t) (e : H r = some (.tup h.xs)) : RowT H (kvs ++ [(p.map Sum.inr, .ref r)]) (t ++ [(p, h)]) :=
  pairSnoc (F := fun (kv : List L2.Key × V) (e : List Str × Th) => kv.1 = e.1.map Sum.inr ∧ ∃ r, kv.2 = .ref r ∧ H r = some (.tup e.2.xs)) ⟨rfl, r, rfl, e⟩ row
/-! ### the tree that is drawn -/
def rLenSeq (K : PySem.W.Frag) : List V → Hp → VK → Prop := fun xs H Q => ∃ p ys, xs = [V.ref p] ∧ (SqL K H p ys ∨ SqT K H p ys) ∧ Q (.int (List.length ys : Nat)) H
theorem call_lenS {X : Cx} : CallR X (.builtin "len") (rLenSeq X.K) := call_len_seq
/-- what is carried through the turns -/
def TInv (G : Hp) (a tx : Addr) (i : Nat) : Prop := ∃ kvs tr dx, G a = some (.dT kvs) ∧ RowT G kvs tr ∧ Good tr ∧ (∀ e ∈ tr, ∀ z ∈ e.1, z ∈ ltrs) ∧ tr.length ≤ i + 1 ∧ G tx = some (.dK dx) ∧ dx.length ≤ i ∧
  (∀ n v, valV dx (Sum.inl n) = some v → ∃ z, v = .str z ∧ textB z = true) ∧ ∀ n y, valV (seenOf [] ((entsT tr).map (·.2))) (Sum.inl n) = some (.str y) → valV dx (Sum.inl n) = some (.str y)
theorem good_one : Good [([], .dr)] := ⟨by decide +kernel, by simp⟩
def spTree (K : PySem.W.Frag) : Sp := fun vs H Q _ => ∃ (sc tw : Addr) (ns : List Int) (m : Nat), vs = [.ref sc, .ref tw, .int (m : Nat)] ∧ Lw K H sc tw ns ∧ m ≤ 70 ∧
  ∀ H' a kvs t, Ev tw H H' → H a = none → H' a = some (.dT kvs) → RowT H' kvs t → Good t → (∀ e ∈ t, ∀ z ∈ e.1, z ∈ ltrs) → t.length ≤ m + 1 → Q (.ref a) H'
section
variable {P : Program} {w : World} {K : PySem.W.Frag} {mg : Str → Option Value} {base : Heap}
abbrev ltN : List Str := ["_law_script", "_law_town", "_law_many", "_law_made", "_law_texts", "_law_k", "_law_rooms", "_law_path", "_law_number"]
theorem scTree : FnScope ltN ["_law_script", "_law_town", "_law_many"] (defScope sTree) := ⟨rfl, rfl, rfl, by decide +kernel, rfl, by decide +kernel, by decide +kernel⟩
theorem ok_tree {f fD fP fL fX : Addr} {fd fdD fdP fdL fdX : FuncData} (F : Fun K "_law_tree" "_law_tree" sTree f fd) (M : Mg mg) (mS : mg "sorted" = none)
    (GD : FnOk P w K mg base CX0 1 fD fdD ["_law_script", "_law_town", "_law_many"] (spDraw K)) (mD : mg "_law_draw" = some (.ref fD)) (kD : PySem.W.keepIn K (.ref fD) = true) (bD : Binds K fdD ["_law_script", "_law_town", "_law_many"] [])
    (GP : FnOk P w K mg base CX0 2 fP fdP ["_law_script", "_law_town", "_law_some"] (spPick K)) (mP : mg "_law_pick" = some (.ref fP)) (kP : PySem.W.keepIn K (.ref fP) = true) (bP : Binds K fdP ["_law_script", "_law_town", "_law_some"] [])
    (GL : FnOk P w K mg base CX0 3 fL fdL ["_law_script", "_law_town"] (spLetter K)) (mL : mg "_law_letter" = some (.ref fL)) (kL : PySem.W.keepIn K (.ref fL) = true) (bL : Binds K fdL ["_law_script", "_law_town"] [])
    (GX : FnOk P w K mg base CX0 3 fX fdX ["_law_script", "_law_town"] (spLText K)) (mX : mg "_law_text" = some (.ref fX)) (kX : PySem.W.keepIn K (.ref fX) = true) (bX : Binds K fdX ["_law_script", "_law_town"] []) :
    FnOk P w K mg base CX0 4 f fd ["_law_script", "_law_town", "_law_many"] (spTree K) := by
  refine F.ok scTree (fun vs H Q E h => ?_) (fun cdv A outer s H vs Q E hr h => ?_)
  · obtain ⟨sc, tw, ns, m, rfl, _⟩ := h
    rfl
  · obtain ⟨sc, tw, ns, m, rfl, L, hm, k⟩ := h
    have r1 := hr.mono (show 1 ≤ 3 by decide)
    have r2 := hr.mono (show 2 ≤ 3 by decide)
    have hu1 : (A.deeper (envOfC "_law_tree" (defScope sTree) s.heap.objs.size f cdv)).units + 1 < cLine := by have := hr.units; omega
    have hu3 : (A.deeper (envOfC "_law_tree" (defScope sTree) s.heap.objs.size f cdv)).units + 3 < cLine := by have := hr.units; omega
    refine ⟨_, pss_cons (ps_set (i := 3) scTree.nd rfl (Or.inr rfl) (pe_dispT hu1 (pps_cons (pe_tup pa_nil) (pe_tup (pa_cons pe_str pa_nil)) pps_nil) rfl rfl (by simp) (by decide)))
      (pss_cons (ps_set (i := 4) scTree.nd rfl (Or.inl rfl) pe_dnewK)
      (pss_cons (ps_for PassesOwn.never rfl (pi_range1 (by rfl) M.range (pa_cons (pe_call (E := E0) GD r1 (by rfl) mD kD bD .nil pass0 (pa_cons (pv 0) (pa_cons (pv 1) (pa_cons (pe_op op_add (pv 2) pe_int) pa_nil)))) pa_nil)) (pg_name (i := 5) scTree.nd rfl (Or.inl rfl))
        (pss_cons (ps_setLc (i := 6) (own := [("_law_path", 7)]) (g := gName 7)
            (tt := tAnd (tTest (tOp (rEqD K) (tDGet (tVar 3) (tVar 7)) (tTup (tCons (tC (.str "drawer")) tNil)))) (tTest (tOp (rI0 fun i j => V.bl (decide (i < j))) (tCB (rLenSeq K) (tCons (tVar 7) tNil)) (tC (.int 5)))))
            (by rfl) scTree.nd rfl rfl (sw_true rfl rfl rfl (by decide +kernel)) (pi_list (pe_callB (LS.cr_sortD rfl hu3) (by rfl) mS (by decide +kernel) (pa_cons (pv 3) pa_nil)))
            (blkOk_by (N := ltN) (sc := defScope sTree) (by decide +kernel)) (fun _ _ _ _ _ => pg_name (i := 7) scTree.nd rfl (Or.inl rfl))
            (fun _ _ _ _ _ => pts_one (PW.pt (pw_and (pt_cmpR (op_eqD hr.units) (pe_dget hu1 (pv 3) (pv 7) (fun _ _ => rfl)) (pe_tup (pa_cons pe_str pa_nil)) (nomark _))
              (pw_and1 (pt_cmpR op_lt (pe_callB call_lenS (by rfl) M.len PySem.boot_len (pa_cons (pv 7) pa_nil)) pe_int (nomark _))))))
            (fun _ _ _ _ _ => pv 7))
        (pss_cons (ps_set (i := 7) scTree.nd rfl (Or.inl rfl) (pe_op op_catA (pe_call (E := E0) GP r2 (by rfl) mP kP bP .nil pass0 (pa_cons (pv 0) (pa_cons (pv 1) (pa_cons (pv 6) pa_nil))))
            (pe_tup (pa_cons (pe_call (E := E0) GL hr (by rfl) mL kL bL .nil pass0 (pa_cons (pv 0) (pa_cons (pv 1) pa_nil))) pa_nil))))
        (pss_one (ps_if (pt_cmp (pc_dnotin hu1 (pv 7) (pv 3)))
          (pss_cons (ps_set (i := 8) scTree.nd rfl (Or.inl rfl) (pe_call (E := E0) GP r2 (by rfl) mP kP bP .nil pass0 (pa_cons (pv 0) (pa_cons (pv 1) (pa_cons (pe_lst (pa_cons pe_int (pa_cons pe_int (pa_cons pe_int (pa_cons pe_int pa_nil))))) pa_nil)))))
          (pss_cons (ps_dput hu1 (pv 4) (pv 8) (pe_dget2 hu1 (pv 4) (pv 8) (pe_call (E := E0) GX hr (by rfl) mX kX bX .nil pass0 (pa_cons (pv 0) (pa_cons (pv 1) pa_nil))) ⟨rfl, rfl, rfl, rfl⟩) rfl)
          (pss_one (ps_dput hu1 (pv 3) (pv 7) (pe_call (E := E0) GP r2 (by rfl) mP kP bP .nil pass0 (pa_cons (pv 0) (pa_cons (pv 1) (pa_cons (pe_lst (pa_cons (pe_tup (pa_cons pe_str pa_nil)) (pa_cons (pe_tup (pa_cons pe_str (pa_cons (pv 8) (pa_cons (pe_dget hu1 (pv 4) (pv 8) (fun _ _ => rfl)) pa_nil)))) pa_nil))) pa_nil)))) rfl))))
          pss_nil)))))
      (pss_one (ps_ret (pv 3))))), ?_⟩
    -- the root
    intro a0 ha0
    refine ⟨Nat.zero_le _, fun p0 hp0 => ⟨(by show 1 ≤ sizeLine; decide), fun p1 hp1 => ?_⟩⟩
    have d0 : (upd H a0 (.dT [])) a0 = some (.dT []) := upd_same
    have e01 := (Ex.new (o := .tup []) hp0).trans (Ex.new (o := .tup [V.str "drawer"]) hp1)
    have xm : Ex H (upd (upd (upd H a0 (.dT [])) p0 (.tup [])) p1 (.tup [V.str "drawer"])) := (Ex.new ha0).trans e01
    have g0 : (upd (upd (upd H a0 (.dT [])) p0 (.tup [])) p1 (.tup [V.str "drawer"])) a0 = some (.dT []) := e01.keep _ _ d0 (fun ps z => by cases z)
    have g1 : PathX (upd (upd (upd H a0 (.dT [])) p0 (.tup [])) p1 (.tup [V.str "drawer"])) p0 [] := PathX.ex (Ex.new hp1) upd_same
    have g2 : (upd (upd (upd H a0 (.dT [])) p0 (.tup [])) p1 (.tup [V.str "drawer"])) p1 = some (.tup [V.str "drawer"]) := upd_same
    generalize upd (upd (upd H a0 (.dT [])) p0 (.tup [])) p1 (.tup [V.str "drawer"]) = Hm at xm g0 g1 g2 ⊢
    refine ⟨g0, [([], .ref p1)], .cons ⟨⟨p0, rfl, g1⟩, rfl⟩ .nil, (by show 1 ≤ 15; decide), fun tx htx => ?_⟩
    have emt : mergeT [] [(([] : List L2.Key), V.ref p1)] = [([], .ref p1)] := rfl
    rw [emt] at htx ⊢
    have xd : Ex H (upd Hm a0 (.dT [([], .ref p1)])) := xm.put ha0
    have xn := Ex.new (o := .dK []) htx
    have x0 := xd.trans xn
    have htxH : H tx = none := xd.free _ htx
    have k0 : TInv (upd (upd Hm a0 (.dT [([], .ref p1)])) tx (.dK [])) a0 tx 0 := by
      refine ⟨[([], .ref p1)], [([], .dr)], [], xn.keep _ _ upd_same (fun ps z => by cases z), .cons ⟨rfl, p1, rfl, ?_⟩ .nil, good_one, (fun e he z hz => by rw [List.mem_singleton.mp he] at hz; cases hz), Nat.le_refl _, upd_same, Nat.le_refl _, (fun n v h => by cases h), fun n y h => ?_⟩
      · exact xn.keep _ _ (by rw [upd_ne (ne_of g2 g0 (fun z => by cases z))]; exact g2) (fun ps z => by cases z)
      · have : valV (seenOf [] ((entsT [([], Th.dr)]).map (·.2))) (Sum.inl n) = none := by
          have : seenOf [] ((entsT [([], Th.dr)]).map (·.2)) = [] := by
            show seenStep [] (Th.dr).d = []
            exact seenStep_not (by decide +kernel)
          rw [this]
          rfl
        rw [this] at h
        cases h
    have L0 := L.ex x0
    have v0 := x0.ev L.town
    generalize upd (upd Hm a0 (.dT [([], .ref p1)])) tx (.dK []) = H0 at k0 L0 v0 ⊢
    clear xm g0 g1 g2 xd xn x0 e01 d0 htx emt
    have hat : a0 ≠ tw := L.town.ne ha0
    have htt : tx ≠ tw := L.town.ne htxH
    -- the turns
    refine ⟨_, rfl, _, rfl, _, rfl, _, _, rfl, rfl, sc, tw, ns, (m : Int) + 1, rfl, L0, by omega, by omega, fun H1 r v1 r0 r1 => ?_⟩
    refine ⟨r, rfl, by omega, by omega, for_it walk_range (fun i σ G => (∃ v5 v6 v7 v8, σ = [some (.ref sc), some (.ref tw), some (.int (m : Nat)), some (.ref a0), some (.ref tx), v5, v6, v7, v8]) ∧ Ev tw H G ∧ TInv G a0 tx i)
      ⟨⟨none, none, none, none, rfl⟩, v0.trans v1, ?_⟩ (fun _ _ _ _ _ => trivial) ?_ ?_⟩
    · obtain ⟨kvs, tr, dx, h1, h2, h3, h3l, h4, h5, h6⟩ := k0
      exact ⟨kvs, tr, dx, v1.keep _ _ hat h1 (fun ps z => by cases z), h2.keep (fun b xs e => v1.keep _ _ (fun z => by
        obtain ⟨u0, u1, _, et⟩ := L0.town
        rw [z, et] at e
        cases e) e (fun ps z => by cases z)), h3, h3l, h4, v1.keep _ _ htt h5 (fun ps z => by cases z), h6⟩
    · rintro i x σ G G' hi ⟨⟨v5, v6, v7, v8, rfl⟩, vg, kvs, tr, dx, hd, row, good, hltr, hlen, hdx, hdl, htxt, hseen⟩ ⟨rfl, rfl⟩
      have hi70 : i ≤ 70 := by omega
      have h80 := (treeB_parts good.tree).1
      have LG := L.ev vg
      -- the rooms
      refine ⟨_, rfl, a0, kvs, tr.map (·.1), rfl, Or.inl hd, row.keys, fun l ys py _ hpx hl => ⟨l, rfl, ⟨_, SqL.of upd_same⟩, fun D hD => ?_⟩⟩
      have x1 := Ex.new (o := .lst (LS.addrs ys)) hl
      have l1 : (upd G' l (.lst (LS.addrs ys))) l = some (.lst (LS.addrs ys)) := upd_same
      have ha1 : (upd G' l (.lst (LS.addrs ys))) a0 = some (.dT kvs) := x1.keep _ _ hd (fun ps z => by cases z)
      have row1 : RowT (upd G' l (.lst (LS.addrs ys))) kvs tr := row.keep fun b xs e => x1.keep _ _ e (fun ps z => by cases z)
      have pys : ∀ z ∈ ys, PathX (upd G' l (.lst (LS.addrs ys))) z.1 z.2 := fun z hz => PathX.ex x1 (hpx z hz)
      have hyl : ys.length = tr.length := by
        have := py.length_eq
        rwa [List.length_map, List.length_map] at this
      generalize upd G' l (.lst (LS.addrs ys)) = G1 at x1 l1 ha1 row1 pys hD ⊢
      refine lc_it (walk_list (K := K) (a := l) (xs := LS.addrs ys)) (fun j G2 => Ex G1 G2 ∧ ∃ rs : LS.Zs, G2 D = some (.lst (LS.addrs rs)) ∧ (∀ z ∈ rs, z ∈ ys ∧ valT tr z.2 = some .dr ∧ z.2.length < 5) ∧ (∀ z ∈ ys.take j, valT tr z.2 = some .dr → z.2.length < 5 → z ∈ rs) ∧ rs.length ≤ j)
        ⟨Ex.new hD, [], upd_same, (fun z hz => nomatch hz), (fun z hz => by rw [List.take_zero] at hz; exact nomatch hz), Nat.le_refl _⟩ (fun j G2 _ h => SqL.of (h.1.keep _ _ l1 (fun ps z => by cases z))) ?_ ?_
      · rintro j y G2 G2' hj ⟨xg, rs, hrs, hall, hmem, hrl⟩ ⟨rfl, hy⟩
        unfold LS.addrs at hy hj
        rw [List.getElem?_map] at hy
        rw [List.length_map] at hj
        obtain ⟨z, hz, rfl⟩ := Option.map_eq_some_iff.mp hy
        have hzm := List.mem_of_getElem? hz
        have etake : ys.take (j + 1) = ys.take j ++ [z] := by rw [List.take_add_one, hz]; rfl
        have pz : PathX G2' z.1 z.2 := (pys z hzm).ex xg
        have hk : z.2 ∈ tr.map (·.1) := py.mem_iff.mp (List.mem_map.mpr ⟨z, hzm, rfl⟩)
        have ha2 : G2' a0 = some (.dT kvs) := xg.keep _ _ ha1 (fun ps z => by cases z)
        have row2 : RowT G2' kvs tr := row1.keep fun b xs e => xg.keep _ _ e (fun ps z => by cases z)
        rcases row2.val (p := z.2) with ⟨_, e2⟩ | ⟨rr, h, e1, e2, e3⟩
        · obtain ⟨h, eh⟩ := valT_some hk
          rw [e2] at eh
          cases eh
        have okh := (good_ok good (valT_mem e2)).1
        have lenok : rs.length < sizeLine := by
          rw [sizeLine_eq]
          omega
        have dg : DGet G2' a0 (.ref z.1) (some (.ref rr)) := by
          have := get_tr (Or.inl ha2) pz
          rwa [e1] at this
        refine ⟨rfl, _, rfl, _, rfl, a0, .ref rr, rfl, dg, (by show 1 ≤ sizeLine; decide), fun q hq => ?_⟩
        have xq := Ex.new (o := .tup [V.str "drawer"]) hq
        have dq : Dp K (upd G2' q (.tup [V.str "drawer"])) (.ref q) (.tuple [.str "drawer"]) := .tup (SqT.of upd_same) (.cons (.str _) .nil)
        have hrs3 : (upd G2' q (.tup [V.str "drawer"])) D = some (.lst (LS.addrs rs)) := xq.keep _ _ hrs (fun ps z => by cases z)
        have pz3 := PathX.ex xq pz
        have dh : Dp K (upd G2' q (.tup [V.str "drawer"])) (.ref rr) h.d := Th.dp (xq.keep _ _ e3 (fun ps z => by cases z))
        have xg3 := xg.trans xq
        generalize upd G2' q (.tup [V.str "drawer"]) = G3 at dq hrs3 pz3 dh xg3 ⊢
        have skip : (valT tr z.2 = some .dr → z.2.length < 5 → False) → Ex G1 G3 ∧ ∃ rs : LS.Zs, G3 D = some (.lst (LS.addrs rs)) ∧ (∀ z ∈ rs, z ∈ ys ∧ valT tr z.2 = some .dr ∧ z.2.length < 5) ∧ (∀ z ∈ ys.take (j + 1), valT tr z.2 = some .dr → z.2.length < 5 → z ∈ rs) ∧ rs.length ≤ j + 1 := fun hno =>
          ⟨xg3, rs, hrs3, hall, (fun u hu h1 h2 => by
            rw [etake] at hu
            rcases List.mem_append.mp hu with hu | hu
            · exact hmem u hu h1 h2
            · rw [List.mem_singleton.mp hu] at h1 h2
              exact (hno h1 h2).elim), by omega⟩
        refine ⟨h.d, _, dh, dq, h.shaped okh, by decide +kernel, _, rfl, ?_⟩
        rw [Th.eqv_dr]
        by_cases hdr : h = .dr
        · rw [decide_eq_true hdr]
          refine iteT ⟨_, rfl, z.1, _, rfl, Or.inr (pz3.at (K := K)), _, _, rfl, rfl, _, rfl, ?_⟩
          rw [List.length_map]
          by_cases h5 : (z.2.length : Int) < 5
          · rw [decide_eq_true h5]
            refine iteT ⟨_, rfl, LS.addrs rs, hrs3, by unfold LS.addrs; rw [List.length_map]; exact lenok, xg3.put hD, rs ++ [z], ?_, ?_, ?_, ?_⟩
            · rw [upd_same]
              unfold LS.addrs
              rw [List.map_append]
              rfl
            · intro u hu
              rcases List.mem_append.mp hu with hu | hu
              · exact hall u hu
              · rw [List.mem_singleton.mp hu]
                exact ⟨hzm, by rw [e2, hdr], by omega⟩
            · intro u hu h1 h2
              rw [etake] at hu
              rcases List.mem_append.mp hu with hu | hu
              · exact List.mem_append_left _ (hmem u hu h1 h2)
              · exact List.mem_append_right _ hu
            · rw [List.length_append, List.length_singleton]
              omega
          · rw [decide_eq_false h5]
            exact iteF (skip fun _ h => by omega)
        · rw [decide_eq_false hdr]
          refine iteF (iteF (skip fun h1 _ => ?_))
          rw [e2] at h1
          exact hdr (Option.some.inj h1)
      · rintro G2 ⟨xg, rs, hrs, hall, hmem, hrl⟩
        have hle : (LS.addrs ys).length = ys.length := by unfold LS.addrs; rw [List.length_map]
        rw [hle, List.take_length] at hmem
        rw [hle] at hrl
        -- the place
        have x2 := x1.trans xg
        have v2 := x2.ev LG.town
        have L2 := LG.ev v2
        have hDt : D ≠ tw := fun z => by
          obtain ⟨u0, u1, _, et⟩ := LG.town
          have := x1.keep _ _ et (fun ps z => by cases z)
          rw [z, this] at hD
          cases hD
        obtain ⟨z0, hz0, hz0e⟩ : ∃ z ∈ ys, z.2 = [] := by
          have : ([] : List Str) ∈ ys.map (·.2) := py.mem_iff.mpr (List.mem_map.mpr ⟨([], .dr), valT_mem (good_root good), rfl⟩)
          obtain ⟨z, h1, h2⟩ := List.mem_map.mp this
          exact ⟨z, h1, h2⟩
        have hne : z0 ∈ rs := hmem z0 hz0 (by rw [hz0e]; exact good_root good) (by rw [hz0e]; decide)
        have hpos : 0 < (LS.addrs rs).length := by
          unfold LS.addrs
          rw [List.length_map]
          exact List.length_pos_of_mem hne
        refine ⟨_, rfl, _, rfl, _, rfl, sc, tw, D, ns, LS.addrs rs, rfl, L2, SqL.of hrs, hDt, hpos, ?_, fun H3 y v3 hy => ?_⟩
        · unfold LS.addrs
          rw [List.length_map]
          have e80 : (entsT tr).length = tr.length := by unfold entsT; rw [List.length_map]
          omega
        obtain ⟨z, hz, rfl⟩ := List.mem_map.mp hy
        obtain ⟨hzy, hzd, hz5⟩ := hall z hz
        refine ⟨_, rfl, _, rfl, sc, tw, ns, rfl, L2.ev v3, fun H4 c v4 hc hcl => ⟨(by show 1 ≤ sizeLine; decide), fun q hq => ?_⟩⟩
        have v24 := (v2.trans v3).trans v4
        have L4 := LG.ev v24
        have xq := Ex.new (o := .tup [V.str c]) hq
        have tk : ∀ b xs, G' b = some (.tup xs) → H4 b = some (.tup xs) := fun b xs e => v24.keep _ _ (fun z => by
          obtain ⟨u0, u1, _, et⟩ := LG.town
          rw [z, et] at e
          cases e) e (fun ps z => by cases z)
        have pz4 : PathX H4 z.1 z.2 := tk _ _ (hpx z hzy)
        refine cat_path (PathX.ex xq pz4).at upd_same (by omega) fun G5 p x5 pp => ?_
        have v45 := (xq.trans x5).ev L4.town
        have v5 := v24.trans v45
        have L5 := LG.ev v5
        have tk5 : ∀ b xs, G' b = some (.tup xs) → G5 b = some (.tup xs) := fun b xs e => (xq.trans x5).keep _ _ (tk b xs e) (fun ps z => by cases z)
        have hd5 : G5 a0 = some (.dT kvs) := v5.keep _ _ hat hd (fun ps z => by cases z)
        have hdx5 : G5 tx = some (.dK dx) := v5.keep _ _ htt hdx (fun ps z => by cases z)
        have row5 := row.keep tk5
        have vH5 := vg.trans v5
        clear pz4 tk v24 v45 xq x5 L4
        generalize hpath : z.2 ++ [c] = path at pp
        refine ⟨_, rfl, _, rfl, a0, _, rfl, get_tr (Or.inl hd5) pp, _, rfl, ?_⟩
        rcases row5.val (p := path) with ⟨e1, e2⟩ | ⟨rr, h, e1, e2, e3⟩
        rotate_left
        · rw [e1]
          exact iteF ⟨⟨_, _, _, _, rfl⟩, vH5, kvs, tr, dx, hd5, row5, good, hltr, by omega, hdx5, by omega, htxt, hseen⟩
        rw [e1]
        refine iteT ⟨_, rfl, _, rfl, (by show 4 ≤ sizeLine; decide), fun l2 hl2 => ?_⟩
        -- the number
        have xl := Ex.new (o := .lst [V.int 0, V.int 1, V.int 2, V.int 999]) hl2
        refine ⟨sc, tw, l2, ns, [V.int 0, V.int 1, V.int 2, V.int 999], rfl, L5.ex xl, SqL.of upd_same, L5.town.ne hl2, (by show 0 < 4; decide), (by show 4 < 1000; decide), fun H6 y v6 hy6 => ?_⟩
        obtain ⟨n, rfl, hn⟩ : ∃ n : Int, y = .int n ∧ numB (.int n) = true := by
          simp only [List.mem_cons, List.not_mem_nil, or_false] at hy6
          rcases hy6 with rfl | rfl | rfl | rfl
          · exact ⟨0, rfl, by decide⟩
          · exact ⟨1, rfl, by decide⟩
          · exact ⟨2, rfl, by decide⟩
          · exact ⟨999, rfl, by decide⟩
        have w6 := (xl.ev L5.town).trans v6
        have L6 := L5.ev w6
        have hdx6 : H6 tx = some (.dK dx) := w6.keep _ _ htt hdx5 (fun ps z => by cases z)
        refine ⟨_, rfl, tx, rfl, Or.inl ⟨dx, Or.inl hdx6⟩, _, rfl, _, rfl, _, rfl, sc, tw, ns, rfl, L6, fun H7 z' v7 hz' => ?_⟩
        have w7 := w6.trans v7
        have L7 := L5.ev w7
        have hdx7 : H7 tx = some (.dK dx) := w7.keep _ _ htt hdx5 (fun ps z => by cases z)
        refine ⟨valV dx (Sum.inl n), DGet.k (k := Sum.inl n) hdx7, ?_⟩
        obtain ⟨z1, hz1, hzt, hzo⟩ : ∃ z1, (valV dx (Sum.inl n)).getD (.str z') = .str z1 ∧ textB z1 = true ∧ ∀ y, valV dx (Sum.inl n) = some (.str y) → y = z1 := by
          cases hv : valV dx (Sum.inl n) with
          | none => exact ⟨z', rfl, hz', fun y h => by cases h⟩
          | some v =>
            obtain ⟨y, rfl, hy⟩ := htxt n v hv
            exact ⟨y, rfl, hy, fun y' h => by injection h with h; injection h with h; exact h.symm⟩
        rw [hz1]
        have hdl2 : dx.length < sizeLine := by
          rw [sizeLine_eq]
          omega
        refine ⟨_, rfl, _, rfl, tx, _, rfl, DPut.k (k := Sum.inl n) (v := .str z1) hdx7 hdl2, ?_⟩
        have w8 : Ev tw H (upd H7 tx (.dK (putK dx (Sum.inl n) (.str z1)))) := (vH5.trans w7).put L.town htxH
        have tk8 : ∀ b xs, G5 b = some (.tup xs) → (upd H7 tx (.dK (putK dx (Sum.inl n) (.str z1)))) b = some (.tup xs) := fun b xs e => by
          have e7 : H7 b = some (.tup xs) := w7.keep _ _ (fun z => by
            obtain ⟨u0, u1, _, et⟩ := L5.town
            rw [z, et] at e
            cases e) e (fun ps z => by cases z)
          rw [upd_ne (ne_of e7 hdx7 (fun z => by cases z))]
          exact e7
        have hd8 : (upd H7 tx (.dK (putK dx (Sum.inl n) (.str z1)))) a0 = some (.dT kvs) := by
          have := w7.keep _ _ hat hd5 (fun ps z => by cases z)
          rw [upd_ne (ne_of this hdx7 (fun z => by cases z))]
          exact this
        have hdx8 : (upd H7 tx (.dK (putK dx (Sum.inl n) (.str z1)))) tx = some (.dK (putK dx (Sum.inl n) (.str z1))) := upd_same
        have L8 := L.ev w8
        generalize upd H7 tx (.dK (putK dx (Sum.inl n) (.str z1))) = H8 at w8 tk8 hd8 hdx8 L8 ⊢
        have hval : valV (putK dx (Sum.inl n) (V.str z1)) (Sum.inl n) = some (.str z1) := by rw [valV_put, if_pos rfl]
        clear w6 w7 L6 L7 hdx6 hdx7 v6 v7 xl
        -- the thing
        have dg : DGet H8 tx (kV (Sum.inl n)) (some (.str z1)) := by
          have := DGet.k (k := Sum.inl n) hdx8
          rwa [hval] at this
        refine ⟨_, rfl, _, rfl, (by show 1 ≤ sizeLine; decide), fun q1 hq1 => ?_⟩
        have xa := Ex.new (o := .tup [V.str "drawer"]) hq1
        have dg2 : DGet (upd H8 q1 (.tup [V.str "drawer"])) tx (kV (Sum.inl n)) (some (.str z1)) := by
          have := DGet.k (k := Sum.inl n) (xa.keep _ _ hdx8 (fun ps z => by cases z))
          rwa [hval] at this
        refine ⟨_, rfl, _, rfl, _, rfl, tx, .str z1, rfl, dg2, (by show 3 ≤ sizeLine; decide), fun q2 hq2 => ⟨(by show 2 ≤ sizeLine; decide), fun l3 hl3 => ?_⟩⟩
        have xb := Ex.new (o := .tup [V.str "file", V.int n, V.str z1]) hq2
        have xc := Ex.new (o := .lst [V.ref q1, V.ref q2]) hl3
        have t1 : (upd (upd (upd H8 q1 (.tup [V.str "drawer"])) q2 (.tup [V.str "file", V.int n, V.str z1])) l3 (.lst [V.ref q1, V.ref q2])) q1 = some (.tup Th.dr.xs) :=
          (xb.trans xc).keep _ _ upd_same (fun ps z => by cases z)
        have t2 : (upd (upd (upd H8 q1 (.tup [V.str "drawer"])) q2 (.tup [V.str "file", V.int n, V.str z1])) l3 (.lst [V.ref q1, V.ref q2])) q2 = some (.tup (Th.fl n z1).xs) :=
          xc.keep _ _ upd_same (fun ps z => by cases z)
        have tl : (upd (upd (upd H8 q1 (.tup [V.str "drawer"])) q2 (.tup [V.str "file", V.int n, V.str z1])) l3 (.lst [V.ref q1, V.ref q2])) l3 = some (.lst [V.ref q1, V.ref q2]) := upd_same
        have x9 := (xa.trans xb).trans xc
        have hlt3 : l3 ≠ tw := fun e => by
          obtain ⟨u0, u1, _, et⟩ := L8.town
          have := (xa.trans xb).keep _ _ et (fun ps z => by cases z)
          rw [e, this] at hl3
          cases hl3
        generalize upd (upd (upd H8 q1 (.tup [V.str "drawer"])) q2 (.tup [V.str "file", V.int n, V.str z1])) l3 (.lst [V.ref q1, V.ref q2]) = H9 at t1 t2 tl x9 ⊢
        have L9 := L8.ex x9
        refine ⟨sc, tw, l3, ns, [V.ref q1, V.ref q2], rfl, L9, SqL.of tl, hlt3, (by show 0 < 2; decide), (by show 2 < 1000; decide), fun Ha y va hya => ?_⟩
        have wa := (x9.ev L8.town).trans va
        have tka : ∀ b xs, H9 b = some (.tup xs) → Ha b = some (.tup xs) := fun b xs e => va.keep _ _ (fun z => by
          obtain ⟨u0, u1, _, et⟩ := L9.town
          rw [z, et] at e
          cases e) e (fun ps z => by cases z)
        obtain ⟨rr, h, rfl, hh, hok, hfl⟩ : ∃ rr h, y = .ref rr ∧ Ha rr = some (.tup (Th.xs h)) ∧ h.ok ∧ ∀ n' z', h = .fl n' z' → n' = n ∧ z' = z1 := by
          simp only [List.mem_cons, List.not_mem_nil, or_false] at hya
          rcases hya with rfl | rfl
          · exact ⟨q1, .dr, rfl, tka _ _ t1, trivial, fun n' z' e => by cases e⟩
          · exact ⟨q2, .fl n z1, rfl, tka _ _ t2, ⟨hn, hzt⟩, fun n' z' e => by injection e with e1 e2; exact ⟨e1.symm, e2.symm⟩⟩
        have hda : Ha a0 = some (.dT kvs) := wa.keep _ _ hat hd8 (fun ps z => by cases z)
        have hdxa : Ha tx = some (.dK (putK dx (Sum.inl n) (.str z1))) := wa.keep _ _ htt hdx8 (fun ps z => by cases z)
        have tkA : ∀ b xs, G5 b = some (.tup xs) → Ha b = some (.tup xs) := fun b xs e => tka _ _ (x9.keep _ _ (tk8 _ _ e) (fun ps z => by cases z))
        have ppa : PathX Ha p path := tkA _ _ pp
        have rowa := row5.keep tkA
        have hkl : kvs.length < sizeLine := by
          have e80 : (entsT tr).length = tr.length := by unfold entsT; rw [List.length_map]
          have := (rowa.row (K := K)).len
          rw [sizeLine_eq]
          omega
        refine ⟨_, rfl, _, rfl, a0, _, rfl, DPut.t (k := path.map Sum.inr) (v := .ref rr) hda ppa.key hkl, ?_⟩
        rw [putK_new _ e1]
        have wf := (w8.trans wa).put L.town ha0 (o := .dT (kvs ++ [(path.map Sum.inr, .ref rr)]))
        have tkf : ∀ b xs, Ha b = some (.tup xs) → (upd Ha a0 (.dT (kvs ++ [(path.map Sum.inr, .ref rr)]))) b = some (.tup xs) := fun b xs e => by
          rw [upd_ne (ne_of e hda (fun z => by cases z))]
          exact e
        have hnone : valT tr (z.2 ++ [c]) = none := by rw [hpath]; exact e2
        have hvalo : ∀ n' y, valV dx (Sum.inl n') = some (.str y) → valV (putK dx (Sum.inl n) (V.str z1)) (Sum.inl n') = some (.str y) := fun n' y e => by
          rw [valV_put]
          by_cases hnn : n' = n
          · subst hnn
            rw [if_pos rfl, hzo y e]
          · rw [if_neg (fun q => hnn (by injection q))]
            exact e
        refine ⟨⟨_, _, _, _, rfl⟩, wf, kvs ++ [(path.map Sum.inr, .ref rr)], tr ++ [(path, h)], putK dx (Sum.inl n) (.str z1), upd_same, ?_, ?_, ?_, ?_, ?_, ?_, ?_, ?_⟩
        · exact (rowa.keep tkf).snoc (tkf _ _ hh)
        · rw [← hpath]
          refine good_app good (by omega) hzd hz5 hc hnone hok fun n' z' y e hv => ?_
          obtain ⟨rfl, rfl⟩ := hfl n' z' e
          exact hzo y (hseen _ y hv)
        · intro e he z' hz'
          rcases List.mem_append.mp he with he | he
          · exact hltr e he z' hz'
          · rw [List.mem_singleton.mp he] at hz'
            have hz' : z' ∈ path := hz'
            rw [← hpath] at hz'
            rcases List.mem_append.mp hz' with hz' | hz'
            · exact hltr _ (valT_mem hzd) z' hz'
            · rw [List.mem_singleton.mp hz']
              exact hcl
        · rw [List.length_append, List.length_singleton]
          omega
        · rw [upd_ne (ne_of hdxa hda (fun z => by cases z))]
          exact hdxa
        · have := length_putK dx (Sum.inl n) (V.str z1)
          omega
        · intro n' v hv
          rw [valV_put] at hv
          split at hv
          · exact ⟨z1, (Option.some.inj hv).symm, hzt⟩
          · exact htxt n' v hv
        · refine seen_snoc hok (fun n' y hv => hvalo n' y (hseen n' y hv)) fun n' z' e => ?_
          obtain ⟨rfl, rfl⟩ := hfl n' z' e
          exact hval
    · rintro σ G ⟨⟨v5, v6, v7, v8, rfl⟩, vg, kvs, tr, dx, hd, row, good, hltr, hlen, _⟩
      exact ⟨_, rfl, k G a0 kvs tr vg ha0 hd row good hltr (by omega)⟩
end
/-! ### the keys in their order -/
def RisingP (ps : List (List Str)) : Prop := ps.Pairwise fun x y => LS.ltP y x = false
theorem rising_uniq {l m : List (List Str)} (h : l.Perm m) (hl : RisingP l) (hm : RisingP m) : l = m := by
  refine List.Perm.eq_of_pairwise (le := fun x y => LS.ltP y x = false) (fun a b _ _ h1 h2 => LS.ltP_anti h2 h1) hl hm h
def keysUp (t : Tr) : List (List Str) := (t.map (·.1)).mergeSort fun a b => !LS.ltP b a
theorem keysUp_perm (t : Tr) : (keysUp t).Perm (t.map (·.1)) := List.mergeSort_perm _ _
theorem keysUp_rising (t : Tr) : RisingP (keysUp t) := by
  have O := LS.swoP (fun _ => [])
  have h := List.pairwise_mergeSort (le := fun a b : List Str => !LS.ltP b a) (fun a b c h1 h2 => ?_) (fun a b => ?_) (t.map (·.1))
  · exact h.imp fun {x y} hxy => by simpa using hxy
  · simp only [Bool.not_eq_true'] at h1 h2 ⊢
    exact decide_eq_false (LS.rk_tr (of_decide_eq_false h1) (of_decide_eq_false h2))
  · simp only [Bool.or_eq_true, Bool.not_eq_true']
    cases h : LS.ltP b a with
    | false => exact Or.inl rfl
    | true => exact Or.inr (decide_eq_false (LS.rk_asym (of_decide_eq_true h)))
theorem keysUp_of {t : Tr} {ys : LS.Zs} (h : (ys.map (·.2)).Perm (t.map (·.1))) (hr : LS.Rising ys) : ys.map (·.2) = keysUp t :=
  rising_uniq (h.trans (keysUp_perm t).symm) (List.pairwise_map.mpr hr) (keysUp_rising t)
def numAt (t : Tr) (p : List Str) : Option Int := match valT t p with
  | some (.fl n _) => some n
  | _ => none
/-- the paths of the file with the number n, rising -/
def groupOf (t : Tr) (n : Int) : List (List Str) := (keysUp t).filter fun q => decide (numAt t q = some n)
/-! ### layers as they are drawn -/
inductive En where
  | dr (b : Bool) | gone | fl (n : Int) (z : Str)
  deriving DecidableEq
def En.d : En → PyData
  | .dr b => .tuple [.str "drawer", .bool b]
  | .gone => .tuple [.str "gone"]
  | .fl n z => .tuple [.str "file", .int n, .str z]
def En.xs : En → List V
  | .dr b => [.str "drawer", .bl b]
  | .gone => [.str "gone"]
  | .fl n z => [.str "file", .int n, .str z]
def En.isDr : En → Bool
  | .dr _ => true
  | _ => false
def En.ok : En → Prop
  | .fl n z => numB (.int n) = true ∧ textB z = true
  | _ => True
abbrev La := List (List Str × En)
def entsL (t : La) : Ents := t.map fun e => (e.1, e.2.d)
theorem En.entry {h : En} (ok : h.ok) : entryB h.d = true := by
  cases h with
  | dr b => cases b <;> decide +kernel
  | gone => decide +kernel
  | fl n z =>
    unfold entryB
    rw [if_neg (by
      have : kindB "drawer" 2 (En.fl n z).d = false := rfl
      rw [this]
      decide)]
    have : fileB (En.fl n z).d = true := by
      show (kindB "file" 3 (.tuple [.str "file", .int n, .str z]) && (numB (.int n) && textB z)) = _
      rw [show kindB "file" 3 (.tuple [.str "file", .int n, .str z]) = true by rfl, ok.1, ok.2]
      rfl
    rw [this, Bool.or_true]
theorem En.ok_of {h : En} (e : entryB h.d = true) : h.ok := by
  cases h with
  | fl n z =>
    rcases entry_form e with ⟨b, e⟩ | e | ⟨n', z', e, h1, h2⟩
    · exact absurd e (by simp [En.d])
    · exact absurd e (by simp [En.d])
    · have e : PyData.tuple [.str "file", .int n, .str z] = .tuple [.str "file", .int n', .str z'] := e
      injection e with e
      simp only [List.cons.injEq, PyData.int.injEq, PyData.str.injEq, and_true, true_and] at e
      obtain ⟨rfl, rfl⟩ := e
      exact ⟨h1, h2⟩
  | _ => trivial
theorem En.dir (h : En) : dirD h.d = h.isDr := by
  cases h with
  | dr b => cases b <;> decide +kernel
  | gone => decide +kernel
  | fl n z => show headIs "drawer" (.str "file") = false; decide +kernel
theorem En.eqv_see (h : En) : PyData.eqv h.d seeD = decide (h = .dr false) := by
  cases h with
  | dr b => cases b <;> decide +kernel
  | gone => decide +kernel
  | fl n z =>
    rw [decide_eq_false (by intro e; cases e)]
    simp [En.d, seeD, PyData.eqv, PyData.eqvAll]
def RowN (H : Hp) (kvs : List (List L2.Key × V)) (t : La) : Prop := Paired (fun kv e => kv.1 = e.1.map Sum.inr ∧ ∃ r, kv.2 = .ref r ∧ H r = some (.tup e.2.xs)) kvs t
theorem En.dp {K : PySem.W.Frag} {H : Hp} {r : Addr} {h : En} (e : H r = some (.tup h.xs)) : Dp K H (.ref r) h.d := by
  cases h with
  | dr b => exact .tup (SqT.of e) (.cons (.str _) (.cons (.bl _) .nil))
  | gone => exact .tup (SqT.of e) (.cons (.str _) .nil)
  | fl n z => exact .tup (SqT.of e) (.cons (.str _) (.cons (.int _) (.cons (.str _) .nil)))
theorem RowN.row {K : PySem.W.Frag} {H : Hp} : ∀ {kvs : List (List L2.Key × V)} {t : La}, RowN H kvs t → RowE K H kvs (entsL t)
  | _, _, .nil => .nil
  | kv :: kvs, e :: t, .cons a b => by
    obtain ⟨a1, r, a2, a3⟩ := a
    refine .cons ⟨a1, ?_⟩ (RowN.row b)
    rw [a2]
    exact En.dp a3
theorem RowN.keep {H H' : Hp} {kvs : List (List L2.Key × V)} {t : La} (k : ∀ b xs, H b = some (.tup xs) → H' b = some (.tup xs)) (h : RowN H kvs t) : RowN H' kvs t := pairImp (fun _ _ ⟨q1, r, q2, q3⟩ => ⟨q1, r, q2, k r _ q3⟩) h
def valL (t : La) (p : List Str) : Option En := (t.find? fun e => decide (e.1 = p)).map (·.2)
theorem valL_ents (t : La) (p : List Str) : valE (entsL t) p = (valL t p).map En.d := by
  unfold valE valL entsL
  rw [List.find?_map, Option.map_map, Option.map_map]
  rfl
theorem RowN.val {H : Hp} {p : List Str} : ∀ {kvs : List (List L2.Key × V)} {t : La}, RowN H kvs t →
    (valV kvs (p.map Sum.inr) = none ∧ valL t p = none) ∨ ∃ r h, valV kvs (p.map Sum.inr) = some (.ref r) ∧ valL t p = some h ∧ H r = some (.tup h.xs)
  | _, _, .nil => Or.inl ⟨rfl, rfl⟩
  | kv :: kvs, e :: t, .cons a b => by
    obtain ⟨a1, r, a2, a3⟩ := a
    by_cases h : e.1 = p
    · refine Or.inr ⟨r, e.2, ?_, ?_, a3⟩
      · rw [valV_pos (by rw [a1, h]), a2]
      · unfold valL
        rw [List.find?_cons, decide_eq_true h]
        rfl
    · have h2 : ¬ kv.1 = p.map Sum.inr := fun z => h (inr_inj (a1.symm.trans z))
      have e1 : valL (e :: t) p = valL t p := by
        unfold valL
        rw [List.find?_cons, decide_eq_false h]
      rw [valV_neg h2, e1]
      exact RowN.val b
/-- a layer as the document has it -/
structure GoodL (t : La) : Prop where
  lay : layerB (entsL t) = true
  nd : (t.map (·.1)).Nodup
theorem valL_mem {t : La} {p : List Str} {h : En} (e : valL t p = some h) : (p, h) ∈ t := by
  unfold valL at e
  obtain ⟨x, h1, h2⟩ := Option.map_eq_some_iff.mp e
  have h3 : x.1 = p := of_decide_eq_true (List.find?_some (p := fun e : List Str × En => decide (e.1 = p)) h1)
  have := List.mem_of_find?_eq_some h1
  rw [← h3, ← h2]
  exact this
theorem valL_none {t : La} {p : List Str} (e : valL t p = none) : p ∉ t.map (·.1) := by
  intro hm
  obtain ⟨x, hx, rfl⟩ := List.mem_map.mp hm
  unfold valL at e
  rw [Option.map_eq_none_iff, List.find?_eq_none] at e
  exact e x hx (decide_eq_true rfl)
theorem valL_some {t : La} {p : List Str} (hm : p ∈ t.map (·.1)) : ∃ h, valL t p = some h := by
  cases e : valL t p with
  | some h => exact ⟨h, rfl⟩
  | none => exact absurd hm (valL_none e)
def isDrL (t : La) (p : List Str) : Bool := match valL t p with
  | some h => h.isDr
  | none => false
theorem dirAt_L (t : La) (p : List Str) : dirAt (entsL t) p = isDrL t p := by
  unfold dirAt isDrL
  rw [valL_ents]
  cases h : valL t p with
  | none => rfl
  | some x => exact x.dir
theorem goodL_ok {t : La} (g : GoodL t) {p : List Str} {h : En} (hm : (p, h) ∈ t) : h.ok ∧ goodPath p = true := by
  obtain ⟨_, h2, h3, _, _⟩ := layerB_parts g.lay
  have he : (p, h.d) ∈ entsL t := List.mem_map.mpr ⟨(p, h), hm, rfl⟩
  exact ⟨En.ok_of (h3 _ he), h2 _ he⟩
theorem goodL_root {t : La} (g : GoodL t) : ∃ h, valL t [] = some h ∧ h.isDr = true := by
  obtain ⟨_, _, _, h4, _⟩ := layerB_parts g.lay
  unfold roofH at h4
  rw [Bool.and_eq_true, dirAt_L] at h4
  have h := h4.1
  unfold isDrL at h
  cases e : valL t [] with
  | none => rw [e] at h; cases h
  | some x => rw [e] at h; exact ⟨x, rfl, h⟩
theorem goodL_small {t : La} (h : GoodL t) : smallE (entsL t) := by
  obtain ⟨h1, h2, h3, _, _⟩ := layerB_parts h.lay
  refine ⟨fun e he => ⟨goodPath_small (h2 e he), ?_⟩, by omega⟩
  obtain ⟨x, hx, rfl⟩ := List.mem_map.mp he
  have hth := En.ok_of (h3 _ he)
  cases hx2 : x.2 with
  | dr b =>
    show smallD (En.dr b).d = true
    have e2 : decide (("drawer" : Str).length ≤ sizeLine) = true := by decide +kernel
    simp [En.d, smallD, smallAll, e2]
  | gone =>
    show smallD (En.gone).d = true
    have e2 : decide (("gone" : Str).length ≤ sizeLine) = true := by decide +kernel
    simp [En.d, smallD, smallAll, e2]
  | fl n z =>
    show smallD (En.fl n z).d = true
    rw [hx2] at hth
    have hz : z.length ≤ 40 := by
      have := hth.2
      unfold textB at this
      rw [Bool.and_eq_true] at this
      exact of_decide_eq_true this.1
    have e1 : decide (z.length ≤ sizeLine) = true := decide_eq_true (by rw [sizeLine_eq]; omega)
    have e2 : decide (("file" : Str).length ≤ sizeLine) = true := by decide +kernel
    simp [En.d, smallD, smallAll, e1, e2]
theorem dirAt_app {es : Ents} {e : List Str × PyData} {q : List Str} (h : dirAt es q = true) : dirAt (es ++ [e]) q = true := by
  unfold dirAt at h ⊢
  rw [valE_app]
  cases hv : valE es q with
  | some d =>
    rw [hv] at h
    exact h
  | none =>
    rw [hv] at h
    cases h
theorem roofH_app {es : Ents} {e : List Str × PyData} (h : roofH es = true) (hn : e.1 ≠ []) (ha : dirAt es e.1.dropLast = true) : roofH (es ++ [e]) = true := by
  unfold roofH at h ⊢
  simp only [Bool.and_eq_true, List.all_eq_true, Bool.or_eq_true, decide_eq_true_eq] at h ⊢
  obtain ⟨h1, h2⟩ := h
  refine ⟨dirAt_app h1, fun x hx => ?_⟩
  rcases List.mem_append.mp hx with hx | hx
  · exact (h2 x hx).imp id dirAt_app
  · rw [List.mem_singleton.mp hx]
    exact Or.inr (dirAt_app ha)
theorem layerB_app {es : Ents} {p : List Str} {D : PyData} (h : layerB es = true) (h80 : es.length < 40) (hn : p ≠ []) (hg : goodPath p = true) (ha : dirAt es p.dropLast = true) (hd : entryB D = true)
    (ht : ∀ n z y, fileB D = true → partD 1 D = .int n → partD 2 D = .str z → valV (seenOf [] (es.map (·.2))) (Sum.inl n) = some (.str y) → y = z) : layerB (es ++ [(p, D)]) = true := by
  obtain ⟨h1, h2, h3, h4, h5⟩ := layerB_parts h
  have t5 : oneTextB ((es ++ [(p, D)]).map (·.2)) = true := by
    rw [List.map_append]
    show textsGo [] (es.map (·.2) ++ [D]) = true
    rw [textsGo_app _ _ (fun k v h => by cases h), Bool.and_eq_true]
    refine ⟨h5, ?_⟩
    cases hf : fileB D with
    | false =>
      rw [textsGo_not hf]
      rfl
    | true =>
      obtain ⟨fs, n, z, _, _, e1, e2, _, _⟩ := file_parts hf
      cases hv : valV (seenOf [] (es.map (·.2))) (Sum.inl n) with
      | none =>
        rw [textsGo_new hf e1 e2 hv]
        rfl
      | some v =>
        obtain ⟨y, rfl⟩ := seenOf_strs (es.map (·.2)) (fun k v h => by cases h) _ _ hv
        rw [textsGo_old hf e1 e2 hv, if_pos (ht n z y hf e1 e2 hv)]
        rfl
  unfold layerB
  simp only [Bool.and_eq_true, decide_eq_true_eq, List.all_eq_true]
  refine ⟨by rw [List.length_append, List.length_singleton]; omega, fun e he => ?_, fun e he => ?_, roofH_app h4 hn ha, t5⟩
  · rcases List.mem_append.mp he with he | he
    · exact h2 e he
    · rw [List.mem_singleton.mp he]
      exact hg
  · rcases List.mem_append.mp he with he | he
    · exact h3 e he
    · rw [List.mem_singleton.mp he]
      exact hd
theorem goodL_app {t : La} {p : List Str} {c : Str} {h : En} (g : GoodL t) (hl : t.length < 40) (hp : goodPath p = true) (hd : isDrL t p = true) (h5 : p.length < 5) (hc : nameB c = true) (hn : valL t (p ++ [c]) = none) (ok : h.ok)
    (ht : ∀ n z y, h = .fl n z → valV (seenOf [] ((entsL t).map (·.2))) (Sum.inl n) = some (.str y) → y = z) : GoodL (t ++ [(p ++ [c], h)]) := by
  constructor
  · have e : entsL (t ++ [(p ++ [c], h)]) = entsL t ++ [(p ++ [c], h.d)] := by
      unfold entsL
      rw [List.map_append]
      rfl
    rw [e]
    refine layerB_app g.lay (by unfold entsL; rw [List.length_map]; exact hl) (by simp) (goodPath_snoc hp h5 hc) ?_ (En.entry ok) ?_
    · rw [List.dropLast_concat, dirAt_L]
      exact hd
    · intro n z y hf e1 e2 hv
      cases h with
      | dr b => cases b <;> exact absurd hf (by decide +kernel)
      | gone => exact absurd hf (by decide +kernel)
      | fl n' z' =>
        have e1 : PyData.int n' = .int n := e1
        have e2 : PyData.str z' = .str z := e2
        injection e1 with e1
        injection e2 with e2
        subst e1
        subst e2
        exact ht n' z' y rfl hv
  · rw [List.map_append, List.nodup_append]
    refine ⟨g.nd, by simp, fun a ha b hb e => ?_⟩
    have hb : b = p ++ [c] := by simpa using hb
    rw [hb] at e
    exact valL_none hn (e ▸ ha)
theorem RowN.keys {H : Hp} : ∀ {kvs : List (List L2.Key × V)} {t : La}, RowN H kvs t → LS.KeysP kvs (t.map (·.1))
  | _, _, .nil => rfl
  | kv :: kvs, e :: t, .cons a b => by
    have := RowN.keys b
    unfold LS.KeysP at this ⊢
    rw [List.map_cons, List.map_cons, List.map_cons, this, a.1]
theorem seenL_snoc {t : La} {p : List Str} {h : En} {dx : List (L2.Key × V)} (ok : h.ok) (hs : ∀ n y, valV (seenOf [] ((entsL t).map (·.2))) (Sum.inl n) = some (.str y) → valV dx (Sum.inl n) = some (.str y))
    (hh : ∀ n z, h = .fl n z → valV dx (Sum.inl n) = some (.str z)) : ∀ n y, valV (seenOf [] ((entsL (t ++ [(p, h)])).map (·.2))) (Sum.inl n) = some (.str y) → valV dx (Sum.inl n) = some (.str y) := by
  intro n y hv
  have e : (entsL (t ++ [(p, h)])).map (·.2) = (entsL t).map (·.2) ++ [h.d] := by
    unfold entsL
    rw [List.map_append, List.map_append]
    rfl
  rw [e, seenOf_app] at hv
  cases h with
  | dr b =>
    rw [seenStep_not (by cases b <;> decide +kernel)] at hv
    exact hs n y hv
  | gone =>
    rw [seenStep_not (by decide +kernel)] at hv
    exact hs n y hv
  | fl n' z' =>
    have hf : fileB (En.fl n' z').d = true := by
      show (kindB "file" 3 (.tuple [.str "file", .int n', .str z']) && (numB (.int n') && textB z')) = _
      rw [show kindB "file" 3 (.tuple [.str "file", .int n', .str z']) = true by rfl, ok.1, ok.2]
      rfl
    rw [seenStep_file hf (n := n') (z := z') rfl rfl] at hv
    split at hv
    · exact hs n y hv
    · rw [valV_put] at hv
      split at hv
      · rename_i e2
        injection e2 with e2
        subst e2
        injection hv with hv
        injection hv with hv
        subst hv
        exact hh _ _ rfl
      · exact hs n y hv
theorem RowN.snoc {H : Hp} {kvs : List (List L2.Key × V)} {t : La} {p : List Str} {h : En} {r : Addr} (row : RowN H kvs t) (e : H r = some (.tup h.xs)) : RowN H (kvs ++ [(p.map Sum.inr, .ref r)]) (t ++ [(p, h)]) :=
  pairSnoc (F := fun (kv : List L2.Key × V) (e : List Str × En) => kv.1 = e.1.map Sum.inr ∧ ∃ r, kv.2 = .ref r ∧ H r = some (.tup e.2.xs)) ⟨rfl, r, rfl, e⟩ row
theorem drawL_one (b : Bool) : GoodL [([], .dr b)] := ⟨by cases b <;> decide +kernel, by simp⟩
/-- what is carried through the turns -/
def numsL : List Int := [0, 1, 7]
/-- as a law draws it: the letters of its paths, the numbers of its files -/
def NiceL (t : La) : Prop := ∀ e ∈ t, (∀ z ∈ e.1, z ∈ ltrs) ∧ ∀ n z, e.2 = .fl n z → n ∈ numsL
def LInv (G : Hp) (a tx : Addr) (i : Nat) : Prop := ∃ kvs tr dx, G a = some (.dT kvs) ∧ RowN G kvs tr ∧ GoodL tr ∧ NiceL tr ∧ tr.length ≤ i + 1 ∧ G tx = some (.dK dx) ∧ dx.length ≤ i ∧
  (∀ n v, valV dx (Sum.inl n) = some v → ∃ z, v = .str z ∧ textB z = true) ∧ ∀ n y, valV (seenOf [] ((entsL tr).map (·.2))) (Sum.inl n) = some (.str y) → valV dx (Sum.inl n) = some (.str y)
def En.word : En → Str
  | .dr _ => "drawer"
  | .gone => "gone"
  | .fl _ _ => "file"
theorem En.at0 (h : En) : atI h.xs 0 = some (.str h.word) := by cases h <;> rfl
theorem En.word_dr (h : En) : decide (V.str h.word = V.str "drawer") = h.isDr := by
  cases h with
  | dr b => rfl
  | gone => decide +kernel
  | fl n z => show decide (V.str "file" = V.str "drawer") = false; decide +kernel
def spLayer (K : PySem.W.Frag) : Sp := fun vs H Q _ => ∃ (sc tw : Addr) (ns : List Int) (m : Nat), vs = [.ref sc, .ref tw, .int (m : Nat)] ∧ Lw K H sc tw ns ∧ m ≤ 30 ∧
  ∀ H' a kvs t, Ev tw H H' → H a = none → H' a = some (.dT kvs) → RowN H' kvs t → GoodL t → NiceL t → t.length ≤ m + 1 → Q (.ref a) H'
section
variable {P : Program} {w : World} {K : PySem.W.Frag} {mg : Str → Option Value} {base : Heap}
abbrev llN : List Str := ["_law_script", "_law_town", "_law_many", "_law_made", "_law_texts", "_law_k", "_law_rooms", "_law_path", "_law_number", "_law_some"]
theorem scLayer : FnScope llN ["_law_script", "_law_town", "_law_many"] (defScope sLayer) := ⟨rfl, rfl, rfl, by decide +kernel, rfl, by decide +kernel, by decide +kernel⟩
theorem ok_layer {f fD fP fL fX : Addr} {fd fdD fdP fdL fdX : FuncData} (F : Fun K "_law_layer" "_law_layer" sLayer f fd) (M : Mg mg) (mS : mg "sorted" = none)
    (GD : FnOk P w K mg base CX0 1 fD fdD ["_law_script", "_law_town", "_law_many"] (spDraw K)) (mD : mg "_law_draw" = some (.ref fD)) (kD : PySem.W.keepIn K (.ref fD) = true) (bD : Binds K fdD ["_law_script", "_law_town", "_law_many"] [])
    (GP : FnOk P w K mg base CX0 2 fP fdP ["_law_script", "_law_town", "_law_some"] (spPick K)) (mP : mg "_law_pick" = some (.ref fP)) (kP : PySem.W.keepIn K (.ref fP) = true) (bP : Binds K fdP ["_law_script", "_law_town", "_law_some"] [])
    (GL : FnOk P w K mg base CX0 3 fL fdL ["_law_script", "_law_town"] (spLetter K)) (mL : mg "_law_letter" = some (.ref fL)) (kL : PySem.W.keepIn K (.ref fL) = true) (bL : Binds K fdL ["_law_script", "_law_town"] [])
    (GX : FnOk P w K mg base CX0 3 fX fdX ["_law_script", "_law_town"] (spLText K)) (mX : mg "_law_text" = some (.ref fX)) (kX : PySem.W.keepIn K (.ref fX) = true) (bX : Binds K fdX ["_law_script", "_law_town"] []) :
    FnOk P w K mg base CX0 4 f fd ["_law_script", "_law_town", "_law_many"] (spLayer K) := by
  refine F.ok scLayer (fun vs H Q E h => ?_) (fun cdv A outer s H vs Q E hr h => ?_)
  · obtain ⟨sc, tw, ns, m, rfl, _⟩ := h
    rfl
  · obtain ⟨sc, tw, ns, m, rfl, L, hm, k⟩ := h
    have r1 := hr.mono (show 1 ≤ 3 by decide)
    have r2 := hr.mono (show 2 ≤ 3 by decide)
    have hu1 : (A.deeper (envOfC "_law_layer" (defScope sLayer) s.heap.objs.size f cdv)).units + 1 < cLine := by have := hr.units; omega
    have hu3 : (A.deeper (envOfC "_law_layer" (defScope sLayer) s.heap.objs.size f cdv)).units + 3 < cLine := by have := hr.units; omega
    refine ⟨_, pss_cons (ps_set (i := 3) scLayer.nd rfl (Or.inr rfl) (pe_dispT hu1 (pps_cons (pe_tup pa_nil) (pe_tup (pa_cons pe_str (pa_cons (pe_cmpR op_eq (pe_call (E := E0) GD r1 (by rfl) mD kD bD .nil pass0 (pa_cons (pv 0) (pa_cons (pv 1) (pa_cons pe_int pa_nil)))) pe_int (nomark _)) pa_nil))) pps_nil) rfl rfl (by simp) (by decide)))
      (pss_cons (ps_set (i := 4) scLayer.nd rfl (Or.inl rfl) pe_dnewK)
      (pss_cons (ps_for PassesOwn.never rfl (pi_range1 (by rfl) M.range (pa_cons (pe_call (E := E0) GD r1 (by rfl) mD kD bD .nil pass0 (pa_cons (pv 0) (pa_cons (pv 1) (pa_cons (pe_op op_add (pv 2) pe_int) pa_nil)))) pa_nil)) (pg_name (i := 5) scLayer.nd rfl (Or.inl rfl))
        (pss_cons (ps_setLc (i := 6) (own := [("_law_path", 7)]) (g := gName 7)
            (tt := tAnd (tTest (tOp rEq (tOp (rIxT K) (tDGet (tVar 3) (tVar 7)) (tC (.int 0))) (tC (.str "drawer")))) (tTest (tOp (rI0 fun i j => V.bl (decide (i < j))) (tCB (rLenSeq K) (tCons (tVar 7) tNil)) (tC (.int 5)))))
            (by rfl) scLayer.nd rfl rfl (sw_true rfl rfl rfl (by decide +kernel)) (pi_list (pe_callB (LS.cr_sortD rfl hu3) (by rfl) mS (by decide +kernel) (pa_cons (pv 3) pa_nil)))
            (blkOk_by (N := llN) (sc := defScope sLayer) (by decide +kernel)) (fun _ _ _ _ _ => pg_name (i := 7) scLayer.nd rfl (Or.inl rfl))
            (fun _ _ _ _ _ => pts_one (PW.pt (pw_and (pt_cmpR op_eq (pe_ix (r := rIxT K) ix_tup (pe_dget hu1 (pv 3) (pv 7) (fun _ _ => rfl)) pe_int (fun _ _ => rfl)) pe_str (nomark _))
              (pw_and1 (pt_cmpR op_lt (pe_callB call_lenS (by rfl) M.len PySem.boot_len (pa_cons (pv 7) pa_nil)) pe_int (nomark _))))))
            (fun _ _ _ _ _ => pv 7))
        (pss_cons (ps_set (i := 7) scLayer.nd rfl (Or.inl rfl) (pe_op op_catA (pe_call (E := E0) GP r2 (by rfl) mP kP bP .nil pass0 (pa_cons (pv 0) (pa_cons (pv 1) (pa_cons (pv 6) pa_nil))))
            (pe_tup (pa_cons (pe_call (E := E0) GL hr (by rfl) mL kL bL .nil pass0 (pa_cons (pv 0) (pa_cons (pv 1) pa_nil))) pa_nil))))
        (pss_one (ps_if (pt_cmp (pc_dnotin hu1 (pv 7) (pv 3)))
          (pss_cons (ps_set (i := 8) scLayer.nd rfl (Or.inl rfl) (pe_call (E := E0) GP r2 (by rfl) mP kP bP .nil pass0 (pa_cons (pv 0) (pa_cons (pv 1) (pa_cons (pe_lst (pa_cons pe_int (pa_cons pe_int (pa_cons pe_int pa_nil)))) pa_nil)))))
          (pss_cons (ps_dput hu1 (pv 4) (pv 8) (pe_dget2 hu1 (pv 4) (pv 8) (pe_call (E := E0) GX hr (by rfl) mX kX bX .nil pass0 (pa_cons (pv 0) (pa_cons (pv 1) pa_nil))) ⟨rfl, rfl, rfl, rfl⟩) rfl)
          (pss_cons (ps_set (i := 9) scLayer.nd rfl (Or.inl rfl) (pe_lst (pa_cons (pe_tup (pa_cons pe_str (pa_cons pe_bl pa_nil))) (pa_cons (pe_tup (pa_cons pe_str (pa_cons pe_bl pa_nil))) (pa_cons (pe_tup (pa_cons pe_str pa_nil)) (pa_cons (pe_tup (pa_cons pe_str pa_nil)) (pa_cons (pe_tup (pa_cons pe_str (pa_cons (pv 8) (pa_cons (pe_dget hu1 (pv 4) (pv 8) (fun _ _ => rfl)) pa_nil)))) pa_nil)))))))
          (pss_one (ps_dput hu1 (pv 3) (pv 7) (pe_call (E := E0) GP r2 (by rfl) mP kP bP .nil pass0 (pa_cons (pv 0) (pa_cons (pv 1) (pa_cons (pe_op op_cat (pv 9) (pe_lst (pa_cons (pe_tup (pa_cons pe_str (pa_cons pe_bl pa_nil))) pa_nil))) pa_nil)))) rfl)))))
          pss_nil)))))
      (pss_one (ps_ret (pv 3))))), ?_⟩
    -- the root
    intro a0 ha0
    have hat : a0 ≠ tw := L.town.ne ha0
    refine ⟨Nat.zero_le _, fun p0 hp0 => ?_⟩
    have d0 : (upd H a0 (.dT [])) a0 = some (.dT []) := upd_same
    have xe := Ex.new (o := .tup []) hp0
    have xa := (Ex.new (o := .dT []) ha0).trans xe
    have t0 : PathX (upd (upd H a0 (.dT [])) p0 (.tup [])) p0 [] := upd_same
    have d1 := xe.keep _ _ d0 (fun ps z => by cases z)
    have La := L.ex xa
    refine ⟨_, rfl, _, rfl, sc, tw, ns, 9, rfl, La, by decide, by decide, fun Hb rb vb rb0 rb1 => ⟨rfl, (by show 2 ≤ sizeLine; decide), fun p1 hp1 => ?_⟩⟩
    generalize hbd : decide (V.int rb = V.int 0) = bd at hp1 ⊢
    have xp := Ex.new (o := .tup [V.str "drawer", V.bl bd]) hp1
    have d2 := xp.keep _ _ (vb.keep _ _ hat d1 (fun ps z => by cases z)) (fun ps z => by cases z)
    have hp0t : p0 ≠ tw := (L.town.ex (Ex.new (o := .dT []) ha0)).ne hp0
    have t1 : PathX (upd Hb p1 (.tup [V.str "drawer", V.bl bd])) p0 [] := PathX.ex xp (vb.keep _ _ hp0t t0 (fun ps z => by cases z))
    have g2 : (upd Hb p1 (.tup [V.str "drawer", V.bl bd])) p1 = some (.tup (En.dr bd).xs) := upd_same
    have vm : Ev tw H (upd Hb p1 (.tup [V.str "drawer", V.bl bd])) := ((xa.ev L.town).trans vb).trans (xp.ev (La.ev vb).town)
    generalize upd Hb p1 (.tup [V.str "drawer", V.bl bd]) = Hm at d2 t1 g2 vm ⊢
    clear d0 d1 xe xa xp t0 hp1 vb La hp0
    refine ⟨d2, [([], .ref p1)], .cons ⟨⟨p0, rfl, t1⟩, rfl⟩ .nil, (by show 1 ≤ 15; decide), fun tx htx => ?_⟩
    have emt : mergeT [] [(([] : List L2.Key), V.ref p1)] = [([], .ref p1)] := rfl
    rw [emt] at htx ⊢
    have vd : Ev tw H (upd Hm a0 (.dT [([], .ref p1)])) := vm.put L.town ha0
    have xn := Ex.new (o := .dK []) htx
    have v0 : Ev tw H (upd (upd Hm a0 (.dT [([], .ref p1)])) tx (.dK [])) := vd.trans (xn.ev (L.ev vd).town)
    have htxH : H tx = none := vd.free _ htx
    have k0 : LInv (upd (upd Hm a0 (.dT [([], .ref p1)])) tx (.dK [])) a0 tx 0 := by
      refine ⟨[([], .ref p1)], [([], .dr bd)], [], xn.keep _ _ upd_same (fun ps z => by cases z), .cons ⟨rfl, p1, rfl, ?_⟩ .nil, drawL_one bd, (fun e he => by rw [List.mem_singleton.mp he]; exact ⟨(fun z hz => nomatch hz), (fun n z ez => by cases ez)⟩), Nat.le_refl _, upd_same, Nat.le_refl _, (fun n v h => by cases h), fun n y h => ?_⟩
      · exact xn.keep _ _ (by rw [upd_ne (ne_of g2 d2 (fun z => by cases z))]; exact g2) (fun ps z => by cases z)
      · have : valV (seenOf [] ((entsL [([], En.dr bd)]).map (·.2))) (Sum.inl n) = none := by
          have : seenOf [] ((entsL [([], En.dr bd)]).map (·.2)) = [] := by
            show seenStep [] (En.dr bd).d = []
            exact seenStep_not (by cases bd <;> decide +kernel)
          rw [this]
          rfl
        rw [this] at h
        cases h
    have L0 := L.ev v0
    generalize upd (upd Hm a0 (.dT [([], .ref p1)])) tx (.dK []) = H0 at k0 L0 v0 ⊢
    clear vm d2 t1 g2 vd xn htx emt
    have htt : tx ≠ tw := L.town.ne htxH
    -- the turns
    refine ⟨_, rfl, _, rfl, _, rfl, _, _, rfl, rfl, sc, tw, ns, (m : Int) + 1, rfl, L0, by omega, by omega, fun H1 r v1 r0 r1 => ?_⟩
    refine ⟨r, rfl, by omega, by omega, for_it walk_range (fun i σ G => (∃ v5 v6 v7 v8 v9, σ = [some (.ref sc), some (.ref tw), some (.int (m : Nat)), some (.ref a0), some (.ref tx), v5, v6, v7, v8, v9]) ∧ Ev tw H G ∧ LInv G a0 tx i)
      ⟨⟨none, none, none, none, none, rfl⟩, v0.trans v1, ?_⟩ (fun _ _ _ _ _ => trivial) ?_ ?_⟩
    · obtain ⟨kvs, tr, dx, h1, h2, h3, h3n, h4, h5, h6⟩ := k0
      exact ⟨kvs, tr, dx, v1.keep _ _ hat h1 (fun ps z => by cases z), h2.keep (fun b xs e => v1.keep _ _ (fun z => by
        obtain ⟨u0, u1, _, et⟩ := L0.town
        rw [z, et] at e
        cases e) e (fun ps z => by cases z)), h3, h3n, h4, v1.keep _ _ htt h5 (fun ps z => by cases z), h6⟩
    · rintro i x σ G G' hi ⟨⟨v5, v6, v7, v8, v9, rfl⟩, vg, kvs, tr, dx, hd, row, good, nice, hlen, hdx, hdl, htxt, hseen⟩ ⟨rfl, rfl⟩
      have hi70 : i ≤ 30 := by omega
      have h80 := (layerB_parts good.lay).1
      have LG := L.ev vg
      -- the rooms
      refine ⟨_, rfl, a0, kvs, tr.map (·.1), rfl, Or.inl hd, row.keys, fun l ys py _ hpx hl => ⟨l, rfl, ⟨_, SqL.of upd_same⟩, fun D hD => ?_⟩⟩
      have x1 := Ex.new (o := .lst (LS.addrs ys)) hl
      have l1 : (upd G' l (.lst (LS.addrs ys))) l = some (.lst (LS.addrs ys)) := upd_same
      have ha1 : (upd G' l (.lst (LS.addrs ys))) a0 = some (.dT kvs) := x1.keep _ _ hd (fun ps z => by cases z)
      have row1 : RowN (upd G' l (.lst (LS.addrs ys))) kvs tr := row.keep fun b xs e => x1.keep _ _ e (fun ps z => by cases z)
      have pys : ∀ z ∈ ys, PathX (upd G' l (.lst (LS.addrs ys))) z.1 z.2 := fun z hz => PathX.ex x1 (hpx z hz)
      have hyl : ys.length = tr.length := by
        have := py.length_eq
        rwa [List.length_map, List.length_map] at this
      generalize upd G' l (.lst (LS.addrs ys)) = G1 at x1 l1 ha1 row1 pys hD ⊢
      refine lc_it (walk_list (K := K) (a := l) (xs := LS.addrs ys)) (fun j G2 => Ex G1 G2 ∧ ∃ rs : LS.Zs, G2 D = some (.lst (LS.addrs rs)) ∧ (∀ z ∈ rs, z ∈ ys ∧ isDrL tr z.2 = true ∧ z.2.length < 5) ∧ (∀ z ∈ ys.take j, isDrL tr z.2 = true → z.2.length < 5 → z ∈ rs) ∧ rs.length ≤ j)
        ⟨Ex.new hD, [], upd_same, (fun z hz => nomatch hz), (fun z hz => by rw [List.take_zero] at hz; exact nomatch hz), Nat.le_refl _⟩ (fun j G2 _ h => SqL.of (h.1.keep _ _ l1 (fun ps z => by cases z))) ?_ ?_
      · rintro j y G2 G2' hj ⟨xg, rs, hrs, hall, hmem, hrl⟩ ⟨rfl, hy⟩
        unfold LS.addrs at hy hj
        rw [List.getElem?_map] at hy
        rw [List.length_map] at hj
        obtain ⟨z, hz, rfl⟩ := Option.map_eq_some_iff.mp hy
        have hzm := List.mem_of_getElem? hz
        have etake : ys.take (j + 1) = ys.take j ++ [z] := by rw [List.take_add_one, hz]; rfl
        have pz : PathX G2' z.1 z.2 := (pys z hzm).ex xg
        have hk : z.2 ∈ tr.map (·.1) := py.mem_iff.mp (List.mem_map.mpr ⟨z, hzm, rfl⟩)
        have ha2 : G2' a0 = some (.dT kvs) := xg.keep _ _ ha1 (fun ps z => by cases z)
        have row2 : RowN G2' kvs tr := row1.keep fun b xs e => xg.keep _ _ e (fun ps z => by cases z)
        rcases row2.val (p := z.2) with ⟨_, e2⟩ | ⟨rr, h, e1, e2, e3⟩
        · obtain ⟨h, eh⟩ := valL_some hk
          rw [e2] at eh
          cases eh
        have okh := (goodL_ok good (valL_mem e2)).1
        have edr : isDrL tr z.2 = h.isDr := by unfold isDrL; rw [e2]
        have lenok : rs.length < sizeLine := by
          rw [sizeLine_eq]
          omega
        have dg : DGet G2' a0 (.ref z.1) (some (.ref rr)) := by
          have := get_tr (Or.inl ha2) pz
          rwa [e1] at this
        have skip : (isDrL tr z.2 = true → z.2.length < 5 → False) → Ex G1 G2' ∧ ∃ rs : LS.Zs, G2' D = some (.lst (LS.addrs rs)) ∧ (∀ z ∈ rs, z ∈ ys ∧ isDrL tr z.2 = true ∧ z.2.length < 5) ∧ (∀ z ∈ ys.take (j + 1), isDrL tr z.2 = true → z.2.length < 5 → z ∈ rs) ∧ rs.length ≤ j + 1 := fun hno =>
          ⟨xg, rs, hrs, hall, (fun u hu h1 h2 => by
            rw [etake] at hu
            rcases List.mem_append.mp hu with hu | hu
            · exact hmem u hu h1 h2
            · rw [List.mem_singleton.mp hu] at h1 h2
              exact (hno h1 h2).elim), by omega⟩
        refine ⟨rfl, _, rfl, _, rfl, a0, .ref rr, rfl, dg, rr, h.xs, 0, .str h.word, rfl, rfl, SqT.of e3, h.at0, rfl, _, rfl, ?_⟩
        rw [h.word_dr]
        cases hdr : h.isDr with
        | true =>
          refine iteT ⟨_, rfl, z.1, _, rfl, Or.inr (pz.at (K := K)), _, _, rfl, rfl, _, rfl, ?_⟩
          rw [List.length_map]
          by_cases h5 : (z.2.length : Int) < 5
          · rw [decide_eq_true h5]
            refine iteT ⟨_, rfl, LS.addrs rs, hrs, by unfold LS.addrs; rw [List.length_map]; exact lenok, xg.put hD, rs ++ [z], ?_, ?_, ?_, ?_⟩
            · rw [upd_same]
              unfold LS.addrs
              rw [List.map_append]
              rfl
            · intro u hu
              rcases List.mem_append.mp hu with hu | hu
              · exact hall u hu
              · rw [List.mem_singleton.mp hu]
                exact ⟨hzm, by rw [edr, hdr], by omega⟩
            · intro u hu h1 h2
              rw [etake] at hu
              rcases List.mem_append.mp hu with hu | hu
              · exact List.mem_append_left _ (hmem u hu h1 h2)
              · exact List.mem_append_right _ hu
            · rw [List.length_append, List.length_singleton]
              omega
          · rw [decide_eq_false h5]
            exact iteF (skip fun _ h => by omega)
        | false =>
          refine iteF (iteF (skip fun h1 _ => ?_))
          rw [edr, hdr] at h1
          cases h1
      · rintro G2 ⟨xg, rs, hrs, hall, hmem, hrl⟩
        have hle : (LS.addrs ys).length = ys.length := by unfold LS.addrs; rw [List.length_map]
        rw [hle, List.take_length] at hmem
        rw [hle] at hrl
        -- the place
        have x2 := x1.trans xg
        have v2 := x2.ev LG.town
        have L2 := LG.ev v2
        have hDt : D ≠ tw := fun z => by
          obtain ⟨u0, u1, _, et⟩ := LG.town
          have := x1.keep _ _ et (fun ps z => by cases z)
          rw [z, this] at hD
          cases hD
        obtain ⟨hroot, hroot1, hroot2⟩ := goodL_root good
        obtain ⟨z0, hz0, hz0e⟩ : ∃ z ∈ ys, z.2 = [] := by
          have : ([] : List Str) ∈ ys.map (·.2) := py.mem_iff.mpr (List.mem_map.mpr ⟨([], hroot), valL_mem hroot1, rfl⟩)
          obtain ⟨z, h1, h2⟩ := List.mem_map.mp this
          exact ⟨z, h1, h2⟩
        have hne : z0 ∈ rs := hmem z0 hz0 (by rw [hz0e]; unfold isDrL; rw [hroot1]; exact hroot2) (by rw [hz0e]; decide)
        have hpos : 0 < (LS.addrs rs).length := by
          unfold LS.addrs
          rw [List.length_map]
          exact List.length_pos_of_mem hne
        refine ⟨_, rfl, _, rfl, _, rfl, sc, tw, D, ns, LS.addrs rs, rfl, L2, SqL.of hrs, hDt, hpos, ?_, fun H3 y v3 hy => ?_⟩
        · unfold LS.addrs
          rw [List.length_map]
          have e80 : (entsL tr).length = tr.length := by unfold entsL; rw [List.length_map]
          omega
        obtain ⟨z, hz, rfl⟩ := List.mem_map.mp hy
        obtain ⟨hzy, hzd, hz5⟩ := hall z hz
        have hzg : goodPath z.2 = true := by
          have hk : z.2 ∈ tr.map (·.1) := py.mem_iff.mp (List.mem_map.mpr ⟨z, hzy, rfl⟩)
          obtain ⟨h, eh⟩ := valL_some hk
          exact (goodL_ok good (valL_mem eh)).2
        refine ⟨_, rfl, _, rfl, sc, tw, ns, rfl, L2.ev v3, fun H4 c v4 hc hcl => ⟨(by show 1 ≤ sizeLine; decide), fun q hq => ?_⟩⟩
        have v24 := (v2.trans v3).trans v4
        have L4 := LG.ev v24
        have xq := Ex.new (o := .tup [V.str c]) hq
        have tk : ∀ b xs, G' b = some (.tup xs) → H4 b = some (.tup xs) := fun b xs e => v24.keep _ _ (fun z => by
          obtain ⟨u0, u1, _, et⟩ := LG.town
          rw [z, et] at e
          cases e) e (fun ps z => by cases z)
        have pz4 : PathX H4 z.1 z.2 := tk _ _ (hpx z hzy)
        refine cat_path (PathX.ex xq pz4).at upd_same (by omega) fun G5 p x5 pp => ?_
        have v45 := (xq.trans x5).ev L4.town
        have v5 := v24.trans v45
        have L5 := LG.ev v5
        have tk5 : ∀ b xs, G' b = some (.tup xs) → G5 b = some (.tup xs) := fun b xs e => (xq.trans x5).keep _ _ (tk b xs e) (fun ps z => by cases z)
        have hd5 : G5 a0 = some (.dT kvs) := v5.keep _ _ hat hd (fun ps z => by cases z)
        have hdx5 : G5 tx = some (.dK dx) := v5.keep _ _ htt hdx (fun ps z => by cases z)
        have row5 := row.keep tk5
        have vH5 := vg.trans v5
        clear pz4 tk v24 v45 xq x5 L4
        generalize hpath : z.2 ++ [c] = path at pp
        refine ⟨_, rfl, _, rfl, a0, _, rfl, get_tr (Or.inl hd5) pp, _, rfl, ?_⟩
        rcases row5.val (p := path) with ⟨e1, e2⟩ | ⟨rr, h, e1, e2, e3⟩
        rotate_left
        · rw [e1]
          exact iteF ⟨⟨_, _, _, _, _, rfl⟩, vH5, kvs, tr, dx, hd5, row5, good, nice, by omega, hdx5, by omega, htxt, hseen⟩
        rw [e1]
        refine iteT ⟨_, rfl, _, rfl, (by show 3 ≤ sizeLine; decide), fun l2 hl2 => ?_⟩
        -- the number
        have xl := Ex.new (o := .lst [V.int 0, V.int 1, V.int 7]) hl2
        refine ⟨sc, tw, l2, ns, [V.int 0, V.int 1, V.int 7], rfl, L5.ex xl, SqL.of upd_same, L5.town.ne hl2, (by show 0 < 3; decide), (by show 3 < 1000; decide), fun H6 y v6 hy6 => ?_⟩
        obtain ⟨n, rfl, hn, hnm⟩ : ∃ n : Int, y = .int n ∧ numB (.int n) = true ∧ n ∈ numsL := by
          simp only [List.mem_cons, List.not_mem_nil, or_false] at hy6
          rcases hy6 with rfl | rfl | rfl
          · exact ⟨0, rfl, by decide, by decide⟩
          · exact ⟨1, rfl, by decide, by decide⟩
          · exact ⟨7, rfl, by decide, by decide⟩
        have w6 := (xl.ev L5.town).trans v6
        have L6 := L5.ev w6
        have hdx6 : H6 tx = some (.dK dx) := w6.keep _ _ htt hdx5 (fun ps z => by cases z)
        refine ⟨_, rfl, tx, rfl, Or.inl ⟨dx, Or.inl hdx6⟩, _, rfl, _, rfl, _, rfl, sc, tw, ns, rfl, L6, fun H7 z' v7 hz' => ?_⟩
        have w7 := w6.trans v7
        have L7 := L5.ev w7
        have hdx7 : H7 tx = some (.dK dx) := w7.keep _ _ htt hdx5 (fun ps z => by cases z)
        refine ⟨valV dx (Sum.inl n), DGet.k (k := Sum.inl n) hdx7, ?_⟩
        obtain ⟨z1, hz1, hzt, hzo⟩ : ∃ z1, (valV dx (Sum.inl n)).getD (.str z') = .str z1 ∧ textB z1 = true ∧ ∀ y, valV dx (Sum.inl n) = some (.str y) → y = z1 := by
          cases hv : valV dx (Sum.inl n) with
          | none => exact ⟨z', rfl, hz', fun y h => by cases h⟩
          | some v =>
            obtain ⟨y, rfl, hy⟩ := htxt n v hv
            exact ⟨y, rfl, hy, fun y' h => by injection h with h; injection h with h; exact h.symm⟩
        rw [hz1]
        have hdl2 : dx.length < sizeLine := by
          rw [sizeLine_eq]
          omega
        refine ⟨_, rfl, _, rfl, tx, _, rfl, DPut.k (k := Sum.inl n) (v := .str z1) hdx7 hdl2, ?_⟩
        have w8 : Ev tw H (upd H7 tx (.dK (putK dx (Sum.inl n) (.str z1)))) := (vH5.trans w7).put L.town htxH
        have tk8 : ∀ b xs, G5 b = some (.tup xs) → (upd H7 tx (.dK (putK dx (Sum.inl n) (.str z1)))) b = some (.tup xs) := fun b xs e => by
          have e7 : H7 b = some (.tup xs) := w7.keep _ _ (fun z => by
            obtain ⟨u0, u1, _, et⟩ := L5.town
            rw [z, et] at e
            cases e) e (fun ps z => by cases z)
          rw [upd_ne (ne_of e7 hdx7 (fun z => by cases z))]
          exact e7
        have hd8 : (upd H7 tx (.dK (putK dx (Sum.inl n) (.str z1)))) a0 = some (.dT kvs) := by
          have := w7.keep _ _ hat hd5 (fun ps z => by cases z)
          rw [upd_ne (ne_of this hdx7 (fun z => by cases z))]
          exact this
        have hdx8 : (upd H7 tx (.dK (putK dx (Sum.inl n) (.str z1)))) tx = some (.dK (putK dx (Sum.inl n) (.str z1))) := upd_same
        have L8 := L.ev w8
        generalize upd H7 tx (.dK (putK dx (Sum.inl n) (.str z1))) = H8 at w8 tk8 hd8 hdx8 L8 ⊢
        have hval : valV (putK dx (Sum.inl n) (V.str z1)) (Sum.inl n) = some (.str z1) := by rw [valV_put, if_pos rfl]
        clear w6 w7 L6 L7 hdx6 hdx7 v6 v7 xl
        -- the thing
        have dg : DGet H8 tx (kV (Sum.inl n)) (some (.str z1)) := by
          have := DGet.k (k := Sum.inl n) hdx8
          rwa [hval] at this
        refine ⟨(by show 2 ≤ sizeLine; decide), fun q1 hq1 => ?_⟩
        have xq1 := Ex.new (o := .tup [V.str "drawer", V.bl false]) hq1
        have tq1 : (upd H8 q1 (.tup [V.str "drawer", V.bl false])) q1 = some (.tup (En.xs (.dr false))) := upd_same
        generalize upd H8 q1 (.tup [V.str "drawer", V.bl false]) = J1 at xq1 tq1 ⊢
        refine ⟨(by show 2 ≤ sizeLine; decide), fun q2 hq2 => ?_⟩
        have xq2 := Ex.new (o := .tup [V.str "drawer", V.bl true]) hq2
        have tq2 : (upd J1 q2 (.tup [V.str "drawer", V.bl true])) q2 = some (.tup (En.xs (.dr true))) := upd_same
        generalize upd J1 q2 (.tup [V.str "drawer", V.bl true]) = J2 at xq2 tq2 ⊢
        refine ⟨(by show 1 ≤ sizeLine; decide), fun q3 hq3 => ?_⟩
        have xq3 := Ex.new (o := .tup [V.str "gone"]) hq3
        have tq3 : (upd J2 q3 (.tup [V.str "gone"])) q3 = some (.tup (En.xs (.gone))) := upd_same
        generalize upd J2 q3 (.tup [V.str "gone"]) = J3 at xq3 tq3 ⊢
        refine ⟨(by show 1 ≤ sizeLine; decide), fun q4 hq4 => ?_⟩
        have xq4 := Ex.new (o := .tup [V.str "gone"]) hq4
        have tq4 : (upd J3 q4 (.tup [V.str "gone"])) q4 = some (.tup (En.xs (.gone))) := upd_same
        generalize upd J3 q4 (.tup [V.str "gone"]) = J4 at xq4 tq4 ⊢
        have xj4 := ((xq1.trans xq2).trans xq3).trans xq4
        have dg4 : DGet J4 tx (kV (Sum.inl n)) (some (.str z1)) := by
          have := DGet.k (k := Sum.inl n) (xj4.keep _ _ hdx8 (fun ps z => by cases z))
          rwa [hval] at this
        refine ⟨_, rfl, _, rfl, _, rfl, tx, .str z1, rfl, dg4, (by show 3 ≤ sizeLine; decide), fun q5 hq5 => ?_⟩
        have xq5 := Ex.new (o := .tup [V.str "file", V.int n, V.str z1]) hq5
        have tq5 : (upd J4 q5 (.tup [V.str "file", V.int n, V.str z1])) q5 = some (.tup (En.xs (.fl n z1))) := upd_same
        generalize upd J4 q5 (.tup [V.str "file", V.int n, V.str z1]) = J5 at xq5 tq5 ⊢
        refine ⟨(by show 5 ≤ sizeLine; decide), fun l3 hl3 => ?_⟩
        have xl3 := Ex.new (o := .lst [V.ref q1, V.ref q2, V.ref q3, V.ref q4, V.ref q5]) hl3
        have tl3 : (upd J5 l3 (.lst [V.ref q1, V.ref q2, V.ref q3, V.ref q4, V.ref q5])) l3 = some (.lst [V.ref q1, V.ref q2, V.ref q3, V.ref q4, V.ref q5]) := upd_same
        generalize upd J5 l3 (.lst [V.ref q1, V.ref q2, V.ref q3, V.ref q4, V.ref q5]) = J6 at xl3 tl3 ⊢
        refine ⟨_, rfl, _, rfl, _, rfl, (by show 2 ≤ sizeLine; decide), fun q6 hq6 => ?_⟩
        have xq6 := Ex.new (o := .tup [V.str "drawer", V.bl false]) hq6
        have tq6 : (upd J6 q6 (.tup [V.str "drawer", V.bl false])) q6 = some (.tup (En.xs (.dr false))) := upd_same
        generalize upd J6 q6 (.tup [V.str "drawer", V.bl false]) = J7 at xq6 tq6 ⊢
        refine ⟨(by show 1 ≤ sizeLine; decide), fun l4 hl4 => ?_⟩
        have xl4 := Ex.new (o := .lst [V.ref q6]) hl4
        have tl4 : (upd J7 l4 (.lst [V.ref q6])) l4 = some (.lst [V.ref q6]) := upd_same
        generalize upd J7 l4 (.lst [V.ref q6]) = J8 at xl4 tl4 ⊢
        have tl3' := (xq6.trans xl4).keep _ _ tl3 (fun ps z => by cases z)
        refine ⟨l3, l4, [V.ref q1, V.ref q2, V.ref q3, V.ref q4, V.ref q5], [V.ref q6], rfl, rfl, tl3', tl4, (by show 6 ≤ sizeLine; decide), fun l5 hl5 => ?_⟩
        have xl5 := Ex.new (o := .lst ([V.ref q1, V.ref q2, V.ref q3, V.ref q4, V.ref q5] ++ [V.ref q6])) hl5
        have tl : (upd J8 l5 (.lst ([V.ref q1, V.ref q2, V.ref q3, V.ref q4, V.ref q5] ++ [V.ref q6]))) l5 = some (.lst [V.ref q1, V.ref q2, V.ref q3, V.ref q4, V.ref q5, V.ref q6]) := upd_same
        have x89 := (((xj4.trans xq5).trans xl3).trans xq6).trans xl4
        have x9 := x89.trans xl5
        have hlt3 : l5 ≠ tw := fun e => by
          obtain ⟨u0, u1, _, et⟩ := L8.town
          have := x89.keep _ _ et (fun ps z => by cases z)
          rw [e, this] at hl5
          cases hl5
        generalize upd J8 l5 (.lst ([V.ref q1, V.ref q2, V.ref q3, V.ref q4, V.ref q5] ++ [V.ref q6])) = H9 at tl xl5 x9 ⊢
        have y7 := xl4.trans xl5
        have y6 := xq6.trans y7
        have y5 := xl3.trans y6
        have y4 := xq5.trans y5
        have y3 := xq4.trans y4
        have y2 := xq3.trans y3
        have y1 := xq2.trans y2
        have L9 := L8.ex x9
        refine ⟨sc, tw, l5, ns, [V.ref q1, V.ref q2, V.ref q3, V.ref q4, V.ref q5, V.ref q6], rfl, L9, SqL.of tl, hlt3, (by show 0 < 6; decide), (by show 6 < 1000; decide), fun Ha y va hya => ?_⟩
        have wa := (x9.ev L8.town).trans va
        have tka : ∀ b xs, H9 b = some (.tup xs) → Ha b = some (.tup xs) := fun b xs e => va.keep _ _ (fun z => by
          obtain ⟨u0, u1, _, et⟩ := L9.town
          rw [z, et] at e
          cases e) e (fun ps z => by cases z)
        obtain ⟨rr, h, rfl, hh, hok, hfl⟩ : ∃ rr h, y = .ref rr ∧ Ha rr = some (.tup (En.xs h)) ∧ h.ok ∧ ∀ n' z', h = .fl n' z' → n' = n ∧ z' = z1 := by
          simp only [List.mem_cons, List.not_mem_nil, or_false] at hya
          rcases hya with rfl | rfl | rfl | rfl | rfl | rfl
          · exact ⟨q1, .dr false, rfl, tka _ _ (y1.keep _ _ tq1 (fun ps z => by cases z)), trivial, fun n' z' e => by cases e⟩
          · exact ⟨q2, .dr true, rfl, tka _ _ (y2.keep _ _ tq2 (fun ps z => by cases z)), trivial, fun n' z' e => by cases e⟩
          · exact ⟨q3, .gone, rfl, tka _ _ (y3.keep _ _ tq3 (fun ps z => by cases z)), trivial, fun n' z' e => by cases e⟩
          · exact ⟨q4, .gone, rfl, tka _ _ (y4.keep _ _ tq4 (fun ps z => by cases z)), trivial, fun n' z' e => by cases e⟩
          · exact ⟨q5, .fl n z1, rfl, tka _ _ (y5.keep _ _ tq5 (fun ps z => by cases z)), ⟨hn, hzt⟩, fun n' z' e => by injection e with e1 e2; exact ⟨e1.symm, e2.symm⟩⟩
          · exact ⟨q6, .dr false, rfl, tka _ _ (y7.keep _ _ tq6 (fun ps z => by cases z)), trivial, fun n' z' e => by cases e⟩
        have hda : Ha a0 = some (.dT kvs) := wa.keep _ _ hat hd8 (fun ps z => by cases z)
        have hdxa : Ha tx = some (.dK (putK dx (Sum.inl n) (.str z1))) := wa.keep _ _ htt hdx8 (fun ps z => by cases z)
        have tkA : ∀ b xs, G5 b = some (.tup xs) → Ha b = some (.tup xs) := fun b xs e => tka _ _ (x9.keep _ _ (tk8 _ _ e) (fun ps z => by cases z))
        have ppa : PathX Ha p path := tkA _ _ pp
        have rowa := row5.keep tkA
        have hkl : kvs.length < sizeLine := by
          have e80 : (entsL tr).length = tr.length := by unfold entsL; rw [List.length_map]
          have := (rowa.row (K := K)).len
          rw [sizeLine_eq]
          omega
        refine ⟨_, rfl, _, rfl, a0, _, rfl, DPut.t (k := path.map Sum.inr) (v := .ref rr) hda ppa.key hkl, ?_⟩
        rw [putK_new _ e1]
        have wf := (w8.trans wa).put L.town ha0 (o := .dT (kvs ++ [(path.map Sum.inr, .ref rr)]))
        have tkf : ∀ b xs, Ha b = some (.tup xs) → (upd Ha a0 (.dT (kvs ++ [(path.map Sum.inr, .ref rr)]))) b = some (.tup xs) := fun b xs e => by
          rw [upd_ne (ne_of e hda (fun z => by cases z))]
          exact e
        have hnone : valL tr (z.2 ++ [c]) = none := by rw [hpath]; exact e2
        have hvalo : ∀ n' y, valV dx (Sum.inl n') = some (.str y) → valV (putK dx (Sum.inl n) (V.str z1)) (Sum.inl n') = some (.str y) := fun n' y e => by
          rw [valV_put]
          by_cases hnn : n' = n
          · subst hnn
            rw [if_pos rfl, hzo y e]
          · rw [if_neg (fun q => hnn (by injection q))]
            exact e
        refine ⟨⟨_, _, _, _, _, rfl⟩, wf, kvs ++ [(path.map Sum.inr, .ref rr)], tr ++ [(path, h)], putK dx (Sum.inl n) (.str z1), upd_same, ?_, ?_, ?_, ?_, ?_, ?_, ?_, ?_⟩
        · exact (rowa.keep tkf).snoc (tkf _ _ hh)
        · rw [← hpath]
          refine goodL_app good (by omega) hzg hzd hz5 hc hnone hok fun n' z' y e hv => ?_
          obtain ⟨rfl, rfl⟩ := hfl n' z' e
          exact hzo y (hseen _ y hv)
        · intro e he
          rcases List.mem_append.mp he with he | he
          · exact nice e he
          · rw [List.mem_singleton.mp he]
            refine ⟨fun u hu => ?_, fun n' z' ez => ?_⟩
            · have hu : u ∈ path := hu
              rw [← hpath] at hu
              rcases List.mem_append.mp hu with hu | hu
              · have hk : z.2 ∈ tr.map (·.1) := py.mem_iff.mp (List.mem_map.mpr ⟨z, hzy, rfl⟩)
                obtain ⟨e0, he0, ee0⟩ := List.mem_map.mp hk
                exact (nice e0 he0).1 u (by rw [ee0]; exact hu)
              · rw [List.mem_singleton.mp hu]
                exact hcl
            · obtain ⟨rfl, rfl⟩ := hfl n' z' ez
              exact hnm
        · rw [List.length_append, List.length_singleton]
          omega
        · rw [upd_ne (ne_of hdxa hda (fun z => by cases z))]
          exact hdxa
        · have := length_putK dx (Sum.inl n) (V.str z1)
          omega
        · intro n' v hv
          rw [valV_put] at hv
          split at hv
          · exact ⟨z1, (Option.some.inj hv).symm, hzt⟩
          · exact htxt n' v hv
        · refine seenL_snoc hok (fun n' y hv => hvalo n' y (hseen n' y hv)) fun n' z' e => ?_
          obtain ⟨rfl, rfl⟩ := hfl n' z' e
          exact hval
    · rintro σ G ⟨⟨v5, v6, v7, v8, v9, rfl⟩, vg, kvs, tr, dx, hd, row, good, nice, hlen, _⟩
      exact ⟨_, rfl, k G a0 kvs tr vg ha0 hd row good nice (by omega)⟩
end
/-! ### renumbered -/
def renD (seen : List Int) : PyData → PyData
  | .tuple [.str w, .int n, .str z] => if w = "file" then .tuple [.str "file", .int ((seen.idxOf n : Nat) : Int), .str z] else .tuple [.str w, .int n, .str z]
  | d => d
def seenD (seen : List Int) : PyData → List Int
  | .tuple [.str w, .int n, .str z] => if w = "file" then (if n ∈ seen then seen else seen ++ [n]) else seen
  | _ => seen
def renStep (st : List Int × Ents) (e : List Str × PyData) : List Int × Ents := (seenD st.1 e.2, st.2 ++ [(e.1, renD st.1 e.2)])
def renOf (es : Ents) : List Int × Ents := es.foldl renStep ([], [])
theorem renOf_snoc (es : Ents) (e : List Str × PyData) : renOf (es ++ [e]) = renStep (renOf es) e := by
  unfold renOf
  rw [List.foldl_append]
  rfl
theorem renOf_keys : ∀ (es : Ents) (st : List Int × Ents), ((es.foldl renStep st).2).map (·.1) = st.2.map (·.1) ++ es.map (·.1)
  | [], st => by simp
  | e :: es, st => by
    rw [List.foldl_cons, renOf_keys es]
    show ((st.2 ++ [(e.1, renD st.1 e.2)]).map (·.1)) ++ _ = _
    rw [List.map_append, List.append_assoc]
    rfl
/-- a thing that renumbered serves: a tuple that begins with a text; a file has its number and its text -/
def renOk (d : PyData) : Prop := (∃ n z, d = .tuple [.str "file", .int n, .str z]) ∨ ∃ w ds, d = .tuple (.str w :: ds) ∧ w ≠ "file"
theorem renD_oth {seen : List Int} {w : Str} {ds : List PyData} (h : w ≠ "file") : renD seen (.tuple (.str w :: ds)) = .tuple (.str w :: ds) ∧ seenD seen (.tuple (.str w :: ds)) = seen := by
  unfold renD seenD
  constructor
  · split
    · rename_i h2
      injection h2 with h2
      injection h2 with h3 h4
      injection h3 with h3
      rw [if_neg (by rw [← h3]; exact h)]
      rw [h3, h4]
    · rfl
  · split
    · rename_i h2
      injection h2 with h2
      injection h2 with h3 h4
      injection h3 with h3
      rw [if_neg (by rw [← h3]; exact h)]
    · rfl
theorem renD_file {seen : List Int} {n : Int} {z : Str} : renD seen (.tuple [.str "file", .int n, .str z]) = .tuple [.str "file", .int ((seen.idxOf n : Nat) : Int), .str z] ∧
    seenD seen (.tuple [.str "file", .int n, .str z]) = if n ∈ seen then seen else seen ++ [n] := by
  unfold renD seenD
  exact ⟨if_pos rfl, if_pos rfl⟩
def keysUpE (es : Ents) : List (List Str) := (es.map (·.1)).mergeSort fun a b => !LS.ltP b a
def upE (es : Ents) : Ents := (keysUpE es).map fun p => (p, (valE es p).getD .none)
def plainE (es : Ents) : Ents := (renOf (upE es)).2
theorem keysUpE_perm (es : Ents) : (keysUpE es).Perm (es.map (·.1)) := List.mergeSort_perm _ _
theorem keysUpE_rising (es : Ents) : RisingP (keysUpE es) := by
  have h := List.pairwise_mergeSort (le := fun a b : List Str => !LS.ltP b a) (fun a b c h1 h2 => ?_) (fun a b => ?_) (es.map (·.1))
  · exact h.imp fun {x y} hxy => by simpa using hxy
  · simp only [Bool.not_eq_true'] at h1 h2 ⊢
    exact decide_eq_false (LS.rk_tr (of_decide_eq_false h1) (of_decide_eq_false h2))
  · simp only [Bool.or_eq_true, Bool.not_eq_true']
    cases h : LS.ltP b a with
    | false => exact Or.inl rfl
    | true => exact Or.inr (decide_eq_false (LS.rk_asym (of_decide_eq_true h)))
theorem keysUpE_of {es : Ents} {ys : LS.Zs} (h : (ys.map (·.2)).Perm (es.map (·.1))) (hr : LS.Rising ys) : ys.map (·.2) = keysUpE es :=
  rising_uniq (h.trans (keysUpE_perm es).symm) (List.pairwise_map.mpr hr) (keysUpE_rising es)
/-- what the numbers' dict holds -/
def NumsOf (nums : List (L2.Key × V)) (seen : List Int) : Prop := nums.length = seen.length ∧ ∀ n : Int, valV nums (Sum.inl n) = if n ∈ seen then some (.int ((seen.idxOf n : Nat) : Int)) else none
theorem NumsOf.add {nums : List (L2.Key × V)} {seen : List Int} {n : Int} (h : NumsOf nums seen) (hn : n ∉ seen) : NumsOf (putK nums (Sum.inl n) (.int (nums.length : Nat))) (seen ++ [n]) := by
  have hv : valV nums (Sum.inl n) = none := by rw [h.2 n, if_neg hn]
  refine ⟨?_, fun m => ?_⟩
  · rw [putK_new _ hv, List.length_append, List.length_append, h.1]
    rfl
  · rw [valV_put]
    by_cases e : m = n
    · subst e
      rw [if_pos rfl, if_pos (List.mem_append_right _ (List.mem_singleton.mpr rfl)), List.idxOf_append, if_neg hn, h.1]
      simp
    · rw [if_neg (fun q => e (by injection q)), h.2 m]
      by_cases hm : m ∈ seen
      · rw [if_pos hm, if_pos (List.mem_append_left _ hm), List.idxOf_append, if_pos hm]
      · rw [if_neg hm, if_neg (fun q => (List.mem_append.mp q).elim hm (fun q => e (List.mem_singleton.mp q)))]
/-! ### what stays where a thing that is no list and no tuple is written -/
def seqO : HO → Prop
  | .lst _ => True
  | .tup _ => True
  | .frz _ (.lst _) => True
  | .frz _ (.tup _) => True
  | _ => False
section
variable {K : PySem.W.Frag} {H H1 : Hp} (k : ∀ b o, H b = some o → seqO o → H1 b = some o)
include k
theorem mv_sqT {a : Addr} {xs : List V} (h : SqT K H a xs) : SqT K H1 a xs := by
  rcases h with (h | ⟨o, h⟩) | h
  · exact Or.inl (Or.inl (k a _ h trivial))
  · exact Or.inl (Or.inr ⟨o, k a _ h trivial⟩)
  · exact Or.inr h
theorem mv_sqL {a : Addr} {xs : List V} (h : SqL K H a xs) : SqL K H1 a xs := by
  rcases h with (h | ⟨o, h⟩) | h
  · exact Or.inl (Or.inl (k a _ h trivial))
  · exact Or.inl (Or.inr ⟨o, k a _ h trivial⟩)
  · exact Or.inr h
mutual
theorem mv_dp : ∀ {D : PyData} {v : V}, Dp K H v D → Dp K H1 v D
  | _, _, .non => .non
  | _, _, .bl b => .bl b
  | _, _, .int i => .int i
  | _, _, .str z => .str z
  | _, _, .lst h t => .lst (mv_sqL k h) (mv_dpAll t)
  | _, _, .tup h t => .tup (mv_sqT k h) (mv_dpAll t)
theorem mv_dpAll : ∀ {ds : List PyData} {vs : List V}, DpAll K H vs ds → DpAll K H1 vs ds
  | _, _, .nil => .nil
  | _, _, .cons h t => .cons (mv_dp h) (mv_dpAll t)
end
theorem mv_row {kvs : List (List L2.Key × V)} {es : Ents} (h : RowE K H kvs es) : RowE K H1 kvs es := pairImp (fun _ _ q => ⟨q.1, mv_dp k q.2⟩) h
end
theorem mv_upd {H : Hp} {d : Addr} {o u : HO} (hd : H d = some o) (n : ¬ seqO o) : ∀ b v, H b = some v → seqO v → (upd H d u) b = some v := fun b v e q => by
  have hb : b ≠ d := fun z => by
    rw [z, hd] at e
    cases e
    exact n q
  rw [upd_ne hb]
  exact e
def spRenum (K : PySem.W.Frag) : Sp := fun vs H Q _ => ∃ d es, vs = [.ref d] ∧ TrAt K H d es ∧ (es.map (·.1)).Nodup ∧ (∀ e ∈ es, renOk e.2) ∧ es.length ≤ 1000 ∧
  ∀ H' l kvs, Ex H H' → H' l = some (.dT kvs) → H l = none → RowE K H' kvs (plainE es) → Q (.ref l) H'
section
variable {P : Program} {w : World} {K : PySem.W.Frag} {mg : Str → Option Value} {base : Heap}
abbrev rnN : List Str := ["tree", "numbers", "found", "path", "thing", "number"]
theorem scRenum : FnScope rnN ["tree"] (defScope sRenumbered) := ⟨rfl, rfl, rfl, by decide +kernel, rfl, by decide +kernel, by decide +kernel⟩
theorem ok_renum {f : Addr} {fd : FuncData} (F : Fun K "renumbered" "renumbered" sRenumbered f fd) (M : Mg mg) (mS : mg "sorted" = none) : FnOk P w K mg base CX0 1 f fd ["tree"] (spRenum K) := by
  refine F.ok scRenum (fun vs H Q E h => ?_) (fun cdv A outer s H vs Q E hr h => ?_)
  · obtain ⟨d, es, rfl, _⟩ := h
    rfl
  · obtain ⟨d, es, rfl, ⟨kvs, hd, row⟩, nd, hok, hlen, k⟩ := h
    have hu1 : (A.deeper (envOfC "renumbered" (defScope sRenumbered) s.heap.objs.size f cdv)).units + 1 < cLine := by have := hr.units; omega
    have hu3 : (A.deeper (envOfC "renumbered" (defScope sRenumbered) s.heap.objs.size f cdv)).units + 3 < cLine := by have := hr.units; omega
    refine ⟨_, pss_cons (ps_set (i := 1) scRenum.nd rfl (Or.inl rfl) pe_dnewK)
      (pss_cons (ps_set (i := 2) scRenum.nd rfl (Or.inl rfl) pe_dnewT)
      (pss_cons (ps_for PassesOwn.never rfl (pi_list (pe_callB (LS.cr_sortD rfl hu3) (by rfl) mS (by decide +kernel) (pa_cons (pv 0) pa_nil))) (pg_name (i := 3) scRenum.nd rfl (Or.inl rfl))
        (pss_cons (ps_set (i := 4) scRenum.nd rfl (Or.inl rfl) (pe_dget hu1 (pv 0) (pv 3) (fun _ _ => rfl)))
        (pss_cons (ps_if (pt_cmpR op_eq (pe_ix ix_tup (pv 4) pe_int (fun _ _ => rfl)) pe_str (nomark _))
          (pss_cons (ps_set (i := 5) scRenum.nd rfl (Or.inl rfl) (pe_bm PySem.F.plainAttrs_dict PySem.F.slot_dict_setdefault PySem.F.type_dict_setdefault mt_setDef (pv 1) (pa_cons (pe_ix ix_tup (pv 4) pe_int (fun _ _ => rfl)) (pa_cons (pe_callB call_lenD (by rfl) M.len PySem.boot_len (pa_cons (pv 1) pa_nil)) pa_nil))))
          (pss_one (ps_set (i := 4) scRenum.nd rfl (Or.inl rfl) (pe_tup (pa_cons pe_str (pa_cons (pv 5) (pa_cons (pe_ix ix_tup (pv 4) pe_int (fun _ _ => rfl)) pa_nil)))))))
          pss_nil)
        (pss_one (ps_dput hu1 (pv 2) (pv 3) (pv 4) rfl)))))
      (pss_one (ps_ret (pv 2))))), ?_⟩
    intro pn hpn
    have xn := Ex.new (o := .dK []) hpn
    intro pf hpf
    have xf := Ex.new (o := .dT []) hpf
    have x0 := xn.trans xf
    have en : (upd (upd H pn (.dK [])) pf (.dT [])) pn = some (.dK []) := xf.keep _ _ upd_same (fun ps z => by cases z)
    have ef : (upd (upd H pn (.dK [])) pf (.dT [])) pf = some (.dT []) := upd_same
    have hpfH : H pf = none := xn.free _ hpf
    generalize upd (upd H pn (.dK [])) pf (.dT []) = H0 at x0 en ef ⊢
    have hd0 : Rd H0 d (.dT kvs) := x0.rd hd (fun ps z => by cases z)
    have hdn : pn ≠ d := fun z => by
      rw [← z] at hd
      rcases hd with h | ⟨o, h⟩
      · rw [hpn] at h; cases h
      · rw [hpn] at h; cases h
    refine ⟨_, rfl, d, kvs, es.map (·.1), rfl, hd0, row.keys, fun l ys py hup hpx hl => ⟨l, rfl, ⟨_, SqL.of upd_same⟩, ?_⟩⟩
    have hups := keysUpE_of py hup
    have x1 := Ex.new (o := .lst (LS.addrs ys)) hl
    have l1 : (upd H0 l (.lst (LS.addrs ys))) l = some (.lst (LS.addrs ys)) := upd_same
    have px1 : ∀ z ∈ ys, PathX (upd H0 l (.lst (LS.addrs ys))) z.1 z.2 := fun z hz => PathX.ex x1 (hpx z hz)
    have en1 := x1.keep _ _ en (fun ps z => by cases z)
    have ef1 := x1.keep _ _ ef (fun ps z => by cases z)
    have x01 := x0.trans x1
    generalize upd H0 l (.lst (LS.addrs ys)) = H1 at x1 l1 px1 en1 ef1 x01 ⊢
    have hlp : l ≠ pn ∧ l ≠ pf := ⟨fun z => (by rw [z, en] at hl; cases hl), fun z => (by rw [z, ef] at hl; cases hl)⟩
    have hnf : pn ≠ pf := fun z => by rw [z, ef] at en; cases en
    have hyl : ys.length = es.length := by
      have := py.length_eq
      rwa [List.length_map, List.length_map] at this
    have eup : upE es = ys.map fun z => (z.2, (valE es z.2).getD .none) := by
      unfold upE
      rw [← hups, List.map_map]
      rfl
    clear x0 xn xf en ef hl hpf hd0
    refine for_it (walk_list (K := K) (a := l) (xs := LS.addrs ys)) (fun j σ G => (∃ v3 v4 v5, σ = [some (.ref d), some (.ref pn), some (.ref pf), v3, v4, v5]) ∧ Ex H G ∧ G l = some (.lst (LS.addrs ys)) ∧ (∀ z ∈ ys, PathX G z.1 z.2) ∧
        ∃ nums kf, G pn = some (.dK nums) ∧ NumsOf nums (renOf ((upE es).take j)).1 ∧ nums.length ≤ j ∧ G pf = some (.dT kf) ∧ RowE K G kf (renOf ((upE es).take j)).2)
      ⟨⟨none, none, none, rfl⟩, x01, l1, px1, [], [], en1, ⟨rfl, fun n => rfl⟩, Nat.le_refl _, ef1, .nil⟩ (fun j σ G _ h => SqL.of h.2.2.1) ?_ ?_
    · rintro j y σ G G' hj ⟨⟨v3, v4, v5, rfl⟩, xg, hlG, hpG, nums, kf, hn, hnums, hnl, hf, hrow⟩ ⟨rfl, hy⟩
      unfold LS.addrs at hy hj
      rw [List.getElem?_map] at hy
      rw [List.length_map] at hj
      obtain ⟨z, hz, rfl⟩ := Option.map_eq_some_iff.mp hy
      have hzm := List.mem_of_getElem? hz
      have pz := hpG z hzm
      have hk : z.2 ∈ es.map (·.1) := py.mem_iff.mp (List.mem_map.mpr ⟨z, hzm, rfl⟩)
      obtain ⟨e, he, ee⟩ := List.mem_map.mp hk
      have hval : valE es z.2 = some e.2 := by rw [← ee]; exact valE_nd nd he
      have etake : (upE es).take (j + 1) = (upE es).take j ++ [(z.2, e.2)] := by
        rw [eup, List.take_add_one, List.getElem?_map, hz]
        show _ ++ [(z.2, (valE es z.2).getD .none)] = _
        rw [hval]
        rfl
      have hnew : z.2 ∉ (renOf ((upE es).take j)).2.map (·.1) := by
        unfold renOf
        rw [renOf_keys]
        intro hm
        rw [List.map_nil, List.nil_append, eup, ← List.map_take, List.map_map] at hm
        obtain ⟨u, hu, eu⟩ := List.mem_map.mp hm
        have ndy : (ys.map (·.2)).Nodup := by rw [hups]; exact (keysUpE_perm es).nodup_iff.mpr nd
        have eu : u.2 = z.2 := eu
        obtain ⟨i, hi, rfl⟩ := List.mem_iff_getElem.mp hu
        rw [List.length_take] at hi
        rw [List.getElem_take] at eu
        have hj2 : ys[j] = z := by
          rw [List.getElem?_eq_getElem hj] at hz
          exact Option.some.inj hz
        have h1 : (ys.map (·.2))[i]'(by rw [List.length_map]; omega) = (ys.map (·.2))[j]'(by rw [List.length_map]; omega) := by
          rw [List.getElem_map, List.getElem_map, hj2]
          exact eu
        have := (List.getElem_inj ndy).mp h1
        omega
      obtain ⟨kd, hkd, rowd⟩ : ∃ kd, Rd G' d (.dT kd) ∧ RowE K G' kd es := ⟨kvs, xg.rd hd (fun ps z => by cases z), row.ex xg⟩
      rcases rowd.val (p := z.2) with ⟨_, e2⟩ | ⟨v0, D0, e1, e2, dv⟩
      · rw [hval] at e2
        cases e2
      rw [hval] at e2
      cases e2
      have dg : DGet G' d (.ref z.1) (some v0) := by
        have := get_tr hkd pz
        rwa [e1] at this
      -- what follows a thing
      have fin : ∀ (G2 : Hp) (vt : V) (nums2 : List (L2.Key × V)), Ex H G2 → G2 l = some (.lst (LS.addrs ys)) → (∀ z ∈ ys, PathX G2 z.1 z.2) → G2 pn = some (.dK nums2) → NumsOf nums2 (seenD (renOf ((upE es).take j)).1 e.2) → nums2.length ≤ j + 1 → G2 pf = some (.dT kf) →
          RowE K G2 kf (renOf ((upE es).take j)).2 → Dp K G2 vt (renD (renOf ((upE es).take j)).1 e.2) → (∃ H', DPut G2 pf (.ref z.1) vt H' ∧ (Ex H H' ∧ H' l = some (.lst (LS.addrs ys)) ∧ (∀ z ∈ ys, PathX H' z.1 z.2) ∧
            ∃ nums kf, H' pn = some (.dK nums) ∧ NumsOf nums (renOf ((upE es).take (j + 1))).1 ∧ nums.length ≤ j + 1 ∧ H' pf = some (.dT kf) ∧ RowE K H' kf (renOf ((upE es).take (j + 1))).2)) := by
        intro G2 vt nums2 x2 hl2 hp2 hn2 hnum2 hnl2 hf2 hrow2 hdt
        have hnone : valV kf (z.2.map Sum.inr) = none := by
          rcases hrow2.val (p := z.2) with ⟨q, _⟩ | ⟨_, D, _, q, _⟩
          · exact q
          · obtain ⟨x, hx, hx1, _⟩ := valE_mem q
            exact absurd (List.mem_map.mpr ⟨x, hx, hx1⟩) hnew
        have hkl : kf.length < sizeLine := by
          have h1 := hrow2.len
          have h2 : (renOf ((upE es).take j)).2.length = ((upE es).take j).length := by
            have := congrArg List.length (renOf_keys ((upE es).take j) ([], []))
            simpa [renOf] using this
          rw [sizeLine_eq]
          rw [List.length_take] at h2
          omega
        refine ⟨_, DPut.t (k := z.2.map Sum.inr) (v := vt) hf2 (hp2 z hzm).key hkl, x2.put hpfH, ?_, fun u hu => ?_, nums2, kf ++ [(z.2.map Sum.inr, vt)], ?_, ?_, hnl2, ?_, ?_⟩
        · rw [upd_ne hlp.2]
          exact hl2
        · show upd _ _ _ _ = _
          rw [upd_ne (ne_of (hp2 u hu) hf2 (fun z => by cases z))]
          exact hp2 u hu
        · rw [upd_ne hnf]
          exact hn2
        · rw [etake, renOf_snoc]
          exact hnum2
        · rw [upd_same, putK_new _ hnone]
        · rw [etake, renOf_snoc]
          have lk : ∀ b o, G2 b = some o → b ≠ pf → (upd G2 pf (.dT (putK kf (z.2.map Sum.inr) vt))) b = some o := fun b o e hb => by rw [upd_ne hb]; exact e
          refine pairSnoc (F := fun (kv : List L2.Key × V) (e : List Str × PyData) => kv.1 = e.1.map Sum.inr ∧ Dp K _ kv.2 e.2) ⟨rfl, ?_⟩ (hrow2.lk (Or.inl hf2) lk)
          exact lk_dp (Or.inl hf2) lk hdt
      rcases hok e he with ⟨n, tx, ed⟩ | ⟨wd, ds, ed, hw⟩
      · rw [ed] at dv fin
        obtain ⟨f1, f2⟩ := renD_file (seen := (renOf ((upE es).take j)).1) (n := n) (z := tx)
        rw [f1, f2] at fin
        rcases kn_tuple dv with ⟨a0, xs, ds', rfl, ed', ha, hx⟩ | ⟨hno, _⟩
        rotate_left
        · exact absurd rfl (hno _)
        cases ed'
        obtain ⟨w0, at0, d0⟩ := dpAll_get 0 hx (by simp)
        obtain ⟨w1, at1, d1⟩ := dpAll_get 1 hx (by simp)
        obtain ⟨w2, at2, d2⟩ := dpAll_get 2 hx (by simp)
        cases d0
        cases d1
        cases d2
        have hl4 : nums.length < sizeLine := by
          rw [sizeLine_eq]
          omega
        refine ⟨_, rfl, _, rfl, d, .ref a0, rfl, dg, ?_⟩
        refine ⟨_, rfl, a0, xs, 0, _, rfl, rfl, ha, at_of (j := 0) rfl at0, rfl, _, rfl, ?_⟩
        rw [decide_eq_true rfl]
        refine iteT ?_
        refine ⟨_, rfl, .inr (.inr (.inl ⟨rfl, .inl ⟨_, hn⟩⟩)), _, rfl, a0, xs, 1, .int n, rfl, rfl, ha, at_of (j := 1) rfl at1, _, rfl, pn, nums, rfl, hn, pn, nums, .inl n, .int (nums.length : Nat), rfl, rfl, hn, hl4, fun y hyv => ?_, fun hnv => ?_⟩
        · rw [hnums.2 n] at hyv
          by_cases hm : n ∈ (renOf ((upE es).take j)).1
          · rw [if_pos hm] at hyv fin
            cases hyv
            refine ⟨_, rfl, _, rfl, a0, xs, 2, .str tx, rfl, rfl, ha, at_of (j := 2) rfl at2, (by show 3 ≤ sizeLine; decide), fun q hq => ?_⟩
            have xq := Ex.new (o := .tup [V.str "file", V.int ((List.idxOf n (renOf ((upE es).take j)).1 : Nat) : Int), V.str tx]) hq
            refine ⟨_, rfl, _, rfl, _, rfl, pf, ?_⟩
            obtain ⟨H', g1, g2⟩ := fin _ (.ref q) nums (xg.trans xq) (xq.keep _ _ hlG (fun ps z => by cases z)) (fun u hu => PathX.ex xq (hpG u hu)) (xq.keep _ _ hn (fun ps z => by cases z)) hnums (by omega) (xq.keep _ _ hf (fun ps z => by cases z)) (hrow.ex xq)
              (.tup (SqT.of upd_same) (.cons (.str _) (.cons (.int _) (.cons (.str _) .nil))))
            exact ⟨H', rfl, g1, ⟨_, _, _, rfl⟩, g2⟩
          · rw [if_neg hm] at hyv
            cases hyv
        · rw [hnums.2 n] at hnv
          by_cases hm : n ∈ (renOf ((upE es).take j)).1
          · rw [if_pos hm] at hnv
            cases hnv
          · rw [if_neg hm] at fin
            have lk : ∀ b o, G' b = some o → b ≠ pn → (upd G' pn (.dK (putK nums (Sum.inl n) (.int (nums.length : Nat))))) b = some o := fun b o e hb => by rw [upd_ne hb]; exact e
            have put : Ex H (upd G' pn (.dK (putK nums (Sum.inl n) (.int (nums.length : Nat))))) := xg.put hpn
            have mv := mv_upd (u := .dK (putK nums (Sum.inl n) (.int (nums.length : Nat)))) hn (fun q => q)
            have ha2 := mv_sqT (K := K) mv ha
            have hrow2 := mv_row (K := K) mv hrow
            have hnn : (upd G' pn (.dK (putK nums (Sum.inl n) (.int (nums.length : Nat))))) pn = some (.dK (putK nums (Sum.inl n) (.int (nums.length : Nat)))) := upd_same
            have hf2 : (upd G' pn (.dK (putK nums (Sum.inl n) (.int (nums.length : Nat))))) pf = some (.dT kf) := by rw [upd_ne (Ne.symm hnf)]; exact hf
            have hl2 : (upd G' pn (.dK (putK nums (Sum.inl n) (.int (nums.length : Nat))))) l = some (.lst (LS.addrs ys)) := by rw [upd_ne hlp.1]; exact hlG
            have hp2 : ∀ z ∈ ys, PathX (upd G' pn (.dK (putK nums (Sum.inl n) (.int (nums.length : Nat))))) z.1 z.2 := fun u hu => mv _ _ (hpG u hu) trivial
            have hnl2 : (putK nums (Sum.inl n) (V.int (nums.length : Nat))).length ≤ j + 1 := by
              have := length_putK nums (Sum.inl n) (V.int (nums.length : Nat))
              omega
            have eidx : ((List.idxOf n (renOf ((upE es).take j)).1 : Nat) : Int) = ((nums.length : Nat) : Int) := by
              rw [hnums.1, List.idxOf_eq_length hm]
            generalize upd G' pn (.dK (putK nums (Sum.inl n) (.int (nums.length : Nat)))) = G2 at put ha2 hrow2 hnn hf2 hl2 hp2 ⊢
            refine ⟨_, rfl, _, rfl, a0, xs, 2, .str tx, rfl, rfl, ha2, at_of (j := 2) rfl at2, (by show 3 ≤ sizeLine; decide), fun q hq => ?_⟩
            have xq := Ex.new (o := .tup [V.str "file", V.int (nums.length : Nat), V.str tx]) hq
            refine ⟨_, rfl, _, rfl, _, rfl, pf, ?_⟩
            obtain ⟨H', g1, g2⟩ := fin _ (.ref q) _ (put.trans xq) (xq.keep _ _ hl2 (fun ps z => by cases z)) (fun u hu => PathX.ex xq (hp2 u hu)) (xq.keep _ _ hnn (fun ps z => by cases z)) (hnums.add hm) hnl2 (xq.keep _ _ hf2 (fun ps z => by cases z)) (hrow2.ex xq)
              (by rw [eidx]; exact .tup (SqT.of upd_same) (.cons (.str _) (.cons (.int _) (.cons (.str _) .nil))))
            exact ⟨H', rfl, g1, ⟨_, _, _, rfl⟩, g2⟩
      · rw [ed] at dv fin
        obtain ⟨f1, f2⟩ := renD_oth (seen := (renOf ((upE es).take j)).1) (ds := ds) hw
        rw [f1, f2] at fin
        rcases kn_tuple dv with ⟨a0, xs, ds', rfl, ed', ha, hx⟩ | ⟨hno, _⟩
        rotate_left
        · exact absurd rfl (hno _)
        cases ed'
        obtain ⟨w0, at0, d0⟩ := dpAll_get 0 hx (by simp)
        cases d0
        refine ⟨_, rfl, _, rfl, d, .ref a0, rfl, dg, ?_⟩
        refine ⟨_, rfl, a0, xs, 0, _, rfl, rfl, ha, at_of (j := 0) rfl at0, rfl, _, rfl, ?_⟩
        rw [show decide (V.str wd = V.str "file") = false from decide_eq_false (fun q => hw (by injection q))]
        refine iteF ⟨_, rfl, _, rfl, _, rfl, pf, ?_⟩
        obtain ⟨H', g1, g2⟩ := fin G' (.ref a0) nums xg hlG hpG hn hnums (by omega) hf hrow dv
        exact ⟨H', rfl, g1, ⟨_, _, _, rfl⟩, g2⟩
    · rintro σ G ⟨⟨v3, v4, v5, rfl⟩, xg, hlG, hpG, nums, kf, hn, hnums, hnl, hf, hrow⟩
      have hle : (LS.addrs ys).length = (upE es).length := by rw [eup]; unfold LS.addrs; rw [List.length_map, List.length_map]
      rw [hle, List.take_length] at hrow
      exact ⟨_, rfl, k G pf kf xg hf hpfH hrow⟩
end
/-! ### stacks -/
def StackAt (K : PySem.W.Frag) (H : Hp) (l : Addr) (lss : List Ents) : Prop := ∃ ds : List Addr, SqL K H l (ds.map V.ref) ∧ (∀ H', Ex H H' → SqL K H' l (ds.map V.ref)) ∧ Paired (fun d es => TrAt K H d es) ds lss
theorem StackAt.ex {K : PySem.W.Frag} {H H' : Hp} {l : Addr} {lss : List Ents} (x : Ex H H') (h : StackAt K H l lss) : StackAt K H' l lss := by
  obtain ⟨ds, h1, h2, h3⟩ := h
  exact ⟨ds, h2 _ x, fun H2 x2 => h2 _ (x.trans x2), pairImp (fun _ _ q => q.ex x) h3⟩
def GoodLs (lss : List Ents) : Prop := 1 ≤ lss.length ∧ lss.length ≤ 4 ∧ ∀ es ∈ lss, smallE es ∧ layerB es = true
structure Tabs8 (H : Hp) (P1 P2 P3 P4 P6 P7 P8 : Addr) : Prop where
  t : Tabs5 H P1 P2 P3 P4 P6
  t7 : TabG H P7
  t8 : TabG H P8
theorem Tabs8.ex {H H' : Hp} {P1 P2 P3 P4 P6 P7 P8 : Addr} (x : Ex H H') (T : Tabs8 H P1 P2 P3 P4 P6 P7 P8) : Tabs8 H' P1 P2 P3 P4 P6 P7 P8 := ⟨T.t.ex x, x.tab _ T.t7, x.tab _ T.t8⟩
/-- the longest path with an entry that a path begins with -/
def longOf (es : Ents) (p : List Str) : List Str := ((begs p).filter fun q => (valE es q).isSome).getLastD []
def goneD : PyData := .tuple [.str "gone"]
/-- what is told of an entry -/
def lookedD (d : PyData) : PyData := if PyData.eqv d goneD = true then .none else match d with
  | .tuple [.str _, .int _, .str z] => .tuple [.str "file", .str z]
  | _ => drD
def lookD : List Ents → List Str → PyData
  | [], _ => .none
  | es :: r, p => match valE es p with
    | some d => lookedD d
    | none => if (begs (longOf es p)).all (seeAt es) = true then lookD r p else .none
def spCheckStack (K : PySem.W.Frag) (P1 P2 P3 P4 P6 P8 : Addr) : Sp := fun vs H Q E => ∃ l lss, vs = [.ref l] ∧ StackAt K H l lss ∧ GoodLs lss ∧ Tabs5 H P1 P2 P3 P4 P6 ∧ TabG H P8 ∧ ∀ H', Ex H H' → Q .non H'
def spIsStack (K : PySem.W.Frag) (P1 P2 P3 P4 P6 P8 : Addr) : Sp := fun vs H Q E => ∃ l lss, vs = [.ref l] ∧ StackAt K H l lss ∧ GoodLs lss ∧ Tabs5 H P1 P2 P3 P4 P6 ∧ TabG H P8 ∧ ∀ H', Ex H H' → Q (.bl true) H'
def spLongest (K : PySem.W.Frag) (P1 P2 : Addr) : Sp := fun vs H Q _ => ∃ d a es p, vs = [.ref d, .ref a] ∧ TrAt K H d es ∧ (valE es []).isSome = true ∧ PathX H a p ∧ goodPath p = true ∧ TabG H P1 ∧ TabG H P2 ∧ ∀ H' q, Ex H H' → PathX H' q (longOf es p) → Q (.ref q) H'
def spAsLooked (K : PySem.W.Frag) : Sp := fun vs H Q _ => ∃ v d, vs = [v] ∧ Dp K H v d ∧ entryB d = true ∧ ∀ H' u, Ex H H' → Dp K H' u (lookedD d) → Q u H'
def spLook (K : PySem.W.Frag) (P1 P2 P3 P4 P6 P7 P8 : Addr) : Sp := fun vs H Q _ => ∃ l a lss p, vs = [.ref l, .ref a] ∧ StackAt K H l lss ∧ GoodLs lss ∧ PathX H a p ∧ goodPath p = true ∧ Tabs8 H P1 P2 P3 P4 P6 P7 P8 ∧ ∀ H' u, Ex H H' → Dp K H' u (lookD lss p) → Q u H'
/-- the module's names that stacks ask -/
structure MgK (mg : Str → Option Value) : Prop where
  mostLayers : ∃ t, mg "MOST_LAYERS" = some (.int 4 t)
theorem begs_len (p : List Str) : (begs p).length = p.length + 1 := by unfold begs; rw [List.length_map, List.length_range]
section
variable {P : Program} {w : World} {K : PySem.W.Frag} {mg : Str → Option Value} {base : Heap}
theorem scIsStack : FnScope ["thing"] ["thing"] (defScope sIsStack) := ⟨rfl, rfl, rfl, by decide +kernel, rfl, by decide +kernel, by decide +kernel⟩
theorem ok_isStack {f c fL P1 P2 P3 P4 P6 P8 : Addr} {fd fdL : FuncData} (F : FunC K "is_stack" "is_stack" sIsStack f fd c) (M : Mg mg) (R : MgR mg) (MK : MgK mg) (TB : LamX.TabB base mg c P8)
    (GL : FnOk P w K mg base CX0 9 fL fdL ["thing"] (spIsLayer K P1 P2 P3 P4 P6)) (mL : mg "is_layer" = some (.ref fL)) (kL : PySem.W.keepIn K (.ref fL) = true) (bL : Binds K fdL ["thing"] []) :
    FnOk P w K mg base CX0 11 f fd ["thing"] (spIsStack K P1 P2 P3 P4 P6 P8) := by
  refine F.ok scIsStack (fun vs H Q E h => ?_) (fun A outer s H vs Q E hr h => ?_)
  · obtain ⟨l, lss, rfl, _⟩ := h
    rfl
  · obtain ⟨l, lss, rfl, st, g, T, t8, k⟩ := h
    obtain ⟨tm, hm⟩ := MK.mostLayers
    refine ⟨_, pss_cons (ps_if (PW.pt (pw_or (pt_not (pt_val (pe_callB call_is (by rfl) M.isinstance boot_isinstance (pa_cons (pv 0) (pa_cons (pe_bltn (v := .ty "list") (by rfl) R.list (by decide +kernel) rfl) pa_nil)))))
        (pw_or1 (pt_not (pt_chain op_le op_le pe_int (pe_callB call_len_seq (by rfl) M.len PySem.boot_len (pa_cons (pv 0) pa_nil)) (pe_glob (v := .int 4) (by rfl) hm ⟨_, rfl⟩)))))) (pss_one (ps_ret pe_bl)) pss_nil)
      (pss_one (ps_ret (pe_all (k := 9) (N := ["thing", "layer"]) (pad := 1) (j := 1) (x := "layer") (P := P8) hr rfl (by rfl) M.all TB rfl (gn_by (N0 := ["thing"]) (sc := defScope sIsStack) (by decide +kernel)) (pi_list (pv 0))
        (fun A s H cl C code fp pn hr => pe_call (E := E0) GL hr (by rfl) mL kL bL .nil pass0 (pa_cons (pv 1) pa_nil))))), ?_⟩
    obtain ⟨ds, h1, h2, h3⟩ := st
    obtain ⟨g1, g4, gl⟩ := g
    have hl := h3.length
    refine ⟨_, rfl, .ref l, "list", "list", rfl, .lst h1, rfl, _, rfl, ?_⟩
    rw [show isB "list" "list" = true by decide]
    refine iteF ⟨_, rfl, l, _, rfl, .inl h1, _, _, rfl, rfl, _, rfl, ?_⟩
    rw [List.length_map, hl, decide_eq_true (show (1 : Int) ≤ (lss.length : Nat) by omega)]
    refine iteT ⟨_, _, rfl, rfl, _, rfl, ?_⟩
    rw [decide_eq_true (show ((lss.length : Nat) : Int) ≤ 4 by omega)]
    refine iteF ⟨_, rfl, l, rfl, ⟨_, h1⟩, t8, fun H2 hT => ?_⟩
    have x2 := Ex.tabd hT t8
    refine gw_lst (xs := ds.map V.ref) (fun i => true) (h2 _ x2) (fun G x => h2 _ (x2.trans x)) ?_ ?_
    · intro i y G hy x R2 hR2
      rw [List.getElem?_map] at hy
      obtain ⟨d, hd, rfl⟩ := Option.map_eq_some_iff.mp hy
      obtain ⟨es, hes, ht⟩ := paired_get h3 hd
      obtain ⟨sm, lay⟩ := gl es (List.mem_of_getElem? hes)
      have q : LayerQ K G (.ref d) true := by
        have := LayerQ.dict (ht.ex (x2.trans x)) sm
        rwa [lay] at this
      exact ⟨_, rfl, .ref d, true, rfl, q, T.ex (x2.trans x), fun H' x' => hR2 H' (x.trans x')⟩
    · intro G x
      have := k G (x2.trans x)
      rwa [show ((List.range (ds.map V.ref).length).all fun _ => true) = true from List.all_eq_true.mpr fun _ _ => rfl]
theorem scCheckStack : FnScope ["thing"] ["thing"] (defScope sCheckStack) := ⟨rfl, rfl, rfl, by decide +kernel, rfl, by decide +kernel, by decide +kernel⟩
theorem ok_checkStack {f f2 P1 P2 P3 P4 P6 P8 C : Addr} {fd fd2 : FuncData} (F : Fun K "check_stack" "check_stack" sCheckStack f fd) (R : Ref K mg "NoStack" C)
    (G2 : FnOk P w K mg base CX0 11 f2 fd2 ["thing"] (spIsStack K P1 P2 P3 P4 P6 P8)) (m2 : mg "is_stack" = some (.ref f2)) (k2 : PySem.W.keepIn K (.ref f2) = true) (b2 : Binds K fd2 ["thing"] []) :
    FnOk P w K mg base (L2.CX P w) 12 f fd ["thing"] (spCheckStack K P1 P2 P3 P4 P6 P8) := by
  refine F.okX scCheckStack (fun vs H Q E h => ?_) (fun cdv A outer s H vs Q E hr h => ?_)
  · obtain ⟨l, lss, rfl, _⟩ := h
    rfl
  · obtain ⟨l, lss, rfl, st, g, T, t8, k⟩ := h
    refine ⟨_, pss_one (ps_if (pt_not (pt_val (pe_call (E := E0) G2 hr (by rfl) m2 k2 b2 .nil pass0 (pa_cons (pv 0) pa_nil))))
      (pss_one (ps_raise rfl (takes_of rfl rfl rfl rfl) (pmk_own PySem.F.excBase_ValueError R.x R.g R.k (raises_own R.b R.t) rfl))) pss_nil), ?_⟩
    exact ⟨_, rfl, l, lss, rfl, st, g, T, t8, fun H' x => ⟨_, rfl, iteF (k H' x)⟩⟩
theorem scLongest : FnScope ["layer", "path", "top"] ["layer", "path"] (defScope sLongest) := ⟨rfl, rfl, rfl, by decide +kernel, rfl, by decide +kernel, by decide +kernel⟩
theorem ok_longest {f fB P1 P2 : Addr} {fd fdB : FuncData} (F : Fun K "longest" "longest" sLongest f fd)
    (GB : FnOk P w K mg base (L2.CX P w) 7 fB fdB ["path"] (spBeginningsX K P1 P2)) (mB : mg "beginnings" = some (.ref fB)) (kB : PySem.W.keepIn K (.ref fB) = true) (bB : Binds K fdB ["path"] []) :
    FnOk P w K mg base CX0 8 f fd ["layer", "path"] (spLongest K P1 P2) := by
  refine F.ok scLongest (fun vs H Q E h => ?_) (fun cdv A outer s H vs Q E hr h => ?_)
  · obtain ⟨d, a, es, p, rfl, _⟩ := h
    rfl
  · obtain ⟨d, a, es, p, rfl, ht, hroot, pa, gp, t1, t2, k⟩ := h
    have hu1 : (A.deeper (envOfC "longest" (defScope sLongest) s.heap.objs.size f cdv)).units + 1 < cLine := by have := hr.units; omega
    refine ⟨_, pss_one (ps_ret (pe_ix (r := rIxL K) ix_list (pe_lc (own := [("top", 2)]) (g := gName 2) (tt := tB (tDIn (tVar 2) (tVar 0))) rfl scLongest.nd (pi_list (pe_call (E := E0) GB hr (by rfl) mB kB bB .nil passL (pa_cons (pv 1) pa_nil)))
        (blkOk_by (N := ["layer", "path", "top"]) (sc := defScope sLongest) (by decide +kernel)) (fun _ _ _ _ _ => pg_name (i := 2) scLongest.nd rfl (Or.inl rfl))
        (fun _ _ _ _ _ => pts_one (pt_cmp (pc_din hu1 (pv 2) (pv 0)))) (fun _ _ _ _ _ => pv 2)) (pe_un un_neg pe_int) (fun _ _ => rfl))), ?_⟩
    have hlen := (goodPath_names gp).1
    refine ⟨_, rfl, a, p, rfl, t1, t2, pa, gp, fun H1 l x1 hl => ?_⟩
    obtain ⟨rs, hrs, hp⟩ := hl
    have hrl : rs.length = p.length + 1 := by rw [hp.length, begs_len]
    refine ⟨l, rfl, ⟨_, SqL.of hrs⟩, fun D hD => ?_⟩
    refine lc_it (walk_list (K := K) (a := l) (xs := rs.map V.ref)) (fun j G => Ex H1 G ∧ ∃ us : List Addr, G D = some (.lst (us.map V.ref)) ∧ us.length ≤ j ∧ Paired (fun r q => PathX G r q) us (((begs p).take j).filter fun q => (valE es q).isSome))
      ⟨Ex.new hD, [], upd_same, Nat.le_refl _, by rw [List.take_zero]; exact .nil⟩ (fun j G _ h => SqL.of (h.1.keep _ _ hrs (fun ps z => by cases z))) ?_ ?_
    · rintro j y G G' hj ⟨xg, us, hus, hul, hup⟩ ⟨rfl, hy⟩
      rw [List.getElem?_map] at hy
      obtain ⟨r, hr2, rfl⟩ := Option.map_eq_some_iff.mp hy
      obtain ⟨q, hq, pq⟩ := paired_get hp hr2
      have px := PathX.ex xg pq
      obtain ⟨kvs, hd, row⟩ := ht.ex (x1.trans xg)
      have etake : (begs p).take (j + 1) = (begs p).take j ++ [q] := by rw [List.take_add_one, hq]; rfl
      refine ⟨rfl, _, rfl, _, rfl, d, _, rfl, get_tr hd px, _, rfl, ?_⟩
      have hsome : (valV kvs (q.map Sum.inr)).isSome = (valE es q).isSome := by
        rcases row.val (p := q) with ⟨e1, e2⟩ | ⟨v, D0, e1, e2, _⟩
        · rw [e1, e2]; rfl
        · rw [e1, e2]; rfl
      rw [hsome]
      cases hs : (valE es q).isSome with
      | false =>
        refine iteF ⟨xg, us, hus, by omega, ?_⟩
        rw [etake, List.filter_append, show ([q].filter fun q => (valE es q).isSome) = [] from List.filter_cons_of_neg (by rw [hs]; decide), List.append_nil]
        exact hup
      | true =>
        have stay : ∀ {u : Addr} {t : List Str}, PathX G' u t → PathX (upd G' D (.lst (us.map V.ref ++ [.ref r]))) u t := fun {u t} h => by
          show upd _ _ _ _ = _
          rw [upd_ne (ne_of h hus (fun z => by cases z))]
          exact h
        rw [List.length_map, hrl] at hj
        refine iteT ⟨_, rfl, us.map V.ref, hus, by rw [List.length_map, sizeLine_eq]; omega, xg.put hD, us ++ [r], by rw [upd_same, List.map_append]; rfl, by rw [List.length_append, List.length_singleton]; omega, ?_⟩
        rw [etake, List.filter_append, show ([q].filter fun q => (valE es q).isSome) = [q] from List.filter_cons_of_pos hs]
        exact pairSnoc (F := fun r q => PathX _ r q) (stay px) (pairImp (fun u t h => stay h) hup)
    · rintro G ⟨xg, us, hus, hul, hup⟩
      have hfull : (begs p).take (rs.map V.ref).length = begs p := by rw [List.length_map, hrl]; exact List.take_of_length_le (by rw [begs_len]; exact Nat.le_refl _)
      rw [hfull] at hup
      have hne : ((begs p).filter fun q => (valE es q).isSome) ≠ [] := by
        intro e
        have : ([] : List Str) ∈ (begs p).filter fun q => (valE es q).isSome := List.mem_filter.mpr ⟨List.mem_map.mpr ⟨0, List.mem_range.mpr (Nat.succ_pos _), List.take_zero⟩, hroot⟩
        rw [e] at this
        cases this
      have hpos : 0 < us.length := by rw [hup.length]; exact List.length_pos_iff.mpr hne
      obtain ⟨u, hu⟩ : ∃ u, us[us.length - 1]? = some u := ⟨us[us.length - 1], List.getElem?_eq_getElem (by omega)⟩
      obtain ⟨q, hq, pq⟩ := paired_get hup hu
      have hq2 : q = longOf es p := by
        unfold longOf
        rw [List.getLastD_eq_getLast?, List.getLast?_eq_getElem?, ← hup.length, hq]
        rfl
      rw [hq2] at pq
      refine ⟨1, rfl, D, us.map V.ref, -1, .ref u, rfl, rfl, SqL.of hus, ?_, k G u (x1.trans xg) pq⟩
      unfold atI ixN
      rw [List.length_map, if_neg (by decide), if_pos (by omega)]
      show (us.map V.ref)[((-1 : Int) + (us.length : Int)).toNat]? = _
      rw [show ((-1 : Int) + (us.length : Int)).toNat = us.length - 1 by omega, List.getElem?_map, hu]
      rfl
theorem scAsLooked : FnScope ["entry"] ["entry"] (defScope sAsLooked) := ⟨rfl, rfl, rfl, by decide +kernel, rfl, by decide +kernel, by decide +kernel⟩
theorem ok_asLooked {f aG aD : Addr} {fd : FuncData} (F : Fun K "_as_looked_at" "_as_looked_at" sAsLooked f fd) (SG : Cst K mg "GONE" [.str "gone"] aG) (SD : Cst K mg "DRAWER" [.str "drawer"] aD) : FnOk P w K mg base CX0 1 f fd ["entry"] (spAsLooked K) := by
  refine F.ok scAsLooked (fun vs H Q E h => ?_) (fun cdv A outer s H vs Q E hr h => ?_)
  · obtain ⟨v, d, rfl, _⟩ := h
    rfl
  · obtain ⟨v, d, rfl, hd, he, k⟩ := h
    refine ⟨_, pss_cons (ps_if (pt_cmpR (op_eqD hr.units) (pv 0) (pe_glob (v := .ref aG) (by rfl) SG.g rfl) (nomark _)) (pss_one (ps_ret pe_non)) pss_nil)
      (pss_one (ps_ret (pe_ifExp (pt_cmpR op_eq (pe_ix ix_tup (pv 0) pe_int (fun _ _ => rfl)) pe_str (nomark _)) (pe_tup (pa_cons pe_str (pa_cons (pe_ix ix_tup (pv 0) pe_int (fun _ _ => rfl)) pa_nil))) (pe_glob (v := .ref aD) (by rfl) SD.g rfl)))), ?_⟩
    refine ⟨_, rfl, d, goneD, hd, .tup (SG.t H) (.cons (.str _) .nil), entry_shaped he, by decide +kernel, _, rfl, ?_⟩
    rcases entry_form he with ⟨b, rfl⟩ | rfl | ⟨n, z, rfl, _, hz⟩
    · have e1 : PyData.eqv (.tuple [.str "drawer", .bool b]) goneD = false := by cases b <;> decide +kernel
      rw [e1]
      have e2 : lookedD (.tuple [.str "drawer", .bool b]) = drD := by unfold lookedD; rw [e1]; rfl
      rw [e2] at k
      rcases kn_tuple hd with ⟨a0, xs, ds', rfl, ed', ha, hx⟩ | ⟨hno, _⟩
      rotate_left
      · exact absurd rfl (hno _)
      cases ed'
      obtain ⟨w0, at0, d0⟩ := dpAll_get 0 hx (by simp)
      cases d0
      refine iteF ⟨_, rfl, a0, xs, 0, _, rfl, rfl, ha, at_of (j := 0) rfl at0, rfl, _, rfl, ?_⟩
      rw [show decide (V.str "drawer" = V.str "file") = false by decide +kernel]
      exact iteF (k H _ (Ex.refl H) (.tup (SD.t H) (.cons (.str _) .nil)))
    · have e1 : PyData.eqv (.tuple [.str "gone"]) goneD = true := by decide +kernel
      rw [e1]
      have e2 : lookedD (.tuple [.str "gone"]) = .none := by unfold lookedD; rw [e1]; rfl
      rw [e2] at k
      exact iteT (k H _ (Ex.refl H) .non)
    · have e1 : PyData.eqv (.tuple [.str "file", .int n, .str z]) goneD = false := by simp [goneD, PyData.eqv, PyData.eqvAll]
      rw [e1]
      have e2 : lookedD (.tuple [.str "file", .int n, .str z]) = .tuple [.str "file", .str z] := by unfold lookedD; rw [e1]; rfl
      rw [e2] at k
      rcases kn_tuple hd with ⟨a0, xs, ds', rfl, ed', ha, hx⟩ | ⟨hno, _⟩
      rotate_left
      · exact absurd rfl (hno _)
      cases ed'
      obtain ⟨w0, at0, d0⟩ := dpAll_get 0 hx (by simp)
      obtain ⟨w2, at2, d2⟩ := dpAll_get 2 hx (by simp)
      cases d0
      cases d2
      refine iteF ⟨_, rfl, a0, xs, 0, _, rfl, rfl, ha, at_of (j := 0) rfl at0, rfl, _, rfl, ?_⟩
      rw [show decide (V.str "file" = V.str "file") = true from decide_eq_true rfl]
      refine iteT ⟨_, rfl, a0, xs, 2, _, rfl, rfl, ha, at_of (j := 2) rfl at2, (by show 2 ≤ sizeLine; decide), fun q hq => k _ _ (Ex.new hq) (.tup (SqT.of upd_same) (.cons (.str _) (.cons (.str _) .nil)))⟩
theorem longOf_val {es : Ents} {p : List Str} (h : (valE es []).isSome = true) : ∃ D, valE es (longOf es p) = some D := by
  have hne : ((begs p).filter fun q => (valE es q).isSome) ≠ [] := by
    intro e
    have : ([] : List Str) ∈ (begs p).filter fun q => (valE es q).isSome := List.mem_filter.mpr ⟨List.mem_map.mpr ⟨0, List.mem_range.mpr (Nat.succ_pos _), List.take_zero⟩, h⟩
    rw [e] at this
    cases this
  have : longOf es p ∈ (begs p).filter fun q => (valE es q).isSome := by
    unfold longOf
    rw [List.getLastD_eq_getLast?, List.getLast?_eq_some_getLast hne]
    exact List.getLast_mem hne
  exact Option.isSome_iff_exists.mp (List.mem_filter.mp this).2
theorem longOf_beg {es : Ents} {p : List Str} (h : (valE es []).isSome = true) : longOf es p ∈ begs p := by
  have hne : ((begs p).filter fun q => (valE es q).isSome) ≠ [] := by
    intro e
    have : ([] : List Str) ∈ (begs p).filter fun q => (valE es q).isSome := List.mem_filter.mpr ⟨List.mem_map.mpr ⟨0, List.mem_range.mpr (Nat.succ_pos _), List.take_zero⟩, h⟩
    rw [e] at this
    cases this
  have : longOf es p ∈ (begs p).filter fun q => (valE es q).isSome := by
    unfold longOf
    rw [List.getLastD_eq_getLast?, List.getLast?_eq_some_getLast hne]
    exact List.getLast_mem hne
  exact (List.mem_filter.mp this).1
theorem layer_root {es : Ents} (h : layerB es = true) : (valE es []).isSome = true := by
  have h4 := (layerB_parts h).2.2.2.1
  unfold roofH dirAt at h4
  rw [Bool.and_eq_true] at h4
  cases e : valE es [] with
  | none => rw [e] at h4; exact absurd h4.1 Bool.false_ne_true
  | some d => rfl
theorem begs_good' {p : List Str} (g : goodPath p = true) : ∀ q ∈ begs p, goodPath q = true := begs_good g
theorem scLook : FnScope ["stack", "path", "layer"] ["stack", "path"] (defScope sLook) := ⟨rfl, rfl, rfl, by decide +kernel, rfl, by decide +kernel, by decide +kernel⟩
theorem ok_look {f fS fP fA fL fX P1 P2 P3 P4 P6 P7 P8 C : Addr} {fd fdS fdP fdA fdL fdX : FuncData} (F : Fun K "look" "look" sLook f fd)
    (GS : FnOk P w K mg base (L2.CX P w) 12 fS fdS ["thing"] (spCheckStack K P1 P2 P3 P4 P6 P8)) (mS : mg "check_stack" = some (.ref fS)) (kS : PySem.W.keepIn K (.ref fS) = true) (bS : Binds K fdS ["thing"] [])
    (GP : FnOk P w K mg base (L2.CX P w) 6 fP fdP ["thing"] (spCheck K P1 P2 C)) (mP : mg "check_path" = some (.ref fP)) (kP : PySem.W.keepIn K (.ref fP) = true) (bP : Binds K fdP ["thing"] [])
    (GA : FnOk P w K mg base CX0 1 fA fdA ["entry"] (spAsLooked K)) (mA : mg "_as_looked_at" = some (.ref fA)) (kA : PySem.W.keepIn K (.ref fA) = true) (bA : Binds K fdA ["entry"] [])
    (GL : FnOk P w K mg base CX0 8 fL fdL ["layer", "path"] (spLongest K P1 P2)) (mL : mg "longest" = some (.ref fL)) (kL : PySem.W.keepIn K (.ref fL) = true) (bL : Binds K fdL ["layer", "path"] [])
    (GX : FnOk P w K mg base CX0 8 fX fdX ["layer", "path"] (spLets K P1 P2 P7)) (mX : mg "lets_through" = some (.ref fX)) (kX : PySem.W.keepIn K (.ref fX) = true) (bX : Binds K fdX ["layer", "path"] []) :
    FnOk P w K mg base (L2.CX P w) 13 f fd ["stack", "path"] (spLook K P1 P2 P3 P4 P6 P7 P8) := by
  refine F.okX scLook (fun vs H Q E h => ?_) (fun cdv A outer s H vs Q E hr h => ?_)
  · obtain ⟨l, a, lss, p, rfl, _⟩ := h
    rfl
  · obtain ⟨l, a, lss, p, rfl, st, g, pa, gp, T, k⟩ := h
    have r6 := hr.mono (show 6 ≤ 12 by decide)
    have r8 := hr.mono (show 8 ≤ 12 by decide)
    have r1 := hr.mono (show 1 ≤ 12 by decide)
    have hu1 : (A.deeper (envOfC "look" (defScope sLook) s.heap.objs.size f cdv)).units + 1 < cLine := by have := hr.units; omega
    refine ⟨_, pss_cons (ps_expr (pe_call (E := E) GS hr (by rfl) mS kS bS .nil (passes_call (takes_of rfl rfl rfl rfl) (fun _ _ _ _ h => h)) (pa_cons (pv 0) pa_nil)))
      (pss_cons (ps_expr (pe_call (E := E) GP r6 (by rfl) mP kP bP .nil (passes_call (takes_of rfl rfl rfl rfl) (fun _ _ _ _ h => h)) (pa_cons (pv 1) pa_nil)))
      (pss_cons (ps_for (passes_of rfl) rfl (pi_list (pv 0)) (pg_name (i := 2) scLook.nd rfl (Or.inl rfl))
        (pss_cons (ps_if (pt_cmp (pc_din hu1 (pv 1) (pv 2))) (pss_one (ps_ret (pe_call (E := E0) GA r1 (by rfl) mA kA bA .nil pass0 (pa_cons (pe_dget hu1 (pv 2) (pv 1) (fun _ _ => rfl)) pa_nil)))) pss_nil)
        (pss_one (ps_if (pt_not (pt_val (pe_call (E := E0) GX r8 (by rfl) mX kX bX .nil pass0 (pa_cons (pv 2) (pa_cons (pe_call (E := E0) GL r8 (by rfl) mL kL bL .nil pass0 (pa_cons (pv 2) (pa_cons (pv 1) pa_nil))) pa_nil)))))
          (pss_one (ps_ret pe_non)) pss_nil))))
      (pss_one (ps_ret pe_non)))), ?_⟩
    refine ⟨_, rfl, l, lss, rfl, st, g, T.t, T.t8, fun H1 x1 => ?_⟩
    have T1 := T.ex x1
    refine ⟨_, rfl, .ref a, true, rfl, ((PathX.ex x1 pa).at).yes gp, T1.t.t1, T1.t.t2, fun _ H2 x2 => ?_, fun z => nomatch z⟩
    have x02 := x1.trans x2
    obtain ⟨ds, h1, h2, h3⟩ := st.ex x02
    refine ⟨_, rfl, l, rfl, ⟨_, h1⟩, for_it (walk_list (K := K) (a := l) (xs := ds.map V.ref)) (fun i σ G => (∃ v2, σ = [some (.ref l), some (.ref a), v2]) ∧ Ex H2 G ∧ lookD (lss.drop i) p = lookD lss p) ⟨⟨none, rfl⟩, Ex.refl _, rfl⟩ (fun i σ G _ h => h2 _ h.2.1) ?_ ?_⟩
    · rintro i y σ G G' hi ⟨⟨v2, rfl⟩, xg, hgo⟩ ⟨rfl, hy⟩
      rw [List.getElem?_map] at hy
      obtain ⟨d, hd, rfl⟩ := Option.map_eq_some_iff.mp hy
      obtain ⟨es, hes, ht⟩ := paired_get h3 hd
      obtain ⟨sm, lay⟩ := g.2.2 es (List.mem_of_getElem? hes)
      obtain ⟨_, _, eL, rL, _⟩ := layerB_parts lay
      have hdrop : lss.drop i = es :: lss.drop (i + 1) := by
        obtain ⟨hlt, e⟩ := List.getElem?_eq_some_iff.mp hes
        rw [List.drop_eq_getElem_cons hlt, e]
      rw [hdrop] at hgo
      have x0g := x02.trans xg
      have tG := ht.ex xg
      obtain ⟨kvs, hd2, row⟩ := id tG
      have paG := PathX.ex x0g pa
      have TG := T.ex x0g
      refine ⟨_, rfl, _, rfl, d, _, rfl, get_tr hd2 paG, _, rfl, ?_⟩
      rcases row.val (p := p) with ⟨e1, e2⟩ | ⟨v, D0, e1, e2, dv⟩
      · rw [e1]
        have hgo2 : (if (begs (longOf es p)).all (seeAt es) = true then lookD (lss.drop (i + 1)) p else .none) = lookD lss p := by
          rw [← hgo]
          show _ = (match valE es p with | some d => lookedD d | none => _)
          rw [e2]
        refine iteF ⟨_, rfl, _, rfl, _, rfl, d, a, es, p, rfl, tG, layer_root lay, paG, gp, TG.t.t1, TG.t.t2, fun H4 q x4 pq => ?_⟩
        obtain ⟨D, hD⟩ := longOf_val (p := p) (layer_root lay)
        have x04 := x0g.trans x4
        have T4 := T.ex x04
        refine ⟨d, q, es, longOf es p, rfl, tG.ex x4, (fun e he => entry_shaped (eL e he)), pq, begs_good gp _ (longOf_beg (layer_root lay)), roofH_begs rL hD, T4.t.t1, T4.t.t2, T4.t7, fun H5 x5 => ⟨_, rfl, ?_⟩⟩
        cases hb : (begs (longOf es p)).all (seeAt es) with
        | false =>
          rw [if_neg (by rw [hb]; decide)] at hgo2
          refine iteT (k H5 _ (x04.trans x5) ?_)
          rw [← hgo2]
          exact .non
        | true =>
          rw [if_pos hb] at hgo2
          exact iteF ⟨⟨_, rfl⟩, (xg.trans x4).trans x5, hgo2⟩
      · rw [e1]
        have hgo2 : lookedD D0 = lookD lss p := by
          rw [← hgo]
          show _ = (match valE es p with | some d => lookedD d | none => _)
          rw [e2]
        obtain ⟨en, hen, _, rfl⟩ := valE_mem e2
        refine iteT ⟨_, rfl, _, rfl, d, v, rfl, by have := get_tr hd2 paG; rwa [e1] at this, v, en.2, rfl, dv, eL en hen, fun H4 u x4 du => k H4 u (x0g.trans x4) ?_⟩
        rw [← hgo2]
        exact du
    · rintro σ G ⟨⟨v2, rfl⟩, xg, hgo⟩
      have hl := h3.length
      rw [List.length_map, hl, List.drop_length] at hgo
      refine k G _ (x02.trans xg) ?_
      rw [← hgo]
      exact .non
end
/-! ### what is no tree: the pieces -/
/-- as Ex, but for the list at l -/
structure Eb (l : Addr) (H H' : Hp) : Prop where
  keep : ∀ b o, b ≠ l → H b = some o → (∀ ps, o ≠ .tbl ps) → H' b = some o
  tab : ∀ b, TabG H b → TabG H' b
  free : ∀ b, H' b = none → H b = none
theorem Eb.refl {l : Addr} (H : Hp) : Eb l H H := ⟨fun _ _ _ h _ => h, fun _ h => h, fun _ h => h⟩
theorem Eb.trans {l : Addr} {H H1 H2 : Hp} (a : Eb l H H1) (b : Eb l H1 H2) : Eb l H H2 :=
  ⟨fun c o z h n => b.keep c o z (a.keep c o z h n) n, fun c h => b.tab c (a.tab c h), fun c h => a.free c (b.free c h)⟩
theorem ex_eb {l : Addr} {H H' : Hp} (x : Ex H H') : Eb l H H' := ⟨fun b o _ e n => x.keep b o e n, x.tab, x.free⟩
theorem eb_upd {l : Addr} {H : Hp} {xs ys : List V} (h : H l = some (.lst xs)) : Eb l H (upd H l (.lst ys)) := by
  constructor
  · intro b o hb e _
    rw [upd_ne hb]; exact e
  · rintro b ⟨ps, e2, t⟩
    exact ⟨ps, by rw [upd_ne (ne_of e2 h (fun z => by cases z))]; exact e2, t⟩
  · intro b e2
    by_cases hb : b = l
    · rw [hb, upd_same] at e2; cases e2
    · rw [upd_ne hb] at e2; exact e2
theorem merge1 {k1 : List L2.Key} {v1 : V} : mergeT [] [(k1, v1)] = [(k1, v1)] := rfl
theorem merge2 {k1 k2 : List L2.Key} {v1 v2 : V} (h : k2 ≠ k1) : mergeT [] [(k1, v1), (k2, v2)] = [(k1, v1), (k2, v2)] := by
  show putK [(k1, v1)] k2 v2 = _
  rw [putK_new]
  · rfl
  · exact valV_neg (fun e => h e.symm)
theorem merge3 {k1 k2 k3 : List L2.Key} {v1 v2 v3 : V} (h : k2 ≠ k1) (h2 : k3 ≠ k1) (h3 : k3 ≠ k2) : mergeT [] [(k1, v1), (k2, v2), (k3, v3)] = [(k1, v1), (k2, v2), (k3, v3)] := by
  show putK (mergeT [] [(k1, v1), (k2, v2)]) k3 v3 = _
  rw [merge2 h, putK_new]
  · rfl
  · rw [valV_neg (fun e => h2 e.symm), valV_neg (fun e => h3 e.symm)]
    rfl
def smallEB (es : Ents) : Bool := (es.all fun e => (e.1.all fun z => decide (z.length ≤ sizeLine)) && smallD e.2) && decide (es.length ≤ 1000)
theorem smallE_of {es : Ents} (h : smallEB es = true) : smallE es := by
  unfold smallEB at h
  simp only [Bool.and_eq_true, List.all_eq_true, decide_eq_true_eq] at h
  exact h
/-- a dict of paths that is no tree -/
theorem bad_dict {K : PySem.W.Frag} {H : Hp} {d : Addr} {kvs : List (List L2.Key × V)} {es : Ents} (h : H d = some (.dT kvs)) (r : RowE K H kvs es) (s : smallEB es = true) (t : treeB es = false) : TreeQ K H (.ref d) false := by
  have := TreeQ.dict ⟨kvs, Or.inl h, r⟩ (smallE_of s)
  rwa [t] at this
/-! ### which refusal it is -/
def refusals : List Str := ["NoPath", "NoText", "NoTree", "NoLayer", "NoStack", "NoHandle", "NoPower", "Root", "NotThere", "NoDrawer", "IsDrawer", "Taken", "NotEmpty", "Within", "TooLong", "Full", "Dark"]
/-- D is the class of the i-th refusal -/
structure Wh (K : PySem.W.Frag) (mg : Str → Option Value) (D : Addr) (i : Nat) : Prop where
  is : ExcC K D
  lt : i < 17
  kit : ∀ j x, refusals[j]? = some x → ∃ C, mg x = some (.ref C) ∧ PySem.W.kitOne K (.ref D) (.ref C) = some (decide (j = i))
  val : PySem.W.kitOne K (.ref D) (.type "ValueError") = some true
/-- what a refusal comes to: a pair of a word and a number -/
def RefAt (K : PySem.W.Frag) (H : Hp) (r : Addr) (i : Int) : Prop := SqT K H r [.str "refused", .int i]
def spWhich (K : PySem.W.Frag) (mg : Str → Option Value) : SpE := fun a c d vs H Q _ => ∃ D i, c = .ref D ∧ d = none ∧ vs = [.ref a] ∧ Wh K mg D i ∧
  ∀ H' r, Ex H H' → RefAt K H' r i → Q (.ref r) H'
/-- one question of the row -/
theorem isE_cons {K : PySem.W.Frag} {D a C : Addr} {b : Bool} {t : TA} {σ : L2.St} {H : Hp} {Q : List V → Hp → Prop} (h0 : σ[0]? = some (some (.ref a)))
    (e : PySem.W.kitOne K (.ref D) (.ref C) = some b) (h : t σ H fun vs G => Q (.bl b :: vs) G) :
    tCons (tCB (rIsE K D a) (tCons (tVar 0) (tCons (tC (V.ref C)) tNil))) t σ H Q := ⟨_, h0, .ref C, .ref C, b, rfl, fun _ z => z, e, h⟩
def truths (n i : Nat) : List V := (List.range n).map fun j => V.bl (decide (j = i))
theorem truths_flat (n i : Nat) : (truths n i).all flatV = true := by
  rw [List.all_eq_true]
  intro x hx
  obtain ⟨j, _, rfl⟩ := List.mem_map.mp hx
  rfl
theorem truths_get {n i j : Nat} (h : j < n) : (truths n i)[j]? = some (.bl (decide (j = i))) := by
  unfold truths
  rw [List.getElem?_map, List.getElem?_range h]
  rfl
theorem truths_count : ∀ i, i < 17 → (truths 17 i).countP (fun z => eqV z (.bl true)) = 1 := by decide +kernel
section
variable {P : Program} {w : World} {K : PySem.W.Frag} {mg : Str → Option Value} {base : Heap}
theorem scWhich : FnScope ["_law_e", "_law_own"] ["_law_e"] (defScope sWhich) := ⟨rfl, rfl, rfl, by decide +kernel, rfl, by decide +kernel, by decide +kernel⟩
theorem ok_which {f : Addr} {fd : FuncData} (F : Fun K "_law_which" "_law_which" sWhich f fd) (mI : mg "isinstance" = none) (mV : mg "ValueError" = none) : FnE P w K mg base CX0 1 f fd ["_law_e"] (spWhich K mg) := by
  refine okE F scWhich (fun a c d vs H Q E h => ?_) (fun cdv A outer s H vs Q E a oe c d hc hr h => ?_)
  · obtain ⟨D, i, _, _, rfl, _⟩ := h
    rfl
  · obtain ⟨D, i, rfl, rfl, rfl, W, k⟩ := h
    obtain ⟨C0, g0, e0⟩ := W.kit 0 "NoPath" rfl
    obtain ⟨C1, g1, e1⟩ := W.kit 1 "NoText" rfl
    obtain ⟨C2, g2, e2⟩ := W.kit 2 "NoTree" rfl
    obtain ⟨C3, g3, e3⟩ := W.kit 3 "NoLayer" rfl
    obtain ⟨C4, g4, e4⟩ := W.kit 4 "NoStack" rfl
    obtain ⟨C5, g5, e5⟩ := W.kit 5 "NoHandle" rfl
    obtain ⟨C6, g6, e6⟩ := W.kit 6 "NoPower" rfl
    obtain ⟨C7, g7, e7⟩ := W.kit 7 "Root" rfl
    obtain ⟨C8, g8, e8⟩ := W.kit 8 "NotThere" rfl
    obtain ⟨C9, g9, e9⟩ := W.kit 9 "NoDrawer" rfl
    obtain ⟨C10, g10, e10⟩ := W.kit 10 "IsDrawer" rfl
    obtain ⟨C11, g11, e11⟩ := W.kit 11 "Taken" rfl
    obtain ⟨C12, g12, e12⟩ := W.kit 12 "NotEmpty" rfl
    obtain ⟨C13, g13, e13⟩ := W.kit 13 "Within" rfl
    obtain ⟨C14, g14, e14⟩ := W.kit 14 "TooLong" rfl
    obtain ⟨C15, g15, e15⟩ := W.kit 15 "Full" rfl
    obtain ⟨C16, g16, e16⟩ := W.kit 16 "Dark" rfl
    have call := call_isP (X := cxH CX0 P w K mg base ["_law_e", "_law_own"] "_law_which" (defScope sWhich) f cdv A outer s H E (a, oe)) (a := a) (oe := oe) W.is hc (List.mem_singleton.mpr rfl)
    refine ⟨_, pss_cons (ps_set (i := 1) scWhich.nd rfl (Or.inl rfl) (pe_lst (pa_cons (pe_callB call (by rfl) mI boot_isinstance (pa_cons (pv 0) (pa_cons (pe_glob (v := .ref C0) (by rfl) g0 rfl) pa_nil))) (pa_cons (pe_callB call (by rfl) mI boot_isinstance (pa_cons (pv 0) (pa_cons (pe_glob (v := .ref C1) (by rfl) g1 rfl) pa_nil))) (pa_cons (pe_callB call (by rfl) mI boot_isinstance (pa_cons (pv 0) (pa_cons (pe_glob (v := .ref C2) (by rfl) g2 rfl) pa_nil))) (pa_cons (pe_callB call (by rfl) mI boot_isinstance (pa_cons (pv 0) (pa_cons (pe_glob (v := .ref C3) (by rfl) g3 rfl) pa_nil))) pa_nil))))))
      (pss_cons (ps_expr (pe_bm PySem.F.plainAttrs_list PySem.F.slot_list_extend PySem.F.type_list_extend mt_extend (pv 1) (pa_cons (pe_lst (pa_cons (pe_callB call (by rfl) mI boot_isinstance (pa_cons (pv 0) (pa_cons (pe_glob (v := .ref C4) (by rfl) g4 rfl) pa_nil))) (pa_cons (pe_callB call (by rfl) mI boot_isinstance (pa_cons (pv 0) (pa_cons (pe_glob (v := .ref C5) (by rfl) g5 rfl) pa_nil))) (pa_cons (pe_callB call (by rfl) mI boot_isinstance (pa_cons (pv 0) (pa_cons (pe_glob (v := .ref C6) (by rfl) g6 rfl) pa_nil))) (pa_cons (pe_callB call (by rfl) mI boot_isinstance (pa_cons (pv 0) (pa_cons (pe_glob (v := .ref C7) (by rfl) g7 rfl) pa_nil))) pa_nil))))) pa_nil)))
      (pss_cons (ps_expr (pe_bm PySem.F.plainAttrs_list PySem.F.slot_list_extend PySem.F.type_list_extend mt_extend (pv 1) (pa_cons (pe_lst (pa_cons (pe_callB call (by rfl) mI boot_isinstance (pa_cons (pv 0) (pa_cons (pe_glob (v := .ref C8) (by rfl) g8 rfl) pa_nil))) (pa_cons (pe_callB call (by rfl) mI boot_isinstance (pa_cons (pv 0) (pa_cons (pe_glob (v := .ref C9) (by rfl) g9 rfl) pa_nil))) (pa_cons (pe_callB call (by rfl) mI boot_isinstance (pa_cons (pv 0) (pa_cons (pe_glob (v := .ref C10) (by rfl) g10 rfl) pa_nil))) (pa_cons (pe_callB call (by rfl) mI boot_isinstance (pa_cons (pv 0) (pa_cons (pe_glob (v := .ref C11) (by rfl) g11 rfl) pa_nil))) pa_nil))))) pa_nil)))
      (pss_cons (ps_expr (pe_bm PySem.F.plainAttrs_list PySem.F.slot_list_extend PySem.F.type_list_extend mt_extend (pv 1) (pa_cons (pe_lst (pa_cons (pe_callB call (by rfl) mI boot_isinstance (pa_cons (pv 0) (pa_cons (pe_glob (v := .ref C12) (by rfl) g12 rfl) pa_nil))) (pa_cons (pe_callB call (by rfl) mI boot_isinstance (pa_cons (pv 0) (pa_cons (pe_glob (v := .ref C13) (by rfl) g13 rfl) pa_nil))) (pa_cons (pe_callB call (by rfl) mI boot_isinstance (pa_cons (pv 0) (pa_cons (pe_glob (v := .ref C14) (by rfl) g14 rfl) pa_nil))) (pa_cons (pe_callB call (by rfl) mI boot_isinstance (pa_cons (pv 0) (pa_cons (pe_glob (v := .ref C15) (by rfl) g15 rfl) pa_nil))) pa_nil))))) pa_nil)))
      (pss_cons (ps_expr (pe_bm PySem.F.plainAttrs_list PySem.F.slot_list_append PySem.F.type_list_append mt_append (pv 1) (pa_cons (pe_callB call (by rfl) mI boot_isinstance (pa_cons (pv 0) (pa_cons (pe_glob (v := .ref C16) (by rfl) g16 rfl) pa_nil))) pa_nil)))
      (pss_cons (ps_if (PW.pt (pw_or (pt_cmpR op_ne (pe_bm PySem.F.plainAttrs_list PySem.F.slot_list_count PySem.F.type_list_count mt_countF (pv 1) (pa_cons pe_bl pa_nil)) pe_int (nomark _))
          (pw_or1 (pt_not (pt_val (pe_callB call (by rfl) mI boot_isinstance (pa_cons (pv 0) (pa_cons (pe_bltn (v := .ty "ValueError") (by rfl) mV (by decide +kernel) rfl) pa_nil))))))))
          (pss_one (ps_ret (pe_tup (pa_cons pe_str (pa_cons (pe_un un_neg pe_int) pa_nil))))) pss_nil)
      (pss_one (ps_ret (pe_tup (pa_cons pe_str (pa_cons (pe_bm PySem.F.plainAttrs_list PySem.F.slot_list_index PySem.F.type_list_index mt_index (pv 1) (pa_cons pe_bl pa_nil)) pa_nil)))))))))), ?_⟩
    -- READ
    refine ⟨_, rfl, .ref C0, .ref C0, _, rfl, (fun _ z => z), e0, _, rfl, .ref C1, .ref C1, _, rfl, (fun _ z => z), e1, _, rfl, .ref C2, .ref C2, _, rfl, (fun _ z => z), e2, _, rfl, .ref C3, .ref C3, _, rfl, (fun _ z => z), e3, (by show 4 ≤ sizeLine; decide), fun p hp => ?_⟩
    have x0 := Ex.new (o := .lst [V.bl (decide (0 = i)), V.bl (decide (1 = i)), V.bl (decide (2 = i)), V.bl (decide (3 = i))]) hp
    have t0 : (upd H p (.lst [V.bl (decide (0 = i)), V.bl (decide (1 = i)), V.bl (decide (2 = i)), V.bl (decide (3 = i))])) p = some (.lst [V.bl (decide (0 = i)), V.bl (decide (1 = i)), V.bl (decide (2 = i)), V.bl (decide (3 = i))]) := upd_same
    generalize upd H p (.lst [V.bl (decide (0 = i)), V.bl (decide (1 = i)), V.bl (decide (2 = i)), V.bl (decide (3 = i))]) = H0 at x0 t0 ⊢
    refine ⟨_, rfl, .inl ⟨rfl, _, SqL.of t0⟩, _, rfl, .ref C4, .ref C4, _, rfl, (fun _ z => z), e4, _, rfl, .ref C5, .ref C5, _, rfl, (fun _ z => z), e5, _, rfl, .ref C6, .ref C6, _, rfl, (fun _ z => z), e6, _, rfl, .ref C7, .ref C7, _, rfl, (fun _ z => z), e7, (by show 4 ≤ sizeLine; decide), fun q0 hq0 => ?_⟩
    have nq0 : p ≠ q0 := ne_of_none t0 hq0
    refine ⟨p, q0, [V.bl (decide (0 = i)), V.bl (decide (1 = i)), V.bl (decide (2 = i)), V.bl (decide (3 = i))], [V.bl (decide (4 = i)), V.bl (decide (5 = i)), V.bl (decide (6 = i)), V.bl (decide (7 = i))], rfl, rfl, by rw [upd_ne nq0]; exact t0, upd_same, (by show 8 ≤ sizeLine; decide), ?_⟩
    have x1 : Ex H (upd (upd H0 q0 (.lst [V.bl (decide (4 = i)), V.bl (decide (5 = i)), V.bl (decide (6 = i)), V.bl (decide (7 = i))])) p (.lst [V.bl (decide (0 = i)), V.bl (decide (1 = i)), V.bl (decide (2 = i)), V.bl (decide (3 = i)), V.bl (decide (4 = i)), V.bl (decide (5 = i)), V.bl (decide (6 = i)), V.bl (decide (7 = i))])) := (x0.trans (Ex.new hq0)).put hp
    have t1 : (upd (upd H0 q0 (.lst [V.bl (decide (4 = i)), V.bl (decide (5 = i)), V.bl (decide (6 = i)), V.bl (decide (7 = i))])) p (.lst [V.bl (decide (0 = i)), V.bl (decide (1 = i)), V.bl (decide (2 = i)), V.bl (decide (3 = i)), V.bl (decide (4 = i)), V.bl (decide (5 = i)), V.bl (decide (6 = i)), V.bl (decide (7 = i))])) p = some (.lst [V.bl (decide (0 = i)), V.bl (decide (1 = i)), V.bl (decide (2 = i)), V.bl (decide (3 = i)), V.bl (decide (4 = i)), V.bl (decide (5 = i)), V.bl (decide (6 = i)), V.bl (decide (7 = i))]) := upd_same
    show tSeq _ _ _ _ (upd (upd H0 q0 (.lst [V.bl (decide (4 = i)), V.bl (decide (5 = i)), V.bl (decide (6 = i)), V.bl (decide (7 = i))])) p (.lst [V.bl (decide (0 = i)), V.bl (decide (1 = i)), V.bl (decide (2 = i)), V.bl (decide (3 = i)), V.bl (decide (4 = i)), V.bl (decide (5 = i)), V.bl (decide (6 = i)), V.bl (decide (7 = i))]))
    generalize upd (upd H0 q0 (.lst [V.bl (decide (4 = i)), V.bl (decide (5 = i)), V.bl (decide (6 = i)), V.bl (decide (7 = i))])) p (.lst [V.bl (decide (0 = i)), V.bl (decide (1 = i)), V.bl (decide (2 = i)), V.bl (decide (3 = i)), V.bl (decide (4 = i)), V.bl (decide (5 = i)), V.bl (decide (6 = i)), V.bl (decide (7 = i))]) = H1 at x1 t1 ⊢
    refine ⟨_, rfl, .inl ⟨rfl, _, SqL.of t1⟩, _, rfl, .ref C8, .ref C8, _, rfl, (fun _ z => z), e8, _, rfl, .ref C9, .ref C9, _, rfl, (fun _ z => z), e9, _, rfl, .ref C10, .ref C10, _, rfl, (fun _ z => z), e10, _, rfl, .ref C11, .ref C11, _, rfl, (fun _ z => z), e11, (by show 4 ≤ sizeLine; decide), fun q1 hq1 => ?_⟩
    have nq1 : p ≠ q1 := ne_of_none t1 hq1
    refine ⟨p, q1, [V.bl (decide (0 = i)), V.bl (decide (1 = i)), V.bl (decide (2 = i)), V.bl (decide (3 = i)), V.bl (decide (4 = i)), V.bl (decide (5 = i)), V.bl (decide (6 = i)), V.bl (decide (7 = i))], [V.bl (decide (8 = i)), V.bl (decide (9 = i)), V.bl (decide (10 = i)), V.bl (decide (11 = i))], rfl, rfl, by rw [upd_ne nq1]; exact t1, upd_same, (by show 12 ≤ sizeLine; decide), ?_⟩
    have x2 : Ex H (upd (upd H1 q1 (.lst [V.bl (decide (8 = i)), V.bl (decide (9 = i)), V.bl (decide (10 = i)), V.bl (decide (11 = i))])) p (.lst [V.bl (decide (0 = i)), V.bl (decide (1 = i)), V.bl (decide (2 = i)), V.bl (decide (3 = i)), V.bl (decide (4 = i)), V.bl (decide (5 = i)), V.bl (decide (6 = i)), V.bl (decide (7 = i)), V.bl (decide (8 = i)), V.bl (decide (9 = i)), V.bl (decide (10 = i)), V.bl (decide (11 = i))])) := (x1.trans (Ex.new hq1)).put hp
    have t2 : (upd (upd H1 q1 (.lst [V.bl (decide (8 = i)), V.bl (decide (9 = i)), V.bl (decide (10 = i)), V.bl (decide (11 = i))])) p (.lst [V.bl (decide (0 = i)), V.bl (decide (1 = i)), V.bl (decide (2 = i)), V.bl (decide (3 = i)), V.bl (decide (4 = i)), V.bl (decide (5 = i)), V.bl (decide (6 = i)), V.bl (decide (7 = i)), V.bl (decide (8 = i)), V.bl (decide (9 = i)), V.bl (decide (10 = i)), V.bl (decide (11 = i))])) p = some (.lst [V.bl (decide (0 = i)), V.bl (decide (1 = i)), V.bl (decide (2 = i)), V.bl (decide (3 = i)), V.bl (decide (4 = i)), V.bl (decide (5 = i)), V.bl (decide (6 = i)), V.bl (decide (7 = i)), V.bl (decide (8 = i)), V.bl (decide (9 = i)), V.bl (decide (10 = i)), V.bl (decide (11 = i))]) := upd_same
    show tSeq _ _ _ _ (upd (upd H1 q1 (.lst [V.bl (decide (8 = i)), V.bl (decide (9 = i)), V.bl (decide (10 = i)), V.bl (decide (11 = i))])) p (.lst [V.bl (decide (0 = i)), V.bl (decide (1 = i)), V.bl (decide (2 = i)), V.bl (decide (3 = i)), V.bl (decide (4 = i)), V.bl (decide (5 = i)), V.bl (decide (6 = i)), V.bl (decide (7 = i)), V.bl (decide (8 = i)), V.bl (decide (9 = i)), V.bl (decide (10 = i)), V.bl (decide (11 = i))]))
    generalize upd (upd H1 q1 (.lst [V.bl (decide (8 = i)), V.bl (decide (9 = i)), V.bl (decide (10 = i)), V.bl (decide (11 = i))])) p (.lst [V.bl (decide (0 = i)), V.bl (decide (1 = i)), V.bl (decide (2 = i)), V.bl (decide (3 = i)), V.bl (decide (4 = i)), V.bl (decide (5 = i)), V.bl (decide (6 = i)), V.bl (decide (7 = i)), V.bl (decide (8 = i)), V.bl (decide (9 = i)), V.bl (decide (10 = i)), V.bl (decide (11 = i))]) = H2 at x2 t2 ⊢
    refine ⟨_, rfl, .inl ⟨rfl, _, SqL.of t2⟩, _, rfl, .ref C12, .ref C12, _, rfl, (fun _ z => z), e12, _, rfl, .ref C13, .ref C13, _, rfl, (fun _ z => z), e13, _, rfl, .ref C14, .ref C14, _, rfl, (fun _ z => z), e14, _, rfl, .ref C15, .ref C15, _, rfl, (fun _ z => z), e15, (by show 4 ≤ sizeLine; decide), fun q2 hq2 => ?_⟩
    have nq2 : p ≠ q2 := ne_of_none t2 hq2
    refine ⟨p, q2, [V.bl (decide (0 = i)), V.bl (decide (1 = i)), V.bl (decide (2 = i)), V.bl (decide (3 = i)), V.bl (decide (4 = i)), V.bl (decide (5 = i)), V.bl (decide (6 = i)), V.bl (decide (7 = i)), V.bl (decide (8 = i)), V.bl (decide (9 = i)), V.bl (decide (10 = i)), V.bl (decide (11 = i))], [V.bl (decide (12 = i)), V.bl (decide (13 = i)), V.bl (decide (14 = i)), V.bl (decide (15 = i))], rfl, rfl, by rw [upd_ne nq2]; exact t2, upd_same, (by show 16 ≤ sizeLine; decide), ?_⟩
    have x3 : Ex H (upd (upd H2 q2 (.lst [V.bl (decide (12 = i)), V.bl (decide (13 = i)), V.bl (decide (14 = i)), V.bl (decide (15 = i))])) p (.lst [V.bl (decide (0 = i)), V.bl (decide (1 = i)), V.bl (decide (2 = i)), V.bl (decide (3 = i)), V.bl (decide (4 = i)), V.bl (decide (5 = i)), V.bl (decide (6 = i)), V.bl (decide (7 = i)), V.bl (decide (8 = i)), V.bl (decide (9 = i)), V.bl (decide (10 = i)), V.bl (decide (11 = i)), V.bl (decide (12 = i)), V.bl (decide (13 = i)), V.bl (decide (14 = i)), V.bl (decide (15 = i))])) := (x2.trans (Ex.new hq2)).put hp
    have t3 : (upd (upd H2 q2 (.lst [V.bl (decide (12 = i)), V.bl (decide (13 = i)), V.bl (decide (14 = i)), V.bl (decide (15 = i))])) p (.lst [V.bl (decide (0 = i)), V.bl (decide (1 = i)), V.bl (decide (2 = i)), V.bl (decide (3 = i)), V.bl (decide (4 = i)), V.bl (decide (5 = i)), V.bl (decide (6 = i)), V.bl (decide (7 = i)), V.bl (decide (8 = i)), V.bl (decide (9 = i)), V.bl (decide (10 = i)), V.bl (decide (11 = i)), V.bl (decide (12 = i)), V.bl (decide (13 = i)), V.bl (decide (14 = i)), V.bl (decide (15 = i))])) p = some (.lst [V.bl (decide (0 = i)), V.bl (decide (1 = i)), V.bl (decide (2 = i)), V.bl (decide (3 = i)), V.bl (decide (4 = i)), V.bl (decide (5 = i)), V.bl (decide (6 = i)), V.bl (decide (7 = i)), V.bl (decide (8 = i)), V.bl (decide (9 = i)), V.bl (decide (10 = i)), V.bl (decide (11 = i)), V.bl (decide (12 = i)), V.bl (decide (13 = i)), V.bl (decide (14 = i)), V.bl (decide (15 = i))]) := upd_same
    show tSeq _ _ _ _ (upd (upd H2 q2 (.lst [V.bl (decide (12 = i)), V.bl (decide (13 = i)), V.bl (decide (14 = i)), V.bl (decide (15 = i))])) p (.lst [V.bl (decide (0 = i)), V.bl (decide (1 = i)), V.bl (decide (2 = i)), V.bl (decide (3 = i)), V.bl (decide (4 = i)), V.bl (decide (5 = i)), V.bl (decide (6 = i)), V.bl (decide (7 = i)), V.bl (decide (8 = i)), V.bl (decide (9 = i)), V.bl (decide (10 = i)), V.bl (decide (11 = i)), V.bl (decide (12 = i)), V.bl (decide (13 = i)), V.bl (decide (14 = i)), V.bl (decide (15 = i))]))
    generalize upd (upd H2 q2 (.lst [V.bl (decide (12 = i)), V.bl (decide (13 = i)), V.bl (decide (14 = i)), V.bl (decide (15 = i))])) p (.lst [V.bl (decide (0 = i)), V.bl (decide (1 = i)), V.bl (decide (2 = i)), V.bl (decide (3 = i)), V.bl (decide (4 = i)), V.bl (decide (5 = i)), V.bl (decide (6 = i)), V.bl (decide (7 = i)), V.bl (decide (8 = i)), V.bl (decide (9 = i)), V.bl (decide (10 = i)), V.bl (decide (11 = i)), V.bl (decide (12 = i)), V.bl (decide (13 = i)), V.bl (decide (14 = i)), V.bl (decide (15 = i))]) = H3 at x3 t3 ⊢
    refine ⟨_, rfl, .inl ⟨rfl, _, SqL.of t3⟩, _, rfl, .ref C16, .ref C16, _, rfl, (fun _ z => z), e16, p, [V.bl (decide (0 = i)), V.bl (decide (1 = i)), V.bl (decide (2 = i)), V.bl (decide (3 = i)), V.bl (decide (4 = i)), V.bl (decide (5 = i)), V.bl (decide (6 = i)), V.bl (decide (7 = i)), V.bl (decide (8 = i)), V.bl (decide (9 = i)), V.bl (decide (10 = i)), V.bl (decide (11 = i)), V.bl (decide (12 = i)), V.bl (decide (13 = i)), V.bl (decide (14 = i)), V.bl (decide (15 = i))], _, rfl, rfl, t3, (by show 16 < sizeLine; decide), ?_⟩
    have x4 : Ex H (upd H3 p (.lst (truths 17 i))) := x3.put hp
    have t4 : (upd H3 p (.lst (truths 17 i))) p = some (.lst (truths 17 i)) := upd_same
    show tSeq _ _ _ _ (upd H3 p (.lst (truths 17 i)))
    generalize upd H3 p (.lst (truths 17 i)) = H4 at x4 t4 ⊢
    have s4 : SqL K H4 p (truths 17 i) := SqL.of t4
    refine ⟨_, rfl, .inl ⟨rfl, _, s4⟩, p, _, _, rfl, rfl, s4, rfl, truths_flat 17 i, ?_⟩
    rw [truths_count i W.lt]
    refine ⟨rfl, _, rfl, ?_⟩
    rw [show (!decide (V.int ((1 : Nat) : Int) = V.int 1)) = false from rfl]
    refine iteF ⟨_, rfl, .ty "ValueError", .type "ValueError", true, rfl, (fun _ z => z), W.val, _, rfl, ?_⟩
    refine iteF ?_
    refine ⟨_, rfl, .inl ⟨rfl, _, s4⟩, p, truths 17 i, .bl true, i, _, rfl, rfl, s4, rfl, truths_flat 17 i, truths_get W.lt, (by rw [decide_eq_true rfl]; rfl), (fun m z hm hz => ?_), (by show 2 ≤ sizeLine; decide), fun r hr => ?_⟩
    · rw [truths_get (Nat.lt_trans hm W.lt)] at hz
      cases hz
      rw [decide_eq_false (Nat.ne_of_lt hm)]
      rfl
    · exact k _ r (x4.trans (Ex.new hr)) (SqT.of upd_same)
end
/-! ### refusals as data -/
def refD (i : Int) : PyData := .tuple [.str "refused", .int i]
theorem RefAt.dp {K : PySem.W.Frag} {H : Hp} {r : Addr} {i : Int} (h : RefAt K H r i) : Dp K H (.ref r) (refD i) := .tup h (.cons (.str _) (.cons (.int _) .nil))
theorem RefAt.ex {K : PySem.W.Frag} {H H' : Hp} {r : Addr} {i : Int} (x : Ex H H') (h : RefAt K H r i) : RefAt K H' r i := Ex.tup x h
theorem shaped_ref (i : Int) : SeqAt.shaped (refD i) = true := by
  have hs : PyData.strOk "refused" = true := by decide +kernel
  simp [SeqAt.shaped, refD, PyData.canLay0, PyData.canLayAll0, PyData.depth, PyData.depthAll, hs]
theorem dpAll_refs {K : PySem.W.Frag} {H : Hp} {i : Int} : ∀ {rs : List Addr}, (∀ r ∈ rs, RefAt K H r i) → DpAll K H (rs.map V.ref) (List.replicate rs.length (refD i))
  | [], _ => .nil
  | r :: rs, h => .cons (h r (List.mem_cons_self ..)).dp (dpAll_refs fun q hq => h q (List.mem_cons_of_mem _ hq))
/-! ### which refusal is told -/
/-- the refusal of number i is told -/
def ToldI (K : PySem.W.Frag) (H : Hp) (Q : VK) (i : Int) : Prop := ∀ H' r, Ex H H' → RefAt K H' r i → Q (.ref r) H'
theorem PathOr.map {K : PySem.W.Frag} {H H' : Hp} {v : V} {b b' : Prop} {R R' : Addr → List Str → Prop} (x : Ex H H') (h : PathOr K H v b R) (hb : b → b') (hr : ∀ a p, R a p → R' a p) : PathOr K H' v b' R' := by
  rcases h with ⟨h1, h2⟩ | ⟨a, p, h1, h2, h3, h4⟩
  · exact Or.inl ⟨h1.ex x, hb h2⟩
  · exact Or.inr ⟨a, p, h1, h2.ex x, h3, hr a p h4⟩
/-! ### what is no tree -/
def spNoTree (K : PySem.W.Frag) : Sp := fun vs H Q _ => ∃ (sc tw : Addr) (ns : List Int), vs = [.ref sc, .ref tw] ∧ Lw K H sc tw ns ∧ ∀ H' x, Ev tw H H' → x ≠ .ref tw → (∀ G, Ev tw H' G → TreeQ K G x false) → Q x H'
section
variable {P : Program} {w : World} {K : PySem.W.Frag} {mg : Str → Option Value} {base : Heap}
theorem scNoTree : FnScope ["_law_script", "_law_town", "_law_bad"] ["_law_script", "_law_town"] (defScope sNoTree) := ⟨rfl, rfl, rfl, by decide +kernel, rfl, by decide +kernel, by decide +kernel⟩
theorem ok_noTree {f fP : Addr} {fd fdP : FuncData} (F : Fun K "_law_no_tree" "_law_no_tree" sNoTree f fd)
    (GP : FnOk P w K mg base CX0 2 fP fdP ["_law_script", "_law_town", "_law_some"] (spPick K)) (mP : mg "_law_pick" = some (.ref fP)) (kP : PySem.W.keepIn K (.ref fP) = true) (bP : Binds K fdP ["_law_script", "_law_town", "_law_some"] []) :
    FnOk P w K mg base CX0 3 f fd ["_law_script", "_law_town"] (spNoTree K) := by
  refine F.ok scNoTree (fun vs H Q E h => ?_) (fun cdv A outer s H vs Q E hr h => ?_)
  · obtain ⟨sc, tw, ns, rfl, _⟩ := h
    rfl
  · obtain ⟨sc, tw, ns, rfl, L, k⟩ := h
    have hu1 : (A.deeper (envOfC "_law_no_tree" (defScope sNoTree) s.heap.objs.size f cdv)).units + 1 < cLine := by have := hr.units; omega
    refine ⟨_, (pss_cons (ps_set (i := 2) scNoTree.nd rfl (Or.inl rfl) (pe_lst (pa_cons pe_non (pa_cons (pe_lst pa_nil) (pa_cons pe_dnewT (pa_cons (pe_dispT hu1 (pps_cons (pe_tup pa_nil) (pe_tup (pa_cons pe_str (pa_cons pe_bl pa_nil))) pps_nil) rfl rfl (by simp) (by decide)) (pa_cons (pe_dispT hu1 (pps_cons (pe_tup (pa_cons pe_str pa_nil)) (pe_tup (pa_cons pe_str pa_nil)) pps_nil) rfl rfl (by simp) (by decide)) (pa_cons (pe_dispT hu1 (pps_cons (pe_tup pa_nil) (pe_tup (pa_cons pe_str (pa_cons pe_int (pa_cons pe_str pa_nil)))) pps_nil) rfl rfl (by simp) (by decide)) (pa_cons (pe_tup (pa_cons (pe_tup pa_nil) (pa_cons (pe_tup (pa_cons pe_str pa_nil)) pa_nil))) pa_nil)))))))))
      (pss_cons (ps_expr (pe_bm PySem.F.plainAttrs_list PySem.F.slot_list_extend PySem.F.type_list_extend mt_extend (pv 2) (pa_cons (pe_lst (pa_cons (pe_dispM hu1 (pps_cons (pe_tup pa_nil) (pe_tup (pa_cons pe_str pa_nil)) (pps_cons pe_str (pe_tup (pa_cons pe_str pa_nil)) pps_nil)) rfl rfl (by simp) (by decide)) (pa_cons (pe_dispT hu1 (pps_cons (pe_tup pa_nil) (pe_tup (pa_cons pe_str pa_nil)) (pps_cons (pe_tup (pa_cons pe_str (pa_cons pe_str pa_nil))) (pe_tup (pa_cons pe_str pa_nil)) pps_nil)) rfl rfl (by simp) (by decide)) pa_nil))) pa_nil)))
      (pss_cons (ps_expr (pe_bm PySem.F.plainAttrs_list PySem.F.slot_list_append PySem.F.type_list_append mt_append (pv 2) (pa_cons (pe_dispT hu1 (pps_cons (pe_tup pa_nil) (pe_tup (pa_cons pe_str pa_nil)) (pps_cons (pe_tup (pa_cons pe_str pa_nil)) (pe_tup (pa_cons pe_str (pa_cons pe_int (pa_cons pe_str pa_nil)))) pps_nil)) rfl rfl (by simp) (by decide)) pa_nil)))
      (pss_cons (ps_expr (pe_bm PySem.F.plainAttrs_list PySem.F.slot_list_append PySem.F.type_list_append mt_append (pv 2) (pa_cons (pe_dispT hu1 (pps_cons (pe_tup pa_nil) (pe_tup (pa_cons pe_str pa_nil)) (pps_cons (pe_tup (pa_cons pe_str pa_nil)) (pe_tup (pa_cons pe_str (pa_cons pe_int (pa_cons pe_str pa_nil)))) (pps_cons (pe_tup (pa_cons pe_str pa_nil)) (pe_tup (pa_cons pe_str (pa_cons pe_int (pa_cons pe_str pa_nil)))) pps_nil))) rfl rfl (by simp) (by decide)) pa_nil)))
      (pss_cons (ps_expr (pe_bm PySem.F.plainAttrs_list PySem.F.slot_list_append PySem.F.type_list_append mt_append (pv 2) (pa_cons (pe_dispT hu1 (pps_cons (pe_tup pa_nil) (pe_tup (pa_cons pe_str pa_nil)) (pps_cons (pe_tup (pa_cons pe_str pa_nil)) (pe_tup (pa_cons pe_str (pa_cons pe_int (pa_cons pe_str pa_nil)))) (pps_cons (pe_tup (pa_cons pe_str (pa_cons pe_str pa_nil))) (pe_tup (pa_cons pe_str pa_nil)) pps_nil))) rfl rfl (by simp) (by decide)) pa_nil)))
      (pss_cons (ps_expr (pe_bm PySem.F.plainAttrs_list PySem.F.slot_list_extend PySem.F.type_list_extend mt_extend (pv 2) (pa_cons (pe_lst (pa_cons (pe_dispT hu1 (pps_cons (pe_tup pa_nil) (pe_tup (pa_cons pe_str pa_nil)) (pps_cons (pe_tup (pa_cons pe_str pa_nil)) (pe_tup (pa_cons pe_str pa_nil)) pps_nil)) rfl rfl (by simp) (by decide)) (pa_cons (pe_dispT hu1 (pps_cons (pe_tup pa_nil) (pe_tup (pa_cons pe_str pa_nil)) (pps_cons (pe_tup (pa_cons pe_str pa_nil)) (pe_lst (pa_cons pe_str pa_nil)) pps_nil)) rfl rfl (by simp) (by decide)) (pa_cons pe_str pa_nil)))) pa_nil)))
      (pss_cons (ps_expr (pe_bm PySem.F.plainAttrs_list PySem.F.slot_list_extend PySem.F.type_list_extend mt_extend (pv 2) (pa_cons (pe_lst (pa_cons (pe_dispT hu1 (pps_cons (pe_tup pa_nil) (pe_tup (pa_cons pe_str pa_nil)) (pps_cons (pe_tup (pa_cons pe_str pa_nil)) (pe_tup (pa_cons pe_str (pa_cons pe_bl (pa_cons pe_str pa_nil)))) pps_nil)) rfl rfl (by simp) (by decide)) (pa_cons (pe_dispT hu1 (pps_cons (pe_tup pa_nil) (pe_tup (pa_cons pe_str pa_nil)) (pps_cons (pe_tup (pa_cons pe_str pa_nil)) (pe_tup (pa_cons pe_str (pa_cons pe_int (pa_cons pe_str pa_nil)))) pps_nil)) rfl rfl (by simp) (by decide)) pa_nil))) pa_nil)))
      (pss_cons (ps_expr (pe_bm PySem.F.plainAttrs_list PySem.F.slot_list_append PySem.F.type_list_append mt_append (pv 2) (pa_cons (pe_dispT hu1 (pps_cons (pe_tup pa_nil) (pe_tup (pa_cons pe_str pa_nil)) (pps_cons (pe_tup (pa_cons pe_str pa_nil)) pe_non pps_nil)) rfl rfl (by simp) (by decide)) pa_nil)))
      (pss_cons (ps_expr (pe_bm PySem.F.plainAttrs_list PySem.F.slot_list_append PySem.F.type_list_append mt_append (pv 2) (pa_cons (pe_dispT hu1 (pps_cons (pe_tup pa_nil) (pe_tup (pa_cons pe_str pa_nil)) (pps_cons (pe_tup (pa_cons pe_str pa_nil)) (pe_tup (pa_cons pe_str (pa_cons pe_int (pa_cons (pe_op op_repS pe_str pe_int) pa_nil)))) pps_nil)) rfl rfl (by simp) (by decide)) pa_nil)))
      (pss_one (ps_ret (pe_call (E := E0) GP hr (by rfl) mP kP bP .nil pass0 (pa_cons (pv 0) (pa_cons (pv 1) (pa_cons (pv 2) pa_nil))))))))))))))), ?_⟩
    refine ⟨(by show 0 ≤ sizeLine; decide), fun p1 h1 => ?_⟩
    have x1 := Ex.new (o := .lst []) h1
    have t1 : (upd H p1 (.lst [])) p1 = some (.lst []) := upd_same
    generalize upd H p1 (.lst []) = H1 at x1 t1 ⊢
    have xi1 := x1
    refine fun p2 h2 => ?_
    have x2 := Ex.new (o := .dT []) h2
    have t2 : (upd H1 p2 (.dT [])) p2 = some (.dT []) := upd_same
    generalize upd H1 p2 (.dT []) = H2 at x2 t2 ⊢
    have xi2 := x2
    refine fun p3 h3 => ?_
    have x3 := Ex.new (o := .dT []) h3
    have t3 : (upd H2 p3 (.dT [])) p3 = some (.dT []) := upd_same
    generalize upd H2 p3 (.dT []) = H3 at x3 t3 ⊢
    refine ⟨(by show 0 ≤ sizeLine; decide), fun p4 h4 => ?_⟩
    have x4 := Ex.new (o := .tup []) h4
    have t4 : (upd H3 p4 (.tup [])) p4 = some (.tup []) := upd_same
    generalize upd H3 p4 (.tup []) = H4 at x4 t4 ⊢
    refine ⟨(by show 2 ≤ sizeLine; decide), fun p5 h5 => ?_⟩
    have x5 := Ex.new (o := .tup [V.str "drawer", V.bl false]) h5
    have t5 : (upd H4 p5 (.tup [V.str "drawer", V.bl false])) p5 = some (.tup [V.str "drawer", V.bl false]) := upd_same
    generalize upd H4 p5 (.tup [V.str "drawer", V.bl false]) = H5 at x5 t5 ⊢
    have td3 := (x4.trans x5).keep _ _ t3 (fun ps z => by cases z)
    have u4 := x5.keep _ _ t4 (fun ps z => by cases z)
    have u5 := t5
    refine ⟨td3, [(([] : List Str).map (Sum.inr : Str → L2.Key), V.ref p5)], .cons ⟨⟨p4, rfl, u4⟩, rfl⟩ .nil, (by show 1 ≤ 15; decide), ?_⟩
    rw [merge1]
    have xi3 : Ex H2 (upd H5 p3 (.dT [(([] : List Str).map (Sum.inr : Str → L2.Key), V.ref p5)])) := (x3.trans (x4.trans x5)).put h3
    have fd3 : (upd H5 p3 (.dT [(([] : List Str).map (Sum.inr : Str → L2.Key), V.ref p5)])) p3 = some (.dT [(([] : List Str).map (Sum.inr : Str → L2.Key), V.ref p5)]) := upd_same
    have g4 := mv_upd (u := .dT [(([] : List Str).map (Sum.inr : Str → L2.Key), V.ref p5)]) td3 (fun q => q) _ _ u4 trivial
    have g5 := mv_upd (u := .dT [(([] : List Str).map (Sum.inr : Str → L2.Key), V.ref p5)]) td3 (fun q => q) _ _ u5 trivial
    generalize upd H5 p3 (.dT [(([] : List Str).map (Sum.inr : Str → L2.Key), V.ref p5)]) = H6 at xi3 fd3 g4 g5 ⊢
    refine fun p7 h7 => ?_
    have x7 := Ex.new (o := .dT []) h7
    have t7 : (upd H6 p7 (.dT [])) p7 = some (.dT []) := upd_same
    generalize upd H6 p7 (.dT []) = H7 at x7 t7 ⊢
    refine ⟨(by show 1 ≤ sizeLine; decide), fun p8 h8 => ?_⟩
    have x8 := Ex.new (o := .tup [V.str "a"]) h8
    have t8 : (upd H7 p8 (.tup [V.str "a"])) p8 = some (.tup [V.str "a"]) := upd_same
    generalize upd H7 p8 (.tup [V.str "a"]) = H8 at x8 t8 ⊢
    refine ⟨(by show 1 ≤ sizeLine; decide), fun p9 h9 => ?_⟩
    have x9 := Ex.new (o := .tup [V.str "drawer"]) h9
    have t9 : (upd H8 p9 (.tup [V.str "drawer"])) p9 = some (.tup [V.str "drawer"]) := upd_same
    generalize upd H8 p9 (.tup [V.str "drawer"]) = H9 at x9 t9 ⊢
    have td4 := (x8.trans x9).keep _ _ t7 (fun ps z => by cases z)
    have u8 := x9.keep _ _ t8 (fun ps z => by cases z)
    have u9 := t9
    refine ⟨td4, [((["a"] : List Str).map (Sum.inr : Str → L2.Key), V.ref p9)], .cons ⟨⟨p8, rfl, u8⟩, rfl⟩ .nil, (by show 1 ≤ 15; decide), ?_⟩
    rw [merge1]
    have xi4 : Ex H6 (upd H9 p7 (.dT [((["a"] : List Str).map (Sum.inr : Str → L2.Key), V.ref p9)])) := (x7.trans (x8.trans x9)).put h7
    have fd4 : (upd H9 p7 (.dT [((["a"] : List Str).map (Sum.inr : Str → L2.Key), V.ref p9)])) p7 = some (.dT [((["a"] : List Str).map (Sum.inr : Str → L2.Key), V.ref p9)]) := upd_same
    have g8 := mv_upd (u := .dT [((["a"] : List Str).map (Sum.inr : Str → L2.Key), V.ref p9)]) td4 (fun q => q) _ _ u8 trivial
    have g9 := mv_upd (u := .dT [((["a"] : List Str).map (Sum.inr : Str → L2.Key), V.ref p9)]) td4 (fun q => q) _ _ u9 trivial
    generalize upd H9 p7 (.dT [((["a"] : List Str).map (Sum.inr : Str → L2.Key), V.ref p9)]) = H10 at xi4 fd4 g8 g9 ⊢
    refine fun p11 h11 => ?_
    have x11 := Ex.new (o := .dT []) h11
    have t11 : (upd H10 p11 (.dT [])) p11 = some (.dT []) := upd_same
    generalize upd H10 p11 (.dT []) = H11 at x11 t11 ⊢
    refine ⟨(by show 0 ≤ sizeLine; decide), fun p12 h12 => ?_⟩
    have x12 := Ex.new (o := .tup []) h12
    have t12 : (upd H11 p12 (.tup [])) p12 = some (.tup []) := upd_same
    generalize upd H11 p12 (.tup []) = H12 at x12 t12 ⊢
    refine ⟨(by show 3 ≤ sizeLine; decide), fun p13 h13 => ?_⟩
    have x13 := Ex.new (o := .tup [V.str "file", V.int 0, V.str ""]) h13
    have t13 : (upd H12 p13 (.tup [V.str "file", V.int 0, V.str ""])) p13 = some (.tup [V.str "file", V.int 0, V.str ""]) := upd_same
    generalize upd H12 p13 (.tup [V.str "file", V.int 0, V.str ""]) = H13 at x13 t13 ⊢
    have td5 := (x12.trans x13).keep _ _ t11 (fun ps z => by cases z)
    have u12 := x13.keep _ _ t12 (fun ps z => by cases z)
    have u13 := t13
    refine ⟨td5, [(([] : List Str).map (Sum.inr : Str → L2.Key), V.ref p13)], .cons ⟨⟨p12, rfl, u12⟩, rfl⟩ .nil, (by show 1 ≤ 15; decide), ?_⟩
    rw [merge1]
    have xi5 : Ex H10 (upd H13 p11 (.dT [(([] : List Str).map (Sum.inr : Str → L2.Key), V.ref p13)])) := (x11.trans (x12.trans x13)).put h11
    have fd5 : (upd H13 p11 (.dT [(([] : List Str).map (Sum.inr : Str → L2.Key), V.ref p13)])) p11 = some (.dT [(([] : List Str).map (Sum.inr : Str → L2.Key), V.ref p13)]) := upd_same
    have g12 := mv_upd (u := .dT [(([] : List Str).map (Sum.inr : Str → L2.Key), V.ref p13)]) td5 (fun q => q) _ _ u12 trivial
    have g13 := mv_upd (u := .dT [(([] : List Str).map (Sum.inr : Str → L2.Key), V.ref p13)]) td5 (fun q => q) _ _ u13 trivial
    generalize upd H13 p11 (.dT [(([] : List Str).map (Sum.inr : Str → L2.Key), V.ref p13)]) = H14 at xi5 fd5 g12 g13 ⊢
    refine ⟨(by show 0 ≤ sizeLine; decide), fun p15 h15 => ?_⟩
    have x15 := Ex.new (o := .tup []) h15
    have t15 : (upd H14 p15 (.tup [])) p15 = some (.tup []) := upd_same
    generalize upd H14 p15 (.tup []) = H15 at x15 t15 ⊢
    refine ⟨(by show 1 ≤ sizeLine; decide), fun p16 h16 => ?_⟩
    have x16 := Ex.new (o := .tup [V.str "drawer"]) h16
    have t16 : (upd H15 p16 (.tup [V.str "drawer"])) p16 = some (.tup [V.str "drawer"]) := upd_same
    generalize upd H15 p16 (.tup [V.str "drawer"]) = H16 at x16 t16 ⊢
    refine ⟨(by show 2 ≤ sizeLine; decide), fun p17 h17 => ?_⟩
    have x17 := Ex.new (o := .tup [V.ref p15, V.ref p16]) h17
    have t17 : (upd H16 p17 (.tup [V.ref p15, V.ref p16])) p17 = some (.tup [V.ref p15, V.ref p16]) := upd_same
    generalize upd H16 p17 (.tup [V.ref p15, V.ref p16]) = H17 at x17 t17 ⊢
    have xi6 := (x15.trans x16).trans x17
    refine ⟨(by show 7 ≤ sizeLine; decide), fun p18 h18 => ?_⟩
    have xl := Ex.new (o := .lst [V.non, V.ref p1, V.ref p2, V.ref p3, V.ref p7, V.ref p11, V.ref p17]) h18
    have tl : (upd H17 p18 (.lst [V.non, V.ref p1, V.ref p2, V.ref p3, V.ref p7, V.ref p11, V.ref p17])) p18 = some (.lst [V.non, V.ref p1, V.ref p2, V.ref p3, V.ref p7, V.ref p11, V.ref p17]) := upd_same
    generalize upd H17 p18 (.lst [V.non, V.ref p1, V.ref p2, V.ref p3, V.ref p7, V.ref p11, V.ref p17]) = H18 at xl tl ⊢
    refine ⟨_, rfl, .inl ⟨rfl, _, SqL.of tl⟩, ?_⟩
    refine fun p19 h19 => ?_
    have x19 := Ex.new (o := .dT []) h19
    have t19 : (upd H18 p19 (.dT [])) p19 = some (.dT []) := upd_same
    generalize upd H18 p19 (.dT []) = H19 at x19 t19 ⊢
    refine ⟨(by show 0 ≤ sizeLine; decide), fun p20 h20 => ?_⟩
    have x20 := Ex.new (o := .tup []) h20
    have t20 : (upd H19 p20 (.tup [])) p20 = some (.tup []) := upd_same
    generalize upd H19 p20 (.tup []) = H20 at x20 t20 ⊢
    refine ⟨(by show 1 ≤ sizeLine; decide), fun p21 h21 => ?_⟩
    have x21 := Ex.new (o := .tup [V.str "drawer"]) h21
    have t21 : (upd H20 p21 (.tup [V.str "drawer"])) p21 = some (.tup [V.str "drawer"]) := upd_same
    generalize upd H20 p21 (.tup [V.str "drawer"]) = H21 at x21 t21 ⊢
    refine ⟨(by show 1 ≤ sizeLine; decide), fun p22 h22 => ?_⟩
    have x22 := Ex.new (o := .tup [V.str "drawer"]) h22
    have t22 : (upd H21 p22 (.tup [V.str "drawer"])) p22 = some (.tup [V.str "drawer"]) := upd_same
    generalize upd H21 p22 (.tup [V.str "drawer"]) = H22 at x22 t22 ⊢
    have td7 := ((x20.trans x21).trans x22).keep _ _ t19 (fun ps z => by cases z)
    have u20 := (x21.trans x22).keep _ _ t20 (fun ps z => by cases z)
    have u21 := x22.keep _ _ t21 (fun ps z => by cases z)
    have u22 := t22
    refine ⟨td7, p20, "a", [], V.ref p21, V.ref p22, rfl, u20, fun ob => ?_⟩
    have xi7 : Ex H18 (upd H22 p19 (mixO p19 ob p20 "a")) := (x19.trans ((x20.trans x21).trans x22)).put h19
    have fd7 : (upd H22 p19 (mixO p19 ob p20 "a")) p19 = some (mixO p19 ob p20 "a") := upd_same
    have g20 := mv_upd (u := mixO p19 ob p20 "a") td7 (fun q => q) _ _ u20 trivial
    have g21 := mv_upd (u := mixO p19 ob p20 "a") td7 (fun q => q) _ _ u21 trivial
    have g22 := mv_upd (u := mixO p19 ob p20 "a") td7 (fun q => q) _ _ u22 trivial
    generalize upd H22 p19 (mixO p19 ob p20 "a") = H23 at xi7 fd7 g20 g21 g22 ⊢
    have tl := xi7.keep _ _ tl (fun ps z => by cases z)
    have tlS8 := tl
    refine fun p24 h24 => ?_
    have x24 := Ex.new (o := .dT []) h24
    have t24 : (upd H23 p24 (.dT [])) p24 = some (.dT []) := upd_same
    generalize upd H23 p24 (.dT []) = H24 at x24 t24 ⊢
    refine ⟨(by show 0 ≤ sizeLine; decide), fun p25 h25 => ?_⟩
    have x25 := Ex.new (o := .tup []) h25
    have t25 : (upd H24 p25 (.tup [])) p25 = some (.tup []) := upd_same
    generalize upd H24 p25 (.tup []) = H25 at x25 t25 ⊢
    refine ⟨(by show 1 ≤ sizeLine; decide), fun p26 h26 => ?_⟩
    have x26 := Ex.new (o := .tup [V.str "drawer"]) h26
    have t26 : (upd H25 p26 (.tup [V.str "drawer"])) p26 = some (.tup [V.str "drawer"]) := upd_same
    generalize upd H25 p26 (.tup [V.str "drawer"]) = H26 at x26 t26 ⊢
    refine ⟨(by show 2 ≤ sizeLine; decide), fun p27 h27 => ?_⟩
    have x27 := Ex.new (o := .tup [V.str "a", V.str "b"]) h27
    have t27 : (upd H26 p27 (.tup [V.str "a", V.str "b"])) p27 = some (.tup [V.str "a", V.str "b"]) := upd_same
    generalize upd H26 p27 (.tup [V.str "a", V.str "b"]) = H27 at x27 t27 ⊢
    refine ⟨(by show 1 ≤ sizeLine; decide), fun p28 h28 => ?_⟩
    have x28 := Ex.new (o := .tup [V.str "drawer"]) h28
    have t28 : (upd H27 p28 (.tup [V.str "drawer"])) p28 = some (.tup [V.str "drawer"]) := upd_same
    generalize upd H27 p28 (.tup [V.str "drawer"]) = H28 at x28 t28 ⊢
    have td8 := (((x25.trans x26).trans x27).trans x28).keep _ _ t24 (fun ps z => by cases z)
    have u25 := ((x26.trans x27).trans x28).keep _ _ t25 (fun ps z => by cases z)
    have u26 := (x27.trans x28).keep _ _ t26 (fun ps z => by cases z)
    have u27 := x28.keep _ _ t27 (fun ps z => by cases z)
    have u28 := t28
    refine ⟨td8, [(([] : List Str).map (Sum.inr : Str → L2.Key), V.ref p26), ((["a", "b"] : List Str).map (Sum.inr : Str → L2.Key), V.ref p28)], .cons ⟨⟨p25, rfl, u25⟩, rfl⟩ (.cons ⟨⟨p27, rfl, u27⟩, rfl⟩ .nil), (by show 2 ≤ 15; decide), ?_⟩
    rw [merge2 (by decide +kernel)]
    have xi8 : Ex H23 (upd H28 p24 (.dT [(([] : List Str).map (Sum.inr : Str → L2.Key), V.ref p26), ((["a", "b"] : List Str).map (Sum.inr : Str → L2.Key), V.ref p28)])) := (x24.trans (((x25.trans x26).trans x27).trans x28)).put h24
    have fd8 : (upd H28 p24 (.dT [(([] : List Str).map (Sum.inr : Str → L2.Key), V.ref p26), ((["a", "b"] : List Str).map (Sum.inr : Str → L2.Key), V.ref p28)])) p24 = some (.dT [(([] : List Str).map (Sum.inr : Str → L2.Key), V.ref p26), ((["a", "b"] : List Str).map (Sum.inr : Str → L2.Key), V.ref p28)]) := upd_same
    have g25 := mv_upd (u := .dT [(([] : List Str).map (Sum.inr : Str → L2.Key), V.ref p26), ((["a", "b"] : List Str).map (Sum.inr : Str → L2.Key), V.ref p28)]) td8 (fun q => q) _ _ u25 trivial
    have g26 := mv_upd (u := .dT [(([] : List Str).map (Sum.inr : Str → L2.Key), V.ref p26), ((["a", "b"] : List Str).map (Sum.inr : Str → L2.Key), V.ref p28)]) td8 (fun q => q) _ _ u26 trivial
    have g27 := mv_upd (u := .dT [(([] : List Str).map (Sum.inr : Str → L2.Key), V.ref p26), ((["a", "b"] : List Str).map (Sum.inr : Str → L2.Key), V.ref p28)]) td8 (fun q => q) _ _ u27 trivial
    have g28 := mv_upd (u := .dT [(([] : List Str).map (Sum.inr : Str → L2.Key), V.ref p26), ((["a", "b"] : List Str).map (Sum.inr : Str → L2.Key), V.ref p28)]) td8 (fun q => q) _ _ u28 trivial
    generalize upd H28 p24 (.dT [(([] : List Str).map (Sum.inr : Str → L2.Key), V.ref p26), ((["a", "b"] : List Str).map (Sum.inr : Str → L2.Key), V.ref p28)]) = H29 at xi8 fd8 g25 g26 g27 g28 ⊢
    have tl := xi8.keep _ _ tl (fun ps z => by cases z)
    have tlS9 := tl
    refine ⟨(by show 2 ≤ sizeLine; decide), fun p30 h30 => ?_⟩
    have xe1 := Ex.new (o := .lst [V.ref p19, V.ref p24]) h30
    have te1 : (upd H29 p30 (.lst [V.ref p19, V.ref p24])) p30 = some (.lst [V.ref p19, V.ref p24]) := upd_same
    have tl := xe1.keep _ _ tl (fun ps z => by cases z)
    generalize upd H29 p30 (.lst [V.ref p19, V.ref p24]) = H30 at xe1 te1 tl ⊢
    refine ⟨p18, p30, [V.non, V.ref p1, V.ref p2, V.ref p3, V.ref p7, V.ref p11, V.ref p17], [V.ref p19, V.ref p24], rfl, rfl, tl, te1, (by show 9 ≤ sizeLine; decide), ?_⟩
    have xb1 := eb_upd (ys := [V.non, V.ref p1, V.ref p2, V.ref p3, V.ref p7, V.ref p11, V.ref p17, V.ref p19, V.ref p24]) tl
    have tl : (upd H30 p18 (.lst [V.non, V.ref p1, V.ref p2, V.ref p3, V.ref p7, V.ref p11, V.ref p17, V.ref p19, V.ref p24])) p18 = some (.lst [V.non, V.ref p1, V.ref p2, V.ref p3, V.ref p7, V.ref p11, V.ref p17, V.ref p19, V.ref p24]) := upd_same
    show tSeq _ _ _ _ (upd H30 p18 (.lst [V.non, V.ref p1, V.ref p2, V.ref p3, V.ref p7, V.ref p11, V.ref p17, V.ref p19, V.ref p24]))
    try show tSeq _ _ _ _ (upd H30 p18 (.lst [V.non, V.ref p1, V.ref p2, V.ref p3, V.ref p7, V.ref p11, V.ref p17, V.ref p19, V.ref p24]))
    try show tRet _ _ _ (upd H30 p18 (.lst [V.non, V.ref p1, V.ref p2, V.ref p3, V.ref p7, V.ref p11, V.ref p17, V.ref p19, V.ref p24]))
    generalize upd H30 p18 (.lst [V.non, V.ref p1, V.ref p2, V.ref p3, V.ref p7, V.ref p11, V.ref p17, V.ref p19, V.ref p24]) = H31 at xb1 tl ⊢
    have tlS11 := tl
    refine ⟨_, rfl, .inl ⟨rfl, _, SqL.of tl⟩, ?_⟩
    refine fun p32 h32 => ?_
    have x32 := Ex.new (o := .dT []) h32
    have t32 : (upd H31 p32 (.dT [])) p32 = some (.dT []) := upd_same
    generalize upd H31 p32 (.dT []) = H32 at x32 t32 ⊢
    refine ⟨(by show 0 ≤ sizeLine; decide), fun p33 h33 => ?_⟩
    have x33 := Ex.new (o := .tup []) h33
    have t33 : (upd H32 p33 (.tup [])) p33 = some (.tup []) := upd_same
    generalize upd H32 p33 (.tup []) = H33 at x33 t33 ⊢
    refine ⟨(by show 1 ≤ sizeLine; decide), fun p34 h34 => ?_⟩
    have x34 := Ex.new (o := .tup [V.str "drawer"]) h34
    have t34 : (upd H33 p34 (.tup [V.str "drawer"])) p34 = some (.tup [V.str "drawer"]) := upd_same
    generalize upd H33 p34 (.tup [V.str "drawer"]) = H34 at x34 t34 ⊢
    refine ⟨(by show 1 ≤ sizeLine; decide), fun p35 h35 => ?_⟩
    have x35 := Ex.new (o := .tup [V.str "a"]) h35
    have t35 : (upd H34 p35 (.tup [V.str "a"])) p35 = some (.tup [V.str "a"]) := upd_same
    generalize upd H34 p35 (.tup [V.str "a"]) = H35 at x35 t35 ⊢
    refine ⟨(by show 3 ≤ sizeLine; decide), fun p36 h36 => ?_⟩
    have x36 := Ex.new (o := .tup [V.str "file", V.int 1000, V.str ""]) h36
    have t36 : (upd H35 p36 (.tup [V.str "file", V.int 1000, V.str ""])) p36 = some (.tup [V.str "file", V.int 1000, V.str ""]) := upd_same
    generalize upd H35 p36 (.tup [V.str "file", V.int 1000, V.str ""]) = H36 at x36 t36 ⊢
    have td9 := (((x33.trans x34).trans x35).trans x36).keep _ _ t32 (fun ps z => by cases z)
    have u33 := ((x34.trans x35).trans x36).keep _ _ t33 (fun ps z => by cases z)
    have u34 := (x35.trans x36).keep _ _ t34 (fun ps z => by cases z)
    have u35 := x36.keep _ _ t35 (fun ps z => by cases z)
    have u36 := t36
    refine ⟨td9, [(([] : List Str).map (Sum.inr : Str → L2.Key), V.ref p34), ((["a"] : List Str).map (Sum.inr : Str → L2.Key), V.ref p36)], .cons ⟨⟨p33, rfl, u33⟩, rfl⟩ (.cons ⟨⟨p35, rfl, u35⟩, rfl⟩ .nil), (by show 2 ≤ 15; decide), ?_⟩
    rw [merge2 (by decide +kernel)]
    have xi9 : Ex H31 (upd H36 p32 (.dT [(([] : List Str).map (Sum.inr : Str → L2.Key), V.ref p34), ((["a"] : List Str).map (Sum.inr : Str → L2.Key), V.ref p36)])) := (x32.trans (((x33.trans x34).trans x35).trans x36)).put h32
    have fd9 : (upd H36 p32 (.dT [(([] : List Str).map (Sum.inr : Str → L2.Key), V.ref p34), ((["a"] : List Str).map (Sum.inr : Str → L2.Key), V.ref p36)])) p32 = some (.dT [(([] : List Str).map (Sum.inr : Str → L2.Key), V.ref p34), ((["a"] : List Str).map (Sum.inr : Str → L2.Key), V.ref p36)]) := upd_same
    have g33 := mv_upd (u := .dT [(([] : List Str).map (Sum.inr : Str → L2.Key), V.ref p34), ((["a"] : List Str).map (Sum.inr : Str → L2.Key), V.ref p36)]) td9 (fun q => q) _ _ u33 trivial
    have g34 := mv_upd (u := .dT [(([] : List Str).map (Sum.inr : Str → L2.Key), V.ref p34), ((["a"] : List Str).map (Sum.inr : Str → L2.Key), V.ref p36)]) td9 (fun q => q) _ _ u34 trivial
    have g35 := mv_upd (u := .dT [(([] : List Str).map (Sum.inr : Str → L2.Key), V.ref p34), ((["a"] : List Str).map (Sum.inr : Str → L2.Key), V.ref p36)]) td9 (fun q => q) _ _ u35 trivial
    have g36 := mv_upd (u := .dT [(([] : List Str).map (Sum.inr : Str → L2.Key), V.ref p34), ((["a"] : List Str).map (Sum.inr : Str → L2.Key), V.ref p36)]) td9 (fun q => q) _ _ u36 trivial
    generalize upd H36 p32 (.dT [(([] : List Str).map (Sum.inr : Str → L2.Key), V.ref p34), ((["a"] : List Str).map (Sum.inr : Str → L2.Key), V.ref p36)]) = H37 at xi9 fd9 g33 g34 g35 g36 ⊢
    have tl := xi9.keep _ _ tl (fun ps z => by cases z)
    have tlS12 := tl
    refine ⟨p18, [V.non, V.ref p1, V.ref p2, V.ref p3, V.ref p7, V.ref p11, V.ref p17, V.ref p19, V.ref p24], V.ref p32, rfl, rfl, tl, (by show 9 < sizeLine; decide), ?_⟩
    have xb2 := eb_upd (ys := [V.non, V.ref p1, V.ref p2, V.ref p3, V.ref p7, V.ref p11, V.ref p17, V.ref p19, V.ref p24, V.ref p32]) tl
    have tl : (upd H37 p18 (.lst [V.non, V.ref p1, V.ref p2, V.ref p3, V.ref p7, V.ref p11, V.ref p17, V.ref p19, V.ref p24, V.ref p32])) p18 = some (.lst [V.non, V.ref p1, V.ref p2, V.ref p3, V.ref p7, V.ref p11, V.ref p17, V.ref p19, V.ref p24, V.ref p32]) := upd_same
    show tSeq _ _ _ _ (upd H37 p18 (.lst [V.non, V.ref p1, V.ref p2, V.ref p3, V.ref p7, V.ref p11, V.ref p17, V.ref p19, V.ref p24, V.ref p32]))
    try show tSeq _ _ _ _ (upd H37 p18 (.lst [V.non, V.ref p1, V.ref p2, V.ref p3, V.ref p7, V.ref p11, V.ref p17, V.ref p19, V.ref p24, V.ref p32]))
    try show tRet _ _ _ (upd H37 p18 (.lst [V.non, V.ref p1, V.ref p2, V.ref p3, V.ref p7, V.ref p11, V.ref p17, V.ref p19, V.ref p24, V.ref p32]))
    generalize upd H37 p18 (.lst [V.non, V.ref p1, V.ref p2, V.ref p3, V.ref p7, V.ref p11, V.ref p17, V.ref p19, V.ref p24, V.ref p32]) = H38 at xb2 tl ⊢
    have tlS13 := tl
    refine ⟨_, rfl, .inl ⟨rfl, _, SqL.of tl⟩, ?_⟩
    refine fun p39 h39 => ?_
    have x39 := Ex.new (o := .dT []) h39
    have t39 : (upd H38 p39 (.dT [])) p39 = some (.dT []) := upd_same
    generalize upd H38 p39 (.dT []) = H39 at x39 t39 ⊢
    refine ⟨(by show 0 ≤ sizeLine; decide), fun p40 h40 => ?_⟩
    have x40 := Ex.new (o := .tup []) h40
    have t40 : (upd H39 p40 (.tup [])) p40 = some (.tup []) := upd_same
    generalize upd H39 p40 (.tup []) = H40 at x40 t40 ⊢
    refine ⟨(by show 1 ≤ sizeLine; decide), fun p41 h41 => ?_⟩
    have x41 := Ex.new (o := .tup [V.str "drawer"]) h41
    have t41 : (upd H40 p41 (.tup [V.str "drawer"])) p41 = some (.tup [V.str "drawer"]) := upd_same
    generalize upd H40 p41 (.tup [V.str "drawer"]) = H41 at x41 t41 ⊢
    refine ⟨(by show 1 ≤ sizeLine; decide), fun p42 h42 => ?_⟩
    have x42 := Ex.new (o := .tup [V.str "a"]) h42
    have t42 : (upd H41 p42 (.tup [V.str "a"])) p42 = some (.tup [V.str "a"]) := upd_same
    generalize upd H41 p42 (.tup [V.str "a"]) = H42 at x42 t42 ⊢
    refine ⟨(by show 3 ≤ sizeLine; decide), fun p43 h43 => ?_⟩
    have x43 := Ex.new (o := .tup [V.str "file", V.int 0, V.str "x"]) h43
    have t43 : (upd H42 p43 (.tup [V.str "file", V.int 0, V.str "x"])) p43 = some (.tup [V.str "file", V.int 0, V.str "x"]) := upd_same
    generalize upd H42 p43 (.tup [V.str "file", V.int 0, V.str "x"]) = H43 at x43 t43 ⊢
    refine ⟨(by show 1 ≤ sizeLine; decide), fun p44 h44 => ?_⟩
    have x44 := Ex.new (o := .tup [V.str "b"]) h44
    have t44 : (upd H43 p44 (.tup [V.str "b"])) p44 = some (.tup [V.str "b"]) := upd_same
    generalize upd H43 p44 (.tup [V.str "b"]) = H44 at x44 t44 ⊢
    refine ⟨(by show 3 ≤ sizeLine; decide), fun p45 h45 => ?_⟩
    have x45 := Ex.new (o := .tup [V.str "file", V.int 0, V.str "y"]) h45
    have t45 : (upd H44 p45 (.tup [V.str "file", V.int 0, V.str "y"])) p45 = some (.tup [V.str "file", V.int 0, V.str "y"]) := upd_same
    generalize upd H44 p45 (.tup [V.str "file", V.int 0, V.str "y"]) = H45 at x45 t45 ⊢
    have td10 := (((((x40.trans x41).trans x42).trans x43).trans x44).trans x45).keep _ _ t39 (fun ps z => by cases z)
    have u40 := ((((x41.trans x42).trans x43).trans x44).trans x45).keep _ _ t40 (fun ps z => by cases z)
    have u41 := (((x42.trans x43).trans x44).trans x45).keep _ _ t41 (fun ps z => by cases z)
    have u42 := ((x43.trans x44).trans x45).keep _ _ t42 (fun ps z => by cases z)
    have u43 := (x44.trans x45).keep _ _ t43 (fun ps z => by cases z)
    have u44 := x45.keep _ _ t44 (fun ps z => by cases z)
    have u45 := t45
    refine ⟨td10, [(([] : List Str).map (Sum.inr : Str → L2.Key), V.ref p41), ((["a"] : List Str).map (Sum.inr : Str → L2.Key), V.ref p43), ((["b"] : List Str).map (Sum.inr : Str → L2.Key), V.ref p45)], .cons ⟨⟨p40, rfl, u40⟩, rfl⟩ (.cons ⟨⟨p42, rfl, u42⟩, rfl⟩ (.cons ⟨⟨p44, rfl, u44⟩, rfl⟩ .nil)), (by show 3 ≤ 15; decide), ?_⟩
    rw [merge3 (by decide +kernel) (by decide +kernel) (by decide +kernel)]
    have xi10 : Ex H38 (upd H45 p39 (.dT [(([] : List Str).map (Sum.inr : Str → L2.Key), V.ref p41), ((["a"] : List Str).map (Sum.inr : Str → L2.Key), V.ref p43), ((["b"] : List Str).map (Sum.inr : Str → L2.Key), V.ref p45)])) := (x39.trans (((((x40.trans x41).trans x42).trans x43).trans x44).trans x45)).put h39
    have fd10 : (upd H45 p39 (.dT [(([] : List Str).map (Sum.inr : Str → L2.Key), V.ref p41), ((["a"] : List Str).map (Sum.inr : Str → L2.Key), V.ref p43), ((["b"] : List Str).map (Sum.inr : Str → L2.Key), V.ref p45)])) p39 = some (.dT [(([] : List Str).map (Sum.inr : Str → L2.Key), V.ref p41), ((["a"] : List Str).map (Sum.inr : Str → L2.Key), V.ref p43), ((["b"] : List Str).map (Sum.inr : Str → L2.Key), V.ref p45)]) := upd_same
    have g40 := mv_upd (u := .dT [(([] : List Str).map (Sum.inr : Str → L2.Key), V.ref p41), ((["a"] : List Str).map (Sum.inr : Str → L2.Key), V.ref p43), ((["b"] : List Str).map (Sum.inr : Str → L2.Key), V.ref p45)]) td10 (fun q => q) _ _ u40 trivial
    have g41 := mv_upd (u := .dT [(([] : List Str).map (Sum.inr : Str → L2.Key), V.ref p41), ((["a"] : List Str).map (Sum.inr : Str → L2.Key), V.ref p43), ((["b"] : List Str).map (Sum.inr : Str → L2.Key), V.ref p45)]) td10 (fun q => q) _ _ u41 trivial
    have g42 := mv_upd (u := .dT [(([] : List Str).map (Sum.inr : Str → L2.Key), V.ref p41), ((["a"] : List Str).map (Sum.inr : Str → L2.Key), V.ref p43), ((["b"] : List Str).map (Sum.inr : Str → L2.Key), V.ref p45)]) td10 (fun q => q) _ _ u42 trivial
    have g43 := mv_upd (u := .dT [(([] : List Str).map (Sum.inr : Str → L2.Key), V.ref p41), ((["a"] : List Str).map (Sum.inr : Str → L2.Key), V.ref p43), ((["b"] : List Str).map (Sum.inr : Str → L2.Key), V.ref p45)]) td10 (fun q => q) _ _ u43 trivial
    have g44 := mv_upd (u := .dT [(([] : List Str).map (Sum.inr : Str → L2.Key), V.ref p41), ((["a"] : List Str).map (Sum.inr : Str → L2.Key), V.ref p43), ((["b"] : List Str).map (Sum.inr : Str → L2.Key), V.ref p45)]) td10 (fun q => q) _ _ u44 trivial
    have g45 := mv_upd (u := .dT [(([] : List Str).map (Sum.inr : Str → L2.Key), V.ref p41), ((["a"] : List Str).map (Sum.inr : Str → L2.Key), V.ref p43), ((["b"] : List Str).map (Sum.inr : Str → L2.Key), V.ref p45)]) td10 (fun q => q) _ _ u45 trivial
    generalize upd H45 p39 (.dT [(([] : List Str).map (Sum.inr : Str → L2.Key), V.ref p41), ((["a"] : List Str).map (Sum.inr : Str → L2.Key), V.ref p43), ((["b"] : List Str).map (Sum.inr : Str → L2.Key), V.ref p45)]) = H46 at xi10 fd10 g40 g41 g42 g43 g44 g45 ⊢
    have tl := xi10.keep _ _ tl (fun ps z => by cases z)
    have tlS14 := tl
    refine ⟨p18, [V.non, V.ref p1, V.ref p2, V.ref p3, V.ref p7, V.ref p11, V.ref p17, V.ref p19, V.ref p24, V.ref p32], V.ref p39, rfl, rfl, tl, (by show 10 < sizeLine; decide), ?_⟩
    have xb3 := eb_upd (ys := [V.non, V.ref p1, V.ref p2, V.ref p3, V.ref p7, V.ref p11, V.ref p17, V.ref p19, V.ref p24, V.ref p32, V.ref p39]) tl
    have tl : (upd H46 p18 (.lst [V.non, V.ref p1, V.ref p2, V.ref p3, V.ref p7, V.ref p11, V.ref p17, V.ref p19, V.ref p24, V.ref p32, V.ref p39])) p18 = some (.lst [V.non, V.ref p1, V.ref p2, V.ref p3, V.ref p7, V.ref p11, V.ref p17, V.ref p19, V.ref p24, V.ref p32, V.ref p39]) := upd_same
    show tSeq _ _ _ _ (upd H46 p18 (.lst [V.non, V.ref p1, V.ref p2, V.ref p3, V.ref p7, V.ref p11, V.ref p17, V.ref p19, V.ref p24, V.ref p32, V.ref p39]))
    try show tSeq _ _ _ _ (upd H46 p18 (.lst [V.non, V.ref p1, V.ref p2, V.ref p3, V.ref p7, V.ref p11, V.ref p17, V.ref p19, V.ref p24, V.ref p32, V.ref p39]))
    try show tRet _ _ _ (upd H46 p18 (.lst [V.non, V.ref p1, V.ref p2, V.ref p3, V.ref p7, V.ref p11, V.ref p17, V.ref p19, V.ref p24, V.ref p32, V.ref p39]))
    generalize upd H46 p18 (.lst [V.non, V.ref p1, V.ref p2, V.ref p3, V.ref p7, V.ref p11, V.ref p17, V.ref p19, V.ref p24, V.ref p32, V.ref p39]) = H47 at xb3 tl ⊢
    have tlS15 := tl
    refine ⟨_, rfl, .inl ⟨rfl, _, SqL.of tl⟩, ?_⟩
    refine fun p48 h48 => ?_
    have x48 := Ex.new (o := .dT []) h48
    have t48 : (upd H47 p48 (.dT [])) p48 = some (.dT []) := upd_same
    generalize upd H47 p48 (.dT []) = H48 at x48 t48 ⊢
    refine ⟨(by show 0 ≤ sizeLine; decide), fun p49 h49 => ?_⟩
    have x49 := Ex.new (o := .tup []) h49
    have t49 : (upd H48 p49 (.tup [])) p49 = some (.tup []) := upd_same
    generalize upd H48 p49 (.tup []) = H49 at x49 t49 ⊢
    refine ⟨(by show 1 ≤ sizeLine; decide), fun p50 h50 => ?_⟩
    have x50 := Ex.new (o := .tup [V.str "drawer"]) h50
    have t50 : (upd H49 p50 (.tup [V.str "drawer"])) p50 = some (.tup [V.str "drawer"]) := upd_same
    generalize upd H49 p50 (.tup [V.str "drawer"]) = H50 at x50 t50 ⊢
    refine ⟨(by show 1 ≤ sizeLine; decide), fun p51 h51 => ?_⟩
    have x51 := Ex.new (o := .tup [V.str "a"]) h51
    have t51 : (upd H50 p51 (.tup [V.str "a"])) p51 = some (.tup [V.str "a"]) := upd_same
    generalize upd H50 p51 (.tup [V.str "a"]) = H51 at x51 t51 ⊢
    refine ⟨(by show 3 ≤ sizeLine; decide), fun p52 h52 => ?_⟩
    have x52 := Ex.new (o := .tup [V.str "file", V.int 0, V.str "x"]) h52
    have t52 : (upd H51 p52 (.tup [V.str "file", V.int 0, V.str "x"])) p52 = some (.tup [V.str "file", V.int 0, V.str "x"]) := upd_same
    generalize upd H51 p52 (.tup [V.str "file", V.int 0, V.str "x"]) = H52 at x52 t52 ⊢
    refine ⟨(by show 2 ≤ sizeLine; decide), fun p53 h53 => ?_⟩
    have x53 := Ex.new (o := .tup [V.str "a", V.str "b"]) h53
    have t53 : (upd H52 p53 (.tup [V.str "a", V.str "b"])) p53 = some (.tup [V.str "a", V.str "b"]) := upd_same
    generalize upd H52 p53 (.tup [V.str "a", V.str "b"]) = H53 at x53 t53 ⊢
    refine ⟨(by show 1 ≤ sizeLine; decide), fun p54 h54 => ?_⟩
    have x54 := Ex.new (o := .tup [V.str "drawer"]) h54
    have t54 : (upd H53 p54 (.tup [V.str "drawer"])) p54 = some (.tup [V.str "drawer"]) := upd_same
    generalize upd H53 p54 (.tup [V.str "drawer"]) = H54 at x54 t54 ⊢
    have td11 := (((((x49.trans x50).trans x51).trans x52).trans x53).trans x54).keep _ _ t48 (fun ps z => by cases z)
    have u49 := ((((x50.trans x51).trans x52).trans x53).trans x54).keep _ _ t49 (fun ps z => by cases z)
    have u50 := (((x51.trans x52).trans x53).trans x54).keep _ _ t50 (fun ps z => by cases z)
    have u51 := ((x52.trans x53).trans x54).keep _ _ t51 (fun ps z => by cases z)
    have u52 := (x53.trans x54).keep _ _ t52 (fun ps z => by cases z)
    have u53 := x54.keep _ _ t53 (fun ps z => by cases z)
    have u54 := t54
    refine ⟨td11, [(([] : List Str).map (Sum.inr : Str → L2.Key), V.ref p50), ((["a"] : List Str).map (Sum.inr : Str → L2.Key), V.ref p52), ((["a", "b"] : List Str).map (Sum.inr : Str → L2.Key), V.ref p54)], .cons ⟨⟨p49, rfl, u49⟩, rfl⟩ (.cons ⟨⟨p51, rfl, u51⟩, rfl⟩ (.cons ⟨⟨p53, rfl, u53⟩, rfl⟩ .nil)), (by show 3 ≤ 15; decide), ?_⟩
    rw [merge3 (by decide +kernel) (by decide +kernel) (by decide +kernel)]
    have xi11 : Ex H47 (upd H54 p48 (.dT [(([] : List Str).map (Sum.inr : Str → L2.Key), V.ref p50), ((["a"] : List Str).map (Sum.inr : Str → L2.Key), V.ref p52), ((["a", "b"] : List Str).map (Sum.inr : Str → L2.Key), V.ref p54)])) := (x48.trans (((((x49.trans x50).trans x51).trans x52).trans x53).trans x54)).put h48
    have fd11 : (upd H54 p48 (.dT [(([] : List Str).map (Sum.inr : Str → L2.Key), V.ref p50), ((["a"] : List Str).map (Sum.inr : Str → L2.Key), V.ref p52), ((["a", "b"] : List Str).map (Sum.inr : Str → L2.Key), V.ref p54)])) p48 = some (.dT [(([] : List Str).map (Sum.inr : Str → L2.Key), V.ref p50), ((["a"] : List Str).map (Sum.inr : Str → L2.Key), V.ref p52), ((["a", "b"] : List Str).map (Sum.inr : Str → L2.Key), V.ref p54)]) := upd_same
    have g49 := mv_upd (u := .dT [(([] : List Str).map (Sum.inr : Str → L2.Key), V.ref p50), ((["a"] : List Str).map (Sum.inr : Str → L2.Key), V.ref p52), ((["a", "b"] : List Str).map (Sum.inr : Str → L2.Key), V.ref p54)]) td11 (fun q => q) _ _ u49 trivial
    have g50 := mv_upd (u := .dT [(([] : List Str).map (Sum.inr : Str → L2.Key), V.ref p50), ((["a"] : List Str).map (Sum.inr : Str → L2.Key), V.ref p52), ((["a", "b"] : List Str).map (Sum.inr : Str → L2.Key), V.ref p54)]) td11 (fun q => q) _ _ u50 trivial
    have g51 := mv_upd (u := .dT [(([] : List Str).map (Sum.inr : Str → L2.Key), V.ref p50), ((["a"] : List Str).map (Sum.inr : Str → L2.Key), V.ref p52), ((["a", "b"] : List Str).map (Sum.inr : Str → L2.Key), V.ref p54)]) td11 (fun q => q) _ _ u51 trivial
    have g52 := mv_upd (u := .dT [(([] : List Str).map (Sum.inr : Str → L2.Key), V.ref p50), ((["a"] : List Str).map (Sum.inr : Str → L2.Key), V.ref p52), ((["a", "b"] : List Str).map (Sum.inr : Str → L2.Key), V.ref p54)]) td11 (fun q => q) _ _ u52 trivial
    have g53 := mv_upd (u := .dT [(([] : List Str).map (Sum.inr : Str → L2.Key), V.ref p50), ((["a"] : List Str).map (Sum.inr : Str → L2.Key), V.ref p52), ((["a", "b"] : List Str).map (Sum.inr : Str → L2.Key), V.ref p54)]) td11 (fun q => q) _ _ u53 trivial
    have g54 := mv_upd (u := .dT [(([] : List Str).map (Sum.inr : Str → L2.Key), V.ref p50), ((["a"] : List Str).map (Sum.inr : Str → L2.Key), V.ref p52), ((["a", "b"] : List Str).map (Sum.inr : Str → L2.Key), V.ref p54)]) td11 (fun q => q) _ _ u54 trivial
    generalize upd H54 p48 (.dT [(([] : List Str).map (Sum.inr : Str → L2.Key), V.ref p50), ((["a"] : List Str).map (Sum.inr : Str → L2.Key), V.ref p52), ((["a", "b"] : List Str).map (Sum.inr : Str → L2.Key), V.ref p54)]) = H55 at xi11 fd11 g49 g50 g51 g52 g53 g54 ⊢
    have tl := xi11.keep _ _ tl (fun ps z => by cases z)
    have tlS16 := tl
    refine ⟨p18, [V.non, V.ref p1, V.ref p2, V.ref p3, V.ref p7, V.ref p11, V.ref p17, V.ref p19, V.ref p24, V.ref p32, V.ref p39], V.ref p48, rfl, rfl, tl, (by show 11 < sizeLine; decide), ?_⟩
    have xb4 := eb_upd (ys := [V.non, V.ref p1, V.ref p2, V.ref p3, V.ref p7, V.ref p11, V.ref p17, V.ref p19, V.ref p24, V.ref p32, V.ref p39, V.ref p48]) tl
    have tl : (upd H55 p18 (.lst [V.non, V.ref p1, V.ref p2, V.ref p3, V.ref p7, V.ref p11, V.ref p17, V.ref p19, V.ref p24, V.ref p32, V.ref p39, V.ref p48])) p18 = some (.lst [V.non, V.ref p1, V.ref p2, V.ref p3, V.ref p7, V.ref p11, V.ref p17, V.ref p19, V.ref p24, V.ref p32, V.ref p39, V.ref p48]) := upd_same
    show tSeq _ _ _ _ (upd H55 p18 (.lst [V.non, V.ref p1, V.ref p2, V.ref p3, V.ref p7, V.ref p11, V.ref p17, V.ref p19, V.ref p24, V.ref p32, V.ref p39, V.ref p48]))
    try show tSeq _ _ _ _ (upd H55 p18 (.lst [V.non, V.ref p1, V.ref p2, V.ref p3, V.ref p7, V.ref p11, V.ref p17, V.ref p19, V.ref p24, V.ref p32, V.ref p39, V.ref p48]))
    try show tRet _ _ _ (upd H55 p18 (.lst [V.non, V.ref p1, V.ref p2, V.ref p3, V.ref p7, V.ref p11, V.ref p17, V.ref p19, V.ref p24, V.ref p32, V.ref p39, V.ref p48]))
    generalize upd H55 p18 (.lst [V.non, V.ref p1, V.ref p2, V.ref p3, V.ref p7, V.ref p11, V.ref p17, V.ref p19, V.ref p24, V.ref p32, V.ref p39, V.ref p48]) = H56 at xb4 tl ⊢
    have tlS17 := tl
    refine ⟨_, rfl, .inl ⟨rfl, _, SqL.of tl⟩, ?_⟩
    refine fun p57 h57 => ?_
    have x57 := Ex.new (o := .dT []) h57
    have t57 : (upd H56 p57 (.dT [])) p57 = some (.dT []) := upd_same
    generalize upd H56 p57 (.dT []) = H57 at x57 t57 ⊢
    refine ⟨(by show 0 ≤ sizeLine; decide), fun p58 h58 => ?_⟩
    have x58 := Ex.new (o := .tup []) h58
    have t58 : (upd H57 p58 (.tup [])) p58 = some (.tup []) := upd_same
    generalize upd H57 p58 (.tup []) = H58 at x58 t58 ⊢
    refine ⟨(by show 1 ≤ sizeLine; decide), fun p59 h59 => ?_⟩
    have x59 := Ex.new (o := .tup [V.str "drawer"]) h59
    have t59 : (upd H58 p59 (.tup [V.str "drawer"])) p59 = some (.tup [V.str "drawer"]) := upd_same
    generalize upd H58 p59 (.tup [V.str "drawer"]) = H59 at x59 t59 ⊢
    refine ⟨(by show 1 ≤ sizeLine; decide), fun p60 h60 => ?_⟩
    have x60 := Ex.new (o := .tup [V.str "a"]) h60
    have t60 : (upd H59 p60 (.tup [V.str "a"])) p60 = some (.tup [V.str "a"]) := upd_same
    generalize upd H59 p60 (.tup [V.str "a"]) = H60 at x60 t60 ⊢
    refine ⟨(by show 1 ≤ sizeLine; decide), fun p61 h61 => ?_⟩
    have x61 := Ex.new (o := .tup [V.str "gone"]) h61
    have t61 : (upd H60 p61 (.tup [V.str "gone"])) p61 = some (.tup [V.str "gone"]) := upd_same
    generalize upd H60 p61 (.tup [V.str "gone"]) = H61 at x61 t61 ⊢
    have td12 := (((x58.trans x59).trans x60).trans x61).keep _ _ t57 (fun ps z => by cases z)
    have u58 := ((x59.trans x60).trans x61).keep _ _ t58 (fun ps z => by cases z)
    have u59 := (x60.trans x61).keep _ _ t59 (fun ps z => by cases z)
    have u60 := x61.keep _ _ t60 (fun ps z => by cases z)
    have u61 := t61
    refine ⟨td12, [(([] : List Str).map (Sum.inr : Str → L2.Key), V.ref p59), ((["a"] : List Str).map (Sum.inr : Str → L2.Key), V.ref p61)], .cons ⟨⟨p58, rfl, u58⟩, rfl⟩ (.cons ⟨⟨p60, rfl, u60⟩, rfl⟩ .nil), (by show 2 ≤ 15; decide), ?_⟩
    rw [merge2 (by decide +kernel)]
    have xi12 : Ex H56 (upd H61 p57 (.dT [(([] : List Str).map (Sum.inr : Str → L2.Key), V.ref p59), ((["a"] : List Str).map (Sum.inr : Str → L2.Key), V.ref p61)])) := (x57.trans (((x58.trans x59).trans x60).trans x61)).put h57
    have fd12 : (upd H61 p57 (.dT [(([] : List Str).map (Sum.inr : Str → L2.Key), V.ref p59), ((["a"] : List Str).map (Sum.inr : Str → L2.Key), V.ref p61)])) p57 = some (.dT [(([] : List Str).map (Sum.inr : Str → L2.Key), V.ref p59), ((["a"] : List Str).map (Sum.inr : Str → L2.Key), V.ref p61)]) := upd_same
    have g58 := mv_upd (u := .dT [(([] : List Str).map (Sum.inr : Str → L2.Key), V.ref p59), ((["a"] : List Str).map (Sum.inr : Str → L2.Key), V.ref p61)]) td12 (fun q => q) _ _ u58 trivial
    have g59 := mv_upd (u := .dT [(([] : List Str).map (Sum.inr : Str → L2.Key), V.ref p59), ((["a"] : List Str).map (Sum.inr : Str → L2.Key), V.ref p61)]) td12 (fun q => q) _ _ u59 trivial
    have g60 := mv_upd (u := .dT [(([] : List Str).map (Sum.inr : Str → L2.Key), V.ref p59), ((["a"] : List Str).map (Sum.inr : Str → L2.Key), V.ref p61)]) td12 (fun q => q) _ _ u60 trivial
    have g61 := mv_upd (u := .dT [(([] : List Str).map (Sum.inr : Str → L2.Key), V.ref p59), ((["a"] : List Str).map (Sum.inr : Str → L2.Key), V.ref p61)]) td12 (fun q => q) _ _ u61 trivial
    generalize upd H61 p57 (.dT [(([] : List Str).map (Sum.inr : Str → L2.Key), V.ref p59), ((["a"] : List Str).map (Sum.inr : Str → L2.Key), V.ref p61)]) = H62 at xi12 fd12 g58 g59 g60 g61 ⊢
    have tl := xi12.keep _ _ tl (fun ps z => by cases z)
    have tlS18 := tl
    refine fun p63 h63 => ?_
    have x63 := Ex.new (o := .dT []) h63
    have t63 : (upd H62 p63 (.dT [])) p63 = some (.dT []) := upd_same
    generalize upd H62 p63 (.dT []) = H63 at x63 t63 ⊢
    refine ⟨(by show 0 ≤ sizeLine; decide), fun p64 h64 => ?_⟩
    have x64 := Ex.new (o := .tup []) h64
    have t64 : (upd H63 p64 (.tup [])) p64 = some (.tup []) := upd_same
    generalize upd H63 p64 (.tup []) = H64 at x64 t64 ⊢
    refine ⟨(by show 1 ≤ sizeLine; decide), fun p65 h65 => ?_⟩
    have x65 := Ex.new (o := .tup [V.str "drawer"]) h65
    have t65 : (upd H64 p65 (.tup [V.str "drawer"])) p65 = some (.tup [V.str "drawer"]) := upd_same
    generalize upd H64 p65 (.tup [V.str "drawer"]) = H65 at x65 t65 ⊢
    refine ⟨(by show 1 ≤ sizeLine; decide), fun p66 h66 => ?_⟩
    have x66 := Ex.new (o := .tup [V.str "a"]) h66
    have t66 : (upd H65 p66 (.tup [V.str "a"])) p66 = some (.tup [V.str "a"]) := upd_same
    generalize upd H65 p66 (.tup [V.str "a"]) = H66 at x66 t66 ⊢
    refine ⟨(by show 1 ≤ sizeLine; decide), fun p67 h67 => ?_⟩
    have x67 := Ex.new (o := .lst [V.str "drawer"]) h67
    have t67 : (upd H66 p67 (.lst [V.str "drawer"])) p67 = some (.lst [V.str "drawer"]) := upd_same
    generalize upd H66 p67 (.lst [V.str "drawer"]) = H67 at x67 t67 ⊢
    have td13 := (((x64.trans x65).trans x66).trans x67).keep _ _ t63 (fun ps z => by cases z)
    have u64 := ((x65.trans x66).trans x67).keep _ _ t64 (fun ps z => by cases z)
    have u65 := (x66.trans x67).keep _ _ t65 (fun ps z => by cases z)
    have u66 := x67.keep _ _ t66 (fun ps z => by cases z)
    have u67 := t67
    refine ⟨td13, [(([] : List Str).map (Sum.inr : Str → L2.Key), V.ref p65), ((["a"] : List Str).map (Sum.inr : Str → L2.Key), V.ref p67)], .cons ⟨⟨p64, rfl, u64⟩, rfl⟩ (.cons ⟨⟨p66, rfl, u66⟩, rfl⟩ .nil), (by show 2 ≤ 15; decide), ?_⟩
    rw [merge2 (by decide +kernel)]
    have xi13 : Ex H62 (upd H67 p63 (.dT [(([] : List Str).map (Sum.inr : Str → L2.Key), V.ref p65), ((["a"] : List Str).map (Sum.inr : Str → L2.Key), V.ref p67)])) := (x63.trans (((x64.trans x65).trans x66).trans x67)).put h63
    have fd13 : (upd H67 p63 (.dT [(([] : List Str).map (Sum.inr : Str → L2.Key), V.ref p65), ((["a"] : List Str).map (Sum.inr : Str → L2.Key), V.ref p67)])) p63 = some (.dT [(([] : List Str).map (Sum.inr : Str → L2.Key), V.ref p65), ((["a"] : List Str).map (Sum.inr : Str → L2.Key), V.ref p67)]) := upd_same
    have g64 := mv_upd (u := .dT [(([] : List Str).map (Sum.inr : Str → L2.Key), V.ref p65), ((["a"] : List Str).map (Sum.inr : Str → L2.Key), V.ref p67)]) td13 (fun q => q) _ _ u64 trivial
    have g65 := mv_upd (u := .dT [(([] : List Str).map (Sum.inr : Str → L2.Key), V.ref p65), ((["a"] : List Str).map (Sum.inr : Str → L2.Key), V.ref p67)]) td13 (fun q => q) _ _ u65 trivial
    have g66 := mv_upd (u := .dT [(([] : List Str).map (Sum.inr : Str → L2.Key), V.ref p65), ((["a"] : List Str).map (Sum.inr : Str → L2.Key), V.ref p67)]) td13 (fun q => q) _ _ u66 trivial
    have g67 := mv_upd (u := .dT [(([] : List Str).map (Sum.inr : Str → L2.Key), V.ref p65), ((["a"] : List Str).map (Sum.inr : Str → L2.Key), V.ref p67)]) td13 (fun q => q) _ _ u67 trivial
    generalize upd H67 p63 (.dT [(([] : List Str).map (Sum.inr : Str → L2.Key), V.ref p65), ((["a"] : List Str).map (Sum.inr : Str → L2.Key), V.ref p67)]) = H68 at xi13 fd13 g64 g65 g66 g67 ⊢
    have tl := xi13.keep _ _ tl (fun ps z => by cases z)
    have tlS19 := tl
    refine ⟨(by show 3 ≤ sizeLine; decide), fun p69 h69 => ?_⟩
    have xe5 := Ex.new (o := .lst [V.ref p57, V.ref p63, V.str "tree"]) h69
    have te5 : (upd H68 p69 (.lst [V.ref p57, V.ref p63, V.str "tree"])) p69 = some (.lst [V.ref p57, V.ref p63, V.str "tree"]) := upd_same
    have tl := xe5.keep _ _ tl (fun ps z => by cases z)
    generalize upd H68 p69 (.lst [V.ref p57, V.ref p63, V.str "tree"]) = H69 at xe5 te5 tl ⊢
    refine ⟨p18, p69, [V.non, V.ref p1, V.ref p2, V.ref p3, V.ref p7, V.ref p11, V.ref p17, V.ref p19, V.ref p24, V.ref p32, V.ref p39, V.ref p48], [V.ref p57, V.ref p63, V.str "tree"], rfl, rfl, tl, te5, (by show 15 ≤ sizeLine; decide), ?_⟩
    have xb5 := eb_upd (ys := [V.non, V.ref p1, V.ref p2, V.ref p3, V.ref p7, V.ref p11, V.ref p17, V.ref p19, V.ref p24, V.ref p32, V.ref p39, V.ref p48, V.ref p57, V.ref p63, V.str "tree"]) tl
    have tl : (upd H69 p18 (.lst [V.non, V.ref p1, V.ref p2, V.ref p3, V.ref p7, V.ref p11, V.ref p17, V.ref p19, V.ref p24, V.ref p32, V.ref p39, V.ref p48, V.ref p57, V.ref p63, V.str "tree"])) p18 = some (.lst [V.non, V.ref p1, V.ref p2, V.ref p3, V.ref p7, V.ref p11, V.ref p17, V.ref p19, V.ref p24, V.ref p32, V.ref p39, V.ref p48, V.ref p57, V.ref p63, V.str "tree"]) := upd_same
    show tSeq _ _ _ _ (upd H69 p18 (.lst [V.non, V.ref p1, V.ref p2, V.ref p3, V.ref p7, V.ref p11, V.ref p17, V.ref p19, V.ref p24, V.ref p32, V.ref p39, V.ref p48, V.ref p57, V.ref p63, V.str "tree"]))
    try show tSeq _ _ _ _ (upd H69 p18 (.lst [V.non, V.ref p1, V.ref p2, V.ref p3, V.ref p7, V.ref p11, V.ref p17, V.ref p19, V.ref p24, V.ref p32, V.ref p39, V.ref p48, V.ref p57, V.ref p63, V.str "tree"]))
    try show tRet _ _ _ (upd H69 p18 (.lst [V.non, V.ref p1, V.ref p2, V.ref p3, V.ref p7, V.ref p11, V.ref p17, V.ref p19, V.ref p24, V.ref p32, V.ref p39, V.ref p48, V.ref p57, V.ref p63, V.str "tree"]))
    generalize upd H69 p18 (.lst [V.non, V.ref p1, V.ref p2, V.ref p3, V.ref p7, V.ref p11, V.ref p17, V.ref p19, V.ref p24, V.ref p32, V.ref p39, V.ref p48, V.ref p57, V.ref p63, V.str "tree"]) = H70 at xb5 tl ⊢
    have tlS21 := tl
    refine ⟨_, rfl, .inl ⟨rfl, _, SqL.of tl⟩, ?_⟩
    refine fun p71 h71 => ?_
    have x71 := Ex.new (o := .dT []) h71
    have t71 : (upd H70 p71 (.dT [])) p71 = some (.dT []) := upd_same
    generalize upd H70 p71 (.dT []) = H71 at x71 t71 ⊢
    refine ⟨(by show 0 ≤ sizeLine; decide), fun p72 h72 => ?_⟩
    have x72 := Ex.new (o := .tup []) h72
    have t72 : (upd H71 p72 (.tup [])) p72 = some (.tup []) := upd_same
    generalize upd H71 p72 (.tup []) = H72 at x72 t72 ⊢
    refine ⟨(by show 1 ≤ sizeLine; decide), fun p73 h73 => ?_⟩
    have x73 := Ex.new (o := .tup [V.str "drawer"]) h73
    have t73 : (upd H72 p73 (.tup [V.str "drawer"])) p73 = some (.tup [V.str "drawer"]) := upd_same
    generalize upd H72 p73 (.tup [V.str "drawer"]) = H73 at x73 t73 ⊢
    refine ⟨(by show 1 ≤ sizeLine; decide), fun p74 h74 => ?_⟩
    have x74 := Ex.new (o := .tup [V.str "a"]) h74
    have t74 : (upd H73 p74 (.tup [V.str "a"])) p74 = some (.tup [V.str "a"]) := upd_same
    generalize upd H73 p74 (.tup [V.str "a"]) = H74 at x74 t74 ⊢
    refine ⟨(by show 3 ≤ sizeLine; decide), fun p75 h75 => ?_⟩
    have x75 := Ex.new (o := .tup [V.str "file", V.bl true, V.str ""]) h75
    have t75 : (upd H74 p75 (.tup [V.str "file", V.bl true, V.str ""])) p75 = some (.tup [V.str "file", V.bl true, V.str ""]) := upd_same
    generalize upd H74 p75 (.tup [V.str "file", V.bl true, V.str ""]) = H75 at x75 t75 ⊢
    have td15 := (((x72.trans x73).trans x74).trans x75).keep _ _ t71 (fun ps z => by cases z)
    have u72 := ((x73.trans x74).trans x75).keep _ _ t72 (fun ps z => by cases z)
    have u73 := (x74.trans x75).keep _ _ t73 (fun ps z => by cases z)
    have u74 := x75.keep _ _ t74 (fun ps z => by cases z)
    have u75 := t75
    refine ⟨td15, [(([] : List Str).map (Sum.inr : Str → L2.Key), V.ref p73), ((["a"] : List Str).map (Sum.inr : Str → L2.Key), V.ref p75)], .cons ⟨⟨p72, rfl, u72⟩, rfl⟩ (.cons ⟨⟨p74, rfl, u74⟩, rfl⟩ .nil), (by show 2 ≤ 15; decide), ?_⟩
    rw [merge2 (by decide +kernel)]
    have xi15 : Ex H70 (upd H75 p71 (.dT [(([] : List Str).map (Sum.inr : Str → L2.Key), V.ref p73), ((["a"] : List Str).map (Sum.inr : Str → L2.Key), V.ref p75)])) := (x71.trans (((x72.trans x73).trans x74).trans x75)).put h71
    have fd15 : (upd H75 p71 (.dT [(([] : List Str).map (Sum.inr : Str → L2.Key), V.ref p73), ((["a"] : List Str).map (Sum.inr : Str → L2.Key), V.ref p75)])) p71 = some (.dT [(([] : List Str).map (Sum.inr : Str → L2.Key), V.ref p73), ((["a"] : List Str).map (Sum.inr : Str → L2.Key), V.ref p75)]) := upd_same
    have g72 := mv_upd (u := .dT [(([] : List Str).map (Sum.inr : Str → L2.Key), V.ref p73), ((["a"] : List Str).map (Sum.inr : Str → L2.Key), V.ref p75)]) td15 (fun q => q) _ _ u72 trivial
    have g73 := mv_upd (u := .dT [(([] : List Str).map (Sum.inr : Str → L2.Key), V.ref p73), ((["a"] : List Str).map (Sum.inr : Str → L2.Key), V.ref p75)]) td15 (fun q => q) _ _ u73 trivial
    have g74 := mv_upd (u := .dT [(([] : List Str).map (Sum.inr : Str → L2.Key), V.ref p73), ((["a"] : List Str).map (Sum.inr : Str → L2.Key), V.ref p75)]) td15 (fun q => q) _ _ u74 trivial
    have g75 := mv_upd (u := .dT [(([] : List Str).map (Sum.inr : Str → L2.Key), V.ref p73), ((["a"] : List Str).map (Sum.inr : Str → L2.Key), V.ref p75)]) td15 (fun q => q) _ _ u75 trivial
    generalize upd H75 p71 (.dT [(([] : List Str).map (Sum.inr : Str → L2.Key), V.ref p73), ((["a"] : List Str).map (Sum.inr : Str → L2.Key), V.ref p75)]) = H76 at xi15 fd15 g72 g73 g74 g75 ⊢
    have tl := xi15.keep _ _ tl (fun ps z => by cases z)
    have tlS22 := tl
    refine fun p77 h77 => ?_
    have x77 := Ex.new (o := .dT []) h77
    have t77 : (upd H76 p77 (.dT [])) p77 = some (.dT []) := upd_same
    generalize upd H76 p77 (.dT []) = H77 at x77 t77 ⊢
    refine ⟨(by show 0 ≤ sizeLine; decide), fun p78 h78 => ?_⟩
    have x78 := Ex.new (o := .tup []) h78
    have t78 : (upd H77 p78 (.tup [])) p78 = some (.tup []) := upd_same
    generalize upd H77 p78 (.tup []) = H78 at x78 t78 ⊢
    refine ⟨(by show 1 ≤ sizeLine; decide), fun p79 h79 => ?_⟩
    have x79 := Ex.new (o := .tup [V.str "drawer"]) h79
    have t79 : (upd H78 p79 (.tup [V.str "drawer"])) p79 = some (.tup [V.str "drawer"]) := upd_same
    generalize upd H78 p79 (.tup [V.str "drawer"]) = H79 at x79 t79 ⊢
    refine ⟨(by show 1 ≤ sizeLine; decide), fun p80 h80 => ?_⟩
    have x80 := Ex.new (o := .tup [V.str "a"]) h80
    have t80 : (upd H79 p80 (.tup [V.str "a"])) p80 = some (.tup [V.str "a"]) := upd_same
    generalize upd H79 p80 (.tup [V.str "a"]) = H80 at x80 t80 ⊢
    refine ⟨(by show 3 ≤ sizeLine; decide), fun p81 h81 => ?_⟩
    have x81 := Ex.new (o := .tup [V.str "file", V.int 0, V.str "X"]) h81
    have t81 : (upd H80 p81 (.tup [V.str "file", V.int 0, V.str "X"])) p81 = some (.tup [V.str "file", V.int 0, V.str "X"]) := upd_same
    generalize upd H80 p81 (.tup [V.str "file", V.int 0, V.str "X"]) = H81 at x81 t81 ⊢
    have td16 := (((x78.trans x79).trans x80).trans x81).keep _ _ t77 (fun ps z => by cases z)
    have u78 := ((x79.trans x80).trans x81).keep _ _ t78 (fun ps z => by cases z)
    have u79 := (x80.trans x81).keep _ _ t79 (fun ps z => by cases z)
    have u80 := x81.keep _ _ t80 (fun ps z => by cases z)
    have u81 := t81
    refine ⟨td16, [(([] : List Str).map (Sum.inr : Str → L2.Key), V.ref p79), ((["a"] : List Str).map (Sum.inr : Str → L2.Key), V.ref p81)], .cons ⟨⟨p78, rfl, u78⟩, rfl⟩ (.cons ⟨⟨p80, rfl, u80⟩, rfl⟩ .nil), (by show 2 ≤ 15; decide), ?_⟩
    rw [merge2 (by decide +kernel)]
    have xi16 : Ex H76 (upd H81 p77 (.dT [(([] : List Str).map (Sum.inr : Str → L2.Key), V.ref p79), ((["a"] : List Str).map (Sum.inr : Str → L2.Key), V.ref p81)])) := (x77.trans (((x78.trans x79).trans x80).trans x81)).put h77
    have fd16 : (upd H81 p77 (.dT [(([] : List Str).map (Sum.inr : Str → L2.Key), V.ref p79), ((["a"] : List Str).map (Sum.inr : Str → L2.Key), V.ref p81)])) p77 = some (.dT [(([] : List Str).map (Sum.inr : Str → L2.Key), V.ref p79), ((["a"] : List Str).map (Sum.inr : Str → L2.Key), V.ref p81)]) := upd_same
    have g78 := mv_upd (u := .dT [(([] : List Str).map (Sum.inr : Str → L2.Key), V.ref p79), ((["a"] : List Str).map (Sum.inr : Str → L2.Key), V.ref p81)]) td16 (fun q => q) _ _ u78 trivial
    have g79 := mv_upd (u := .dT [(([] : List Str).map (Sum.inr : Str → L2.Key), V.ref p79), ((["a"] : List Str).map (Sum.inr : Str → L2.Key), V.ref p81)]) td16 (fun q => q) _ _ u79 trivial
    have g80 := mv_upd (u := .dT [(([] : List Str).map (Sum.inr : Str → L2.Key), V.ref p79), ((["a"] : List Str).map (Sum.inr : Str → L2.Key), V.ref p81)]) td16 (fun q => q) _ _ u80 trivial
    have g81 := mv_upd (u := .dT [(([] : List Str).map (Sum.inr : Str → L2.Key), V.ref p79), ((["a"] : List Str).map (Sum.inr : Str → L2.Key), V.ref p81)]) td16 (fun q => q) _ _ u81 trivial
    generalize upd H81 p77 (.dT [(([] : List Str).map (Sum.inr : Str → L2.Key), V.ref p79), ((["a"] : List Str).map (Sum.inr : Str → L2.Key), V.ref p81)]) = H82 at xi16 fd16 g78 g79 g80 g81 ⊢
    have tl := xi16.keep _ _ tl (fun ps z => by cases z)
    have tlS23 := tl
    refine ⟨(by show 2 ≤ sizeLine; decide), fun p83 h83 => ?_⟩
    have xe6 := Ex.new (o := .lst [V.ref p71, V.ref p77]) h83
    have te6 : (upd H82 p83 (.lst [V.ref p71, V.ref p77])) p83 = some (.lst [V.ref p71, V.ref p77]) := upd_same
    have tl := xe6.keep _ _ tl (fun ps z => by cases z)
    generalize upd H82 p83 (.lst [V.ref p71, V.ref p77]) = H83 at xe6 te6 tl ⊢
    refine ⟨p18, p83, [V.non, V.ref p1, V.ref p2, V.ref p3, V.ref p7, V.ref p11, V.ref p17, V.ref p19, V.ref p24, V.ref p32, V.ref p39, V.ref p48, V.ref p57, V.ref p63, V.str "tree"], [V.ref p71, V.ref p77], rfl, rfl, tl, te6, (by show 17 ≤ sizeLine; decide), ?_⟩
    have xb6 := eb_upd (ys := [V.non, V.ref p1, V.ref p2, V.ref p3, V.ref p7, V.ref p11, V.ref p17, V.ref p19, V.ref p24, V.ref p32, V.ref p39, V.ref p48, V.ref p57, V.ref p63, V.str "tree", V.ref p71, V.ref p77]) tl
    have tl : (upd H83 p18 (.lst [V.non, V.ref p1, V.ref p2, V.ref p3, V.ref p7, V.ref p11, V.ref p17, V.ref p19, V.ref p24, V.ref p32, V.ref p39, V.ref p48, V.ref p57, V.ref p63, V.str "tree", V.ref p71, V.ref p77])) p18 = some (.lst [V.non, V.ref p1, V.ref p2, V.ref p3, V.ref p7, V.ref p11, V.ref p17, V.ref p19, V.ref p24, V.ref p32, V.ref p39, V.ref p48, V.ref p57, V.ref p63, V.str "tree", V.ref p71, V.ref p77]) := upd_same
    show tSeq _ _ _ _ (upd H83 p18 (.lst [V.non, V.ref p1, V.ref p2, V.ref p3, V.ref p7, V.ref p11, V.ref p17, V.ref p19, V.ref p24, V.ref p32, V.ref p39, V.ref p48, V.ref p57, V.ref p63, V.str "tree", V.ref p71, V.ref p77]))
    try show tSeq _ _ _ _ (upd H83 p18 (.lst [V.non, V.ref p1, V.ref p2, V.ref p3, V.ref p7, V.ref p11, V.ref p17, V.ref p19, V.ref p24, V.ref p32, V.ref p39, V.ref p48, V.ref p57, V.ref p63, V.str "tree", V.ref p71, V.ref p77]))
    try show tRet _ _ _ (upd H83 p18 (.lst [V.non, V.ref p1, V.ref p2, V.ref p3, V.ref p7, V.ref p11, V.ref p17, V.ref p19, V.ref p24, V.ref p32, V.ref p39, V.ref p48, V.ref p57, V.ref p63, V.str "tree", V.ref p71, V.ref p77]))
    generalize upd H83 p18 (.lst [V.non, V.ref p1, V.ref p2, V.ref p3, V.ref p7, V.ref p11, V.ref p17, V.ref p19, V.ref p24, V.ref p32, V.ref p39, V.ref p48, V.ref p57, V.ref p63, V.str "tree", V.ref p71, V.ref p77]) = H84 at xb6 tl ⊢
    have tlS25 := tl
    refine ⟨_, rfl, .inl ⟨rfl, _, SqL.of tl⟩, ?_⟩
    refine fun p85 h85 => ?_
    have x85 := Ex.new (o := .dT []) h85
    have t85 : (upd H84 p85 (.dT [])) p85 = some (.dT []) := upd_same
    generalize upd H84 p85 (.dT []) = H85 at x85 t85 ⊢
    refine ⟨(by show 0 ≤ sizeLine; decide), fun p86 h86 => ?_⟩
    have x86 := Ex.new (o := .tup []) h86
    have t86 : (upd H85 p86 (.tup [])) p86 = some (.tup []) := upd_same
    generalize upd H85 p86 (.tup []) = H86 at x86 t86 ⊢
    refine ⟨(by show 1 ≤ sizeLine; decide), fun p87 h87 => ?_⟩
    have x87 := Ex.new (o := .tup [V.str "drawer"]) h87
    have t87 : (upd H86 p87 (.tup [V.str "drawer"])) p87 = some (.tup [V.str "drawer"]) := upd_same
    generalize upd H86 p87 (.tup [V.str "drawer"]) = H87 at x87 t87 ⊢
    refine ⟨(by show 1 ≤ sizeLine; decide), fun p88 h88 => ?_⟩
    have x88 := Ex.new (o := .tup [V.str "a"]) h88
    have t88 : (upd H87 p88 (.tup [V.str "a"])) p88 = some (.tup [V.str "a"]) := upd_same
    generalize upd H87 p88 (.tup [V.str "a"]) = H88 at x88 t88 ⊢
    have td17 := ((x86.trans x87).trans x88).keep _ _ t85 (fun ps z => by cases z)
    have u86 := (x87.trans x88).keep _ _ t86 (fun ps z => by cases z)
    have u87 := x88.keep _ _ t87 (fun ps z => by cases z)
    have u88 := t88
    refine ⟨td17, [(([] : List Str).map (Sum.inr : Str → L2.Key), V.ref p87), ((["a"] : List Str).map (Sum.inr : Str → L2.Key), V.non)], .cons ⟨⟨p86, rfl, u86⟩, rfl⟩ (.cons ⟨⟨p88, rfl, u88⟩, rfl⟩ .nil), (by show 2 ≤ 15; decide), ?_⟩
    rw [merge2 (by decide +kernel)]
    have xi17 : Ex H84 (upd H88 p85 (.dT [(([] : List Str).map (Sum.inr : Str → L2.Key), V.ref p87), ((["a"] : List Str).map (Sum.inr : Str → L2.Key), V.non)])) := (x85.trans ((x86.trans x87).trans x88)).put h85
    have fd17 : (upd H88 p85 (.dT [(([] : List Str).map (Sum.inr : Str → L2.Key), V.ref p87), ((["a"] : List Str).map (Sum.inr : Str → L2.Key), V.non)])) p85 = some (.dT [(([] : List Str).map (Sum.inr : Str → L2.Key), V.ref p87), ((["a"] : List Str).map (Sum.inr : Str → L2.Key), V.non)]) := upd_same
    have g86 := mv_upd (u := .dT [(([] : List Str).map (Sum.inr : Str → L2.Key), V.ref p87), ((["a"] : List Str).map (Sum.inr : Str → L2.Key), V.non)]) td17 (fun q => q) _ _ u86 trivial
    have g87 := mv_upd (u := .dT [(([] : List Str).map (Sum.inr : Str → L2.Key), V.ref p87), ((["a"] : List Str).map (Sum.inr : Str → L2.Key), V.non)]) td17 (fun q => q) _ _ u87 trivial
    have g88 := mv_upd (u := .dT [(([] : List Str).map (Sum.inr : Str → L2.Key), V.ref p87), ((["a"] : List Str).map (Sum.inr : Str → L2.Key), V.non)]) td17 (fun q => q) _ _ u88 trivial
    generalize upd H88 p85 (.dT [(([] : List Str).map (Sum.inr : Str → L2.Key), V.ref p87), ((["a"] : List Str).map (Sum.inr : Str → L2.Key), V.non)]) = H89 at xi17 fd17 g86 g87 g88 ⊢
    have tl := xi17.keep _ _ tl (fun ps z => by cases z)
    have tlS26 := tl
    refine ⟨p18, [V.non, V.ref p1, V.ref p2, V.ref p3, V.ref p7, V.ref p11, V.ref p17, V.ref p19, V.ref p24, V.ref p32, V.ref p39, V.ref p48, V.ref p57, V.ref p63, V.str "tree", V.ref p71, V.ref p77], V.ref p85, rfl, rfl, tl, (by show 17 < sizeLine; decide), ?_⟩
    have xb7 := eb_upd (ys := [V.non, V.ref p1, V.ref p2, V.ref p3, V.ref p7, V.ref p11, V.ref p17, V.ref p19, V.ref p24, V.ref p32, V.ref p39, V.ref p48, V.ref p57, V.ref p63, V.str "tree", V.ref p71, V.ref p77, V.ref p85]) tl
    have tl : (upd H89 p18 (.lst [V.non, V.ref p1, V.ref p2, V.ref p3, V.ref p7, V.ref p11, V.ref p17, V.ref p19, V.ref p24, V.ref p32, V.ref p39, V.ref p48, V.ref p57, V.ref p63, V.str "tree", V.ref p71, V.ref p77, V.ref p85])) p18 = some (.lst [V.non, V.ref p1, V.ref p2, V.ref p3, V.ref p7, V.ref p11, V.ref p17, V.ref p19, V.ref p24, V.ref p32, V.ref p39, V.ref p48, V.ref p57, V.ref p63, V.str "tree", V.ref p71, V.ref p77, V.ref p85]) := upd_same
    show tSeq _ _ _ _ (upd H89 p18 (.lst [V.non, V.ref p1, V.ref p2, V.ref p3, V.ref p7, V.ref p11, V.ref p17, V.ref p19, V.ref p24, V.ref p32, V.ref p39, V.ref p48, V.ref p57, V.ref p63, V.str "tree", V.ref p71, V.ref p77, V.ref p85]))
    try show tSeq _ _ _ _ (upd H89 p18 (.lst [V.non, V.ref p1, V.ref p2, V.ref p3, V.ref p7, V.ref p11, V.ref p17, V.ref p19, V.ref p24, V.ref p32, V.ref p39, V.ref p48, V.ref p57, V.ref p63, V.str "tree", V.ref p71, V.ref p77, V.ref p85]))
    try show tRet _ _ _ (upd H89 p18 (.lst [V.non, V.ref p1, V.ref p2, V.ref p3, V.ref p7, V.ref p11, V.ref p17, V.ref p19, V.ref p24, V.ref p32, V.ref p39, V.ref p48, V.ref p57, V.ref p63, V.str "tree", V.ref p71, V.ref p77, V.ref p85]))
    generalize upd H89 p18 (.lst [V.non, V.ref p1, V.ref p2, V.ref p3, V.ref p7, V.ref p11, V.ref p17, V.ref p19, V.ref p24, V.ref p32, V.ref p39, V.ref p48, V.ref p57, V.ref p63, V.str "tree", V.ref p71, V.ref p77, V.ref p85]) = H90 at xb7 tl ⊢
    have tlS27 := tl
    refine ⟨_, rfl, .inl ⟨rfl, _, SqL.of tl⟩, ?_⟩
    refine fun p91 h91 => ?_
    have x91 := Ex.new (o := .dT []) h91
    have t91 : (upd H90 p91 (.dT [])) p91 = some (.dT []) := upd_same
    generalize upd H90 p91 (.dT []) = H91 at x91 t91 ⊢
    refine ⟨(by show 0 ≤ sizeLine; decide), fun p92 h92 => ?_⟩
    have x92 := Ex.new (o := .tup []) h92
    have t92 : (upd H91 p92 (.tup [])) p92 = some (.tup []) := upd_same
    generalize upd H91 p92 (.tup []) = H92 at x92 t92 ⊢
    refine ⟨(by show 1 ≤ sizeLine; decide), fun p93 h93 => ?_⟩
    have x93 := Ex.new (o := .tup [V.str "drawer"]) h93
    have t93 : (upd H92 p93 (.tup [V.str "drawer"])) p93 = some (.tup [V.str "drawer"]) := upd_same
    generalize upd H92 p93 (.tup [V.str "drawer"]) = H93 at x93 t93 ⊢
    refine ⟨(by show 1 ≤ sizeLine; decide), fun p94 h94 => ?_⟩
    have x94 := Ex.new (o := .tup [V.str "a"]) h94
    have t94 : (upd H93 p94 (.tup [V.str "a"])) p94 = some (.tup [V.str "a"]) := upd_same
    generalize upd H93 p94 (.tup [V.str "a"]) = H94 at x94 t94 ⊢
    refine ⟨_, _, rfl, rfl, (by simp only [MulOk]; decide +kernel), (by show 3 ≤ sizeLine; decide), fun p95 h95 => ?_⟩
    have x95 := Ex.new (o := .tup [V.str "file", V.int 0, V.str (Txt.mul "x" 41)]) h95
    have t95 : (upd H94 p95 (.tup [V.str "file", V.int 0, V.str (Txt.mul "x" 41)])) p95 = some (.tup [V.str "file", V.int 0, V.str (Txt.mul "x" 41)]) := upd_same
    generalize upd H94 p95 (.tup [V.str "file", V.int 0, V.str (Txt.mul "x" 41)]) = H95 at x95 t95 ⊢
    have td18 := (((x92.trans x93).trans x94).trans x95).keep _ _ t91 (fun ps z => by cases z)
    have u92 := ((x93.trans x94).trans x95).keep _ _ t92 (fun ps z => by cases z)
    have u93 := (x94.trans x95).keep _ _ t93 (fun ps z => by cases z)
    have u94 := x95.keep _ _ t94 (fun ps z => by cases z)
    have u95 := t95
    refine ⟨td18, [(([] : List Str).map (Sum.inr : Str → L2.Key), V.ref p93), ((["a"] : List Str).map (Sum.inr : Str → L2.Key), V.ref p95)], .cons ⟨⟨p92, rfl, u92⟩, rfl⟩ (.cons ⟨⟨p94, rfl, u94⟩, rfl⟩ .nil), (by show 2 ≤ 15; decide), ?_⟩
    rw [merge2 (by decide +kernel)]
    have xi18 : Ex H90 (upd H95 p91 (.dT [(([] : List Str).map (Sum.inr : Str → L2.Key), V.ref p93), ((["a"] : List Str).map (Sum.inr : Str → L2.Key), V.ref p95)])) := (x91.trans (((x92.trans x93).trans x94).trans x95)).put h91
    have fd18 : (upd H95 p91 (.dT [(([] : List Str).map (Sum.inr : Str → L2.Key), V.ref p93), ((["a"] : List Str).map (Sum.inr : Str → L2.Key), V.ref p95)])) p91 = some (.dT [(([] : List Str).map (Sum.inr : Str → L2.Key), V.ref p93), ((["a"] : List Str).map (Sum.inr : Str → L2.Key), V.ref p95)]) := upd_same
    have g92 := mv_upd (u := .dT [(([] : List Str).map (Sum.inr : Str → L2.Key), V.ref p93), ((["a"] : List Str).map (Sum.inr : Str → L2.Key), V.ref p95)]) td18 (fun q => q) _ _ u92 trivial
    have g93 := mv_upd (u := .dT [(([] : List Str).map (Sum.inr : Str → L2.Key), V.ref p93), ((["a"] : List Str).map (Sum.inr : Str → L2.Key), V.ref p95)]) td18 (fun q => q) _ _ u93 trivial
    have g94 := mv_upd (u := .dT [(([] : List Str).map (Sum.inr : Str → L2.Key), V.ref p93), ((["a"] : List Str).map (Sum.inr : Str → L2.Key), V.ref p95)]) td18 (fun q => q) _ _ u94 trivial
    have g95 := mv_upd (u := .dT [(([] : List Str).map (Sum.inr : Str → L2.Key), V.ref p93), ((["a"] : List Str).map (Sum.inr : Str → L2.Key), V.ref p95)]) td18 (fun q => q) _ _ u95 trivial
    generalize upd H95 p91 (.dT [(([] : List Str).map (Sum.inr : Str → L2.Key), V.ref p93), ((["a"] : List Str).map (Sum.inr : Str → L2.Key), V.ref p95)]) = H96 at xi18 fd18 g92 g93 g94 g95 ⊢
    have tl := xi18.keep _ _ tl (fun ps z => by cases z)
    have tlS28 := tl
    refine ⟨p18, [V.non, V.ref p1, V.ref p2, V.ref p3, V.ref p7, V.ref p11, V.ref p17, V.ref p19, V.ref p24, V.ref p32, V.ref p39, V.ref p48, V.ref p57, V.ref p63, V.str "tree", V.ref p71, V.ref p77, V.ref p85], V.ref p91, rfl, rfl, tl, (by show 18 < sizeLine; decide), ?_⟩
    have xb8 := eb_upd (ys := [V.non, V.ref p1, V.ref p2, V.ref p3, V.ref p7, V.ref p11, V.ref p17, V.ref p19, V.ref p24, V.ref p32, V.ref p39, V.ref p48, V.ref p57, V.ref p63, V.str "tree", V.ref p71, V.ref p77, V.ref p85, V.ref p91]) tl
    have tl : (upd H96 p18 (.lst [V.non, V.ref p1, V.ref p2, V.ref p3, V.ref p7, V.ref p11, V.ref p17, V.ref p19, V.ref p24, V.ref p32, V.ref p39, V.ref p48, V.ref p57, V.ref p63, V.str "tree", V.ref p71, V.ref p77, V.ref p85, V.ref p91])) p18 = some (.lst [V.non, V.ref p1, V.ref p2, V.ref p3, V.ref p7, V.ref p11, V.ref p17, V.ref p19, V.ref p24, V.ref p32, V.ref p39, V.ref p48, V.ref p57, V.ref p63, V.str "tree", V.ref p71, V.ref p77, V.ref p85, V.ref p91]) := upd_same
    have e8 : True := trivial
    try show tSeq _ _ _ _ (upd H96 p18 (.lst [V.non, V.ref p1, V.ref p2, V.ref p3, V.ref p7, V.ref p11, V.ref p17, V.ref p19, V.ref p24, V.ref p32, V.ref p39, V.ref p48, V.ref p57, V.ref p63, V.str "tree", V.ref p71, V.ref p77, V.ref p85, V.ref p91]))
    try show tRet _ _ _ (upd H96 p18 (.lst [V.non, V.ref p1, V.ref p2, V.ref p3, V.ref p7, V.ref p11, V.ref p17, V.ref p19, V.ref p24, V.ref p32, V.ref p39, V.ref p48, V.ref p57, V.ref p63, V.str "tree", V.ref p71, V.ref p77, V.ref p85, V.ref p91]))
    generalize upd H96 p18 (.lst [V.non, V.ref p1, V.ref p2, V.ref p3, V.ref p7, V.ref p11, V.ref p17, V.ref p19, V.ref p24, V.ref p32, V.ref p39, V.ref p48, V.ref p57, V.ref p63, V.str "tree", V.ref p71, V.ref p77, V.ref p85, V.ref p91]) = H97 at xb8 tl ⊢
    have tlS29 := tl
    have y29 : Eb p18 H97 H97 := Eb.refl _
    have y28 : Eb p18 H96 H97 := Eb.trans (xb8) y29
    have y27 : Eb p18 H90 H97 := Eb.trans (ex_eb xi18) y28
    have y26 : Eb p18 H89 H97 := Eb.trans (xb7) y27
    have y25 : Eb p18 H84 H97 := Eb.trans (ex_eb xi17) y26
    have y24 : Eb p18 H83 H97 := Eb.trans (xb6) y25
    have y23 : Eb p18 H82 H97 := Eb.trans (ex_eb xe6) y24
    have y22 : Eb p18 H76 H97 := Eb.trans (ex_eb xi16) y23
    have y21 : Eb p18 H70 H97 := Eb.trans (ex_eb xi15) y22
    have y20 : Eb p18 H69 H97 := Eb.trans (xb5) y21
    have y19 : Eb p18 H68 H97 := Eb.trans (ex_eb xe5) y20
    have y18 : Eb p18 H62 H97 := Eb.trans (ex_eb xi13) y19
    have y17 : Eb p18 H56 H97 := Eb.trans (ex_eb xi12) y18
    have y16 : Eb p18 H55 H97 := Eb.trans (xb4) y17
    have y15 : Eb p18 H47 H97 := Eb.trans (ex_eb xi11) y16
    have y14 : Eb p18 H46 H97 := Eb.trans (xb3) y15
    have y13 : Eb p18 H38 H97 := Eb.trans (ex_eb xi10) y14
    have y12 : Eb p18 H37 H97 := Eb.trans (xb2) y13
    have y11 : Eb p18 H31 H97 := Eb.trans (ex_eb xi9) y12
    have y10 : Eb p18 H30 H97 := Eb.trans (xb1) y11
    have y9 : Eb p18 H29 H97 := Eb.trans (ex_eb xe1) y10
    have y8 : Eb p18 H23 H97 := Eb.trans (ex_eb xi8) y9
    have y7 : Eb p18 H18 H97 := Eb.trans (ex_eb xi7) y8
    have y6 : Eb p18 H17 H97 := Eb.trans (ex_eb xl) y7
    have y5 : Eb p18 H14 H97 := Eb.trans (ex_eb xi6) y6
    have y4 : Eb p18 H10 H97 := Eb.trans (ex_eb xi5) y5
    have y3 : Eb p18 H6 H97 := Eb.trans (ex_eb xi4) y4
    have y2 : Eb p18 H2 H97 := Eb.trans (ex_eb xi3) y3
    have y1 : Eb p18 H1 H97 := Eb.trans (ex_eb xi2) y2
    have y0 : Eb p18 H H97 := Eb.trans (ex_eb xi1) y1
    have hlt : p18 ≠ tw := fun z => by
      obtain ⟨u0, u1, _, et⟩ := L.town
      have := (((((xi1.trans xi2).trans xi3).trans xi4).trans xi5).trans xi6).keep _ _ et (fun ps z => by cases z)
      rw [← z, h18] at this
      cases this
    have hadd : ∀ b, H b = none → b ≠ tw := fun b hb => L.town.ne hb
    have hev : Ev tw H H97 := by
      refine ⟨fun b o hb e nt => ?_, y0.tab, y0.free, ?_⟩
      · by_cases hbl : b = p18
        · rw [hbl] at e
          have := (((((xi1.trans xi2).trans xi3).trans xi4).trans xi5).trans xi6).keep _ _ e nt
          rw [h18] at this
          cases this
        · exact y0.keep b o hbl e nt
      · obtain ⟨u0, u1, hu, et⟩ := L.town
        exact ⟨u0, u1, hu, y0.keep _ _ (Ne.symm hlt) et (fun ps z => by cases z)⟩
    have LN := L.ev hev
    refine ⟨_, rfl, _, rfl, _, rfl, sc, tw, p18, ns, _, rfl, LN, SqL.of tl, hlt, (by show 0 < 19; decide), (by show 19 < 1000; decide), fun H' x ev hx => ?_⟩
    have hxt : ∀ q, H97 q ≠ some (.lst [V.int 0]) → True := fun _ _ => trivial
    have z_t1 := y1.keep _ _ (ne_of_none (((((xi2.trans xi3).trans xi4).trans xi5).trans xi6).keep _ _ t1 (fun ps z => by cases z)) h18) t1 (fun ps z => by cases z)
    have z_t2 := y2.keep _ _ (ne_of_none ((((xi3.trans xi4).trans xi5).trans xi6).keep _ _ t2 (fun ps z => by cases z)) h18) t2 (fun ps z => by cases z)
    have z_fd3 := y3.keep _ _ (ne_of_none (((xi4.trans xi5).trans xi6).keep _ _ fd3 (fun ps z => by cases z)) h18) fd3 (fun ps z => by cases z)
    have z_g4 := y3.keep _ _ (ne_of_none (((xi4.trans xi5).trans xi6).keep _ _ g4 (fun ps z => by cases z)) h18) g4 (fun ps z => by cases z)
    have z_g5 := y3.keep _ _ (ne_of_none (((xi4.trans xi5).trans xi6).keep _ _ g5 (fun ps z => by cases z)) h18) g5 (fun ps z => by cases z)
    have z_fd4 := y4.keep _ _ (ne_of_none ((xi5.trans xi6).keep _ _ fd4 (fun ps z => by cases z)) h18) fd4 (fun ps z => by cases z)
    have z_g8 := y4.keep _ _ (ne_of_none ((xi5.trans xi6).keep _ _ g8 (fun ps z => by cases z)) h18) g8 (fun ps z => by cases z)
    have z_g9 := y4.keep _ _ (ne_of_none ((xi5.trans xi6).keep _ _ g9 (fun ps z => by cases z)) h18) g9 (fun ps z => by cases z)
    have z_fd5 := y5.keep _ _ (ne_of_none (xi6.keep _ _ fd5 (fun ps z => by cases z)) h18) fd5 (fun ps z => by cases z)
    have z_g12 := y5.keep _ _ (ne_of_none (xi6.keep _ _ g12 (fun ps z => by cases z)) h18) g12 (fun ps z => by cases z)
    have z_g13 := y5.keep _ _ (ne_of_none (xi6.keep _ _ g13 (fun ps z => by cases z)) h18) g13 (fun ps z => by cases z)
    have z_t17 := y6.keep _ _ (ne_of_none t17 h18) t17 (fun ps z => by cases z)
    have z_fd7 := y8.keep _ _ ((by first | exact ne_of fd7 tlS8 (fun z => by cases z) | exact fun z => by rw [z] at fd7; rw [tlS8] at fd7; cases fd7)) fd7 (fun ps z => by cases z)
    have z_g20 := y8.keep _ _ ((by first | exact ne_of g20 tlS8 (fun z => by cases z) | exact fun z => by rw [z] at g20; rw [tlS8] at g20; cases g20)) g20 (fun ps z => by cases z)
    have z_g21 := y8.keep _ _ ((by first | exact ne_of g21 tlS8 (fun z => by cases z) | exact fun z => by rw [z] at g21; rw [tlS8] at g21; cases g21)) g21 (fun ps z => by cases z)
    have z_g22 := y8.keep _ _ ((by first | exact ne_of g22 tlS8 (fun z => by cases z) | exact fun z => by rw [z] at g22; rw [tlS8] at g22; cases g22)) g22 (fun ps z => by cases z)
    have z_fd8 := y9.keep _ _ ((by first | exact ne_of fd8 tlS9 (fun z => by cases z) | exact fun z => by rw [z] at fd8; rw [tlS9] at fd8; cases fd8)) fd8 (fun ps z => by cases z)
    have z_g25 := y9.keep _ _ ((by first | exact ne_of g25 tlS9 (fun z => by cases z) | exact fun z => by rw [z] at g25; rw [tlS9] at g25; cases g25)) g25 (fun ps z => by cases z)
    have z_g26 := y9.keep _ _ ((by first | exact ne_of g26 tlS9 (fun z => by cases z) | exact fun z => by rw [z] at g26; rw [tlS9] at g26; cases g26)) g26 (fun ps z => by cases z)
    have z_g27 := y9.keep _ _ ((by first | exact ne_of g27 tlS9 (fun z => by cases z) | exact fun z => by rw [z] at g27; rw [tlS9] at g27; cases g27)) g27 (fun ps z => by cases z)
    have z_g28 := y9.keep _ _ ((by first | exact ne_of g28 tlS9 (fun z => by cases z) | exact fun z => by rw [z] at g28; rw [tlS9] at g28; cases g28)) g28 (fun ps z => by cases z)
    have z_fd9 := y12.keep _ _ ((by first | exact ne_of fd9 tlS12 (fun z => by cases z) | exact fun z => by rw [z] at fd9; rw [tlS12] at fd9; cases fd9)) fd9 (fun ps z => by cases z)
    have z_g33 := y12.keep _ _ ((by first | exact ne_of g33 tlS12 (fun z => by cases z) | exact fun z => by rw [z] at g33; rw [tlS12] at g33; cases g33)) g33 (fun ps z => by cases z)
    have z_g34 := y12.keep _ _ ((by first | exact ne_of g34 tlS12 (fun z => by cases z) | exact fun z => by rw [z] at g34; rw [tlS12] at g34; cases g34)) g34 (fun ps z => by cases z)
    have z_g35 := y12.keep _ _ ((by first | exact ne_of g35 tlS12 (fun z => by cases z) | exact fun z => by rw [z] at g35; rw [tlS12] at g35; cases g35)) g35 (fun ps z => by cases z)
    have z_g36 := y12.keep _ _ ((by first | exact ne_of g36 tlS12 (fun z => by cases z) | exact fun z => by rw [z] at g36; rw [tlS12] at g36; cases g36)) g36 (fun ps z => by cases z)
    have z_fd10 := y14.keep _ _ ((by first | exact ne_of fd10 tlS14 (fun z => by cases z) | exact fun z => by rw [z] at fd10; rw [tlS14] at fd10; cases fd10)) fd10 (fun ps z => by cases z)
    have z_g40 := y14.keep _ _ ((by first | exact ne_of g40 tlS14 (fun z => by cases z) | exact fun z => by rw [z] at g40; rw [tlS14] at g40; cases g40)) g40 (fun ps z => by cases z)
    have z_g41 := y14.keep _ _ ((by first | exact ne_of g41 tlS14 (fun z => by cases z) | exact fun z => by rw [z] at g41; rw [tlS14] at g41; cases g41)) g41 (fun ps z => by cases z)
    have z_g42 := y14.keep _ _ ((by first | exact ne_of g42 tlS14 (fun z => by cases z) | exact fun z => by rw [z] at g42; rw [tlS14] at g42; cases g42)) g42 (fun ps z => by cases z)
    have z_g43 := y14.keep _ _ ((by first | exact ne_of g43 tlS14 (fun z => by cases z) | exact fun z => by rw [z] at g43; rw [tlS14] at g43; cases g43)) g43 (fun ps z => by cases z)
    have z_g44 := y14.keep _ _ ((by first | exact ne_of g44 tlS14 (fun z => by cases z) | exact fun z => by rw [z] at g44; rw [tlS14] at g44; cases g44)) g44 (fun ps z => by cases z)
    have z_g45 := y14.keep _ _ ((by first | exact ne_of g45 tlS14 (fun z => by cases z) | exact fun z => by rw [z] at g45; rw [tlS14] at g45; cases g45)) g45 (fun ps z => by cases z)
    have z_fd11 := y16.keep _ _ ((by first | exact ne_of fd11 tlS16 (fun z => by cases z) | exact fun z => by rw [z] at fd11; rw [tlS16] at fd11; cases fd11)) fd11 (fun ps z => by cases z)
    have z_g49 := y16.keep _ _ ((by first | exact ne_of g49 tlS16 (fun z => by cases z) | exact fun z => by rw [z] at g49; rw [tlS16] at g49; cases g49)) g49 (fun ps z => by cases z)
    have z_g50 := y16.keep _ _ ((by first | exact ne_of g50 tlS16 (fun z => by cases z) | exact fun z => by rw [z] at g50; rw [tlS16] at g50; cases g50)) g50 (fun ps z => by cases z)
    have z_g51 := y16.keep _ _ ((by first | exact ne_of g51 tlS16 (fun z => by cases z) | exact fun z => by rw [z] at g51; rw [tlS16] at g51; cases g51)) g51 (fun ps z => by cases z)
    have z_g52 := y16.keep _ _ ((by first | exact ne_of g52 tlS16 (fun z => by cases z) | exact fun z => by rw [z] at g52; rw [tlS16] at g52; cases g52)) g52 (fun ps z => by cases z)
    have z_g53 := y16.keep _ _ ((by first | exact ne_of g53 tlS16 (fun z => by cases z) | exact fun z => by rw [z] at g53; rw [tlS16] at g53; cases g53)) g53 (fun ps z => by cases z)
    have z_g54 := y16.keep _ _ ((by first | exact ne_of g54 tlS16 (fun z => by cases z) | exact fun z => by rw [z] at g54; rw [tlS16] at g54; cases g54)) g54 (fun ps z => by cases z)
    have z_fd12 := y18.keep _ _ ((by first | exact ne_of fd12 tlS18 (fun z => by cases z) | exact fun z => by rw [z] at fd12; rw [tlS18] at fd12; cases fd12)) fd12 (fun ps z => by cases z)
    have z_g58 := y18.keep _ _ ((by first | exact ne_of g58 tlS18 (fun z => by cases z) | exact fun z => by rw [z] at g58; rw [tlS18] at g58; cases g58)) g58 (fun ps z => by cases z)
    have z_g59 := y18.keep _ _ ((by first | exact ne_of g59 tlS18 (fun z => by cases z) | exact fun z => by rw [z] at g59; rw [tlS18] at g59; cases g59)) g59 (fun ps z => by cases z)
    have z_g60 := y18.keep _ _ ((by first | exact ne_of g60 tlS18 (fun z => by cases z) | exact fun z => by rw [z] at g60; rw [tlS18] at g60; cases g60)) g60 (fun ps z => by cases z)
    have z_g61 := y18.keep _ _ ((by first | exact ne_of g61 tlS18 (fun z => by cases z) | exact fun z => by rw [z] at g61; rw [tlS18] at g61; cases g61)) g61 (fun ps z => by cases z)
    have z_fd13 := y19.keep _ _ ((by first | exact ne_of fd13 tlS19 (fun z => by cases z) | exact fun z => by rw [z] at fd13; rw [tlS19] at fd13; cases fd13)) fd13 (fun ps z => by cases z)
    have z_g64 := y19.keep _ _ ((by first | exact ne_of g64 tlS19 (fun z => by cases z) | exact fun z => by rw [z] at g64; rw [tlS19] at g64; cases g64)) g64 (fun ps z => by cases z)
    have z_g65 := y19.keep _ _ ((by first | exact ne_of g65 tlS19 (fun z => by cases z) | exact fun z => by rw [z] at g65; rw [tlS19] at g65; cases g65)) g65 (fun ps z => by cases z)
    have z_g66 := y19.keep _ _ ((by first | exact ne_of g66 tlS19 (fun z => by cases z) | exact fun z => by rw [z] at g66; rw [tlS19] at g66; cases g66)) g66 (fun ps z => by cases z)
    have z_g67 := y19.keep _ _ ((by first | exact ne_of g67 tlS19 (fun z => by cases z) | exact fun z => by rw [z] at g67; rw [tlS19] at g67; cases g67)) g67 (fun ps z => by cases z)
    have z_fd15 := y22.keep _ _ ((by first | exact ne_of fd15 tlS22 (fun z => by cases z) | exact fun z => by rw [z] at fd15; rw [tlS22] at fd15; cases fd15)) fd15 (fun ps z => by cases z)
    have z_g72 := y22.keep _ _ ((by first | exact ne_of g72 tlS22 (fun z => by cases z) | exact fun z => by rw [z] at g72; rw [tlS22] at g72; cases g72)) g72 (fun ps z => by cases z)
    have z_g73 := y22.keep _ _ ((by first | exact ne_of g73 tlS22 (fun z => by cases z) | exact fun z => by rw [z] at g73; rw [tlS22] at g73; cases g73)) g73 (fun ps z => by cases z)
    have z_g74 := y22.keep _ _ ((by first | exact ne_of g74 tlS22 (fun z => by cases z) | exact fun z => by rw [z] at g74; rw [tlS22] at g74; cases g74)) g74 (fun ps z => by cases z)
    have z_g75 := y22.keep _ _ ((by first | exact ne_of g75 tlS22 (fun z => by cases z) | exact fun z => by rw [z] at g75; rw [tlS22] at g75; cases g75)) g75 (fun ps z => by cases z)
    have z_fd16 := y23.keep _ _ ((by first | exact ne_of fd16 tlS23 (fun z => by cases z) | exact fun z => by rw [z] at fd16; rw [tlS23] at fd16; cases fd16)) fd16 (fun ps z => by cases z)
    have z_g78 := y23.keep _ _ ((by first | exact ne_of g78 tlS23 (fun z => by cases z) | exact fun z => by rw [z] at g78; rw [tlS23] at g78; cases g78)) g78 (fun ps z => by cases z)
    have z_g79 := y23.keep _ _ ((by first | exact ne_of g79 tlS23 (fun z => by cases z) | exact fun z => by rw [z] at g79; rw [tlS23] at g79; cases g79)) g79 (fun ps z => by cases z)
    have z_g80 := y23.keep _ _ ((by first | exact ne_of g80 tlS23 (fun z => by cases z) | exact fun z => by rw [z] at g80; rw [tlS23] at g80; cases g80)) g80 (fun ps z => by cases z)
    have z_g81 := y23.keep _ _ ((by first | exact ne_of g81 tlS23 (fun z => by cases z) | exact fun z => by rw [z] at g81; rw [tlS23] at g81; cases g81)) g81 (fun ps z => by cases z)
    have z_fd17 := y26.keep _ _ ((by first | exact ne_of fd17 tlS26 (fun z => by cases z) | exact fun z => by rw [z] at fd17; rw [tlS26] at fd17; cases fd17)) fd17 (fun ps z => by cases z)
    have z_g86 := y26.keep _ _ ((by first | exact ne_of g86 tlS26 (fun z => by cases z) | exact fun z => by rw [z] at g86; rw [tlS26] at g86; cases g86)) g86 (fun ps z => by cases z)
    have z_g87 := y26.keep _ _ ((by first | exact ne_of g87 tlS26 (fun z => by cases z) | exact fun z => by rw [z] at g87; rw [tlS26] at g87; cases g87)) g87 (fun ps z => by cases z)
    have z_g88 := y26.keep _ _ ((by first | exact ne_of g88 tlS26 (fun z => by cases z) | exact fun z => by rw [z] at g88; rw [tlS26] at g88; cases g88)) g88 (fun ps z => by cases z)
    have z_fd18 := y28.keep _ _ ((by first | exact ne_of fd18 tlS28 (fun z => by cases z) | exact fun z => by rw [z] at fd18; rw [tlS28] at fd18; cases fd18)) fd18 (fun ps z => by cases z)
    have z_g92 := y28.keep _ _ ((by first | exact ne_of g92 tlS28 (fun z => by cases z) | exact fun z => by rw [z] at g92; rw [tlS28] at g92; cases g92)) g92 (fun ps z => by cases z)
    have z_g93 := y28.keep _ _ ((by first | exact ne_of g93 tlS28 (fun z => by cases z) | exact fun z => by rw [z] at g93; rw [tlS28] at g93; cases g93)) g93 (fun ps z => by cases z)
    have z_g94 := y28.keep _ _ ((by first | exact ne_of g94 tlS28 (fun z => by cases z) | exact fun z => by rw [z] at g94; rw [tlS28] at g94; cases g94)) g94 (fun ps z => by cases z)
    have z_g95 := y28.keep _ _ ((by first | exact ne_of g95 tlS28 (fun z => by cases z) | exact fun z => by rw [z] at g95; rw [tlS28] at g95; cases g95)) g95 (fun ps z => by cases z)
    refine k H' x (hev.trans ev) ?_ fun G evG => ?_
    · have fr : ∀ b, H b = none → V.ref b ≠ .ref tw := fun b hb z => hadd b hb (by injection z)
      simp only [List.mem_cons, List.not_mem_nil, or_false] at hx
      rcases hx with rfl | rfl | rfl | rfl | rfl | rfl | rfl | rfl | rfl | rfl | rfl | rfl | rfl | rfl | rfl | rfl | rfl | rfl | rfl
      · exact fun z => by cases z
      · exact (fun z => by
          have e : p1 = tw := by injection z
          obtain ⟨u0, u1, _, et⟩ := LN.town
          rw [← e, z_t1] at et
          cases et)
      · exact (fun z => by
          have e : p2 = tw := by injection z
          obtain ⟨u0, u1, _, et⟩ := LN.town
          rw [← e, z_t2] at et
          cases et)
      · exact (fun z => by
          have e : p3 = tw := by injection z
          obtain ⟨u0, u1, _, et⟩ := LN.town
          rw [← e, z_fd3] at et
          cases et)
      · exact (fun z => by
          have e : p7 = tw := by injection z
          obtain ⟨u0, u1, _, et⟩ := LN.town
          rw [← e, z_fd4] at et
          cases et)
      · exact (fun z => by
          have e : p11 = tw := by injection z
          obtain ⟨u0, u1, _, et⟩ := LN.town
          rw [← e, z_fd5] at et
          cases et)
      · exact (fun z => by
          have e : p17 = tw := by injection z
          obtain ⟨u0, u1, _, et⟩ := LN.town
          rw [← e, z_t17] at et
          cases et)
      · exact (fun z => by
          have e : p19 = tw := by injection z
          obtain ⟨u0, u1, _, et⟩ := LN.town
          rw [← e, z_fd7] at et
          cases et)
      · exact (fun z => by
          have e : p24 = tw := by injection z
          obtain ⟨u0, u1, _, et⟩ := LN.town
          rw [← e, z_fd8] at et
          cases et)
      · exact (fun z => by
          have e : p32 = tw := by injection z
          obtain ⟨u0, u1, _, et⟩ := LN.town
          rw [← e, z_fd9] at et
          cases et)
      · exact (fun z => by
          have e : p39 = tw := by injection z
          obtain ⟨u0, u1, _, et⟩ := LN.town
          rw [← e, z_fd10] at et
          cases et)
      · exact (fun z => by
          have e : p48 = tw := by injection z
          obtain ⟨u0, u1, _, et⟩ := LN.town
          rw [← e, z_fd11] at et
          cases et)
      · exact (fun z => by
          have e : p57 = tw := by injection z
          obtain ⟨u0, u1, _, et⟩ := LN.town
          rw [← e, z_fd12] at et
          cases et)
      · exact (fun z => by
          have e : p63 = tw := by injection z
          obtain ⟨u0, u1, _, et⟩ := LN.town
          rw [← e, z_fd13] at et
          cases et)
      · exact fun z => by cases z
      · exact (fun z => by
          have e : p71 = tw := by injection z
          obtain ⟨u0, u1, _, et⟩ := LN.town
          rw [← e, z_fd15] at et
          cases et)
      · exact (fun z => by
          have e : p77 = tw := by injection z
          obtain ⟨u0, u1, _, et⟩ := LN.town
          rw [← e, z_fd16] at et
          cases et)
      · exact (fun z => by
          have e : p85 = tw := by injection z
          obtain ⟨u0, u1, _, et⟩ := LN.town
          rw [← e, z_fd17] at et
          cases et)
      · exact (fun z => by
          have e : p91 = tw := by injection z
          obtain ⟨u0, u1, _, et⟩ := LN.town
          rw [← e, z_fd18] at et
          cases et)
    · have ee := ev.trans evG
      have Tw := LN.town
      have nt : ∀ b o, H97 b = some o → (∀ u0 u1 : Int, o ≠ .lst [.int u0, .int u1]) → b ≠ tw := fun b o e n z => by
        obtain ⟨u0, u1, _, et⟩ := LN.town
        rw [z, et] at e
        cases e
        exact n u0 u1 rfl
      have kp : ∀ b o, H97 b = some o → (∀ u0 u1 : Int, o ≠ .lst [.int u0, .int u1]) → (∀ ps, o ≠ .tbl ps) → G b = some o := fun b o e n m => ee.keep b o (nt b o e n) e m
      simp only [List.mem_cons, List.not_mem_nil, or_false] at hx
      rcases hx with rfl | rfl | rfl | rfl | rfl | rfl | rfl | rfl | rfl | rfl | rfl | rfl | rfl | rfl | rfl | rfl | rfl | rfl | rfl
      · exact .oth .non (by decide)
      · exact .oth (.lst (SqL.of (kp _ _ z_t1 (fun u0 u1 z => by cases z) (fun ps z => by cases z)))) (by decide)
      · exact bad_dict (es := []) (kp _ _ z_t2 (fun u0 u1 z => by cases z) (fun ps z => by cases z)) .nil (by decide +kernel) (by decide +kernel)
      · exact bad_dict (es := [([], .tuple [.str "drawer", .bool false])]) (kp _ _ z_fd3 (fun u0 u1 z => by cases z) (fun ps z => by cases z)) (.cons ⟨rfl, .tup (SqT.of (kp _ _ z_g5 (fun u0 u1 z => by cases z) (fun ps z => by cases z))) (.cons (.str _) (.cons (.bl _) .nil))⟩ .nil) (by decide +kernel) (by decide +kernel)
      · exact bad_dict (es := [(["a"], .tuple [.str "drawer"])]) (kp _ _ z_fd4 (fun u0 u1 z => by cases z) (fun ps z => by cases z)) (.cons ⟨rfl, .tup (SqT.of (kp _ _ z_g9 (fun u0 u1 z => by cases z) (fun ps z => by cases z))) (.cons (.str _) .nil)⟩ .nil) (by decide +kernel) (by decide +kernel)
      · exact bad_dict (es := [([], .tuple [.str "file", .int 0, .str ""])]) (kp _ _ z_fd5 (fun u0 u1 z => by cases z) (fun ps z => by cases z)) (.cons ⟨rfl, .tup (SqT.of (kp _ _ z_g13 (fun u0 u1 z => by cases z) (fun ps z => by cases z))) (.cons (.str _) (.cons (.int _) (.cons (.str _) .nil)))⟩ .nil) (by decide +kernel) (by decide +kernel)
      · exact .oth (.tup (SqT.of (kp _ _ z_t17 (fun u0 u1 z => by cases z) (fun ps z => by cases z)))) (by decide)
      · exact .mix (p := []) (kp _ _ z_fd7 (fun u0 u1 z => by cases z) (fun ps z => by cases z)) (kp _ _ z_g20 (fun u0 u1 z => by cases z) (fun ps z => by cases z)) (by decide +kernel)
      · exact bad_dict (es := [([], .tuple [.str "drawer"]), (["a", "b"], .tuple [.str "drawer"])]) (kp _ _ z_fd8 (fun u0 u1 z => by cases z) (fun ps z => by cases z)) (.cons ⟨rfl, .tup (SqT.of (kp _ _ z_g26 (fun u0 u1 z => by cases z) (fun ps z => by cases z))) (.cons (.str _) .nil)⟩ (.cons ⟨rfl, .tup (SqT.of (kp _ _ z_g28 (fun u0 u1 z => by cases z) (fun ps z => by cases z))) (.cons (.str _) .nil)⟩ .nil)) (by decide +kernel) (by decide +kernel)
      · exact bad_dict (es := [([], .tuple [.str "drawer"]), (["a"], .tuple [.str "file", .int 1000, .str ""])]) (kp _ _ z_fd9 (fun u0 u1 z => by cases z) (fun ps z => by cases z)) (.cons ⟨rfl, .tup (SqT.of (kp _ _ z_g34 (fun u0 u1 z => by cases z) (fun ps z => by cases z))) (.cons (.str _) .nil)⟩ (.cons ⟨rfl, .tup (SqT.of (kp _ _ z_g36 (fun u0 u1 z => by cases z) (fun ps z => by cases z))) (.cons (.str _) (.cons (.int _) (.cons (.str _) .nil)))⟩ .nil)) (by decide +kernel) (by decide +kernel)
      · exact bad_dict (es := [([], .tuple [.str "drawer"]), (["a"], .tuple [.str "file", .int 0, .str "x"]), (["b"], .tuple [.str "file", .int 0, .str "y"])]) (kp _ _ z_fd10 (fun u0 u1 z => by cases z) (fun ps z => by cases z)) (.cons ⟨rfl, .tup (SqT.of (kp _ _ z_g41 (fun u0 u1 z => by cases z) (fun ps z => by cases z))) (.cons (.str _) .nil)⟩ (.cons ⟨rfl, .tup (SqT.of (kp _ _ z_g43 (fun u0 u1 z => by cases z) (fun ps z => by cases z))) (.cons (.str _) (.cons (.int _) (.cons (.str _) .nil)))⟩ (.cons ⟨rfl, .tup (SqT.of (kp _ _ z_g45 (fun u0 u1 z => by cases z) (fun ps z => by cases z))) (.cons (.str _) (.cons (.int _) (.cons (.str _) .nil)))⟩ .nil))) (by decide +kernel) (by decide +kernel)
      · exact bad_dict (es := [([], .tuple [.str "drawer"]), (["a"], .tuple [.str "file", .int 0, .str "x"]), (["a", "b"], .tuple [.str "drawer"])]) (kp _ _ z_fd11 (fun u0 u1 z => by cases z) (fun ps z => by cases z)) (.cons ⟨rfl, .tup (SqT.of (kp _ _ z_g50 (fun u0 u1 z => by cases z) (fun ps z => by cases z))) (.cons (.str _) .nil)⟩ (.cons ⟨rfl, .tup (SqT.of (kp _ _ z_g52 (fun u0 u1 z => by cases z) (fun ps z => by cases z))) (.cons (.str _) (.cons (.int _) (.cons (.str _) .nil)))⟩ (.cons ⟨rfl, .tup (SqT.of (kp _ _ z_g54 (fun u0 u1 z => by cases z) (fun ps z => by cases z))) (.cons (.str _) .nil)⟩ .nil))) (by decide +kernel) (by decide +kernel)
      · exact bad_dict (es := [([], .tuple [.str "drawer"]), (["a"], .tuple [.str "gone"])]) (kp _ _ z_fd12 (fun u0 u1 z => by cases z) (fun ps z => by cases z)) (.cons ⟨rfl, .tup (SqT.of (kp _ _ z_g59 (fun u0 u1 z => by cases z) (fun ps z => by cases z))) (.cons (.str _) .nil)⟩ (.cons ⟨rfl, .tup (SqT.of (kp _ _ z_g61 (fun u0 u1 z => by cases z) (fun ps z => by cases z))) (.cons (.str _) .nil)⟩ .nil)) (by decide +kernel) (by decide +kernel)
      · exact bad_dict (es := [([], .tuple [.str "drawer"]), (["a"], .list [.str "drawer"])]) (kp _ _ z_fd13 (fun u0 u1 z => by cases z) (fun ps z => by cases z)) (.cons ⟨rfl, .tup (SqT.of (kp _ _ z_g65 (fun u0 u1 z => by cases z) (fun ps z => by cases z))) (.cons (.str _) .nil)⟩ (.cons ⟨rfl, .lst (SqL.of (kp _ _ z_g67 (fun u0 u1 z => by cases z) (fun ps z => by cases z))) (.cons (.str _) .nil)⟩ .nil)) (by decide +kernel) (by decide +kernel)
      · exact .oth (.str _) (by decide)
      · exact bad_dict (es := [([], .tuple [.str "drawer"]), (["a"], .tuple [.str "file", .bool true, .str ""])]) (kp _ _ z_fd15 (fun u0 u1 z => by cases z) (fun ps z => by cases z)) (.cons ⟨rfl, .tup (SqT.of (kp _ _ z_g73 (fun u0 u1 z => by cases z) (fun ps z => by cases z))) (.cons (.str _) .nil)⟩ (.cons ⟨rfl, .tup (SqT.of (kp _ _ z_g75 (fun u0 u1 z => by cases z) (fun ps z => by cases z))) (.cons (.str _) (.cons (.bl _) (.cons (.str _) .nil)))⟩ .nil)) (by decide +kernel) (by decide +kernel)
      · exact bad_dict (es := [([], .tuple [.str "drawer"]), (["a"], .tuple [.str "file", .int 0, .str "X"])]) (kp _ _ z_fd16 (fun u0 u1 z => by cases z) (fun ps z => by cases z)) (.cons ⟨rfl, .tup (SqT.of (kp _ _ z_g79 (fun u0 u1 z => by cases z) (fun ps z => by cases z))) (.cons (.str _) .nil)⟩ (.cons ⟨rfl, .tup (SqT.of (kp _ _ z_g81 (fun u0 u1 z => by cases z) (fun ps z => by cases z))) (.cons (.str _) (.cons (.int _) (.cons (.str _) .nil)))⟩ .nil)) (by decide +kernel) (by decide +kernel)
      · exact bad_dict (es := [([], .tuple [.str "drawer"]), (["a"], .none)]) (kp _ _ z_fd17 (fun u0 u1 z => by cases z) (fun ps z => by cases z)) (.cons ⟨rfl, .tup (SqT.of (kp _ _ z_g87 (fun u0 u1 z => by cases z) (fun ps z => by cases z))) (.cons (.str _) .nil)⟩ (.cons ⟨rfl, .non⟩ .nil)) (by decide +kernel) (by decide +kernel)
      · exact bad_dict (es := [([], .tuple [.str "drawer"]), (["a"], .tuple [.str "file", .int 0, .str (Txt.mul "x" 41)])]) (kp _ _ z_fd18 (fun u0 u1 z => by cases z) (fun ps z => by cases z)) (.cons ⟨rfl, .tup (SqT.of (kp _ _ z_g93 (fun u0 u1 z => by cases z) (fun ps z => by cases z))) (.cons (.str _) .nil)⟩ (.cons ⟨rfl, .tup (SqT.of (kp _ _ z_g95 (fun u0 u1 z => by cases z) (fun ps z => by cases z))) (.cons (.str _) (.cons (.int _) (.cons (.str _) .nil)))⟩ .nil)) (by decide +kernel) (by decide +kernel)
end
/-! ### what is no path -/
def spNoPath (K : PySem.W.Frag) : Sp := fun vs H Q _ => ∃ (sc tw : Addr) (ns : List Int), vs = [.ref sc, .ref tw] ∧ Lw K H sc tw ns ∧ ∀ H' x, Ev tw H H' → PathB K H' x false → Q x H'
section
variable {P : Program} {w : World} {K : PySem.W.Frag} {mg : Str → Option Value} {base : Heap}
theorem scNoPath : FnScope ["_law_script", "_law_town", "_law_bad"] ["_law_script", "_law_town"] (defScope sNoPath) := ⟨rfl, rfl, rfl, by decide +kernel, rfl, by decide +kernel, by decide +kernel⟩
/-- a tuple of flat things -/
theorem tupB {H : Hp} {a : Addr} {xs : List V} {b : Bool} (h : SqT K H a xs) (hb : (decide (xs.length ≤ 5) && xs.all isNameV) = b) (hx : ∀ x ∈ xs, ∃ n, Kn K H x n ∧ ∀ z, x = .str z → z.length ≤ 100) : PathB K H (.ref a) b := by
  rw [← hb]
  refine .tup h fun x m => ?_
  obtain ⟨n, k, q⟩ := hx x m
  exact ⟨n, k, fun z e => Nat.le_trans (q z e) (by decide)⟩
theorem ok_noPath {f fP : Addr} {fd fdP : FuncData} (F : Fun K "_law_no_path" "_law_no_path" sNoPath f fd)
    (GP : FnOk P w K mg base CX0 2 fP fdP ["_law_script", "_law_town", "_law_some"] (spPick K)) (mP : mg "_law_pick" = some (.ref fP)) (kP : PySem.W.keepIn K (.ref fP) = true) (bP : Binds K fdP ["_law_script", "_law_town", "_law_some"] []) :
    FnOk P w K mg base CX0 3 f fd ["_law_script", "_law_town"] (spNoPath K) := by
  refine F.ok scNoPath (fun vs H Q E h => ?_) (fun cdv A outer s H vs Q E hr h => ?_)
  · obtain ⟨sc, tw, ns, rfl, _⟩ := h
    rfl
  · obtain ⟨sc, tw, ns, rfl, L, k⟩ := h
    refine ⟨_, pss_cons (ps_set (i := 2) scNoPath.nd rfl (Or.inl rfl) (pe_lst (pa_cons pe_non (pa_cons pe_str (pa_cons (pe_lst (pa_cons pe_str pa_nil)) (pa_cons (pe_tup (pa_cons pe_str pa_nil)) (pa_cons (pe_tup (pa_cons pe_str pa_nil)) (pa_cons (pe_tup (pa_cons pe_str pa_nil)) (pa_cons (pe_tup (pa_cons pe_int pa_nil)) (pa_cons (pe_tup (pa_cons pe_str (pa_cons pe_non pa_nil))) (pa_cons (pe_tup (pa_cons pe_str pa_nil)) (pa_cons (pe_op op_repT (pe_tup (pa_cons pe_str pa_nil)) pe_int) (pa_cons pe_int (pa_cons (pe_tup (pa_cons pe_str pa_nil)) (pa_cons (pe_tup (pa_cons (pe_tup (pa_cons pe_str pa_nil)) pa_nil)) pa_nil)))))))))))))))
      (pss_one (ps_ret (pe_call (E := E0) GP hr (by rfl) mP kP bP .nil pass0 (pa_cons (pv 0) (pa_cons (pv 1) (pa_cons (pv 2) pa_nil)))))), ?_⟩
    refine ⟨(by show 1 ≤ sizeLine; decide), fun p1 h1 => ?_⟩
    have x1 := Ex.new (o := .lst [.str "a"]) h1
    have t1 : SqL K (upd H p1 (.lst [.str "a"])) p1 [.str "a"] := SqL.of upd_same
    generalize upd H p1 (.lst [.str "a"]) = H1 at x1 t1 ⊢
    refine ⟨(by show 1 ≤ sizeLine; decide), fun p2 h2 => ?_⟩
    have x2 := Ex.new (o := .tup [.str ""]) h2
    have t2 : SqT K (upd H1 p2 (.tup [.str ""])) p2 [.str ""] := SqT.of upd_same
    generalize upd H1 p2 (.tup [.str ""]) = H2 at x2 t2 ⊢
    refine ⟨(by show 1 ≤ sizeLine; decide), fun p3 h3 => ?_⟩
    have x3 := Ex.new (o := .tup [.str "A"]) h3
    have t3 : SqT K (upd H2 p3 (.tup [.str "A"])) p3 [.str "A"] := SqT.of upd_same
    generalize upd H2 p3 (.tup [.str "A"]) = H3 at x3 t3 ⊢
    refine ⟨(by show 1 ≤ sizeLine; decide), fun p4 h4 => ?_⟩
    have x4 := Ex.new (o := .tup [.str "abcde"]) h4
    have t4 : SqT K (upd H3 p4 (.tup [.str "abcde"])) p4 [.str "abcde"] := SqT.of upd_same
    generalize upd H3 p4 (.tup [.str "abcde"]) = H4 at x4 t4 ⊢
    refine ⟨(by show 1 ≤ sizeLine; decide), fun p5 h5 => ?_⟩
    have x5 := Ex.new (o := .tup [.int 1]) h5
    have t5 : SqT K (upd H4 p5 (.tup [.int 1])) p5 [.int 1] := SqT.of upd_same
    generalize upd H4 p5 (.tup [.int 1]) = H5 at x5 t5 ⊢
    refine ⟨(by show 2 ≤ sizeLine; decide), fun p6 h6 => ?_⟩
    have x6 := Ex.new (o := .tup [.str "a", .non]) h6
    have t6 : SqT K (upd H5 p6 (.tup [.str "a", .non])) p6 [.str "a", .non] := SqT.of upd_same
    generalize upd H5 p6 (.tup [.str "a", .non]) = H6 at x6 t6 ⊢
    refine ⟨(by show 1 ≤ sizeLine; decide), fun p7 h7 => ?_⟩
    have x7 := Ex.new (o := .tup [.str "a b"]) h7
    have t7 : SqT K (upd H6 p7 (.tup [.str "a b"])) p7 [.str "a b"] := SqT.of upd_same
    generalize upd H6 p7 (.tup [.str "a b"]) = H7 at x7 t7 ⊢
    refine ⟨(by show 1 ≤ sizeLine; decide), fun p8 h8 => ?_⟩
    have x8 := Ex.new (o := .tup [.str "a"]) h8
    have t8 : SqT K (upd H7 p8 (.tup [.str "a"])) p8 [.str "a"] := SqT.of upd_same
    generalize upd H7 p8 (.tup [.str "a"]) = H8 at x8 t8 ⊢
    refine ⟨p8, 6, _, rfl, rfl, t8, (by simp), by decide, by decide, (by decide), fun p9 h9 => ?_⟩
    rw [show (List.replicate (6 : Int).toNat [V.str "a"]).flatten = [.str "a", .str "a", .str "a", .str "a", .str "a", .str "a"] from rfl]
    have x9 := Ex.new (o := .tup [.str "a", .str "a", .str "a", .str "a", .str "a", .str "a"]) h9
    have t9 : SqT K (upd H8 p9 (.tup [.str "a", .str "a", .str "a", .str "a", .str "a", .str "a"])) p9 [.str "a", .str "a", .str "a", .str "a", .str "a", .str "a"] := SqT.of upd_same
    generalize upd H8 p9 (.tup [.str "a", .str "a", .str "a", .str "a", .str "a", .str "a"]) = H9 at x9 t9 ⊢
    refine ⟨(by show 1 ≤ sizeLine; decide), fun p10 h10 => ?_⟩
    have x10 := Ex.new (o := .tup [.str "a/"]) h10
    have t10 : SqT K (upd H9 p10 (.tup [.str "a/"])) p10 [.str "a/"] := SqT.of upd_same
    generalize upd H9 p10 (.tup [.str "a/"]) = H10 at x10 t10 ⊢
    refine ⟨(by show 1 ≤ sizeLine; decide), fun p11 h11 => ?_⟩
    have x11 := Ex.new (o := .tup [.str "a"]) h11
    have t11 : SqT K (upd H10 p11 (.tup [.str "a"])) p11 [.str "a"] := SqT.of upd_same
    generalize upd H10 p11 (.tup [.str "a"]) = H11 at x11 t11 ⊢
    refine ⟨(by show 1 ≤ sizeLine; decide), fun p12 h12 => ?_⟩
    have x12 := Ex.new (o := .tup [.ref p11]) h12
    have t12 : SqT K (upd H11 p12 (.tup [.ref p11])) p12 [.ref p11] := SqT.of upd_same
    generalize upd H11 p12 (.tup [.ref p11]) = H12 at x12 t12 ⊢
    refine ⟨(by show 13 ≤ sizeLine; decide), fun p13 h13 => ?_⟩
    have x13 := Ex.new (o := .lst [.non, .str "a", .ref p1, .ref p2, .ref p3, .ref p4, .ref p5, .ref p6, .ref p7, .ref p9, .int 7, .ref p10, .ref p12]) h13
    have t13 : SqL K (upd H12 p13 (.lst [.non, .str "a", .ref p1, .ref p2, .ref p3, .ref p4, .ref p5, .ref p6, .ref p7, .ref p9, .int 7, .ref p10, .ref p12])) p13 [.non, .str "a", .ref p1, .ref p2, .ref p3, .ref p4, .ref p5, .ref p6, .ref p7, .ref p9, .int 7, .ref p10, .ref p12] := SqL.of upd_same
    generalize upd H12 p13 (.lst [.non, .str "a", .ref p1, .ref p2, .ref p3, .ref p4, .ref p5, .ref p6, .ref p7, .ref p9, .int 7, .ref p10, .ref p12]) = H13 at x13 t13 ⊢
    have y13 := Ex.refl H13
    have y12 := x13.trans y13
    have y11 := x12.trans y12
    have y10 := x11.trans y11
    have y9 := x10.trans y10
    have y8 := x9.trans y9
    have y7 := x8.trans y8
    have y6 := x7.trans y7
    have y5 := x6.trans y6
    have y4 := x5.trans y5
    have y3 := x4.trans y4
    have y2 := x3.trans y3
    have y1 := x2.trans y2
    have y0 := x1.trans y1
    have nt : ∀ {G : Hp} {q : Addr}, Ex H G → G q = none → q ≠ tw := fun x e z => by
      obtain ⟨u0, u1, _, e2⟩ := L.town
      have := x.free _ e
      rw [z, e2] at this
      cases this
    have z0 := Ex.refl H
    have z1 := z0.trans x1
    have z2 := z1.trans x2
    have z3 := z2.trans x3
    have z4 := z3.trans x4
    have z5 := z4.trans x5
    have z6 := z5.trans x6
    have z7 := z6.trans x7
    have z8 := z7.trans x8
    have z9 := z8.trans x9
    have z10 := z9.trans x10
    have z11 := z10.trans x11
    have z12 := z11.trans x12
    have z13 := z12.trans x13
    have LN := L.ex y0
    refine ⟨_, rfl, _, rfl, _, rfl, sc, tw, p13, ns, _, rfl, LN, t13, nt z12 h13, (by show 0 < 13; decide), (by show 13 < 1000; decide), fun H' x ev hx => ?_⟩
    refine k H' x ((y0.ev L.town).trans ev) ?_
    have s1 := ev.lst (nt z0 h1) (y1.lst t1)
    have s2 := ev.tup LN.town (y2.tup t2)
    have s3 := ev.tup LN.town (y3.tup t3)
    have s4 := ev.tup LN.town (y4.tup t4)
    have s5 := ev.tup LN.town (y5.tup t5)
    have s6 := ev.tup LN.town (y6.tup t6)
    have s7 := ev.tup LN.town (y7.tup t7)
    have s8 := ev.tup LN.town (y8.tup t8)
    have s9 := ev.tup LN.town (y9.tup t9)
    have s10 := ev.tup LN.town (y10.tup t10)
    have s11 := ev.tup LN.town (y11.tup t11)
    have s12 := ev.tup LN.town (y12.tup t12)
    simp only [List.mem_cons, List.not_mem_nil, or_false] at hx
    rcases hx with rfl | rfl | rfl | rfl | rfl | rfl | rfl | rfl | rfl | rfl | rfl | rfl | rfl
    · exact .oth .non (by decide)
    · exact .oth (.str _) (by decide)
    · exact .oth (.lst s1) (by decide)
    · refine tupB s2 (by decide +kernel) fun x m => ?_
      simp only [List.mem_cons, List.not_mem_nil, or_false] at m
      subst m
      exact ⟨_, .str _, fun z e => by cases e; decide⟩
    · refine tupB s3 (by decide +kernel) fun x m => ?_
      simp only [List.mem_cons, List.not_mem_nil, or_false] at m
      subst m
      exact ⟨_, .str _, fun z e => by cases e; decide⟩
    · refine tupB s4 (by decide +kernel) fun x m => ?_
      simp only [List.mem_cons, List.not_mem_nil, or_false] at m
      subst m
      exact ⟨_, .str _, fun z e => by cases e; decide⟩
    · refine tupB s5 (by decide +kernel) fun x m => ?_
      simp only [List.mem_cons, List.not_mem_nil, or_false] at m
      subst m
      exact ⟨_, .int _, fun z e => nomatch e⟩
    · refine tupB s6 (by decide +kernel) fun x m => ?_
      simp only [List.mem_cons, List.not_mem_nil, or_false] at m
      rcases m with rfl | rfl
      · exact ⟨_, .str _, fun z e => by cases e; decide⟩
      · exact ⟨_, .non, fun z e => nomatch e⟩
    · refine tupB s7 (by decide +kernel) fun x m => ?_
      simp only [List.mem_cons, List.not_mem_nil, or_false] at m
      subst m
      exact ⟨_, .str _, fun z e => by cases e; decide⟩
    · refine tupB s9 (by decide +kernel) fun x m => ?_
      simp only [List.mem_cons, List.not_mem_nil, or_false] at m
      have m : x = V.str "a" := by simpa using m
      subst m
      exact ⟨_, .str _, fun z e => by cases e; decide⟩
    · exact .oth (.int _) (by decide)
    · refine tupB s10 (by decide +kernel) fun x m => ?_
      simp only [List.mem_cons, List.not_mem_nil, or_false] at m
      subst m
      exact ⟨_, .str _, fun z e => by cases e; decide⟩
    · refine tupB s12 rfl fun x m => ?_
      simp only [List.mem_cons, List.not_mem_nil, or_false] at m
      subst m
      exact ⟨_, .tup s11, fun z e => nomatch e⟩
end
/-! ### what is no layer -/
theorem bad_layer {K : PySem.W.Frag} {H : Hp} {d : Addr} {kvs : List (List L2.Key × V)} {es : Ents} (h : H d = some (.dT kvs)) (r : RowE K H kvs es) (s : smallEB es = true) (t : layerB es = false) : LayerQ K H (.ref d) false := by
  have := LayerQ.dict ⟨kvs, Or.inl h, r⟩ (smallE_of s)
  rwa [t] at this
def spNoLayer (K : PySem.W.Frag) : Sp := fun vs H Q _ => ∃ (sc tw : Addr) (ns : List Int), vs = [.ref sc, .ref tw] ∧ Lw K H sc tw ns ∧ ∀ H' x, Ev tw H H' → x ≠ .ref tw → (∀ G, Ev tw H' G → LayerQ K G x false) → Q x H'
section
variable {P : Program} {w : World} {K : PySem.W.Frag} {mg : Str → Option Value} {base : Heap}
theorem scNoLayer : FnScope ["_law_script", "_law_town", "_law_bad"] ["_law_script", "_law_town"] (defScope sNoLayer) := ⟨rfl, rfl, rfl, by decide +kernel, rfl, by decide +kernel, by decide +kernel⟩
theorem ok_noLayer {f fP : Addr} {fd fdP : FuncData} (F : Fun K "_law_no_layer" "_law_no_layer" sNoLayer f fd)
    (GP : FnOk P w K mg base CX0 2 fP fdP ["_law_script", "_law_town", "_law_some"] (spPick K)) (mP : mg "_law_pick" = some (.ref fP)) (kP : PySem.W.keepIn K (.ref fP) = true) (bP : Binds K fdP ["_law_script", "_law_town", "_law_some"] []) :
    FnOk P w K mg base CX0 3 f fd ["_law_script", "_law_town"] (spNoLayer K) := by
  refine F.ok scNoLayer (fun vs H Q E h => ?_) (fun cdv A outer s H vs Q E hr h => ?_)
  · obtain ⟨sc, tw, ns, rfl, _⟩ := h
    rfl
  · obtain ⟨sc, tw, ns, rfl, L, k⟩ := h
    have hu1 : (A.deeper (envOfC "_law_no_layer" (defScope sNoLayer) s.heap.objs.size f cdv)).units + 1 < cLine := by have := hr.units; omega
    refine ⟨_, (pss_cons (ps_set (i := 2) scNoLayer.nd rfl (Or.inl rfl) (pe_lst (pa_cons pe_non (pa_cons (pe_lst pa_nil) (pa_cons pe_dnewT (pa_cons (pe_dispT hu1 (pps_cons (pe_tup pa_nil) (pe_tup (pa_cons pe_str pa_nil)) pps_nil) rfl rfl (by simp) (by decide)) (pa_cons (pe_dispT hu1 (pps_cons (pe_tup pa_nil) (pe_tup (pa_cons pe_str pa_nil)) pps_nil) rfl rfl (by simp) (by decide)) (pa_cons (pe_dispT hu1 (pps_cons (pe_tup (pa_cons pe_str pa_nil)) (pe_tup (pa_cons pe_str pa_nil)) pps_nil) rfl rfl (by simp) (by decide)) (pa_cons (pe_dispT hu1 (pps_cons (pe_tup pa_nil) (pe_tup (pa_cons pe_str (pa_cons pe_int pa_nil))) pps_nil) rfl rfl (by simp) (by decide)) pa_nil)))))))))
      (pss_cons (ps_expr (pe_bm PySem.F.plainAttrs_list PySem.F.slot_list_append PySem.F.type_list_append mt_append (pv 2) (pa_cons (pe_dispT hu1 (pps_cons (pe_tup pa_nil) (pe_tup (pa_cons pe_str (pa_cons pe_non pa_nil))) pps_nil) rfl rfl (by simp) (by decide)) pa_nil)))
      (pss_cons (ps_expr (pe_bm PySem.F.plainAttrs_list PySem.F.slot_list_append PySem.F.type_list_append mt_append (pv 2) (pa_cons (pe_dispT hu1 (pps_cons (pe_tup pa_nil) (pe_tup (pa_cons pe_str (pa_cons pe_bl pa_nil))) (pps_cons (pe_tup (pa_cons pe_str (pa_cons pe_str pa_nil))) (pe_tup (pa_cons pe_str pa_nil)) pps_nil)) rfl rfl (by simp) (by decide)) pa_nil)))
      (pss_cons (ps_expr (pe_bm PySem.F.plainAttrs_list PySem.F.slot_list_append PySem.F.type_list_append mt_append (pv 2) (pa_cons (pe_dispT hu1 (pps_cons (pe_tup pa_nil) (pe_tup (pa_cons pe_str (pa_cons pe_bl pa_nil))) (pps_cons (pe_tup (pa_cons pe_str pa_nil)) (pe_tup (pa_cons pe_str pa_nil)) (pps_cons (pe_tup (pa_cons pe_str (pa_cons pe_str pa_nil))) (pe_tup (pa_cons pe_str pa_nil)) pps_nil))) rfl rfl (by simp) (by decide)) pa_nil)))
      (pss_cons (ps_expr (pe_bm PySem.F.plainAttrs_list PySem.F.slot_list_append PySem.F.type_list_append mt_append (pv 2) (pa_cons (pe_dispT hu1 (pps_cons (pe_tup pa_nil) (pe_tup (pa_cons pe_str (pa_cons pe_bl pa_nil))) (pps_cons (pe_tup (pa_cons pe_str pa_nil)) (pe_tup (pa_cons pe_str (pa_cons pe_int (pa_cons pe_str pa_nil)))) (pps_cons (pe_tup (pa_cons pe_str pa_nil)) (pe_tup (pa_cons pe_str (pa_cons pe_int (pa_cons pe_str pa_nil)))) pps_nil))) rfl rfl (by simp) (by decide)) pa_nil)))
      (pss_cons (ps_expr (pe_bm PySem.F.plainAttrs_list PySem.F.slot_list_append PySem.F.type_list_append mt_append (pv 2) (pa_cons (pe_dispT hu1 (pps_cons (pe_tup pa_nil) (pe_tup (pa_cons pe_str (pa_cons pe_bl pa_nil))) (pps_cons (pe_tup (pa_cons pe_str pa_nil)) (pe_tup (pa_cons pe_str (pa_cons pe_int (pa_cons pe_str pa_nil)))) pps_nil)) rfl rfl (by simp) (by decide)) pa_nil)))
      (pss_cons (ps_expr (pe_bm PySem.F.plainAttrs_list PySem.F.slot_list_extend PySem.F.type_list_extend mt_extend (pv 2) (pa_cons (pe_lst (pa_cons (pe_dispT hu1 (pps_cons (pe_tup pa_nil) (pe_tup (pa_cons pe_str (pa_cons pe_bl pa_nil))) (pps_cons (pe_tup (pa_cons pe_str pa_nil)) (pe_tup (pa_cons pe_str pa_nil)) pps_nil)) rfl rfl (by simp) (by decide)) (pa_cons (pe_dispT hu1 (pps_cons (pe_tup pa_nil) (pe_tup (pa_cons pe_str (pa_cons pe_bl pa_nil))) (pps_cons (pe_tup (pa_cons pe_str pa_nil)) pe_str pps_nil)) rfl rfl (by simp) (by decide)) (pa_cons pe_str pa_nil)))) pa_nil)))
      (pss_cons (ps_expr (pe_bm PySem.F.plainAttrs_list PySem.F.slot_list_append PySem.F.type_list_append mt_append (pv 2) (pa_cons (pe_dispT hu1 (pps_cons (pe_tup pa_nil) (pe_tup (pa_cons pe_str (pa_cons pe_bl pa_nil))) (pps_cons (pe_tup (pa_cons pe_str pa_nil)) (pe_tup (pa_cons pe_str (pa_cons pe_int (pa_cons pe_str pa_nil)))) (pps_cons (pe_tup (pa_cons pe_str (pa_cons pe_str pa_nil))) (pe_tup (pa_cons pe_str pa_nil)) pps_nil))) rfl rfl (by simp) (by decide)) pa_nil)))
      (pss_one (ps_ret (pe_call (E := E0) GP hr (by rfl) mP kP bP .nil pass0 (pa_cons (pv 0) (pa_cons (pv 1) (pa_cons (pv 2) pa_nil)))))))))))))), ?_⟩
    refine ⟨(by show 0 ≤ sizeLine; decide), fun p1 h1 => ?_⟩
    have x1 := Ex.new (o := .lst []) h1
    have t1 : (upd H p1 (.lst [])) p1 = some (.lst []) := upd_same
    generalize upd H p1 (.lst []) = H1 at x1 t1 ⊢
    have xi1 := x1
    refine fun p2 h2 => ?_
    have x2 := Ex.new (o := .dT []) h2
    have t2 : (upd H1 p2 (.dT [])) p2 = some (.dT []) := upd_same
    generalize upd H1 p2 (.dT []) = H2 at x2 t2 ⊢
    have xi2 := x2
    refine fun p3 h3 => ?_
    have x3 := Ex.new (o := .dT []) h3
    have t3 : (upd H2 p3 (.dT [])) p3 = some (.dT []) := upd_same
    generalize upd H2 p3 (.dT []) = H3 at x3 t3 ⊢
    refine ⟨(by show 0 ≤ sizeLine; decide), fun p4 h4 => ?_⟩
    have x4 := Ex.new (o := .tup []) h4
    have t4 : (upd H3 p4 (.tup [])) p4 = some (.tup []) := upd_same
    generalize upd H3 p4 (.tup []) = H4 at x4 t4 ⊢
    refine ⟨(by show 1 ≤ sizeLine; decide), fun p5 h5 => ?_⟩
    have x5 := Ex.new (o := .tup [V.str "drawer"]) h5
    have t5 : (upd H4 p5 (.tup [V.str "drawer"])) p5 = some (.tup [V.str "drawer"]) := upd_same
    generalize upd H4 p5 (.tup [V.str "drawer"]) = H5 at x5 t5 ⊢
    have td3 := (x4.trans x5).keep _ _ t3 (fun ps z => by cases z)
    have u4 := x5.keep _ _ t4 (fun ps z => by cases z)
    have u5 := t5
    refine ⟨td3, [(([] : List Str).map (Sum.inr : Str → L2.Key), V.ref p5)], .cons ⟨⟨p4, rfl, u4⟩, rfl⟩ .nil, (by show 1 ≤ 15; decide), ?_⟩
    rw [merge1]
    have xi3 : Ex H2 (upd H5 p3 (.dT [(([] : List Str).map (Sum.inr : Str → L2.Key), V.ref p5)])) := (x3.trans (x4.trans x5)).put h3
    have fd3 : (upd H5 p3 (.dT [(([] : List Str).map (Sum.inr : Str → L2.Key), V.ref p5)])) p3 = some (.dT [(([] : List Str).map (Sum.inr : Str → L2.Key), V.ref p5)]) := upd_same
    have g4 := mv_upd (u := .dT [(([] : List Str).map (Sum.inr : Str → L2.Key), V.ref p5)]) td3 (fun q => q) _ _ u4 trivial
    have g5 := mv_upd (u := .dT [(([] : List Str).map (Sum.inr : Str → L2.Key), V.ref p5)]) td3 (fun q => q) _ _ u5 trivial
    generalize upd H5 p3 (.dT [(([] : List Str).map (Sum.inr : Str → L2.Key), V.ref p5)]) = H6 at xi3 fd3 g4 g5 ⊢
    refine fun p7 h7 => ?_
    have x7 := Ex.new (o := .dT []) h7
    have t7 : (upd H6 p7 (.dT [])) p7 = some (.dT []) := upd_same
    generalize upd H6 p7 (.dT []) = H7 at x7 t7 ⊢
    refine ⟨(by show 0 ≤ sizeLine; decide), fun p8 h8 => ?_⟩
    have x8 := Ex.new (o := .tup []) h8
    have t8 : (upd H7 p8 (.tup [])) p8 = some (.tup []) := upd_same
    generalize upd H7 p8 (.tup []) = H8 at x8 t8 ⊢
    refine ⟨(by show 1 ≤ sizeLine; decide), fun p9 h9 => ?_⟩
    have x9 := Ex.new (o := .tup [V.str "gone"]) h9
    have t9 : (upd H8 p9 (.tup [V.str "gone"])) p9 = some (.tup [V.str "gone"]) := upd_same
    generalize upd H8 p9 (.tup [V.str "gone"]) = H9 at x9 t9 ⊢
    have td4 := (x8.trans x9).keep _ _ t7 (fun ps z => by cases z)
    have u8 := x9.keep _ _ t8 (fun ps z => by cases z)
    have u9 := t9
    refine ⟨td4, [(([] : List Str).map (Sum.inr : Str → L2.Key), V.ref p9)], .cons ⟨⟨p8, rfl, u8⟩, rfl⟩ .nil, (by show 1 ≤ 15; decide), ?_⟩
    rw [merge1]
    have xi4 : Ex H6 (upd H9 p7 (.dT [(([] : List Str).map (Sum.inr : Str → L2.Key), V.ref p9)])) := (x7.trans (x8.trans x9)).put h7
    have fd4 : (upd H9 p7 (.dT [(([] : List Str).map (Sum.inr : Str → L2.Key), V.ref p9)])) p7 = some (.dT [(([] : List Str).map (Sum.inr : Str → L2.Key), V.ref p9)]) := upd_same
    have g8 := mv_upd (u := .dT [(([] : List Str).map (Sum.inr : Str → L2.Key), V.ref p9)]) td4 (fun q => q) _ _ u8 trivial
    have g9 := mv_upd (u := .dT [(([] : List Str).map (Sum.inr : Str → L2.Key), V.ref p9)]) td4 (fun q => q) _ _ u9 trivial
    generalize upd H9 p7 (.dT [(([] : List Str).map (Sum.inr : Str → L2.Key), V.ref p9)]) = H10 at xi4 fd4 g8 g9 ⊢
    refine fun p11 h11 => ?_
    have x11 := Ex.new (o := .dT []) h11
    have t11 : (upd H10 p11 (.dT [])) p11 = some (.dT []) := upd_same
    generalize upd H10 p11 (.dT []) = H11 at x11 t11 ⊢
    refine ⟨(by show 1 ≤ sizeLine; decide), fun p12 h12 => ?_⟩
    have x12 := Ex.new (o := .tup [V.str "a"]) h12
    have t12 : (upd H11 p12 (.tup [V.str "a"])) p12 = some (.tup [V.str "a"]) := upd_same
    generalize upd H11 p12 (.tup [V.str "a"]) = H12 at x12 t12 ⊢
    refine ⟨(by show 1 ≤ sizeLine; decide), fun p13 h13 => ?_⟩
    have x13 := Ex.new (o := .tup [V.str "gone"]) h13
    have t13 : (upd H12 p13 (.tup [V.str "gone"])) p13 = some (.tup [V.str "gone"]) := upd_same
    generalize upd H12 p13 (.tup [V.str "gone"]) = H13 at x13 t13 ⊢
    have td5 := (x12.trans x13).keep _ _ t11 (fun ps z => by cases z)
    have u12 := x13.keep _ _ t12 (fun ps z => by cases z)
    have u13 := t13
    refine ⟨td5, [((["a"] : List Str).map (Sum.inr : Str → L2.Key), V.ref p13)], .cons ⟨⟨p12, rfl, u12⟩, rfl⟩ .nil, (by show 1 ≤ 15; decide), ?_⟩
    rw [merge1]
    have xi5 : Ex H10 (upd H13 p11 (.dT [((["a"] : List Str).map (Sum.inr : Str → L2.Key), V.ref p13)])) := (x11.trans (x12.trans x13)).put h11
    have fd5 : (upd H13 p11 (.dT [((["a"] : List Str).map (Sum.inr : Str → L2.Key), V.ref p13)])) p11 = some (.dT [((["a"] : List Str).map (Sum.inr : Str → L2.Key), V.ref p13)]) := upd_same
    have g12 := mv_upd (u := .dT [((["a"] : List Str).map (Sum.inr : Str → L2.Key), V.ref p13)]) td5 (fun q => q) _ _ u12 trivial
    have g13 := mv_upd (u := .dT [((["a"] : List Str).map (Sum.inr : Str → L2.Key), V.ref p13)]) td5 (fun q => q) _ _ u13 trivial
    generalize upd H13 p11 (.dT [((["a"] : List Str).map (Sum.inr : Str → L2.Key), V.ref p13)]) = H14 at xi5 fd5 g12 g13 ⊢
    refine fun p15 h15 => ?_
    have x15 := Ex.new (o := .dT []) h15
    have t15 : (upd H14 p15 (.dT [])) p15 = some (.dT []) := upd_same
    generalize upd H14 p15 (.dT []) = H15 at x15 t15 ⊢
    refine ⟨(by show 0 ≤ sizeLine; decide), fun p16 h16 => ?_⟩
    have x16 := Ex.new (o := .tup []) h16
    have t16 : (upd H15 p16 (.tup [])) p16 = some (.tup []) := upd_same
    generalize upd H15 p16 (.tup []) = H16 at x16 t16 ⊢
    refine ⟨(by show 2 ≤ sizeLine; decide), fun p17 h17 => ?_⟩
    have x17 := Ex.new (o := .tup [V.str "drawer", V.int 0]) h17
    have t17 : (upd H16 p17 (.tup [V.str "drawer", V.int 0])) p17 = some (.tup [V.str "drawer", V.int 0]) := upd_same
    generalize upd H16 p17 (.tup [V.str "drawer", V.int 0]) = H17 at x17 t17 ⊢
    have td6 := (x16.trans x17).keep _ _ t15 (fun ps z => by cases z)
    have u16 := x17.keep _ _ t16 (fun ps z => by cases z)
    have u17 := t17
    refine ⟨td6, [(([] : List Str).map (Sum.inr : Str → L2.Key), V.ref p17)], .cons ⟨⟨p16, rfl, u16⟩, rfl⟩ .nil, (by show 1 ≤ 15; decide), ?_⟩
    rw [merge1]
    have xi6 : Ex H14 (upd H17 p15 (.dT [(([] : List Str).map (Sum.inr : Str → L2.Key), V.ref p17)])) := (x15.trans (x16.trans x17)).put h15
    have fd6 : (upd H17 p15 (.dT [(([] : List Str).map (Sum.inr : Str → L2.Key), V.ref p17)])) p15 = some (.dT [(([] : List Str).map (Sum.inr : Str → L2.Key), V.ref p17)]) := upd_same
    have g16 := mv_upd (u := .dT [(([] : List Str).map (Sum.inr : Str → L2.Key), V.ref p17)]) td6 (fun q => q) _ _ u16 trivial
    have g17 := mv_upd (u := .dT [(([] : List Str).map (Sum.inr : Str → L2.Key), V.ref p17)]) td6 (fun q => q) _ _ u17 trivial
    generalize upd H17 p15 (.dT [(([] : List Str).map (Sum.inr : Str → L2.Key), V.ref p17)]) = H18 at xi6 fd6 g16 g17 ⊢
    refine ⟨(by show 7 ≤ sizeLine; decide), fun p19 h19 => ?_⟩
    have xl := Ex.new (o := .lst [V.non, V.ref p1, V.ref p2, V.ref p3, V.ref p7, V.ref p11, V.ref p15]) h19
    have tl : (upd H18 p19 (.lst [V.non, V.ref p1, V.ref p2, V.ref p3, V.ref p7, V.ref p11, V.ref p15])) p19 = some (.lst [V.non, V.ref p1, V.ref p2, V.ref p3, V.ref p7, V.ref p11, V.ref p15]) := upd_same
    generalize upd H18 p19 (.lst [V.non, V.ref p1, V.ref p2, V.ref p3, V.ref p7, V.ref p11, V.ref p15]) = H19 at xl tl ⊢
    refine ⟨_, rfl, .inl ⟨rfl, _, SqL.of tl⟩, ?_⟩
    refine fun p20 h20 => ?_
    have x20 := Ex.new (o := .dT []) h20
    have t20 : (upd H19 p20 (.dT [])) p20 = some (.dT []) := upd_same
    generalize upd H19 p20 (.dT []) = H20 at x20 t20 ⊢
    refine ⟨(by show 0 ≤ sizeLine; decide), fun p21 h21 => ?_⟩
    have x21 := Ex.new (o := .tup []) h21
    have t21 : (upd H20 p21 (.tup [])) p21 = some (.tup []) := upd_same
    generalize upd H20 p21 (.tup []) = H21 at x21 t21 ⊢
    refine ⟨(by show 2 ≤ sizeLine; decide), fun p22 h22 => ?_⟩
    have x22 := Ex.new (o := .tup [V.str "drawer", V.non]) h22
    have t22 : (upd H21 p22 (.tup [V.str "drawer", V.non])) p22 = some (.tup [V.str "drawer", V.non]) := upd_same
    generalize upd H21 p22 (.tup [V.str "drawer", V.non]) = H22 at x22 t22 ⊢
    have td7 := (x21.trans x22).keep _ _ t20 (fun ps z => by cases z)
    have u21 := x22.keep _ _ t21 (fun ps z => by cases z)
    have u22 := t22
    refine ⟨td7, [(([] : List Str).map (Sum.inr : Str → L2.Key), V.ref p22)], .cons ⟨⟨p21, rfl, u21⟩, rfl⟩ .nil, (by show 1 ≤ 15; decide), ?_⟩
    rw [merge1]
    have xi7 : Ex H19 (upd H22 p20 (.dT [(([] : List Str).map (Sum.inr : Str → L2.Key), V.ref p22)])) := (x20.trans (x21.trans x22)).put h20
    have fd7 : (upd H22 p20 (.dT [(([] : List Str).map (Sum.inr : Str → L2.Key), V.ref p22)])) p20 = some (.dT [(([] : List Str).map (Sum.inr : Str → L2.Key), V.ref p22)]) := upd_same
    have g21 := mv_upd (u := .dT [(([] : List Str).map (Sum.inr : Str → L2.Key), V.ref p22)]) td7 (fun q => q) _ _ u21 trivial
    have g22 := mv_upd (u := .dT [(([] : List Str).map (Sum.inr : Str → L2.Key), V.ref p22)]) td7 (fun q => q) _ _ u22 trivial
    generalize upd H22 p20 (.dT [(([] : List Str).map (Sum.inr : Str → L2.Key), V.ref p22)]) = H23 at xi7 fd7 g21 g22 ⊢
    have tl := xi7.keep _ _ tl (fun ps z => by cases z)
    have tlS8 := tl
    refine ⟨p19, [V.non, V.ref p1, V.ref p2, V.ref p3, V.ref p7, V.ref p11, V.ref p15], V.ref p20, rfl, rfl, tl, (by show 7 < sizeLine; decide), ?_⟩
    have xb1 := eb_upd (ys := [V.non, V.ref p1, V.ref p2, V.ref p3, V.ref p7, V.ref p11, V.ref p15, V.ref p20]) tl
    have tl : (upd H23 p19 (.lst [V.non, V.ref p1, V.ref p2, V.ref p3, V.ref p7, V.ref p11, V.ref p15, V.ref p20])) p19 = some (.lst [V.non, V.ref p1, V.ref p2, V.ref p3, V.ref p7, V.ref p11, V.ref p15, V.ref p20]) := upd_same
    show tSeq _ _ _ _ (upd H23 p19 (.lst [V.non, V.ref p1, V.ref p2, V.ref p3, V.ref p7, V.ref p11, V.ref p15, V.ref p20]))
    try show tSeq _ _ _ _ (upd H23 p19 (.lst [V.non, V.ref p1, V.ref p2, V.ref p3, V.ref p7, V.ref p11, V.ref p15, V.ref p20]))
    try show tRet _ _ _ (upd H23 p19 (.lst [V.non, V.ref p1, V.ref p2, V.ref p3, V.ref p7, V.ref p11, V.ref p15, V.ref p20]))
    generalize upd H23 p19 (.lst [V.non, V.ref p1, V.ref p2, V.ref p3, V.ref p7, V.ref p11, V.ref p15, V.ref p20]) = H24 at xb1 tl ⊢
    have tlS9 := tl
    refine ⟨_, rfl, .inl ⟨rfl, _, SqL.of tl⟩, ?_⟩
    refine fun p25 h25 => ?_
    have x25 := Ex.new (o := .dT []) h25
    have t25 : (upd H24 p25 (.dT [])) p25 = some (.dT []) := upd_same
    generalize upd H24 p25 (.dT []) = H25 at x25 t25 ⊢
    refine ⟨(by show 0 ≤ sizeLine; decide), fun p26 h26 => ?_⟩
    have x26 := Ex.new (o := .tup []) h26
    have t26 : (upd H25 p26 (.tup [])) p26 = some (.tup []) := upd_same
    generalize upd H25 p26 (.tup []) = H26 at x26 t26 ⊢
    refine ⟨(by show 2 ≤ sizeLine; decide), fun p27 h27 => ?_⟩
    have x27 := Ex.new (o := .tup [V.str "drawer", V.bl false]) h27
    have t27 : (upd H26 p27 (.tup [V.str "drawer", V.bl false])) p27 = some (.tup [V.str "drawer", V.bl false]) := upd_same
    generalize upd H26 p27 (.tup [V.str "drawer", V.bl false]) = H27 at x27 t27 ⊢
    refine ⟨(by show 2 ≤ sizeLine; decide), fun p28 h28 => ?_⟩
    have x28 := Ex.new (o := .tup [V.str "a", V.str "b"]) h28
    have t28 : (upd H27 p28 (.tup [V.str "a", V.str "b"])) p28 = some (.tup [V.str "a", V.str "b"]) := upd_same
    generalize upd H27 p28 (.tup [V.str "a", V.str "b"]) = H28 at x28 t28 ⊢
    refine ⟨(by show 1 ≤ sizeLine; decide), fun p29 h29 => ?_⟩
    have x29 := Ex.new (o := .tup [V.str "gone"]) h29
    have t29 : (upd H28 p29 (.tup [V.str "gone"])) p29 = some (.tup [V.str "gone"]) := upd_same
    generalize upd H28 p29 (.tup [V.str "gone"]) = H29 at x29 t29 ⊢
    have td8 := (((x26.trans x27).trans x28).trans x29).keep _ _ t25 (fun ps z => by cases z)
    have u26 := ((x27.trans x28).trans x29).keep _ _ t26 (fun ps z => by cases z)
    have u27 := (x28.trans x29).keep _ _ t27 (fun ps z => by cases z)
    have u28 := x29.keep _ _ t28 (fun ps z => by cases z)
    have u29 := t29
    refine ⟨td8, [(([] : List Str).map (Sum.inr : Str → L2.Key), V.ref p27), ((["a", "b"] : List Str).map (Sum.inr : Str → L2.Key), V.ref p29)], .cons ⟨⟨p26, rfl, u26⟩, rfl⟩ (.cons ⟨⟨p28, rfl, u28⟩, rfl⟩ .nil), (by show 2 ≤ 15; decide), ?_⟩
    rw [merge2 (by decide +kernel)]
    have xi8 : Ex H24 (upd H29 p25 (.dT [(([] : List Str).map (Sum.inr : Str → L2.Key), V.ref p27), ((["a", "b"] : List Str).map (Sum.inr : Str → L2.Key), V.ref p29)])) := (x25.trans (((x26.trans x27).trans x28).trans x29)).put h25
    have fd8 : (upd H29 p25 (.dT [(([] : List Str).map (Sum.inr : Str → L2.Key), V.ref p27), ((["a", "b"] : List Str).map (Sum.inr : Str → L2.Key), V.ref p29)])) p25 = some (.dT [(([] : List Str).map (Sum.inr : Str → L2.Key), V.ref p27), ((["a", "b"] : List Str).map (Sum.inr : Str → L2.Key), V.ref p29)]) := upd_same
    have g26 := mv_upd (u := .dT [(([] : List Str).map (Sum.inr : Str → L2.Key), V.ref p27), ((["a", "b"] : List Str).map (Sum.inr : Str → L2.Key), V.ref p29)]) td8 (fun q => q) _ _ u26 trivial
    have g27 := mv_upd (u := .dT [(([] : List Str).map (Sum.inr : Str → L2.Key), V.ref p27), ((["a", "b"] : List Str).map (Sum.inr : Str → L2.Key), V.ref p29)]) td8 (fun q => q) _ _ u27 trivial
    have g28 := mv_upd (u := .dT [(([] : List Str).map (Sum.inr : Str → L2.Key), V.ref p27), ((["a", "b"] : List Str).map (Sum.inr : Str → L2.Key), V.ref p29)]) td8 (fun q => q) _ _ u28 trivial
    have g29 := mv_upd (u := .dT [(([] : List Str).map (Sum.inr : Str → L2.Key), V.ref p27), ((["a", "b"] : List Str).map (Sum.inr : Str → L2.Key), V.ref p29)]) td8 (fun q => q) _ _ u29 trivial
    generalize upd H29 p25 (.dT [(([] : List Str).map (Sum.inr : Str → L2.Key), V.ref p27), ((["a", "b"] : List Str).map (Sum.inr : Str → L2.Key), V.ref p29)]) = H30 at xi8 fd8 g26 g27 g28 g29 ⊢
    have tl := xi8.keep _ _ tl (fun ps z => by cases z)
    have tlS10 := tl
    refine ⟨p19, [V.non, V.ref p1, V.ref p2, V.ref p3, V.ref p7, V.ref p11, V.ref p15, V.ref p20], V.ref p25, rfl, rfl, tl, (by show 8 < sizeLine; decide), ?_⟩
    have xb2 := eb_upd (ys := [V.non, V.ref p1, V.ref p2, V.ref p3, V.ref p7, V.ref p11, V.ref p15, V.ref p20, V.ref p25]) tl
    have tl : (upd H30 p19 (.lst [V.non, V.ref p1, V.ref p2, V.ref p3, V.ref p7, V.ref p11, V.ref p15, V.ref p20, V.ref p25])) p19 = some (.lst [V.non, V.ref p1, V.ref p2, V.ref p3, V.ref p7, V.ref p11, V.ref p15, V.ref p20, V.ref p25]) := upd_same
    show tSeq _ _ _ _ (upd H30 p19 (.lst [V.non, V.ref p1, V.ref p2, V.ref p3, V.ref p7, V.ref p11, V.ref p15, V.ref p20, V.ref p25]))
    try show tSeq _ _ _ _ (upd H30 p19 (.lst [V.non, V.ref p1, V.ref p2, V.ref p3, V.ref p7, V.ref p11, V.ref p15, V.ref p20, V.ref p25]))
    try show tRet _ _ _ (upd H30 p19 (.lst [V.non, V.ref p1, V.ref p2, V.ref p3, V.ref p7, V.ref p11, V.ref p15, V.ref p20, V.ref p25]))
    generalize upd H30 p19 (.lst [V.non, V.ref p1, V.ref p2, V.ref p3, V.ref p7, V.ref p11, V.ref p15, V.ref p20, V.ref p25]) = H31 at xb2 tl ⊢
    have tlS11 := tl
    refine ⟨_, rfl, .inl ⟨rfl, _, SqL.of tl⟩, ?_⟩
    refine fun p32 h32 => ?_
    have x32 := Ex.new (o := .dT []) h32
    have t32 : (upd H31 p32 (.dT [])) p32 = some (.dT []) := upd_same
    generalize upd H31 p32 (.dT []) = H32 at x32 t32 ⊢
    refine ⟨(by show 0 ≤ sizeLine; decide), fun p33 h33 => ?_⟩
    have x33 := Ex.new (o := .tup []) h33
    have t33 : (upd H32 p33 (.tup [])) p33 = some (.tup []) := upd_same
    generalize upd H32 p33 (.tup []) = H33 at x33 t33 ⊢
    refine ⟨(by show 2 ≤ sizeLine; decide), fun p34 h34 => ?_⟩
    have x34 := Ex.new (o := .tup [V.str "drawer", V.bl false]) h34
    have t34 : (upd H33 p34 (.tup [V.str "drawer", V.bl false])) p34 = some (.tup [V.str "drawer", V.bl false]) := upd_same
    generalize upd H33 p34 (.tup [V.str "drawer", V.bl false]) = H34 at x34 t34 ⊢
    refine ⟨(by show 1 ≤ sizeLine; decide), fun p35 h35 => ?_⟩
    have x35 := Ex.new (o := .tup [V.str "a"]) h35
    have t35 : (upd H34 p35 (.tup [V.str "a"])) p35 = some (.tup [V.str "a"]) := upd_same
    generalize upd H34 p35 (.tup [V.str "a"]) = H35 at x35 t35 ⊢
    refine ⟨(by show 1 ≤ sizeLine; decide), fun p36 h36 => ?_⟩
    have x36 := Ex.new (o := .tup [V.str "gone"]) h36
    have t36 : (upd H35 p36 (.tup [V.str "gone"])) p36 = some (.tup [V.str "gone"]) := upd_same
    generalize upd H35 p36 (.tup [V.str "gone"]) = H36 at x36 t36 ⊢
    refine ⟨(by show 2 ≤ sizeLine; decide), fun p37 h37 => ?_⟩
    have x37 := Ex.new (o := .tup [V.str "a", V.str "b"]) h37
    have t37 : (upd H36 p37 (.tup [V.str "a", V.str "b"])) p37 = some (.tup [V.str "a", V.str "b"]) := upd_same
    generalize upd H36 p37 (.tup [V.str "a", V.str "b"]) = H37 at x37 t37 ⊢
    refine ⟨(by show 1 ≤ sizeLine; decide), fun p38 h38 => ?_⟩
    have x38 := Ex.new (o := .tup [V.str "gone"]) h38
    have t38 : (upd H37 p38 (.tup [V.str "gone"])) p38 = some (.tup [V.str "gone"]) := upd_same
    generalize upd H37 p38 (.tup [V.str "gone"]) = H38 at x38 t38 ⊢
    have td9 := (((((x33.trans x34).trans x35).trans x36).trans x37).trans x38).keep _ _ t32 (fun ps z => by cases z)
    have u33 := ((((x34.trans x35).trans x36).trans x37).trans x38).keep _ _ t33 (fun ps z => by cases z)
    have u34 := (((x35.trans x36).trans x37).trans x38).keep _ _ t34 (fun ps z => by cases z)
    have u35 := ((x36.trans x37).trans x38).keep _ _ t35 (fun ps z => by cases z)
    have u36 := (x37.trans x38).keep _ _ t36 (fun ps z => by cases z)
    have u37 := x38.keep _ _ t37 (fun ps z => by cases z)
    have u38 := t38
    refine ⟨td9, [(([] : List Str).map (Sum.inr : Str → L2.Key), V.ref p34), ((["a"] : List Str).map (Sum.inr : Str → L2.Key), V.ref p36), ((["a", "b"] : List Str).map (Sum.inr : Str → L2.Key), V.ref p38)], .cons ⟨⟨p33, rfl, u33⟩, rfl⟩ (.cons ⟨⟨p35, rfl, u35⟩, rfl⟩ (.cons ⟨⟨p37, rfl, u37⟩, rfl⟩ .nil)), (by show 3 ≤ 15; decide), ?_⟩
    rw [merge3 (by decide +kernel) (by decide +kernel) (by decide +kernel)]
    have xi9 : Ex H31 (upd H38 p32 (.dT [(([] : List Str).map (Sum.inr : Str → L2.Key), V.ref p34), ((["a"] : List Str).map (Sum.inr : Str → L2.Key), V.ref p36), ((["a", "b"] : List Str).map (Sum.inr : Str → L2.Key), V.ref p38)])) := (x32.trans (((((x33.trans x34).trans x35).trans x36).trans x37).trans x38)).put h32
    have fd9 : (upd H38 p32 (.dT [(([] : List Str).map (Sum.inr : Str → L2.Key), V.ref p34), ((["a"] : List Str).map (Sum.inr : Str → L2.Key), V.ref p36), ((["a", "b"] : List Str).map (Sum.inr : Str → L2.Key), V.ref p38)])) p32 = some (.dT [(([] : List Str).map (Sum.inr : Str → L2.Key), V.ref p34), ((["a"] : List Str).map (Sum.inr : Str → L2.Key), V.ref p36), ((["a", "b"] : List Str).map (Sum.inr : Str → L2.Key), V.ref p38)]) := upd_same
    have g33 := mv_upd (u := .dT [(([] : List Str).map (Sum.inr : Str → L2.Key), V.ref p34), ((["a"] : List Str).map (Sum.inr : Str → L2.Key), V.ref p36), ((["a", "b"] : List Str).map (Sum.inr : Str → L2.Key), V.ref p38)]) td9 (fun q => q) _ _ u33 trivial
    have g34 := mv_upd (u := .dT [(([] : List Str).map (Sum.inr : Str → L2.Key), V.ref p34), ((["a"] : List Str).map (Sum.inr : Str → L2.Key), V.ref p36), ((["a", "b"] : List Str).map (Sum.inr : Str → L2.Key), V.ref p38)]) td9 (fun q => q) _ _ u34 trivial
    have g35 := mv_upd (u := .dT [(([] : List Str).map (Sum.inr : Str → L2.Key), V.ref p34), ((["a"] : List Str).map (Sum.inr : Str → L2.Key), V.ref p36), ((["a", "b"] : List Str).map (Sum.inr : Str → L2.Key), V.ref p38)]) td9 (fun q => q) _ _ u35 trivial
    have g36 := mv_upd (u := .dT [(([] : List Str).map (Sum.inr : Str → L2.Key), V.ref p34), ((["a"] : List Str).map (Sum.inr : Str → L2.Key), V.ref p36), ((["a", "b"] : List Str).map (Sum.inr : Str → L2.Key), V.ref p38)]) td9 (fun q => q) _ _ u36 trivial
    have g37 := mv_upd (u := .dT [(([] : List Str).map (Sum.inr : Str → L2.Key), V.ref p34), ((["a"] : List Str).map (Sum.inr : Str → L2.Key), V.ref p36), ((["a", "b"] : List Str).map (Sum.inr : Str → L2.Key), V.ref p38)]) td9 (fun q => q) _ _ u37 trivial
    have g38 := mv_upd (u := .dT [(([] : List Str).map (Sum.inr : Str → L2.Key), V.ref p34), ((["a"] : List Str).map (Sum.inr : Str → L2.Key), V.ref p36), ((["a", "b"] : List Str).map (Sum.inr : Str → L2.Key), V.ref p38)]) td9 (fun q => q) _ _ u38 trivial
    generalize upd H38 p32 (.dT [(([] : List Str).map (Sum.inr : Str → L2.Key), V.ref p34), ((["a"] : List Str).map (Sum.inr : Str → L2.Key), V.ref p36), ((["a", "b"] : List Str).map (Sum.inr : Str → L2.Key), V.ref p38)]) = H39 at xi9 fd9 g33 g34 g35 g36 g37 g38 ⊢
    have tl := xi9.keep _ _ tl (fun ps z => by cases z)
    have tlS12 := tl
    refine ⟨p19, [V.non, V.ref p1, V.ref p2, V.ref p3, V.ref p7, V.ref p11, V.ref p15, V.ref p20, V.ref p25], V.ref p32, rfl, rfl, tl, (by show 9 < sizeLine; decide), ?_⟩
    have xb3 := eb_upd (ys := [V.non, V.ref p1, V.ref p2, V.ref p3, V.ref p7, V.ref p11, V.ref p15, V.ref p20, V.ref p25, V.ref p32]) tl
    have tl : (upd H39 p19 (.lst [V.non, V.ref p1, V.ref p2, V.ref p3, V.ref p7, V.ref p11, V.ref p15, V.ref p20, V.ref p25, V.ref p32])) p19 = some (.lst [V.non, V.ref p1, V.ref p2, V.ref p3, V.ref p7, V.ref p11, V.ref p15, V.ref p20, V.ref p25, V.ref p32]) := upd_same
    show tSeq _ _ _ _ (upd H39 p19 (.lst [V.non, V.ref p1, V.ref p2, V.ref p3, V.ref p7, V.ref p11, V.ref p15, V.ref p20, V.ref p25, V.ref p32]))
    try show tSeq _ _ _ _ (upd H39 p19 (.lst [V.non, V.ref p1, V.ref p2, V.ref p3, V.ref p7, V.ref p11, V.ref p15, V.ref p20, V.ref p25, V.ref p32]))
    try show tRet _ _ _ (upd H39 p19 (.lst [V.non, V.ref p1, V.ref p2, V.ref p3, V.ref p7, V.ref p11, V.ref p15, V.ref p20, V.ref p25, V.ref p32]))
    generalize upd H39 p19 (.lst [V.non, V.ref p1, V.ref p2, V.ref p3, V.ref p7, V.ref p11, V.ref p15, V.ref p20, V.ref p25, V.ref p32]) = H40 at xb3 tl ⊢
    have tlS13 := tl
    refine ⟨_, rfl, .inl ⟨rfl, _, SqL.of tl⟩, ?_⟩
    refine fun p41 h41 => ?_
    have x41 := Ex.new (o := .dT []) h41
    have t41 : (upd H40 p41 (.dT [])) p41 = some (.dT []) := upd_same
    generalize upd H40 p41 (.dT []) = H41 at x41 t41 ⊢
    refine ⟨(by show 0 ≤ sizeLine; decide), fun p42 h42 => ?_⟩
    have x42 := Ex.new (o := .tup []) h42
    have t42 : (upd H41 p42 (.tup [])) p42 = some (.tup []) := upd_same
    generalize upd H41 p42 (.tup []) = H42 at x42 t42 ⊢
    refine ⟨(by show 2 ≤ sizeLine; decide), fun p43 h43 => ?_⟩
    have x43 := Ex.new (o := .tup [V.str "drawer", V.bl false]) h43
    have t43 : (upd H42 p43 (.tup [V.str "drawer", V.bl false])) p43 = some (.tup [V.str "drawer", V.bl false]) := upd_same
    generalize upd H42 p43 (.tup [V.str "drawer", V.bl false]) = H43 at x43 t43 ⊢
    refine ⟨(by show 1 ≤ sizeLine; decide), fun p44 h44 => ?_⟩
    have x44 := Ex.new (o := .tup [V.str "a"]) h44
    have t44 : (upd H43 p44 (.tup [V.str "a"])) p44 = some (.tup [V.str "a"]) := upd_same
    generalize upd H43 p44 (.tup [V.str "a"]) = H44 at x44 t44 ⊢
    refine ⟨(by show 3 ≤ sizeLine; decide), fun p45 h45 => ?_⟩
    have x45 := Ex.new (o := .tup [V.str "file", V.int 0, V.str "x"]) h45
    have t45 : (upd H44 p45 (.tup [V.str "file", V.int 0, V.str "x"])) p45 = some (.tup [V.str "file", V.int 0, V.str "x"]) := upd_same
    generalize upd H44 p45 (.tup [V.str "file", V.int 0, V.str "x"]) = H45 at x45 t45 ⊢
    refine ⟨(by show 1 ≤ sizeLine; decide), fun p46 h46 => ?_⟩
    have x46 := Ex.new (o := .tup [V.str "b"]) h46
    have t46 : (upd H45 p46 (.tup [V.str "b"])) p46 = some (.tup [V.str "b"]) := upd_same
    generalize upd H45 p46 (.tup [V.str "b"]) = H46 at x46 t46 ⊢
    refine ⟨(by show 3 ≤ sizeLine; decide), fun p47 h47 => ?_⟩
    have x47 := Ex.new (o := .tup [V.str "file", V.int 0, V.str "y"]) h47
    have t47 : (upd H46 p47 (.tup [V.str "file", V.int 0, V.str "y"])) p47 = some (.tup [V.str "file", V.int 0, V.str "y"]) := upd_same
    generalize upd H46 p47 (.tup [V.str "file", V.int 0, V.str "y"]) = H47 at x47 t47 ⊢
    have td10 := (((((x42.trans x43).trans x44).trans x45).trans x46).trans x47).keep _ _ t41 (fun ps z => by cases z)
    have u42 := ((((x43.trans x44).trans x45).trans x46).trans x47).keep _ _ t42 (fun ps z => by cases z)
    have u43 := (((x44.trans x45).trans x46).trans x47).keep _ _ t43 (fun ps z => by cases z)
    have u44 := ((x45.trans x46).trans x47).keep _ _ t44 (fun ps z => by cases z)
    have u45 := (x46.trans x47).keep _ _ t45 (fun ps z => by cases z)
    have u46 := x47.keep _ _ t46 (fun ps z => by cases z)
    have u47 := t47
    refine ⟨td10, [(([] : List Str).map (Sum.inr : Str → L2.Key), V.ref p43), ((["a"] : List Str).map (Sum.inr : Str → L2.Key), V.ref p45), ((["b"] : List Str).map (Sum.inr : Str → L2.Key), V.ref p47)], .cons ⟨⟨p42, rfl, u42⟩, rfl⟩ (.cons ⟨⟨p44, rfl, u44⟩, rfl⟩ (.cons ⟨⟨p46, rfl, u46⟩, rfl⟩ .nil)), (by show 3 ≤ 15; decide), ?_⟩
    rw [merge3 (by decide +kernel) (by decide +kernel) (by decide +kernel)]
    have xi10 : Ex H40 (upd H47 p41 (.dT [(([] : List Str).map (Sum.inr : Str → L2.Key), V.ref p43), ((["a"] : List Str).map (Sum.inr : Str → L2.Key), V.ref p45), ((["b"] : List Str).map (Sum.inr : Str → L2.Key), V.ref p47)])) := (x41.trans (((((x42.trans x43).trans x44).trans x45).trans x46).trans x47)).put h41
    have fd10 : (upd H47 p41 (.dT [(([] : List Str).map (Sum.inr : Str → L2.Key), V.ref p43), ((["a"] : List Str).map (Sum.inr : Str → L2.Key), V.ref p45), ((["b"] : List Str).map (Sum.inr : Str → L2.Key), V.ref p47)])) p41 = some (.dT [(([] : List Str).map (Sum.inr : Str → L2.Key), V.ref p43), ((["a"] : List Str).map (Sum.inr : Str → L2.Key), V.ref p45), ((["b"] : List Str).map (Sum.inr : Str → L2.Key), V.ref p47)]) := upd_same
    have g42 := mv_upd (u := .dT [(([] : List Str).map (Sum.inr : Str → L2.Key), V.ref p43), ((["a"] : List Str).map (Sum.inr : Str → L2.Key), V.ref p45), ((["b"] : List Str).map (Sum.inr : Str → L2.Key), V.ref p47)]) td10 (fun q => q) _ _ u42 trivial
    have g43 := mv_upd (u := .dT [(([] : List Str).map (Sum.inr : Str → L2.Key), V.ref p43), ((["a"] : List Str).map (Sum.inr : Str → L2.Key), V.ref p45), ((["b"] : List Str).map (Sum.inr : Str → L2.Key), V.ref p47)]) td10 (fun q => q) _ _ u43 trivial
    have g44 := mv_upd (u := .dT [(([] : List Str).map (Sum.inr : Str → L2.Key), V.ref p43), ((["a"] : List Str).map (Sum.inr : Str → L2.Key), V.ref p45), ((["b"] : List Str).map (Sum.inr : Str → L2.Key), V.ref p47)]) td10 (fun q => q) _ _ u44 trivial
    have g45 := mv_upd (u := .dT [(([] : List Str).map (Sum.inr : Str → L2.Key), V.ref p43), ((["a"] : List Str).map (Sum.inr : Str → L2.Key), V.ref p45), ((["b"] : List Str).map (Sum.inr : Str → L2.Key), V.ref p47)]) td10 (fun q => q) _ _ u45 trivial
    have g46 := mv_upd (u := .dT [(([] : List Str).map (Sum.inr : Str → L2.Key), V.ref p43), ((["a"] : List Str).map (Sum.inr : Str → L2.Key), V.ref p45), ((["b"] : List Str).map (Sum.inr : Str → L2.Key), V.ref p47)]) td10 (fun q => q) _ _ u46 trivial
    have g47 := mv_upd (u := .dT [(([] : List Str).map (Sum.inr : Str → L2.Key), V.ref p43), ((["a"] : List Str).map (Sum.inr : Str → L2.Key), V.ref p45), ((["b"] : List Str).map (Sum.inr : Str → L2.Key), V.ref p47)]) td10 (fun q => q) _ _ u47 trivial
    generalize upd H47 p41 (.dT [(([] : List Str).map (Sum.inr : Str → L2.Key), V.ref p43), ((["a"] : List Str).map (Sum.inr : Str → L2.Key), V.ref p45), ((["b"] : List Str).map (Sum.inr : Str → L2.Key), V.ref p47)]) = H48 at xi10 fd10 g42 g43 g44 g45 g46 g47 ⊢
    have tl := xi10.keep _ _ tl (fun ps z => by cases z)
    have tlS14 := tl
    refine ⟨p19, [V.non, V.ref p1, V.ref p2, V.ref p3, V.ref p7, V.ref p11, V.ref p15, V.ref p20, V.ref p25, V.ref p32], V.ref p41, rfl, rfl, tl, (by show 10 < sizeLine; decide), ?_⟩
    have xb4 := eb_upd (ys := [V.non, V.ref p1, V.ref p2, V.ref p3, V.ref p7, V.ref p11, V.ref p15, V.ref p20, V.ref p25, V.ref p32, V.ref p41]) tl
    have tl : (upd H48 p19 (.lst [V.non, V.ref p1, V.ref p2, V.ref p3, V.ref p7, V.ref p11, V.ref p15, V.ref p20, V.ref p25, V.ref p32, V.ref p41])) p19 = some (.lst [V.non, V.ref p1, V.ref p2, V.ref p3, V.ref p7, V.ref p11, V.ref p15, V.ref p20, V.ref p25, V.ref p32, V.ref p41]) := upd_same
    show tSeq _ _ _ _ (upd H48 p19 (.lst [V.non, V.ref p1, V.ref p2, V.ref p3, V.ref p7, V.ref p11, V.ref p15, V.ref p20, V.ref p25, V.ref p32, V.ref p41]))
    try show tSeq _ _ _ _ (upd H48 p19 (.lst [V.non, V.ref p1, V.ref p2, V.ref p3, V.ref p7, V.ref p11, V.ref p15, V.ref p20, V.ref p25, V.ref p32, V.ref p41]))
    try show tRet _ _ _ (upd H48 p19 (.lst [V.non, V.ref p1, V.ref p2, V.ref p3, V.ref p7, V.ref p11, V.ref p15, V.ref p20, V.ref p25, V.ref p32, V.ref p41]))
    generalize upd H48 p19 (.lst [V.non, V.ref p1, V.ref p2, V.ref p3, V.ref p7, V.ref p11, V.ref p15, V.ref p20, V.ref p25, V.ref p32, V.ref p41]) = H49 at xb4 tl ⊢
    have tlS15 := tl
    refine ⟨_, rfl, .inl ⟨rfl, _, SqL.of tl⟩, ?_⟩
    refine fun p50 h50 => ?_
    have x50 := Ex.new (o := .dT []) h50
    have t50 : (upd H49 p50 (.dT [])) p50 = some (.dT []) := upd_same
    generalize upd H49 p50 (.dT []) = H50 at x50 t50 ⊢
    refine ⟨(by show 0 ≤ sizeLine; decide), fun p51 h51 => ?_⟩
    have x51 := Ex.new (o := .tup []) h51
    have t51 : (upd H50 p51 (.tup [])) p51 = some (.tup []) := upd_same
    generalize upd H50 p51 (.tup []) = H51 at x51 t51 ⊢
    refine ⟨(by show 2 ≤ sizeLine; decide), fun p52 h52 => ?_⟩
    have x52 := Ex.new (o := .tup [V.str "drawer", V.bl false]) h52
    have t52 : (upd H51 p52 (.tup [V.str "drawer", V.bl false])) p52 = some (.tup [V.str "drawer", V.bl false]) := upd_same
    generalize upd H51 p52 (.tup [V.str "drawer", V.bl false]) = H52 at x52 t52 ⊢
    refine ⟨(by show 1 ≤ sizeLine; decide), fun p53 h53 => ?_⟩
    have x53 := Ex.new (o := .tup [V.str "a"]) h53
    have t53 : (upd H52 p53 (.tup [V.str "a"])) p53 = some (.tup [V.str "a"]) := upd_same
    generalize upd H52 p53 (.tup [V.str "a"]) = H53 at x53 t53 ⊢
    refine ⟨(by show 3 ≤ sizeLine; decide), fun p54 h54 => ?_⟩
    have x54 := Ex.new (o := .tup [V.str "file", V.int 1000, V.str "x"]) h54
    have t54 : (upd H53 p54 (.tup [V.str "file", V.int 1000, V.str "x"])) p54 = some (.tup [V.str "file", V.int 1000, V.str "x"]) := upd_same
    generalize upd H53 p54 (.tup [V.str "file", V.int 1000, V.str "x"]) = H54 at x54 t54 ⊢
    have td11 := (((x51.trans x52).trans x53).trans x54).keep _ _ t50 (fun ps z => by cases z)
    have u51 := ((x52.trans x53).trans x54).keep _ _ t51 (fun ps z => by cases z)
    have u52 := (x53.trans x54).keep _ _ t52 (fun ps z => by cases z)
    have u53 := x54.keep _ _ t53 (fun ps z => by cases z)
    have u54 := t54
    refine ⟨td11, [(([] : List Str).map (Sum.inr : Str → L2.Key), V.ref p52), ((["a"] : List Str).map (Sum.inr : Str → L2.Key), V.ref p54)], .cons ⟨⟨p51, rfl, u51⟩, rfl⟩ (.cons ⟨⟨p53, rfl, u53⟩, rfl⟩ .nil), (by show 2 ≤ 15; decide), ?_⟩
    rw [merge2 (by decide +kernel)]
    have xi11 : Ex H49 (upd H54 p50 (.dT [(([] : List Str).map (Sum.inr : Str → L2.Key), V.ref p52), ((["a"] : List Str).map (Sum.inr : Str → L2.Key), V.ref p54)])) := (x50.trans (((x51.trans x52).trans x53).trans x54)).put h50
    have fd11 : (upd H54 p50 (.dT [(([] : List Str).map (Sum.inr : Str → L2.Key), V.ref p52), ((["a"] : List Str).map (Sum.inr : Str → L2.Key), V.ref p54)])) p50 = some (.dT [(([] : List Str).map (Sum.inr : Str → L2.Key), V.ref p52), ((["a"] : List Str).map (Sum.inr : Str → L2.Key), V.ref p54)]) := upd_same
    have g51 := mv_upd (u := .dT [(([] : List Str).map (Sum.inr : Str → L2.Key), V.ref p52), ((["a"] : List Str).map (Sum.inr : Str → L2.Key), V.ref p54)]) td11 (fun q => q) _ _ u51 trivial
    have g52 := mv_upd (u := .dT [(([] : List Str).map (Sum.inr : Str → L2.Key), V.ref p52), ((["a"] : List Str).map (Sum.inr : Str → L2.Key), V.ref p54)]) td11 (fun q => q) _ _ u52 trivial
    have g53 := mv_upd (u := .dT [(([] : List Str).map (Sum.inr : Str → L2.Key), V.ref p52), ((["a"] : List Str).map (Sum.inr : Str → L2.Key), V.ref p54)]) td11 (fun q => q) _ _ u53 trivial
    have g54 := mv_upd (u := .dT [(([] : List Str).map (Sum.inr : Str → L2.Key), V.ref p52), ((["a"] : List Str).map (Sum.inr : Str → L2.Key), V.ref p54)]) td11 (fun q => q) _ _ u54 trivial
    generalize upd H54 p50 (.dT [(([] : List Str).map (Sum.inr : Str → L2.Key), V.ref p52), ((["a"] : List Str).map (Sum.inr : Str → L2.Key), V.ref p54)]) = H55 at xi11 fd11 g51 g52 g53 g54 ⊢
    have tl := xi11.keep _ _ tl (fun ps z => by cases z)
    have tlS16 := tl
    refine ⟨p19, [V.non, V.ref p1, V.ref p2, V.ref p3, V.ref p7, V.ref p11, V.ref p15, V.ref p20, V.ref p25, V.ref p32, V.ref p41], V.ref p50, rfl, rfl, tl, (by show 11 < sizeLine; decide), ?_⟩
    have xb5 := eb_upd (ys := [V.non, V.ref p1, V.ref p2, V.ref p3, V.ref p7, V.ref p11, V.ref p15, V.ref p20, V.ref p25, V.ref p32, V.ref p41, V.ref p50]) tl
    have tl : (upd H55 p19 (.lst [V.non, V.ref p1, V.ref p2, V.ref p3, V.ref p7, V.ref p11, V.ref p15, V.ref p20, V.ref p25, V.ref p32, V.ref p41, V.ref p50])) p19 = some (.lst [V.non, V.ref p1, V.ref p2, V.ref p3, V.ref p7, V.ref p11, V.ref p15, V.ref p20, V.ref p25, V.ref p32, V.ref p41, V.ref p50]) := upd_same
    show tSeq _ _ _ _ (upd H55 p19 (.lst [V.non, V.ref p1, V.ref p2, V.ref p3, V.ref p7, V.ref p11, V.ref p15, V.ref p20, V.ref p25, V.ref p32, V.ref p41, V.ref p50]))
    try show tSeq _ _ _ _ (upd H55 p19 (.lst [V.non, V.ref p1, V.ref p2, V.ref p3, V.ref p7, V.ref p11, V.ref p15, V.ref p20, V.ref p25, V.ref p32, V.ref p41, V.ref p50]))
    try show tRet _ _ _ (upd H55 p19 (.lst [V.non, V.ref p1, V.ref p2, V.ref p3, V.ref p7, V.ref p11, V.ref p15, V.ref p20, V.ref p25, V.ref p32, V.ref p41, V.ref p50]))
    generalize upd H55 p19 (.lst [V.non, V.ref p1, V.ref p2, V.ref p3, V.ref p7, V.ref p11, V.ref p15, V.ref p20, V.ref p25, V.ref p32, V.ref p41, V.ref p50]) = H56 at xb5 tl ⊢
    have tlS17 := tl
    refine ⟨_, rfl, .inl ⟨rfl, _, SqL.of tl⟩, ?_⟩
    refine fun p57 h57 => ?_
    have x57 := Ex.new (o := .dT []) h57
    have t57 : (upd H56 p57 (.dT [])) p57 = some (.dT []) := upd_same
    generalize upd H56 p57 (.dT []) = H57 at x57 t57 ⊢
    refine ⟨(by show 0 ≤ sizeLine; decide), fun p58 h58 => ?_⟩
    have x58 := Ex.new (o := .tup []) h58
    have t58 : (upd H57 p58 (.tup [])) p58 = some (.tup []) := upd_same
    generalize upd H57 p58 (.tup []) = H58 at x58 t58 ⊢
    refine ⟨(by show 2 ≤ sizeLine; decide), fun p59 h59 => ?_⟩
    have x59 := Ex.new (o := .tup [V.str "drawer", V.bl false]) h59
    have t59 : (upd H58 p59 (.tup [V.str "drawer", V.bl false])) p59 = some (.tup [V.str "drawer", V.bl false]) := upd_same
    generalize upd H58 p59 (.tup [V.str "drawer", V.bl false]) = H59 at x59 t59 ⊢
    refine ⟨(by show 1 ≤ sizeLine; decide), fun p60 h60 => ?_⟩
    have x60 := Ex.new (o := .tup [V.str "A"]) h60
    have t60 : (upd H59 p60 (.tup [V.str "A"])) p60 = some (.tup [V.str "A"]) := upd_same
    generalize upd H59 p60 (.tup [V.str "A"]) = H60 at x60 t60 ⊢
    refine ⟨(by show 1 ≤ sizeLine; decide), fun p61 h61 => ?_⟩
    have x61 := Ex.new (o := .tup [V.str "gone"]) h61
    have t61 : (upd H60 p61 (.tup [V.str "gone"])) p61 = some (.tup [V.str "gone"]) := upd_same
    generalize upd H60 p61 (.tup [V.str "gone"]) = H61 at x61 t61 ⊢
    have td12 := (((x58.trans x59).trans x60).trans x61).keep _ _ t57 (fun ps z => by cases z)
    have u58 := ((x59.trans x60).trans x61).keep _ _ t58 (fun ps z => by cases z)
    have u59 := (x60.trans x61).keep _ _ t59 (fun ps z => by cases z)
    have u60 := x61.keep _ _ t60 (fun ps z => by cases z)
    have u61 := t61
    refine ⟨td12, [(([] : List Str).map (Sum.inr : Str → L2.Key), V.ref p59), ((["A"] : List Str).map (Sum.inr : Str → L2.Key), V.ref p61)], .cons ⟨⟨p58, rfl, u58⟩, rfl⟩ (.cons ⟨⟨p60, rfl, u60⟩, rfl⟩ .nil), (by show 2 ≤ 15; decide), ?_⟩
    rw [merge2 (by decide +kernel)]
    have xi12 : Ex H56 (upd H61 p57 (.dT [(([] : List Str).map (Sum.inr : Str → L2.Key), V.ref p59), ((["A"] : List Str).map (Sum.inr : Str → L2.Key), V.ref p61)])) := (x57.trans (((x58.trans x59).trans x60).trans x61)).put h57
    have fd12 : (upd H61 p57 (.dT [(([] : List Str).map (Sum.inr : Str → L2.Key), V.ref p59), ((["A"] : List Str).map (Sum.inr : Str → L2.Key), V.ref p61)])) p57 = some (.dT [(([] : List Str).map (Sum.inr : Str → L2.Key), V.ref p59), ((["A"] : List Str).map (Sum.inr : Str → L2.Key), V.ref p61)]) := upd_same
    have g58 := mv_upd (u := .dT [(([] : List Str).map (Sum.inr : Str → L2.Key), V.ref p59), ((["A"] : List Str).map (Sum.inr : Str → L2.Key), V.ref p61)]) td12 (fun q => q) _ _ u58 trivial
    have g59 := mv_upd (u := .dT [(([] : List Str).map (Sum.inr : Str → L2.Key), V.ref p59), ((["A"] : List Str).map (Sum.inr : Str → L2.Key), V.ref p61)]) td12 (fun q => q) _ _ u59 trivial
    have g60 := mv_upd (u := .dT [(([] : List Str).map (Sum.inr : Str → L2.Key), V.ref p59), ((["A"] : List Str).map (Sum.inr : Str → L2.Key), V.ref p61)]) td12 (fun q => q) _ _ u60 trivial
    have g61 := mv_upd (u := .dT [(([] : List Str).map (Sum.inr : Str → L2.Key), V.ref p59), ((["A"] : List Str).map (Sum.inr : Str → L2.Key), V.ref p61)]) td12 (fun q => q) _ _ u61 trivial
    generalize upd H61 p57 (.dT [(([] : List Str).map (Sum.inr : Str → L2.Key), V.ref p59), ((["A"] : List Str).map (Sum.inr : Str → L2.Key), V.ref p61)]) = H62 at xi12 fd12 g58 g59 g60 g61 ⊢
    have tl := xi12.keep _ _ tl (fun ps z => by cases z)
    have tlS18 := tl
    refine fun p63 h63 => ?_
    have x63 := Ex.new (o := .dT []) h63
    have t63 : (upd H62 p63 (.dT [])) p63 = some (.dT []) := upd_same
    generalize upd H62 p63 (.dT []) = H63 at x63 t63 ⊢
    refine ⟨(by show 0 ≤ sizeLine; decide), fun p64 h64 => ?_⟩
    have x64 := Ex.new (o := .tup []) h64
    have t64 : (upd H63 p64 (.tup [])) p64 = some (.tup []) := upd_same
    generalize upd H63 p64 (.tup []) = H64 at x64 t64 ⊢
    refine ⟨(by show 2 ≤ sizeLine; decide), fun p65 h65 => ?_⟩
    have x65 := Ex.new (o := .tup [V.str "drawer", V.bl false]) h65
    have t65 : (upd H64 p65 (.tup [V.str "drawer", V.bl false])) p65 = some (.tup [V.str "drawer", V.bl false]) := upd_same
    generalize upd H64 p65 (.tup [V.str "drawer", V.bl false]) = H65 at x65 t65 ⊢
    refine ⟨(by show 1 ≤ sizeLine; decide), fun p66 h66 => ?_⟩
    have x66 := Ex.new (o := .tup [V.str "a"]) h66
    have t66 : (upd H65 p66 (.tup [V.str "a"])) p66 = some (.tup [V.str "a"]) := upd_same
    generalize upd H65 p66 (.tup [V.str "a"]) = H66 at x66 t66 ⊢
    have td13 := ((x64.trans x65).trans x66).keep _ _ t63 (fun ps z => by cases z)
    have u64 := (x65.trans x66).keep _ _ t64 (fun ps z => by cases z)
    have u65 := x66.keep _ _ t65 (fun ps z => by cases z)
    have u66 := t66
    refine ⟨td13, [(([] : List Str).map (Sum.inr : Str → L2.Key), V.ref p65), ((["a"] : List Str).map (Sum.inr : Str → L2.Key), V.str "gone")], .cons ⟨⟨p64, rfl, u64⟩, rfl⟩ (.cons ⟨⟨p66, rfl, u66⟩, rfl⟩ .nil), (by show 2 ≤ 15; decide), ?_⟩
    rw [merge2 (by decide +kernel)]
    have xi13 : Ex H62 (upd H66 p63 (.dT [(([] : List Str).map (Sum.inr : Str → L2.Key), V.ref p65), ((["a"] : List Str).map (Sum.inr : Str → L2.Key), V.str "gone")])) := (x63.trans ((x64.trans x65).trans x66)).put h63
    have fd13 : (upd H66 p63 (.dT [(([] : List Str).map (Sum.inr : Str → L2.Key), V.ref p65), ((["a"] : List Str).map (Sum.inr : Str → L2.Key), V.str "gone")])) p63 = some (.dT [(([] : List Str).map (Sum.inr : Str → L2.Key), V.ref p65), ((["a"] : List Str).map (Sum.inr : Str → L2.Key), V.str "gone")]) := upd_same
    have g64 := mv_upd (u := .dT [(([] : List Str).map (Sum.inr : Str → L2.Key), V.ref p65), ((["a"] : List Str).map (Sum.inr : Str → L2.Key), V.str "gone")]) td13 (fun q => q) _ _ u64 trivial
    have g65 := mv_upd (u := .dT [(([] : List Str).map (Sum.inr : Str → L2.Key), V.ref p65), ((["a"] : List Str).map (Sum.inr : Str → L2.Key), V.str "gone")]) td13 (fun q => q) _ _ u65 trivial
    have g66 := mv_upd (u := .dT [(([] : List Str).map (Sum.inr : Str → L2.Key), V.ref p65), ((["a"] : List Str).map (Sum.inr : Str → L2.Key), V.str "gone")]) td13 (fun q => q) _ _ u66 trivial
    generalize upd H66 p63 (.dT [(([] : List Str).map (Sum.inr : Str → L2.Key), V.ref p65), ((["a"] : List Str).map (Sum.inr : Str → L2.Key), V.str "gone")]) = H67 at xi13 fd13 g64 g65 g66 ⊢
    have tl := xi13.keep _ _ tl (fun ps z => by cases z)
    have tlS19 := tl
    refine ⟨(by show 3 ≤ sizeLine; decide), fun p68 h68 => ?_⟩
    have xe6 := Ex.new (o := .lst [V.ref p57, V.ref p63, V.str "layer"]) h68
    have te6 : (upd H67 p68 (.lst [V.ref p57, V.ref p63, V.str "layer"])) p68 = some (.lst [V.ref p57, V.ref p63, V.str "layer"]) := upd_same
    have tl := xe6.keep _ _ tl (fun ps z => by cases z)
    generalize upd H67 p68 (.lst [V.ref p57, V.ref p63, V.str "layer"]) = H68 at xe6 te6 tl ⊢
    refine ⟨p19, p68, [V.non, V.ref p1, V.ref p2, V.ref p3, V.ref p7, V.ref p11, V.ref p15, V.ref p20, V.ref p25, V.ref p32, V.ref p41, V.ref p50], [V.ref p57, V.ref p63, V.str "layer"], rfl, rfl, tl, te6, (by show 15 ≤ sizeLine; decide), ?_⟩
    have xb6 := eb_upd (ys := [V.non, V.ref p1, V.ref p2, V.ref p3, V.ref p7, V.ref p11, V.ref p15, V.ref p20, V.ref p25, V.ref p32, V.ref p41, V.ref p50, V.ref p57, V.ref p63, V.str "layer"]) tl
    have tl : (upd H68 p19 (.lst [V.non, V.ref p1, V.ref p2, V.ref p3, V.ref p7, V.ref p11, V.ref p15, V.ref p20, V.ref p25, V.ref p32, V.ref p41, V.ref p50, V.ref p57, V.ref p63, V.str "layer"])) p19 = some (.lst [V.non, V.ref p1, V.ref p2, V.ref p3, V.ref p7, V.ref p11, V.ref p15, V.ref p20, V.ref p25, V.ref p32, V.ref p41, V.ref p50, V.ref p57, V.ref p63, V.str "layer"]) := upd_same
    show tSeq _ _ _ _ (upd H68 p19 (.lst [V.non, V.ref p1, V.ref p2, V.ref p3, V.ref p7, V.ref p11, V.ref p15, V.ref p20, V.ref p25, V.ref p32, V.ref p41, V.ref p50, V.ref p57, V.ref p63, V.str "layer"]))
    try show tSeq _ _ _ _ (upd H68 p19 (.lst [V.non, V.ref p1, V.ref p2, V.ref p3, V.ref p7, V.ref p11, V.ref p15, V.ref p20, V.ref p25, V.ref p32, V.ref p41, V.ref p50, V.ref p57, V.ref p63, V.str "layer"]))
    try show tRet _ _ _ (upd H68 p19 (.lst [V.non, V.ref p1, V.ref p2, V.ref p3, V.ref p7, V.ref p11, V.ref p15, V.ref p20, V.ref p25, V.ref p32, V.ref p41, V.ref p50, V.ref p57, V.ref p63, V.str "layer"]))
    generalize upd H68 p19 (.lst [V.non, V.ref p1, V.ref p2, V.ref p3, V.ref p7, V.ref p11, V.ref p15, V.ref p20, V.ref p25, V.ref p32, V.ref p41, V.ref p50, V.ref p57, V.ref p63, V.str "layer"]) = H69 at xb6 tl ⊢
    have tlS21 := tl
    refine ⟨_, rfl, .inl ⟨rfl, _, SqL.of tl⟩, ?_⟩
    refine fun p70 h70 => ?_
    have x70 := Ex.new (o := .dT []) h70
    have t70 : (upd H69 p70 (.dT [])) p70 = some (.dT []) := upd_same
    generalize upd H69 p70 (.dT []) = H70 at x70 t70 ⊢
    refine ⟨(by show 0 ≤ sizeLine; decide), fun p71 h71 => ?_⟩
    have x71 := Ex.new (o := .tup []) h71
    have t71 : (upd H70 p71 (.tup [])) p71 = some (.tup []) := upd_same
    generalize upd H70 p71 (.tup []) = H71 at x71 t71 ⊢
    refine ⟨(by show 2 ≤ sizeLine; decide), fun p72 h72 => ?_⟩
    have x72 := Ex.new (o := .tup [V.str "drawer", V.bl false]) h72
    have t72 : (upd H71 p72 (.tup [V.str "drawer", V.bl false])) p72 = some (.tup [V.str "drawer", V.bl false]) := upd_same
    generalize upd H71 p72 (.tup [V.str "drawer", V.bl false]) = H72 at x72 t72 ⊢
    refine ⟨(by show 1 ≤ sizeLine; decide), fun p73 h73 => ?_⟩
    have x73 := Ex.new (o := .tup [V.str "a"]) h73
    have t73 : (upd H72 p73 (.tup [V.str "a"])) p73 = some (.tup [V.str "a"]) := upd_same
    generalize upd H72 p73 (.tup [V.str "a"]) = H73 at x73 t73 ⊢
    refine ⟨(by show 3 ≤ sizeLine; decide), fun p74 h74 => ?_⟩
    have x74 := Ex.new (o := .tup [V.str "file", V.int 0, V.str "x"]) h74
    have t74 : (upd H73 p74 (.tup [V.str "file", V.int 0, V.str "x"])) p74 = some (.tup [V.str "file", V.int 0, V.str "x"]) := upd_same
    generalize upd H73 p74 (.tup [V.str "file", V.int 0, V.str "x"]) = H74 at x74 t74 ⊢
    refine ⟨(by show 2 ≤ sizeLine; decide), fun p75 h75 => ?_⟩
    have x75 := Ex.new (o := .tup [V.str "a", V.str "b"]) h75
    have t75 : (upd H74 p75 (.tup [V.str "a", V.str "b"])) p75 = some (.tup [V.str "a", V.str "b"]) := upd_same
    generalize upd H74 p75 (.tup [V.str "a", V.str "b"]) = H75 at x75 t75 ⊢
    refine ⟨(by show 1 ≤ sizeLine; decide), fun p76 h76 => ?_⟩
    have x76 := Ex.new (o := .tup [V.str "gone"]) h76
    have t76 : (upd H75 p76 (.tup [V.str "gone"])) p76 = some (.tup [V.str "gone"]) := upd_same
    generalize upd H75 p76 (.tup [V.str "gone"]) = H76 at x76 t76 ⊢
    have td15 := (((((x71.trans x72).trans x73).trans x74).trans x75).trans x76).keep _ _ t70 (fun ps z => by cases z)
    have u71 := ((((x72.trans x73).trans x74).trans x75).trans x76).keep _ _ t71 (fun ps z => by cases z)
    have u72 := (((x73.trans x74).trans x75).trans x76).keep _ _ t72 (fun ps z => by cases z)
    have u73 := ((x74.trans x75).trans x76).keep _ _ t73 (fun ps z => by cases z)
    have u74 := (x75.trans x76).keep _ _ t74 (fun ps z => by cases z)
    have u75 := x76.keep _ _ t75 (fun ps z => by cases z)
    have u76 := t76
    refine ⟨td15, [(([] : List Str).map (Sum.inr : Str → L2.Key), V.ref p72), ((["a"] : List Str).map (Sum.inr : Str → L2.Key), V.ref p74), ((["a", "b"] : List Str).map (Sum.inr : Str → L2.Key), V.ref p76)], .cons ⟨⟨p71, rfl, u71⟩, rfl⟩ (.cons ⟨⟨p73, rfl, u73⟩, rfl⟩ (.cons ⟨⟨p75, rfl, u75⟩, rfl⟩ .nil)), (by show 3 ≤ 15; decide), ?_⟩
    rw [merge3 (by decide +kernel) (by decide +kernel) (by decide +kernel)]
    have xi15 : Ex H69 (upd H76 p70 (.dT [(([] : List Str).map (Sum.inr : Str → L2.Key), V.ref p72), ((["a"] : List Str).map (Sum.inr : Str → L2.Key), V.ref p74), ((["a", "b"] : List Str).map (Sum.inr : Str → L2.Key), V.ref p76)])) := (x70.trans (((((x71.trans x72).trans x73).trans x74).trans x75).trans x76)).put h70
    have fd15 : (upd H76 p70 (.dT [(([] : List Str).map (Sum.inr : Str → L2.Key), V.ref p72), ((["a"] : List Str).map (Sum.inr : Str → L2.Key), V.ref p74), ((["a", "b"] : List Str).map (Sum.inr : Str → L2.Key), V.ref p76)])) p70 = some (.dT [(([] : List Str).map (Sum.inr : Str → L2.Key), V.ref p72), ((["a"] : List Str).map (Sum.inr : Str → L2.Key), V.ref p74), ((["a", "b"] : List Str).map (Sum.inr : Str → L2.Key), V.ref p76)]) := upd_same
    have g71 := mv_upd (u := .dT [(([] : List Str).map (Sum.inr : Str → L2.Key), V.ref p72), ((["a"] : List Str).map (Sum.inr : Str → L2.Key), V.ref p74), ((["a", "b"] : List Str).map (Sum.inr : Str → L2.Key), V.ref p76)]) td15 (fun q => q) _ _ u71 trivial
    have g72 := mv_upd (u := .dT [(([] : List Str).map (Sum.inr : Str → L2.Key), V.ref p72), ((["a"] : List Str).map (Sum.inr : Str → L2.Key), V.ref p74), ((["a", "b"] : List Str).map (Sum.inr : Str → L2.Key), V.ref p76)]) td15 (fun q => q) _ _ u72 trivial
    have g73 := mv_upd (u := .dT [(([] : List Str).map (Sum.inr : Str → L2.Key), V.ref p72), ((["a"] : List Str).map (Sum.inr : Str → L2.Key), V.ref p74), ((["a", "b"] : List Str).map (Sum.inr : Str → L2.Key), V.ref p76)]) td15 (fun q => q) _ _ u73 trivial
    have g74 := mv_upd (u := .dT [(([] : List Str).map (Sum.inr : Str → L2.Key), V.ref p72), ((["a"] : List Str).map (Sum.inr : Str → L2.Key), V.ref p74), ((["a", "b"] : List Str).map (Sum.inr : Str → L2.Key), V.ref p76)]) td15 (fun q => q) _ _ u74 trivial
    have g75 := mv_upd (u := .dT [(([] : List Str).map (Sum.inr : Str → L2.Key), V.ref p72), ((["a"] : List Str).map (Sum.inr : Str → L2.Key), V.ref p74), ((["a", "b"] : List Str).map (Sum.inr : Str → L2.Key), V.ref p76)]) td15 (fun q => q) _ _ u75 trivial
    have g76 := mv_upd (u := .dT [(([] : List Str).map (Sum.inr : Str → L2.Key), V.ref p72), ((["a"] : List Str).map (Sum.inr : Str → L2.Key), V.ref p74), ((["a", "b"] : List Str).map (Sum.inr : Str → L2.Key), V.ref p76)]) td15 (fun q => q) _ _ u76 trivial
    generalize upd H76 p70 (.dT [(([] : List Str).map (Sum.inr : Str → L2.Key), V.ref p72), ((["a"] : List Str).map (Sum.inr : Str → L2.Key), V.ref p74), ((["a", "b"] : List Str).map (Sum.inr : Str → L2.Key), V.ref p76)]) = H77 at xi15 fd15 g71 g72 g73 g74 g75 g76 ⊢
    have tl := xi15.keep _ _ tl (fun ps z => by cases z)
    have tlS22 := tl
    refine ⟨p19, [V.non, V.ref p1, V.ref p2, V.ref p3, V.ref p7, V.ref p11, V.ref p15, V.ref p20, V.ref p25, V.ref p32, V.ref p41, V.ref p50, V.ref p57, V.ref p63, V.str "layer"], V.ref p70, rfl, rfl, tl, (by show 15 < sizeLine; decide), ?_⟩
    have xb7 := eb_upd (ys := [V.non, V.ref p1, V.ref p2, V.ref p3, V.ref p7, V.ref p11, V.ref p15, V.ref p20, V.ref p25, V.ref p32, V.ref p41, V.ref p50, V.ref p57, V.ref p63, V.str "layer", V.ref p70]) tl
    have tl : (upd H77 p19 (.lst [V.non, V.ref p1, V.ref p2, V.ref p3, V.ref p7, V.ref p11, V.ref p15, V.ref p20, V.ref p25, V.ref p32, V.ref p41, V.ref p50, V.ref p57, V.ref p63, V.str "layer", V.ref p70])) p19 = some (.lst [V.non, V.ref p1, V.ref p2, V.ref p3, V.ref p7, V.ref p11, V.ref p15, V.ref p20, V.ref p25, V.ref p32, V.ref p41, V.ref p50, V.ref p57, V.ref p63, V.str "layer", V.ref p70]) := upd_same
    have e7 : True := trivial
    try show tSeq _ _ _ _ (upd H77 p19 (.lst [V.non, V.ref p1, V.ref p2, V.ref p3, V.ref p7, V.ref p11, V.ref p15, V.ref p20, V.ref p25, V.ref p32, V.ref p41, V.ref p50, V.ref p57, V.ref p63, V.str "layer", V.ref p70]))
    try show tRet _ _ _ (upd H77 p19 (.lst [V.non, V.ref p1, V.ref p2, V.ref p3, V.ref p7, V.ref p11, V.ref p15, V.ref p20, V.ref p25, V.ref p32, V.ref p41, V.ref p50, V.ref p57, V.ref p63, V.str "layer", V.ref p70]))
    generalize upd H77 p19 (.lst [V.non, V.ref p1, V.ref p2, V.ref p3, V.ref p7, V.ref p11, V.ref p15, V.ref p20, V.ref p25, V.ref p32, V.ref p41, V.ref p50, V.ref p57, V.ref p63, V.str "layer", V.ref p70]) = H78 at xb7 tl ⊢
    have tlS23 := tl
    have y23 : Eb p19 H78 H78 := Eb.refl _
    have y22 : Eb p19 H77 H78 := Eb.trans (xb7) y23
    have y21 : Eb p19 H69 H78 := Eb.trans (ex_eb xi15) y22
    have y20 : Eb p19 H68 H78 := Eb.trans (xb6) y21
    have y19 : Eb p19 H67 H78 := Eb.trans (ex_eb xe6) y20
    have y18 : Eb p19 H62 H78 := Eb.trans (ex_eb xi13) y19
    have y17 : Eb p19 H56 H78 := Eb.trans (ex_eb xi12) y18
    have y16 : Eb p19 H55 H78 := Eb.trans (xb5) y17
    have y15 : Eb p19 H49 H78 := Eb.trans (ex_eb xi11) y16
    have y14 : Eb p19 H48 H78 := Eb.trans (xb4) y15
    have y13 : Eb p19 H40 H78 := Eb.trans (ex_eb xi10) y14
    have y12 : Eb p19 H39 H78 := Eb.trans (xb3) y13
    have y11 : Eb p19 H31 H78 := Eb.trans (ex_eb xi9) y12
    have y10 : Eb p19 H30 H78 := Eb.trans (xb2) y11
    have y9 : Eb p19 H24 H78 := Eb.trans (ex_eb xi8) y10
    have y8 : Eb p19 H23 H78 := Eb.trans (xb1) y9
    have y7 : Eb p19 H19 H78 := Eb.trans (ex_eb xi7) y8
    have y6 : Eb p19 H18 H78 := Eb.trans (ex_eb xl) y7
    have y5 : Eb p19 H14 H78 := Eb.trans (ex_eb xi6) y6
    have y4 : Eb p19 H10 H78 := Eb.trans (ex_eb xi5) y5
    have y3 : Eb p19 H6 H78 := Eb.trans (ex_eb xi4) y4
    have y2 : Eb p19 H2 H78 := Eb.trans (ex_eb xi3) y3
    have y1 : Eb p19 H1 H78 := Eb.trans (ex_eb xi2) y2
    have y0 : Eb p19 H H78 := Eb.trans (ex_eb xi1) y1
    have hlt : p19 ≠ tw := fun z => by
      obtain ⟨u0, u1, _, et⟩ := L.town
      have := (((((xi1.trans xi2).trans xi3).trans xi4).trans xi5).trans xi6).keep _ _ et (fun ps z => by cases z)
      rw [← z, h19] at this
      cases this
    have hadd : ∀ b, H b = none → b ≠ tw := fun b hb => L.town.ne hb
    have hev : Ev tw H H78 := by
      refine ⟨fun b o hb e nt => ?_, y0.tab, y0.free, ?_⟩
      · by_cases hbl : b = p19
        · rw [hbl] at e
          have := (((((xi1.trans xi2).trans xi3).trans xi4).trans xi5).trans xi6).keep _ _ e nt
          rw [h19] at this
          cases this
        · exact y0.keep b o hbl e nt
      · obtain ⟨u0, u1, hu, et⟩ := L.town
        exact ⟨u0, u1, hu, y0.keep _ _ (Ne.symm hlt) et (fun ps z => by cases z)⟩
    have LN := L.ev hev
    refine ⟨_, rfl, _, rfl, _, rfl, sc, tw, p19, ns, _, rfl, LN, SqL.of tl, hlt, (by show 0 < 16; decide), (by show 16 < 1000; decide), fun H' x ev hx => ?_⟩
    have hxt : ∀ q, H78 q ≠ some (.lst [V.int 0]) → True := fun _ _ => trivial
    have z_t1 := y1.keep _ _ (ne_of_none (((((xi2.trans xi3).trans xi4).trans xi5).trans xi6).keep _ _ t1 (fun ps z => by cases z)) h19) t1 (fun ps z => by cases z)
    have z_t2 := y2.keep _ _ (ne_of_none ((((xi3.trans xi4).trans xi5).trans xi6).keep _ _ t2 (fun ps z => by cases z)) h19) t2 (fun ps z => by cases z)
    have z_fd3 := y3.keep _ _ (ne_of_none (((xi4.trans xi5).trans xi6).keep _ _ fd3 (fun ps z => by cases z)) h19) fd3 (fun ps z => by cases z)
    have z_g4 := y3.keep _ _ (ne_of_none (((xi4.trans xi5).trans xi6).keep _ _ g4 (fun ps z => by cases z)) h19) g4 (fun ps z => by cases z)
    have z_g5 := y3.keep _ _ (ne_of_none (((xi4.trans xi5).trans xi6).keep _ _ g5 (fun ps z => by cases z)) h19) g5 (fun ps z => by cases z)
    have z_fd4 := y4.keep _ _ (ne_of_none ((xi5.trans xi6).keep _ _ fd4 (fun ps z => by cases z)) h19) fd4 (fun ps z => by cases z)
    have z_g8 := y4.keep _ _ (ne_of_none ((xi5.trans xi6).keep _ _ g8 (fun ps z => by cases z)) h19) g8 (fun ps z => by cases z)
    have z_g9 := y4.keep _ _ (ne_of_none ((xi5.trans xi6).keep _ _ g9 (fun ps z => by cases z)) h19) g9 (fun ps z => by cases z)
    have z_fd5 := y5.keep _ _ (ne_of_none (xi6.keep _ _ fd5 (fun ps z => by cases z)) h19) fd5 (fun ps z => by cases z)
    have z_g12 := y5.keep _ _ (ne_of_none (xi6.keep _ _ g12 (fun ps z => by cases z)) h19) g12 (fun ps z => by cases z)
    have z_g13 := y5.keep _ _ (ne_of_none (xi6.keep _ _ g13 (fun ps z => by cases z)) h19) g13 (fun ps z => by cases z)
    have z_fd6 := y6.keep _ _ (ne_of_none fd6 h19) fd6 (fun ps z => by cases z)
    have z_g16 := y6.keep _ _ (ne_of_none g16 h19) g16 (fun ps z => by cases z)
    have z_g17 := y6.keep _ _ (ne_of_none g17 h19) g17 (fun ps z => by cases z)
    have z_fd7 := y8.keep _ _ ((by first | exact ne_of fd7 tlS8 (fun z => by cases z) | exact fun z => by rw [z] at fd7; rw [tlS8] at fd7; cases fd7)) fd7 (fun ps z => by cases z)
    have z_g21 := y8.keep _ _ ((by first | exact ne_of g21 tlS8 (fun z => by cases z) | exact fun z => by rw [z] at g21; rw [tlS8] at g21; cases g21)) g21 (fun ps z => by cases z)
    have z_g22 := y8.keep _ _ ((by first | exact ne_of g22 tlS8 (fun z => by cases z) | exact fun z => by rw [z] at g22; rw [tlS8] at g22; cases g22)) g22 (fun ps z => by cases z)
    have z_fd8 := y10.keep _ _ ((by first | exact ne_of fd8 tlS10 (fun z => by cases z) | exact fun z => by rw [z] at fd8; rw [tlS10] at fd8; cases fd8)) fd8 (fun ps z => by cases z)
    have z_g26 := y10.keep _ _ ((by first | exact ne_of g26 tlS10 (fun z => by cases z) | exact fun z => by rw [z] at g26; rw [tlS10] at g26; cases g26)) g26 (fun ps z => by cases z)
    have z_g27 := y10.keep _ _ ((by first | exact ne_of g27 tlS10 (fun z => by cases z) | exact fun z => by rw [z] at g27; rw [tlS10] at g27; cases g27)) g27 (fun ps z => by cases z)
    have z_g28 := y10.keep _ _ ((by first | exact ne_of g28 tlS10 (fun z => by cases z) | exact fun z => by rw [z] at g28; rw [tlS10] at g28; cases g28)) g28 (fun ps z => by cases z)
    have z_g29 := y10.keep _ _ ((by first | exact ne_of g29 tlS10 (fun z => by cases z) | exact fun z => by rw [z] at g29; rw [tlS10] at g29; cases g29)) g29 (fun ps z => by cases z)
    have z_fd9 := y12.keep _ _ ((by first | exact ne_of fd9 tlS12 (fun z => by cases z) | exact fun z => by rw [z] at fd9; rw [tlS12] at fd9; cases fd9)) fd9 (fun ps z => by cases z)
    have z_g33 := y12.keep _ _ ((by first | exact ne_of g33 tlS12 (fun z => by cases z) | exact fun z => by rw [z] at g33; rw [tlS12] at g33; cases g33)) g33 (fun ps z => by cases z)
    have z_g34 := y12.keep _ _ ((by first | exact ne_of g34 tlS12 (fun z => by cases z) | exact fun z => by rw [z] at g34; rw [tlS12] at g34; cases g34)) g34 (fun ps z => by cases z)
    have z_g35 := y12.keep _ _ ((by first | exact ne_of g35 tlS12 (fun z => by cases z) | exact fun z => by rw [z] at g35; rw [tlS12] at g35; cases g35)) g35 (fun ps z => by cases z)
    have z_g36 := y12.keep _ _ ((by first | exact ne_of g36 tlS12 (fun z => by cases z) | exact fun z => by rw [z] at g36; rw [tlS12] at g36; cases g36)) g36 (fun ps z => by cases z)
    have z_g37 := y12.keep _ _ ((by first | exact ne_of g37 tlS12 (fun z => by cases z) | exact fun z => by rw [z] at g37; rw [tlS12] at g37; cases g37)) g37 (fun ps z => by cases z)
    have z_g38 := y12.keep _ _ ((by first | exact ne_of g38 tlS12 (fun z => by cases z) | exact fun z => by rw [z] at g38; rw [tlS12] at g38; cases g38)) g38 (fun ps z => by cases z)
    have z_fd10 := y14.keep _ _ ((by first | exact ne_of fd10 tlS14 (fun z => by cases z) | exact fun z => by rw [z] at fd10; rw [tlS14] at fd10; cases fd10)) fd10 (fun ps z => by cases z)
    have z_g42 := y14.keep _ _ ((by first | exact ne_of g42 tlS14 (fun z => by cases z) | exact fun z => by rw [z] at g42; rw [tlS14] at g42; cases g42)) g42 (fun ps z => by cases z)
    have z_g43 := y14.keep _ _ ((by first | exact ne_of g43 tlS14 (fun z => by cases z) | exact fun z => by rw [z] at g43; rw [tlS14] at g43; cases g43)) g43 (fun ps z => by cases z)
    have z_g44 := y14.keep _ _ ((by first | exact ne_of g44 tlS14 (fun z => by cases z) | exact fun z => by rw [z] at g44; rw [tlS14] at g44; cases g44)) g44 (fun ps z => by cases z)
    have z_g45 := y14.keep _ _ ((by first | exact ne_of g45 tlS14 (fun z => by cases z) | exact fun z => by rw [z] at g45; rw [tlS14] at g45; cases g45)) g45 (fun ps z => by cases z)
    have z_g46 := y14.keep _ _ ((by first | exact ne_of g46 tlS14 (fun z => by cases z) | exact fun z => by rw [z] at g46; rw [tlS14] at g46; cases g46)) g46 (fun ps z => by cases z)
    have z_g47 := y14.keep _ _ ((by first | exact ne_of g47 tlS14 (fun z => by cases z) | exact fun z => by rw [z] at g47; rw [tlS14] at g47; cases g47)) g47 (fun ps z => by cases z)
    have z_fd11 := y16.keep _ _ ((by first | exact ne_of fd11 tlS16 (fun z => by cases z) | exact fun z => by rw [z] at fd11; rw [tlS16] at fd11; cases fd11)) fd11 (fun ps z => by cases z)
    have z_g51 := y16.keep _ _ ((by first | exact ne_of g51 tlS16 (fun z => by cases z) | exact fun z => by rw [z] at g51; rw [tlS16] at g51; cases g51)) g51 (fun ps z => by cases z)
    have z_g52 := y16.keep _ _ ((by first | exact ne_of g52 tlS16 (fun z => by cases z) | exact fun z => by rw [z] at g52; rw [tlS16] at g52; cases g52)) g52 (fun ps z => by cases z)
    have z_g53 := y16.keep _ _ ((by first | exact ne_of g53 tlS16 (fun z => by cases z) | exact fun z => by rw [z] at g53; rw [tlS16] at g53; cases g53)) g53 (fun ps z => by cases z)
    have z_g54 := y16.keep _ _ ((by first | exact ne_of g54 tlS16 (fun z => by cases z) | exact fun z => by rw [z] at g54; rw [tlS16] at g54; cases g54)) g54 (fun ps z => by cases z)
    have z_fd12 := y18.keep _ _ ((by first | exact ne_of fd12 tlS18 (fun z => by cases z) | exact fun z => by rw [z] at fd12; rw [tlS18] at fd12; cases fd12)) fd12 (fun ps z => by cases z)
    have z_g58 := y18.keep _ _ ((by first | exact ne_of g58 tlS18 (fun z => by cases z) | exact fun z => by rw [z] at g58; rw [tlS18] at g58; cases g58)) g58 (fun ps z => by cases z)
    have z_g59 := y18.keep _ _ ((by first | exact ne_of g59 tlS18 (fun z => by cases z) | exact fun z => by rw [z] at g59; rw [tlS18] at g59; cases g59)) g59 (fun ps z => by cases z)
    have z_g60 := y18.keep _ _ ((by first | exact ne_of g60 tlS18 (fun z => by cases z) | exact fun z => by rw [z] at g60; rw [tlS18] at g60; cases g60)) g60 (fun ps z => by cases z)
    have z_g61 := y18.keep _ _ ((by first | exact ne_of g61 tlS18 (fun z => by cases z) | exact fun z => by rw [z] at g61; rw [tlS18] at g61; cases g61)) g61 (fun ps z => by cases z)
    have z_fd13 := y19.keep _ _ ((by first | exact ne_of fd13 tlS19 (fun z => by cases z) | exact fun z => by rw [z] at fd13; rw [tlS19] at fd13; cases fd13)) fd13 (fun ps z => by cases z)
    have z_g64 := y19.keep _ _ ((by first | exact ne_of g64 tlS19 (fun z => by cases z) | exact fun z => by rw [z] at g64; rw [tlS19] at g64; cases g64)) g64 (fun ps z => by cases z)
    have z_g65 := y19.keep _ _ ((by first | exact ne_of g65 tlS19 (fun z => by cases z) | exact fun z => by rw [z] at g65; rw [tlS19] at g65; cases g65)) g65 (fun ps z => by cases z)
    have z_g66 := y19.keep _ _ ((by first | exact ne_of g66 tlS19 (fun z => by cases z) | exact fun z => by rw [z] at g66; rw [tlS19] at g66; cases g66)) g66 (fun ps z => by cases z)
    have z_fd15 := y22.keep _ _ ((by first | exact ne_of fd15 tlS22 (fun z => by cases z) | exact fun z => by rw [z] at fd15; rw [tlS22] at fd15; cases fd15)) fd15 (fun ps z => by cases z)
    have z_g71 := y22.keep _ _ ((by first | exact ne_of g71 tlS22 (fun z => by cases z) | exact fun z => by rw [z] at g71; rw [tlS22] at g71; cases g71)) g71 (fun ps z => by cases z)
    have z_g72 := y22.keep _ _ ((by first | exact ne_of g72 tlS22 (fun z => by cases z) | exact fun z => by rw [z] at g72; rw [tlS22] at g72; cases g72)) g72 (fun ps z => by cases z)
    have z_g73 := y22.keep _ _ ((by first | exact ne_of g73 tlS22 (fun z => by cases z) | exact fun z => by rw [z] at g73; rw [tlS22] at g73; cases g73)) g73 (fun ps z => by cases z)
    have z_g74 := y22.keep _ _ ((by first | exact ne_of g74 tlS22 (fun z => by cases z) | exact fun z => by rw [z] at g74; rw [tlS22] at g74; cases g74)) g74 (fun ps z => by cases z)
    have z_g75 := y22.keep _ _ ((by first | exact ne_of g75 tlS22 (fun z => by cases z) | exact fun z => by rw [z] at g75; rw [tlS22] at g75; cases g75)) g75 (fun ps z => by cases z)
    have z_g76 := y22.keep _ _ ((by first | exact ne_of g76 tlS22 (fun z => by cases z) | exact fun z => by rw [z] at g76; rw [tlS22] at g76; cases g76)) g76 (fun ps z => by cases z)
    refine k H' x (hev.trans ev) ?_ fun G evG => ?_
    · have fr : ∀ b, H b = none → V.ref b ≠ .ref tw := fun b hb z => hadd b hb (by injection z)
      simp only [List.mem_cons, List.not_mem_nil, or_false] at hx
      rcases hx with rfl | rfl | rfl | rfl | rfl | rfl | rfl | rfl | rfl | rfl | rfl | rfl | rfl | rfl | rfl | rfl
      · exact fun z => by cases z
      · exact (fun z => by
          have e : p1 = tw := by injection z
          obtain ⟨u0, u1, _, et⟩ := LN.town
          rw [← e, z_t1] at et
          cases et)
      · exact (fun z => by
          have e : p2 = tw := by injection z
          obtain ⟨u0, u1, _, et⟩ := LN.town
          rw [← e, z_t2] at et
          cases et)
      · exact (fun z => by
          have e : p3 = tw := by injection z
          obtain ⟨u0, u1, _, et⟩ := LN.town
          rw [← e, z_fd3] at et
          cases et)
      · exact (fun z => by
          have e : p7 = tw := by injection z
          obtain ⟨u0, u1, _, et⟩ := LN.town
          rw [← e, z_fd4] at et
          cases et)
      · exact (fun z => by
          have e : p11 = tw := by injection z
          obtain ⟨u0, u1, _, et⟩ := LN.town
          rw [← e, z_fd5] at et
          cases et)
      · exact (fun z => by
          have e : p15 = tw := by injection z
          obtain ⟨u0, u1, _, et⟩ := LN.town
          rw [← e, z_fd6] at et
          cases et)
      · exact (fun z => by
          have e : p20 = tw := by injection z
          obtain ⟨u0, u1, _, et⟩ := LN.town
          rw [← e, z_fd7] at et
          cases et)
      · exact (fun z => by
          have e : p25 = tw := by injection z
          obtain ⟨u0, u1, _, et⟩ := LN.town
          rw [← e, z_fd8] at et
          cases et)
      · exact (fun z => by
          have e : p32 = tw := by injection z
          obtain ⟨u0, u1, _, et⟩ := LN.town
          rw [← e, z_fd9] at et
          cases et)
      · exact (fun z => by
          have e : p41 = tw := by injection z
          obtain ⟨u0, u1, _, et⟩ := LN.town
          rw [← e, z_fd10] at et
          cases et)
      · exact (fun z => by
          have e : p50 = tw := by injection z
          obtain ⟨u0, u1, _, et⟩ := LN.town
          rw [← e, z_fd11] at et
          cases et)
      · exact (fun z => by
          have e : p57 = tw := by injection z
          obtain ⟨u0, u1, _, et⟩ := LN.town
          rw [← e, z_fd12] at et
          cases et)
      · exact (fun z => by
          have e : p63 = tw := by injection z
          obtain ⟨u0, u1, _, et⟩ := LN.town
          rw [← e, z_fd13] at et
          cases et)
      · exact fun z => by cases z
      · exact (fun z => by
          have e : p70 = tw := by injection z
          obtain ⟨u0, u1, _, et⟩ := LN.town
          rw [← e, z_fd15] at et
          cases et)
    · have ee := ev.trans evG
      have Tw := LN.town
      have nt : ∀ b o, H78 b = some o → (∀ u0 u1 : Int, o ≠ .lst [.int u0, .int u1]) → b ≠ tw := fun b o e n z => by
        obtain ⟨u0, u1, _, et⟩ := LN.town
        rw [z, et] at e
        cases e
        exact n u0 u1 rfl
      have kp : ∀ b o, H78 b = some o → (∀ u0 u1 : Int, o ≠ .lst [.int u0, .int u1]) → (∀ ps, o ≠ .tbl ps) → G b = some o := fun b o e n m => ee.keep b o (nt b o e n) e m
      simp only [List.mem_cons, List.not_mem_nil, or_false] at hx
      rcases hx with rfl | rfl | rfl | rfl | rfl | rfl | rfl | rfl | rfl | rfl | rfl | rfl | rfl | rfl | rfl | rfl
      · exact .oth .non (by decide)
      · exact .oth (.lst (SqL.of (kp _ _ z_t1 (fun u0 u1 z => by cases z) (fun ps z => by cases z)))) (by decide)
      · exact bad_layer (es := []) (kp _ _ z_t2 (fun u0 u1 z => by cases z) (fun ps z => by cases z)) .nil (by decide +kernel) (by decide +kernel)
      · exact bad_layer (es := [([], .tuple [.str "drawer"])]) (kp _ _ z_fd3 (fun u0 u1 z => by cases z) (fun ps z => by cases z)) (.cons ⟨rfl, .tup (SqT.of (kp _ _ z_g5 (fun u0 u1 z => by cases z) (fun ps z => by cases z))) (.cons (.str _) .nil)⟩ .nil) (by decide +kernel) (by decide +kernel)
      · exact bad_layer (es := [([], .tuple [.str "gone"])]) (kp _ _ z_fd4 (fun u0 u1 z => by cases z) (fun ps z => by cases z)) (.cons ⟨rfl, .tup (SqT.of (kp _ _ z_g9 (fun u0 u1 z => by cases z) (fun ps z => by cases z))) (.cons (.str _) .nil)⟩ .nil) (by decide +kernel) (by decide +kernel)
      · exact bad_layer (es := [(["a"], .tuple [.str "gone"])]) (kp _ _ z_fd5 (fun u0 u1 z => by cases z) (fun ps z => by cases z)) (.cons ⟨rfl, .tup (SqT.of (kp _ _ z_g13 (fun u0 u1 z => by cases z) (fun ps z => by cases z))) (.cons (.str _) .nil)⟩ .nil) (by decide +kernel) (by decide +kernel)
      · exact bad_layer (es := [([], .tuple [.str "drawer", .int 0])]) (kp _ _ z_fd6 (fun u0 u1 z => by cases z) (fun ps z => by cases z)) (.cons ⟨rfl, .tup (SqT.of (kp _ _ z_g17 (fun u0 u1 z => by cases z) (fun ps z => by cases z))) (.cons (.str _) (.cons (.int _) .nil))⟩ .nil) (by decide +kernel) (by decide +kernel)
      · exact bad_layer (es := [([], .tuple [.str "drawer", .none])]) (kp _ _ z_fd7 (fun u0 u1 z => by cases z) (fun ps z => by cases z)) (.cons ⟨rfl, .tup (SqT.of (kp _ _ z_g22 (fun u0 u1 z => by cases z) (fun ps z => by cases z))) (.cons (.str _) (.cons .non .nil))⟩ .nil) (by decide +kernel) (by decide +kernel)
      · exact bad_layer (es := [([], .tuple [.str "drawer", .bool false]), (["a", "b"], .tuple [.str "gone"])]) (kp _ _ z_fd8 (fun u0 u1 z => by cases z) (fun ps z => by cases z)) (.cons ⟨rfl, .tup (SqT.of (kp _ _ z_g27 (fun u0 u1 z => by cases z) (fun ps z => by cases z))) (.cons (.str _) (.cons (.bl _) .nil))⟩ (.cons ⟨rfl, .tup (SqT.of (kp _ _ z_g29 (fun u0 u1 z => by cases z) (fun ps z => by cases z))) (.cons (.str _) .nil)⟩ .nil)) (by decide +kernel) (by decide +kernel)
      · exact bad_layer (es := [([], .tuple [.str "drawer", .bool false]), (["a"], .tuple [.str "gone"]), (["a", "b"], .tuple [.str "gone"])]) (kp _ _ z_fd9 (fun u0 u1 z => by cases z) (fun ps z => by cases z)) (.cons ⟨rfl, .tup (SqT.of (kp _ _ z_g34 (fun u0 u1 z => by cases z) (fun ps z => by cases z))) (.cons (.str _) (.cons (.bl _) .nil))⟩ (.cons ⟨rfl, .tup (SqT.of (kp _ _ z_g36 (fun u0 u1 z => by cases z) (fun ps z => by cases z))) (.cons (.str _) .nil)⟩ (.cons ⟨rfl, .tup (SqT.of (kp _ _ z_g38 (fun u0 u1 z => by cases z) (fun ps z => by cases z))) (.cons (.str _) .nil)⟩ .nil))) (by decide +kernel) (by decide +kernel)
      · exact bad_layer (es := [([], .tuple [.str "drawer", .bool false]), (["a"], .tuple [.str "file", .int 0, .str "x"]), (["b"], .tuple [.str "file", .int 0, .str "y"])]) (kp _ _ z_fd10 (fun u0 u1 z => by cases z) (fun ps z => by cases z)) (.cons ⟨rfl, .tup (SqT.of (kp _ _ z_g43 (fun u0 u1 z => by cases z) (fun ps z => by cases z))) (.cons (.str _) (.cons (.bl _) .nil))⟩ (.cons ⟨rfl, .tup (SqT.of (kp _ _ z_g45 (fun u0 u1 z => by cases z) (fun ps z => by cases z))) (.cons (.str _) (.cons (.int _) (.cons (.str _) .nil)))⟩ (.cons ⟨rfl, .tup (SqT.of (kp _ _ z_g47 (fun u0 u1 z => by cases z) (fun ps z => by cases z))) (.cons (.str _) (.cons (.int _) (.cons (.str _) .nil)))⟩ .nil))) (by decide +kernel) (by decide +kernel)
      · exact bad_layer (es := [([], .tuple [.str "drawer", .bool false]), (["a"], .tuple [.str "file", .int 1000, .str "x"])]) (kp _ _ z_fd11 (fun u0 u1 z => by cases z) (fun ps z => by cases z)) (.cons ⟨rfl, .tup (SqT.of (kp _ _ z_g52 (fun u0 u1 z => by cases z) (fun ps z => by cases z))) (.cons (.str _) (.cons (.bl _) .nil))⟩ (.cons ⟨rfl, .tup (SqT.of (kp _ _ z_g54 (fun u0 u1 z => by cases z) (fun ps z => by cases z))) (.cons (.str _) (.cons (.int _) (.cons (.str _) .nil)))⟩ .nil)) (by decide +kernel) (by decide +kernel)
      · exact bad_layer (es := [([], .tuple [.str "drawer", .bool false]), (["A"], .tuple [.str "gone"])]) (kp _ _ z_fd12 (fun u0 u1 z => by cases z) (fun ps z => by cases z)) (.cons ⟨rfl, .tup (SqT.of (kp _ _ z_g59 (fun u0 u1 z => by cases z) (fun ps z => by cases z))) (.cons (.str _) (.cons (.bl _) .nil))⟩ (.cons ⟨rfl, .tup (SqT.of (kp _ _ z_g61 (fun u0 u1 z => by cases z) (fun ps z => by cases z))) (.cons (.str _) .nil)⟩ .nil)) (by decide +kernel) (by decide +kernel)
      · exact bad_layer (es := [([], .tuple [.str "drawer", .bool false]), (["a"], .str "gone")]) (kp _ _ z_fd13 (fun u0 u1 z => by cases z) (fun ps z => by cases z)) (.cons ⟨rfl, .tup (SqT.of (kp _ _ z_g65 (fun u0 u1 z => by cases z) (fun ps z => by cases z))) (.cons (.str _) (.cons (.bl _) .nil))⟩ (.cons ⟨rfl, (.str _)⟩ .nil)) (by decide +kernel) (by decide +kernel)
      · exact .oth (.str _) (by decide)
      · exact bad_layer (es := [([], .tuple [.str "drawer", .bool false]), (["a"], .tuple [.str "file", .int 0, .str "x"]), (["a", "b"], .tuple [.str "gone"])]) (kp _ _ z_fd15 (fun u0 u1 z => by cases z) (fun ps z => by cases z)) (.cons ⟨rfl, .tup (SqT.of (kp _ _ z_g72 (fun u0 u1 z => by cases z) (fun ps z => by cases z))) (.cons (.str _) (.cons (.bl _) .nil))⟩ (.cons ⟨rfl, .tup (SqT.of (kp _ _ z_g74 (fun u0 u1 z => by cases z) (fun ps z => by cases z))) (.cons (.str _) (.cons (.int _) (.cons (.str _) .nil)))⟩ (.cons ⟨rfl, .tup (SqT.of (kp _ _ z_g76 (fun u0 u1 z => by cases z) (fun ps z => by cases z))) (.cons (.str _) .nil)⟩ .nil))) (by decide +kernel) (by decide +kernel)
end
/-! ### is it a stack? of any thing -/
theorem call_isDN {X : Cx} : CallR X (.builtin "isinstance") (fun xs H Q => ∃ d kvs, xs = [.ref d, .ty "list"] ∧ Rd H d (.dT kvs) ∧ Q (.bl false) H) := by
  rintro pins s σ H xs us Q I r ⟨d, kvs, rfl, hd, q⟩
  obtain ⟨u1, u2, rfl, r1, r2⟩ := vals2 r
  obtain rfl : u1 = Value.ref d := r1
  obtain rfl : u2 = Value.type "list" := r2
  obtain ⟨hz, hs, xs, rel, ob, es, ep, hob, hx, _⟩ := dt_rd I.hok hd
  exact PySem.W.kia_one PySem.W.kitx_dict I.kIn ⟨ob, hob, hx.1⟩ (kit_ty (show kitB "dict" "list" = some false by decide +kernel)) (fun z => nomatch z) fun tk => ⟨.bl false, H, I.tok tk, rfl, q⟩
theorem call_isS {X : Cx} : CallR X (.builtin "isinstance") (fun xs H Q => rIs X.K xs H Q ∨ ∃ d kvs, xs = [.ref d, .ty "list"] ∧ Rd H d (.dT kvs) ∧ Q (.bl false) H) := by
  intro pins s σ H xs us Q I r h
  rcases h with h | h
  · exact call_is pins s σ H xs us Q I r h
  · exact call_isDN pins s σ H xs us Q I r h
/-- is the thing a stack? -/
inductive StackQ (K : PySem.W.Frag) (H : Hp) : V → Bool → Prop
  | lst {l : Addr} {vs : List V} {bs : List Bool} (h : H l = some (.lst vs)) (p : Paired (fun v b => LayerQ K H v b) vs bs) (n : vs.length ≤ 100) : StackQ K H (.ref l) (decide (1 ≤ vs.length) && decide (vs.length ≤ 4) && bs.all id)
  | dict {d : Addr} {kvs : List (List L2.Key × V)} (h : Rd H d (.dT kvs)) : StackQ K H (.ref d) false
  | oth {v : V} {n : String} (k : Kn K H v n) (h : n ≠ "list") : StackQ K H v false
theorem StackQ.ex {K : PySem.W.Frag} {H H' : Hp} {v : V} {b : Bool} (x : Ex H H') (h : StackQ K H v b) : StackQ K H' v b := by
  cases h with
  | lst h p n => exact .lst (x.keep _ _ h (fun ps z => by cases z)) (pairImp (fun _ _ q => q.ex x) p) n
  | dict h => exact .dict (x.rd h (fun ps z => by cases z))
  | oth k h => exact .oth (k.ex x) h
def spIsStackG (K : PySem.W.Frag) (P1 P2 P3 P4 P6 P8 : Addr) : Sp := fun vs H Q E => ∃ v b, vs = [v] ∧ StackQ K H v b ∧ Tabs5 H P1 P2 P3 P4 P6 ∧ TabG H P8 ∧ ∀ H', Ex H H' → Q (.bl b) H'
def spCheckStackG (K : PySem.W.Frag) (P1 P2 P3 P4 P6 P8 C : Addr) : Sp := fun vs H Q E => ∃ v b, vs = [v] ∧ StackQ K H v b ∧ Tabs5 H P1 P2 P3 P4 P6 ∧ TabG H P8 ∧ (b = true → ∀ H', Ex H H' → Q .non H') ∧ (b = false → ∀ H', Ex H H' → E (.ref C) none H')
section
variable {P : Program} {w : World} {K : PySem.W.Frag} {mg : Str → Option Value} {base : Heap}
theorem ok_isStackG {f c fL P1 P2 P3 P4 P6 P8 : Addr} {fd fdL : FuncData} (F : FunC K "is_stack" "is_stack" sIsStack f fd c) (M : Mg mg) (R : MgR mg) (MK : MgK mg) (TB : LamX.TabB base mg c P8)
    (GL : FnOk P w K mg base CX0 9 fL fdL ["thing"] (spIsLayer K P1 P2 P3 P4 P6)) (mL : mg "is_layer" = some (.ref fL)) (kL : PySem.W.keepIn K (.ref fL) = true) (bL : Binds K fdL ["thing"] []) :
    FnOk P w K mg base CX0 11 f fd ["thing"] (spIsStackG K P1 P2 P3 P4 P6 P8) := by
  refine F.ok scIsStack (fun vs H Q E h => ?_) (fun A outer s H vs Q E hr h => ?_)
  · obtain ⟨v, b, rfl, _⟩ := h
    rfl
  · obtain ⟨v, b, rfl, sq, T, t8, k⟩ := h
    obtain ⟨tm, hm⟩ := MK.mostLayers
    refine ⟨_, pss_cons (ps_if (PW.pt (pw_or (pt_not (pt_val (pe_callB call_isS (by rfl) M.isinstance boot_isinstance (pa_cons (pv 0) (pa_cons (pe_bltn (v := .ty "list") (by rfl) R.list (by decide +kernel) rfl) pa_nil)))))
        (pw_or1 (pt_not (pt_chain op_le op_le pe_int (pe_callB call_len_seq (by rfl) M.len PySem.boot_len (pa_cons (pv 0) pa_nil)) (pe_glob (v := .int 4) (by rfl) hm ⟨_, rfl⟩)))))) (pss_one (ps_ret pe_bl)) pss_nil)
      (pss_one (ps_ret (pe_all (k := 9) (N := ["thing", "layer"]) (pad := 1) (j := 1) (x := "layer") (P := P8) hr rfl (by rfl) M.all TB rfl (gn_by (N0 := ["thing"]) (sc := defScope sIsStack) (by decide +kernel)) (pi_list (pv 0))
        (fun A s H cl C code fp pn hr => pe_call (E := E0) GL hr (by rfl) mL kL bL .nil pass0 (pa_cons (pv 1) pa_nil))))), ?_⟩
    cases sq with
    | oth kn hn =>
      rename_i n
      refine ⟨_, rfl, .inl ⟨v, n, "list", rfl, kn, rfl, _, rfl, ?_⟩⟩
      rw [kn.is hn (fun _ => by decide)]
      exact iteT (k H (Ex.refl H))
    | dict hd =>
      exact ⟨_, rfl, .inr ⟨_, _, rfl, hd, _, rfl, iteT (k H (Ex.refl H))⟩⟩
    | lst h p n =>
      rename_i l vs bs
      refine ⟨_, rfl, .inl ⟨.ref l, "list", "list", rfl, .lst (SqL.of h), rfl, _, rfl, ?_⟩⟩
      rw [show isB "list" "list" = true by decide]
      refine iteF ⟨_, rfl, l, _, rfl, .inl (SqL.of h), _, _, rfl, rfl, _, rfl, ?_⟩
      by_cases h1 : (1 : Int) ≤ ((vs.length : Nat) : Int)
      · rw [decide_eq_true h1]
        refine iteT ⟨_, _, rfl, rfl, _, rfl, ?_⟩
        by_cases h4 : ((vs.length : Nat) : Int) ≤ 4
        · rw [decide_eq_true h4]
          refine iteF ⟨_, rfl, l, rfl, ⟨_, SqL.of h⟩, t8, fun H2 hT => ?_⟩
          have x2 := Ex.tabd hT t8
          have st : ∀ {G : Hp}, Ex H G → SqL K G l vs := fun x => SqL.of (x.keep _ _ h (fun ps z => by cases z))
          refine gw_lst (xs := vs) (fun i => bs.getD i false) (st x2) (fun G x => st (x2.trans x)) ?_ ?_
          · intro i y G hy x R2 hR2
            obtain ⟨b, hb, q⟩ := paired_get p hy
            refine ⟨_, rfl, y, b, rfl, q.ex (x2.trans x), T.ex (x2.trans x), fun H' x' => ?_⟩
            have := hR2 H' (x.trans x')
            rwa [show bs.getD i false = b by rw [List.getD_eq_getElem?_getD, hb]; rfl] at this
          · intro G x
            have := k G (x2.trans x)
            rw [decide_eq_true (show 1 ≤ vs.length by omega), decide_eq_true (show vs.length ≤ 4 by omega), Bool.true_and, Bool.true_and] at this
            rwa [show ((List.range vs.length).all fun i => bs.getD i false) = bs.all id from by
              have hl := Paired.length p
              rw [hl, Bool.eq_iff_iff, List.all_eq_true, List.all_eq_true]
              constructor
              · intro h x hx
                obtain ⟨i, hi⟩ := List.mem_iff_getElem?.mp hx
                have := h i (List.mem_range.mpr (List.getElem?_eq_some_iff.mp hi).1)
                rwa [List.getD_eq_getElem?_getD, hi] at this
              · intro h i hi
                have hi := List.mem_range.mp hi
                rw [List.getD_eq_getElem?_getD, List.getElem?_eq_getElem hi]
                exact h _ (List.getElem_mem hi)]
        · rw [decide_eq_false h4]
          refine iteT ?_
          have := k H (Ex.refl H)
          rwa [decide_eq_false (show ¬ vs.length ≤ 4 by omega), Bool.and_false, Bool.false_and] at this
      · rw [decide_eq_false h1]
        refine iteF ⟨_, rfl, iteT ?_⟩
        have := k H (Ex.refl H)
        rwa [decide_eq_false (show ¬ 1 ≤ vs.length by omega), Bool.false_and, Bool.false_and] at this
theorem ok_checkStackG {f f2 P1 P2 P3 P4 P6 P8 C : Addr} {fd fd2 : FuncData} (F : Fun K "check_stack" "check_stack" sCheckStack f fd) (R : Ref K mg "NoStack" C)
    (G2 : FnOk P w K mg base CX0 11 f2 fd2 ["thing"] (spIsStackG K P1 P2 P3 P4 P6 P8)) (m2 : mg "is_stack" = some (.ref f2)) (k2 : PySem.W.keepIn K (.ref f2) = true) (b2 : Binds K fd2 ["thing"] []) :
    FnOk P w K mg base (L2.CX P w) 12 f fd ["thing"] (spCheckStackG K P1 P2 P3 P4 P6 P8 C) := by
  refine F.okX scCheckStack (fun vs H Q E h => ?_) (fun cdv A outer s H vs Q E hr h => ?_)
  · obtain ⟨v, b, rfl, _⟩ := h
    rfl
  · obtain ⟨v, b, rfl, sq, T, t8, kt, kf⟩ := h
    refine ⟨_, pss_one (ps_if (pt_not (pt_val (pe_call (E := E0) G2 hr (by rfl) m2 k2 b2 .nil pass0 (pa_cons (pv 0) pa_nil))))
      (pss_one (ps_raise rfl (takes_of rfl rfl rfl rfl) (pmk_own PySem.F.excBase_ValueError R.x R.g R.k (raises_own R.b R.t) rfl))) pss_nil), ?_⟩
    refine ⟨_, rfl, v, b, rfl, sq, T, t8, fun H' x => ⟨_, rfl, ?_⟩⟩
    cases b with
    | true => exact iteF (kt rfl H' x)
    | false => exact iteT (kf rfl H' x)
end
/-! ### what walks and locks want -/
theorem Eb.unlock {l d : Addr} {H H' : Hp} {od : Obj} {kvs : List (List L2.Key × V)} (hd : H d = some (.dT kvs)) (x : Eb l (upd H d (.frz od (.dT kvs))) H') : Eb l H (upd H' d (.dT kvs)) := by
  constructor
  · intro b o hb e n
    by_cases hbd : b = d
    · rw [hbd] at e ⊢
      rw [upd_same, ← hd, e]
    · rw [upd_ne hbd]
      exact x.keep b o hb (by rw [upd_ne hbd]; exact e) n
  · rintro b ⟨ps, e, t⟩
    have hb : b ≠ d := fun z => by
      rw [z, hd] at e
      cases e
    obtain ⟨qs, e2, t2⟩ := x.tab b ⟨ps, by rw [upd_ne hb]; exact e, t⟩
    exact ⟨qs, by rw [upd_ne hb]; exact e2, t2⟩
  · intro b e
    by_cases hb : b = d
    · rw [hb, upd_same] at e
      cases e
    · rw [upd_ne hb] at e
      have := x.free b e
      rwa [upd_ne hb] at this
theorem lock_goB {t : TS} {D : Ends} {σ : L2.St} {H : Hp} {d pm : Addr} {kvs : List (List L2.Key × V)} (hd : Rd H d (.dT kvs)) (hne : d ≠ pm)
    (h : ∀ (H1 : Hp) (od : Obj) (R : Ends), (∀ b o, H b = some o → b ≠ d → H1 b = some o) → (∀ b, TabG H b → TabG H1 b) → (∀ b, H1 b = none → H b = none) → H1 d = some (.frz od (.dT kvs)) →
      (∀ σ' H', Eb pm H1 H' → (∀ H2, Eb pm H H2 → (∀ b o, H' b = some o → b ≠ d → H2 b = some o) → D.nx σ' H2) → R.nx σ' H') → t R σ H1) : tLockS t D σ H := by
  rcases hd with hd | ⟨od, hd⟩
  · refine Or.inl ⟨d, _, hd, trivial, fun od => ?_⟩
    refine h _ od _ (fun b o e hb => by rw [upd_ne hb]; exact e) (fun b => ?_) (fun b e => ?_) upd_same fun v H' x q => ⟨x.keep _ _ hne upd_same (fun ps z => by cases z), q _ (Eb.unlock hd x) fun b o e hb => by rw [upd_ne hb]; exact e⟩
    · rintro ⟨ps, e, t⟩
      refine ⟨ps, ?_, t⟩
      rw [upd_ne (fun z => by
        rw [z, hd] at e
        cases e)]
      exact e
    · by_cases hb : b = d
      · rw [hb, upd_same] at e
        cases e
      · rwa [upd_ne hb] at e
  · exact Or.inr (h H od D (fun b o e _ => e) (fun b t => t) (fun b e => e) hd fun v H' x q => q H' x fun b o e _ => e)
theorem Eb.set {l : Addr} {H : Hp} {o u : HO} (h : H l = some u) (n : ∀ ps, u ≠ .tbl ps) : Eb l H (upd H l o) := by
  constructor
  · intro b v hb e _
    rw [upd_ne hb]; exact e
  · rintro b ⟨ps, e2, t⟩
    exact ⟨ps, by rw [upd_ne (fun z => by rw [z, h] at e2; cases e2; exact n ps rfl)]; exact e2, t⟩
  · intro b e2
    by_cases hb : b = l
    · rw [hb, upd_same] at e2; cases e2
    · rw [upd_ne hb] at e2; exact e2
theorem Eb.ex {l : Addr} {H H1 H' : Hp} (x : Ex H H1) (h : H l = none) (y : Eb l H1 H') : Ex H H' :=
  ⟨fun b o e n => y.keep b o (ne_of_none e h) (x.keep b o e n) n, fun b t => y.tab b (x.tab b t), fun b e => x.free b (y.free b e)⟩
theorem putK_last {kvs : List (List L2.Key × V)} {k : List L2.Key} {v u : V} (h : valV kvs k = none) : putK (kvs ++ [(k, v)]) k u = kvs ++ [(k, u)] := by
  have hk : ∀ p ∈ kvs, ¬ p.1 = k := by
    intro p hp e
    have : ∀ {l : List (List L2.Key × V)}, p ∈ l → valV l k ≠ none := by
      intro l
      induction l with
      | nil => intro h; cases h
      | cons x l ih =>
        intro hp
        by_cases hx : x.1 = k
        · rw [valV_pos hx]; simp
        · rw [valV_neg hx]
          rcases List.mem_cons.mp hp with rfl | hp
          · exact absurd e hx
          · exact ih hp
    exact this hp h
  have hm : kvs.map (fun p => if p.1 = k then (p.1, u) else p) = kvs := by
    have : kvs.map (fun p => if p.1 = k then (p.1, u) else p) = kvs.map id := List.map_congr_left fun p hp => if_neg (hk p hp)
    rw [this, List.map_id]
  unfold putK
  rw [if_pos (by simp)]
  rw [List.map_append, hm]
  simp
theorem valT_nd {t : Tr} (nd : (t.map (·.1)).Nodup) {e : List Str × Th} (h : e ∈ t) : valT t e.1 = some e.2 := by
  unfold valT
  induction t with
  | nil => cases h
  | cons x es ih =>
    rw [List.map_cons, List.nodup_cons] at nd
    rw [List.find?_cons]
    by_cases hx : x.1 = e.1
    · rw [decide_eq_true hx]
      rcases List.mem_cons.mp h with rfl | h
      · rfl
      · exact absurd (List.mem_map.mpr ⟨e, h, hx.symm⟩) nd.1
    · rw [decide_eq_false hx]
      rcases List.mem_cons.mp h with rfl | h
      · exact absurd rfl hx
      · exact ih nd.2 h
def LaX (H : Hp) (d : Addr) (la : La) : Prop := ∃ kvs, Rd H d (.dT kvs) ∧ RowN H kvs la
theorem LaX.at {K : PySem.W.Frag} {H : Hp} {d : Addr} {la : La} (h : LaX H d la) : TrAt K H d (entsL la) := by
  obtain ⟨kvs, h1, h2⟩ := h
  exact ⟨kvs, h1, h2.row⟩
theorem LaX.ex {H H' : Hp} {d : Addr} {la : La} (x : Ex H H') (h : LaX H d la) : LaX H' d la := by
  obtain ⟨kvs, hd, r⟩ := h
  exact ⟨kvs, x.rd hd (fun ps z => by cases z), r.keep fun b xs e => x.keep _ _ e (fun ps z => by cases z)⟩
theorem longOf_take {es : Ents} {p : List Str} {m : Nat} (hm : m ≤ p.length) (h : (valE es (p.take m)).isSome = true) (hno : ∀ j, m < j → j ≤ p.length → valE es (p.take j) = none) : longOf es p = p.take m := by
  unfold longOf begs
  have e : List.range (p.length + 1) = List.range (m + 1) ++ (List.range (p.length - m)).map fun i => m + 1 + i := by
    rw [show p.length + 1 = (m + 1) + (p.length - m) by omega, List.range_add]
  rw [e, List.map_append, List.filter_append]
  have e2 : (((List.range (p.length - m)).map fun i => m + 1 + i).map fun i => p.take i).filter (fun q => (valE es q).isSome) = [] := by
    rw [List.filter_eq_nil_iff]
    intro q hq
    obtain ⟨i, hi, rfl⟩ := List.mem_map.mp hq
    obtain ⟨j, hj, rfl⟩ := List.mem_map.mp hi
    have := List.mem_range.mp hj
    rw [hno (m + 1 + j) (by omega) (by omega)]
    decide
  rw [e2, List.append_nil, List.range_succ, List.map_append, List.filter_append]
  have e3 : ([m].map fun i => p.take i).filter (fun q => (valE es q).isSome) = [p.take m] := List.filter_cons_of_pos (p := fun q => (valE es q).isSome) (a := p.take m) (l := []) h
  rw [e3, List.getLastD_concat]
theorem take_new {α : Type} {l : List α} {f : α → List Str} (nd : (l.map f).Nodup) {i : Nat} {x : α} (h : l[i]? = some x) : f x ∉ (l.take i).map f := by
  intro hm
  obtain ⟨y, hy, ey⟩ := List.mem_map.mp hm
  obtain ⟨j, hj, rfl⟩ := List.mem_iff_getElem.mp hy
  rw [List.length_take] at hj
  rw [List.getElem_take] at ey
  obtain ⟨hil, hie⟩ := List.getElem?_eq_some_iff.mp h
  have h1 : (l.map f)[j]'(by rw [List.length_map]; omega) = (l.map f)[i]'(by rw [List.length_map]; exact hil) := by
    rw [List.getElem_map, List.getElem_map, hie]
    exact ey
  have := (List.getElem_inj nd).mp h1
  omega
theorem rowT_new {H : Hp} {km : List (List L2.Key × V)} {u : Tr} {p : List Str} (r : RowT H km u) (h : p ∉ u.map (·.1)) : valV km (p.map Sum.inr) = none := by
  rcases r.val (p := p) with ⟨e1, _⟩ | ⟨_, x, _, e2, _⟩
  · exact e1
  · exact absurd (List.mem_map.mpr ⟨_, valT_mem e2, rfl⟩) h
theorem drAt_T (t : Tr) (p : List Str) : drAt (entsT t) p = decide (valT t p = some .dr) := by
  unfold drAt
  rw [valT_ents]
  cases h : valT t p with
  | none => rfl
  | some x =>
    show PyData.eqv x.d drD = _
    rw [show drD = .tuple [.str "drawer"] from rfl, Th.eqv_dr]
    exact decide_eq_decide.mpr ⟨fun e => by rw [e], fun e => Option.some.inj e⟩
theorem Paired.impX {α β : Type} {p q : α → β → Prop} {as : List α} {bs : List β} (h : Paired p as bs) (f : ∀ a b, p a b → q a b) : Paired q as bs := by
  induction h with
  | nil => exact .nil
  | cons a _ ih => exact .cons (f _ _ a) ih
theorem LaX.evx {tw : Addr} {H H' : Hp} {d : Addr} {la : La} (ht : Town tw H) (v : Ev tw H H') (h : LaX H d la) : LaX H' d la := by
  obtain ⟨u0, u1, _, et⟩ := ht
  obtain ⟨kvs, hd, r⟩ := h
  refine ⟨kvs, v.rd (fun z => ?_) hd (fun ps z => by cases z), r.keep fun b xs e => v.keep _ _ (fun z => ?_) e (fun ps z => by cases z)⟩
  · rw [z] at hd
    rcases hd with hd | ⟨o, hd⟩
    · rw [et] at hd; cases hd
    · rw [et] at hd; cases hd
  · rw [z, et] at e
    cases e
theorem TrX.ex {H H' : Hp} {d : Addr} {t : Tr} (x : Ex H H') (h : TrX H d t) : TrX H' d t := by
  obtain ⟨kvs, hd, r⟩ := h
  exact ⟨kvs, x.rd hd (fun ps z => by cases z), r.keep fun b xs e => x.keep _ _ e (fun ps z => by cases z)⟩
theorem rowE_getD {K : PySem.W.Frag} {H : Hp} {kvs : List (List L2.Key × V)} {es : Ents} {p : List Str} (row : RowE K H kvs es) : Dp K H ((valV kvs (p.map Sum.inr)).getD .non) ((valE es p).getD .none) := by
  rcases row.val (p := p) with ⟨e1, e2⟩ | ⟨v, d, e1, e2, dv⟩
  · rw [e1, e2]
    exact .non
  · rw [e1, e2]
    exact dv
theorem shaped_getD {es : Ents} (h : ∀ e ∈ es, SeqAt.shaped e.2 = true) (q : List Str) : SeqAt.shaped ((valE es q).getD .none) = true := by
  cases e : valE es q with
  | none => decide +kernel
  | some d =>
    obtain ⟨x, hx, _, rfl⟩ := valE_mem e
    exact h x hx
theorem eqv_getD (o : Option PyData) (d : PyData) (hd : d = seeD ∨ d = drD) : PyData.eqv (o.getD .none) d = match o with
    | some x => PyData.eqv x d
    | none => false := by
  cases o with
  | some x => rfl
  | none => rcases hd with rfl | rfl <;> rfl
theorem lock_goS {t : TS} {D : Ends} {σ : L2.St} {H : Hp} {d : Addr} {kvs : List (List L2.Key × V)} (hd : Rd H d (.dT kvs))
    (h : ∀ (H1 : Hp) (od : Obj) (R : Ends), (∀ b o, H b = some o → b ≠ d → H1 b = some o) → (∀ b, TabG H b → TabG H1 b) → (∀ b, H1 b = none → H b = none) → H1 d = some (.frz od (.dT kvs)) →
      (∀ σ' H', Ex H1 H' → (∀ H2, Ex H H2 → (∀ b o, H' b = some o → b ≠ d → H2 b = some o) → D.nx σ' H2) → R.nx σ' H') → t R σ H1) : tLockS t D σ H := by
  rcases hd with hd | ⟨od, hd⟩
  · refine Or.inl ⟨d, _, hd, trivial, fun od => ?_⟩
    refine h _ od _ (fun b o e hb => by rw [upd_ne hb]; exact e) (fun b => ?_) (fun b e => ?_) upd_same fun v H' x q => ⟨x.keep _ _ upd_same (fun ps z => by cases z), q _ (Ex.unlock hd x) fun b o e hb => by rw [upd_ne hb]; exact e⟩
    · rintro ⟨ps, e, t⟩
      refine ⟨ps, ?_, t⟩
      rw [upd_ne (fun z => by
        rw [z, hd] at e
        cases e)]
      exact e
    · by_cases hb : b = d
      · rw [hb, upd_same] at e
        cases e
      · rwa [upd_ne hb] at e
  · exact Or.inr (h H od D (fun b o e _ => e) (fun b t => t) (fun b e => e) hd fun v H' x q => q H' x fun b o e _ => e)
/-! ### a layer laid over a tree: what each entry becomes -/
def asSeenD : PyData → PyData
  | .tuple (.str w :: r) => if w = "drawer" then drD else .tuple (.str w :: r)
  | d => d
def apartD : PyData → PyData
  | .tuple [.str w, .int n, .str z] => .tuple [.str w, .int (-1 - n), .str z]
  | d => d
/-- what may stand in a tree: a drawer or a file -/
def thingD (d : PyData) : Prop := d = drD ∨ ∃ n z, d = .tuple [.str "file", .int n, .str z]
def spAsSeen (K : PySem.W.Frag) : Sp := fun vs H Q _ => ∃ v d, vs = [v] ∧ Dp K H v d ∧ entryB d = true ∧ d ≠ goneD ∧ ∀ H' u, Ex H H' → Dp K H' u (asSeenD d) → Q u H'
def spApart (K : PySem.W.Frag) : Sp := fun vs H Q _ => ∃ v d, vs = [v] ∧ Dp K H v d ∧ thingD d ∧ ∀ H' u, Ex H H' → Dp K H' u (apartD d) → Q u H'
section
variable {P : Program} {w : World} {K : PySem.W.Frag} {mg : Str → Option Value} {base : Heap}
theorem scAsSeen : FnScope ["entry"] ["entry"] (defScope sAsSeen) := ⟨rfl, rfl, rfl, by decide +kernel, rfl, by decide +kernel, by decide +kernel⟩
theorem ok_asSeen {f aD : Addr} {fd : FuncData} (F : Fun K "_as_seen" "_as_seen" sAsSeen f fd) (SD : Cst K mg "DRAWER" [.str "drawer"] aD) : FnOk P w K mg base CX0 1 f fd ["entry"] (spAsSeen K) := by
  refine F.ok scAsSeen (fun vs H Q E h => ?_) (fun cdv A outer s H vs Q E hr h => ?_)
  · obtain ⟨v, d, rfl, _⟩ := h
    rfl
  · obtain ⟨v, d, rfl, hd, he, hg, k⟩ := h
    refine ⟨_, pss_one (ps_ret (pe_ifExp (pt_cmpR op_eq (pe_ix ix_tup (pv 0) pe_int (fun _ _ => rfl)) pe_str (nomark _)) (pe_glob (v := .ref aD) (by rfl) SD.g rfl) (pv 0))), ?_⟩
    rcases entry_form he with ⟨b, rfl⟩ | rfl | ⟨n, z, rfl, _, hz⟩
    · rcases kn_tuple hd with ⟨a0, xs, ds', rfl, ed', ha, hx⟩ | ⟨hno, _⟩
      rotate_left
      · exact absurd rfl (hno _)
      cases ed'
      obtain ⟨w0, at0, d0⟩ := dpAll_get 0 hx (by simp)
      cases d0
      refine ⟨_, rfl, a0, xs, 0, _, rfl, rfl, ha, at_of (j := 0) rfl at0, rfl, _, rfl, ?_⟩
      rw [decide_eq_true rfl]
      exact iteT (k H _ (Ex.refl H) (.tup (SD.t H) (.cons (.str _) .nil)))
    · exact absurd rfl hg
    · have hd2 := hd
      rcases kn_tuple hd with ⟨a0, xs, ds', rfl, ed', ha, hx⟩ | ⟨hno, _⟩
      rotate_left
      · exact absurd rfl (hno _)
      cases ed'
      obtain ⟨w0, at0, d0⟩ := dpAll_get 0 hx (by simp)
      cases d0
      refine ⟨_, rfl, a0, xs, 0, _, rfl, rfl, ha, at_of (j := 0) rfl at0, rfl, _, rfl, ?_⟩
      rw [show decide (V.str "file" = V.str "drawer") = false by decide +kernel]
      exact iteF ⟨_, rfl, k H _ (Ex.refl H) hd2⟩
theorem scApart : FnScope ["thing"] ["thing"] (defScope sApart) := ⟨rfl, rfl, rfl, by decide +kernel, rfl, by decide +kernel, by decide +kernel⟩
theorem ok_apart {f : Addr} {fd : FuncData} (F : Fun K "apart" "apart" sApart f fd) : FnOk P w K mg base CX0 1 f fd ["thing"] (spApart K) := by
  refine F.ok scApart (fun vs H Q E h => ?_) (fun cdv A outer s H vs Q E hr h => ?_)
  · obtain ⟨v, d, rfl, _⟩ := h
    rfl
  · obtain ⟨v, d, rfl, hd, ht, k⟩ := h
    refine ⟨_, pss_one (ps_ret (pe_ifExp (pt_cmpR op_eq (pe_ix ix_tup (pv 0) pe_int (fun _ _ => rfl)) pe_str (nomark _))
      (pe_tup (pa_cons pe_str (pa_cons (pe_op op_sub (pe_un un_neg pe_int) (pe_ix ix_tup (pv 0) pe_int (fun _ _ => rfl))) (pa_cons (pe_ix ix_tup (pv 0) pe_int (fun _ _ => rfl)) pa_nil)))) (pv 0))), ?_⟩
    have hd2 := hd
    rcases ht with rfl | ⟨n, z, rfl⟩
    · rcases kn_tuple hd with ⟨a0, xs, ds', rfl, ed', ha, hx⟩ | ⟨hno, _⟩
      rotate_left
      · exact absurd rfl (hno _)
      cases ed'
      obtain ⟨w0, at0, d0⟩ := dpAll_get 0 hx (by simp)
      cases d0
      refine ⟨_, rfl, a0, xs, 0, _, rfl, rfl, ha, at_of (j := 0) rfl at0, rfl, _, rfl, ?_⟩
      rw [show decide (V.str "drawer" = V.str "file") = false by decide +kernel]
      exact iteF ⟨_, rfl, k H _ (Ex.refl H) hd2⟩
    · rcases kn_tuple hd with ⟨a0, xs, ds', rfl, ed', ha, hx⟩ | ⟨hno, _⟩
      rotate_left
      · exact absurd rfl (hno _)
      cases ed'
      obtain ⟨w0, at0, d0⟩ := dpAll_get 0 hx (by simp)
      obtain ⟨w1, at1, d1⟩ := dpAll_get 1 hx (by simp)
      obtain ⟨w2, at2, d2⟩ := dpAll_get 2 hx (by simp)
      cases d0
      cases d1
      cases d2
      refine ⟨_, rfl, a0, xs, 0, _, rfl, rfl, ha, at_of (j := 0) rfl at0, rfl, _, rfl, ?_⟩
      rw [decide_eq_true rfl]
      refine iteT ⟨1, rfl, _, rfl, a0, xs, 1, _, rfl, rfl, ha, at_of (j := 1) rfl at1, _, _, rfl, rfl, _, rfl, a0, xs, 2, _, rfl, rfl, ha, at_of (j := 2) rfl at2, (by show 3 ≤ sizeLine; decide), fun q hq => k _ _ (Ex.new hq) (.tup (SqT.of upd_same) (.cons (.str _) (.cons (.int _) (.cons (.str _) .nil))))⟩
end
/-! ### laid_over -/
def passE (es : Ents) (p : List Str) : Bool := (valE es p).isNone && (begs (longOf es p)).all (seeAt es)
def overA (es : Ents) : Ents := (es.filter fun e => !PyData.eqv e.2 goneD).map fun e => (e.1, asSeenD e.2)
def overB (es ts : Ents) : Ents := (ts.filter fun e => passE es e.1).map fun e => (e.1, apartD e.2)
def overE (es ts : Ents) : Ents := overA es ++ overB es ts
theorem overA_snoc (es : Ents) (e : List Str × PyData) : overA (es ++ [e]) = if PyData.eqv e.2 goneD = true then overA es else overA es ++ [(e.1, asSeenD e.2)] := by
  unfold overA
  rw [List.filter_append]
  by_cases h : PyData.eqv e.2 goneD = true
  · rw [if_pos h, show ([e].filter fun e => !PyData.eqv e.2 goneD) = [] from List.filter_cons_of_neg (p := fun e : List Str × PyData => !PyData.eqv e.2 goneD) (a := e) (l := []) (by rw [h]; decide), List.append_nil]
  · rw [if_neg h, show ([e].filter fun e => !PyData.eqv e.2 goneD) = [e] from List.filter_cons_of_pos (p := fun e : List Str × PyData => !PyData.eqv e.2 goneD) (a := e) (l := []) (by simpa using h), List.map_append]
    rfl
theorem overB_snoc (es ts : Ents) (e : List Str × PyData) : overB es (ts ++ [e]) = if passE es e.1 = true then overB es ts ++ [(e.1, apartD e.2)] else overB es ts := by
  unfold overB
  rw [List.filter_append]
  by_cases h : passE es e.1 = true
  · rw [if_pos h, show ([e].filter fun e => passE es e.1) = [e] from List.filter_cons_of_pos (p := fun e : List Str × PyData => passE es e.1) (a := e) (l := []) h, List.map_append]
    rfl
  · rw [if_neg h, show ([e].filter fun e => passE es e.1) = [] from List.filter_cons_of_neg (p := fun e : List Str × PyData => passE es e.1) (a := e) (l := []) h, List.append_nil]
theorem overE_nd {es ts : Ents} (ndL : (es.map (·.1)).Nodup) (ndT : (ts.map (·.1)).Nodup) : ((overE es ts).map (·.1)).Nodup := by
  unfold overE
  rw [List.map_append, List.nodup_append]
  refine ⟨?_, ?_, fun a ha b hb e => ?_⟩
  · unfold overA
    rw [List.map_map]
    exact (List.Sublist.map _ List.filter_sublist).nodup ndL
  · unfold overB
    rw [List.map_map]
    exact (List.Sublist.map _ List.filter_sublist).nodup ndT
  · subst e
    obtain ⟨x, hx, rfl⟩ := List.mem_map.mp ha
    obtain ⟨x0, hx0, rfl⟩ := List.mem_map.mp hx
    obtain ⟨y, hy, ey⟩ := List.mem_map.mp hb
    obtain ⟨y0, hy0, rfl⟩ := List.mem_map.mp hy
    have h1 : valE es x0.1 = some x0.2 := valE_nd ndL (List.mem_filter.mp hx0).1
    have h2 : passE es y0.1 = true := (List.mem_filter.mp hy0).2
    have ey : y0.1 = x0.1 := ey
    rw [ey] at h2
    unfold passE at h2
    rw [h1] at h2
    cases h2
theorem overE_ren {es ts : Ents} (eL : ∀ e ∈ es, entryB e.2 = true) (eT : ∀ e ∈ ts, thingD e.2) : ∀ e ∈ overE es ts, renOk e.2 := by
  intro e he
  unfold overE at he
  rcases List.mem_append.mp he with he | he
  · obtain ⟨x, hx, rfl⟩ := List.mem_map.mp he
    obtain ⟨hx1, hx2⟩ := List.mem_filter.mp hx
    have hb := eL x hx1
    show renOk (asSeenD x.2)
    rcases entry_form hb with ⟨b, hd⟩ | hd | ⟨n, z, hd, _, _⟩
    · rw [hd]
      exact Or.inr ⟨"drawer", [], rfl, by decide +kernel⟩
    · rw [hd] at hx2
      exact absurd hx2 (by decide +kernel)
    · rw [hd]
      exact Or.inl ⟨n, z, rfl⟩
  · obtain ⟨x, hx, rfl⟩ := List.mem_map.mp he
    show renOk (apartD x.2)
    rcases eT x (List.mem_filter.mp hx).1 with hd | ⟨n, z, hd⟩
    · rw [hd]
      exact Or.inr ⟨"drawer", [], rfl, by decide +kernel⟩
    · rw [hd]
      exact Or.inl ⟨-1 - n, z, rfl⟩
def spLaidOver (K : PySem.W.Frag) (P1 P2 P7 : Addr) : Sp := fun vs H Q _ => ∃ dL dT es ts, vs = [.ref dL, .ref dT] ∧ dL ≠ dT ∧ TrAt K H dL es ∧ layerB es = true ∧ (es.map (·.1)).Nodup ∧ TrAt K H dT ts ∧ (ts.map (·.1)).Nodup ∧ (∀ e ∈ ts, goodPath e.1 = true ∧ thingD e.2) ∧ ts.length ≤ 500 ∧
  TabG H P1 ∧ TabG H P2 ∧ TabG H P7 ∧ ∀ H' l kvs, Ex H H' → H' l = some (.dT kvs) → H l = none → RowE K H' kvs (plainE (overE es ts)) → Q (.ref l) H'
section
variable {P : Program} {w : World} {K : PySem.W.Frag} {mg : Str → Option Value} {base : Heap}
abbrev lvN : List Str := ["layer", "tree", "found", "path", "thing", "entry"]
theorem scLaidOver : FnScope lvN ["layer", "tree"] (defScope sLaidOver) := ⟨rfl, rfl, rfl, by decide +kernel, rfl, by decide +kernel, by decide +kernel⟩
theorem ok_laidOver {f fS fA fL fX fR P1 P2 P7 aG : Addr} {fd fdS fdA fdL fdX fdR : FuncData} (F : Fun K "laid_over" "laid_over" sLaidOver f fd) (SG : Cst K mg "GONE" [.str "gone"] aG)
    (GS : FnOk P w K mg base CX0 1 fS fdS ["entry"] (spAsSeen K)) (mS : mg "_as_seen" = some (.ref fS)) (kS : PySem.W.keepIn K (.ref fS) = true) (bS : Binds K fdS ["entry"] [])
    (GA : FnOk P w K mg base CX0 1 fA fdA ["thing"] (spApart K)) (mA : mg "apart" = some (.ref fA)) (kA : PySem.W.keepIn K (.ref fA) = true) (bA : Binds K fdA ["thing"] [])
    (GL : FnOk P w K mg base CX0 8 fL fdL ["layer", "path"] (spLongest K P1 P2)) (mL : mg "longest" = some (.ref fL)) (kL : PySem.W.keepIn K (.ref fL) = true) (bL : Binds K fdL ["layer", "path"] [])
    (GX : FnOk P w K mg base CX0 8 fX fdX ["layer", "path"] (spLets K P1 P2 P7)) (mX : mg "lets_through" = some (.ref fX)) (kX : PySem.W.keepIn K (.ref fX) = true) (bX : Binds K fdX ["layer", "path"] [])
    (GR : FnOk P w K mg base CX0 1 fR fdR ["tree"] (spRenum K)) (mR : mg "renumbered" = some (.ref fR)) (kR : PySem.W.keepIn K (.ref fR) = true) (bR : Binds K fdR ["tree"] []) :
    FnOk P w K mg base CX0 9 f fd ["layer", "tree"] (spLaidOver K P1 P2 P7) := by
  refine F.ok scLaidOver (fun vs H Q E h => ?_) (fun cdv A outer s H vs Q E hr h => ?_)
  · obtain ⟨dL, dT, es, ts, rfl, _⟩ := h
    rfl
  · obtain ⟨dL, dT, es, ts, rfl, hne, hL, lay, ndL, hT, ndT, gT, h500, t1, t2, t7, k⟩ := h
    have r1 := hr.mono (show 1 ≤ 8 by decide)
    have hu1 : (A.deeper (envOfC "laid_over" (defScope sLaidOver) s.heap.objs.size f cdv)).units + 1 < cLine := by have := hr.units; omega
    have hu0 : (A.deeper (envOfC "laid_over" (defScope sLaidOver) s.heap.objs.size f cdv)).units < cLine := by omega
    refine ⟨_, pss_cons (ps_lockS (ps_setDcT (i := 2) (own := [("path", 3), ("entry", 5)]) (g := gTup K 2 (gCons (gName 3) (gCons (gName 5) gNil)))
          (tt := tTest (tOp (rNeD K) (tVar 5) (tC (.ref aG)))) (tk := tVar 3) (tv := tCall (spAsSeen K) [] E0 (tCons (tVar 5) tNil))
          hu0 (by rfl) scLaidOver.nd rfl rfl (swapsDc rfl rfl rfl (by decide +kernel)) (pi_itemsT (pv 0))
          (blkOk_by (N := lvN) (sc := defScope sLaidOver) (by decide +kernel)) (fun _ _ _ _ _ => by exact pg_tup rfl (pgs_cons (pg_name (i := 3) scLaidOver.nd rfl (Or.inl rfl)) (pgs_cons (pg_name (i := 5) scLaidOver.nd rfl (Or.inl rfl)) pgs_nil)))
          (fun _ _ _ _ _ => pts_one (pt_cmpR (op_neD hr.units) (pv 5) (pe_glob (v := .ref aG) (by rfl) SG.g rfl) (nomark _)))
          (fun _ _ _ _ _ => pv 3)
          (fun _ _ _ _ _ => pe_call (E := E0) GS r1 (by rfl) mS kS bS .nil pass0 (pa_cons (pv 5) pa_nil))))
      (pss_cons (ps_lockS (ps_for PassesOwn.never rfl (pi_itemsT (pv 1)) (pg_tup rfl (pgs_cons (pg_name (i := 3) scLaidOver.nd rfl (Or.inl rfl)) (pgs_cons (pg_name (i := 4) scLaidOver.nd rfl (Or.inl rfl)) pgs_nil)))
        (pss_one (ps_if (PW.pt (pw_and (pt_cmp (pc_dnotin hu1 (pv 3) (pv 0))) (pw_and1 (pt_val (pe_call (E := E0) GX hr (by rfl) mX kX bX .nil pass0 (pa_cons (pv 0) (pa_cons (pe_call (E := E0) GL hr (by rfl) mL kL bL .nil pass0 (pa_cons (pv 0) (pa_cons (pv 3) pa_nil))) pa_nil)))))))
          (pss_one (ps_dput hu1 (pv 2) (pv 3) (pe_call (E := E0) GA r1 (by rfl) mA kA bA .nil pass0 (pa_cons (pv 4) pa_nil)) rfl)) pss_nil))))
      (pss_one (ps_ret (pe_call (E := E0) GR r1 (by rfl) mR kR bR .nil pass0 (pa_cons (pv 2) pa_nil))))), ?_⟩
    obtain ⟨_, gL, eL, rL, _⟩ := layerB_parts lay
    obtain ⟨kl, hdL, rowL⟩ := hL
    refine lock_goS hdL fun H1 od R lk lt lf ld hR => ?_
    have rowL1 : RowE K H1 kl es := rowL.lk hdL lk
    refine ⟨_, rfl, dL, od, kl, rfl, ld, fun D hD => ?_⟩
    have hDd : D ≠ dL := fun z => by
      rw [z, ld] at hD
      cases hD
    have h40 : es.length ≤ 40 := (layerB_parts lay).1
    refine dcT_it LD.walk_itemsT (fun i G => Ex H1 G ∧ ∃ km, G D = some (.dT km) ∧ RowE K G km (overA (es.take i)))
      ⟨Ex.new hD, [], upd_same, .nil⟩ (fun i G _ h => h.1.keep _ _ ld (fun ps z => by cases z)) ?_ ?_
    · rintro i x G G' hi ⟨xg, km, hkm, rkm⟩ ⟨Tp, kk, v, q, hk, rfl, hTn, hq, rfl⟩
      obtain ⟨en, hen, ek, dv⟩ := (rowL1.ex xg).get hk
      have ek : kk = en.1.map Sum.inr := ek
      rw [ek] at hq
      have pq : PathX G q en.1 := PathX.of_key hq
      have xT := Ex.new (o := .tup [V.ref q, v]) hTn
      have sT : SqT K (upd G Tp (.tup [V.ref q, v])) Tp [V.ref q, v] := SqT.of upd_same
      have pq' := PathX.ex xT pq
      have dv' := Dp_ex xT dv
      have hkm' := xT.keep _ _ hkm (fun ps z => by cases z)
      have rkm' := rkm.ex xT
      have x3 := xg.trans xT
      generalize upd G Tp (.tup [V.ref q, v]) = G2 at sT pq' dv' hkm' rkm' x3 ⊢
      have etake : es.take (i + 1) = es.take i ++ [en] := by rw [List.take_add_one, hen]; rfl
      have hmem := List.mem_of_getElem? hen
      have hen2 := eL en hmem
      refine ⟨Tp, _, rfl, sT, rfl, _, _, rfl, _, _, rfl, rfl, rfl, ?_⟩
      refine ⟨_, rfl, en.2, goneD, dv', .tup (SG.t G2) (.cons (.str _) .nil), entry_shaped hen2, by decide +kernel, _, rfl, ?_⟩
      cases hgo : PyData.eqv en.2 goneD with
      | true =>
        refine iteF ⟨x3, km, hkm', ?_⟩
        rw [etake, overA_snoc, if_pos hgo]
        exact rkm'
      | false =>
        have hng : en.2 ≠ goneD := fun z => by
          rw [z] at hgo
          exact absurd hgo (by decide +kernel)
        refine iteT ⟨_, rfl, _, rfl, v, en.2, rfl, dv', hen2, hng, fun G3 u x4 du => ?_⟩
        have hkm3 := x4.keep _ _ hkm' (fun ps z => by cases z)
        have rkm3 := rkm'.ex x4
        have hnew : valV km (en.1.map Sum.inr) = none := by
          rcases rkm3.val (p := en.1) with ⟨e1, _⟩ | ⟨_, d, _, e2, _⟩
          · exact e1
          · exfalso
            obtain ⟨y, hy, _⟩ := Option.map_eq_some_iff.mp e2
            have hy1 := List.mem_of_find?_eq_some hy
            have hy2 : y.1 = en.1 := of_decide_eq_true (List.find?_some (p := fun e : List Str × PyData => decide (e.1 = en.1)) hy)
            obtain ⟨y0, hy0, rfl⟩ := List.mem_map.mp hy1
            have hy3 := (List.mem_filter.mp hy0).1
            exact take_new ndL hen (List.mem_map.mpr ⟨y0, hy3, hy2⟩)
        have hkl : km.length < sizeLine := by
          have e1 := rkm3.len
          have e2 : (overA (es.take i)).length ≤ (es.take i).length := by
            unfold overA
            rw [List.length_map]
            exact List.length_filter_le _ _
          rw [List.length_take] at e2
          rw [sizeLine_eq]
          omega
        have mv := mv_upd (u := .dT (putK km (en.1.map Sum.inr) u)) hkm3 (fun q => q)
        refine ⟨q, km, en.1.map Sum.inr, rfl, (PathX.ex x4 pq').key, hkm3, hkl, (x3.trans x4).put hD, _, upd_same, ?_⟩
        have row2 := mv_row mv rkm3
        have du2 := mv_dp mv du
        rw [putK_new _ hnew] at row2 du2 ⊢
        rw [etake, overA_snoc, if_neg (by rw [hgo]; decide)]
        exact Paired.snoc row2 ⟨rfl, du2⟩
    rintro G ⟨xg, km, hkm, rkm⟩
    rw [rowL.len, List.take_length] at rkm
    refine hR _ G xg fun H2 x2 kp => ?_
    have hDn : H D = none := lf D hD
    have frL := xg.keep _ _ ld (fun ps z => by cases z)
    have rkm2 : RowE K H2 km (overA es) := RowE.lk (Or.inr ⟨od, frL⟩) kp rkm
    have hkm2 := kp _ _ hkm hDd
    have hL2 : TrAt K H2 dL es := TrAt.ex x2 ⟨kl, hdL, rowL⟩
    obtain ⟨kt, hdT, rowT⟩ := hT.ex x2
    have t12 := x2.tab _ t1
    have t22 := x2.tab _ t2
    have t72 := x2.tab _ t7
    have hTD : dT ≠ D := fun z => by
      obtain ⟨kt0, h, _⟩ := hT
      rw [z] at h
      rcases h with h | ⟨o, h⟩
      · rw [hDn] at h; cases h
      · rw [hDn] at h; cases h
    clear hR kp rkm hkm frL xg ld lf lt lk rowL1
    -- what the tree has
    refine lock_goB hdT hTD fun HL od2 R2 lk lt lf ld hR => ?_
    have rowT1 : RowE K HL kt ts := rowT.lk hdT lk
    have rkmL : RowE K HL km (overA es) := rkm2.lk hdT lk
    have hkmL := lk _ _ hkm2 (Ne.symm hTD)
    have hLL : TrAt K HL dL es := by
      obtain ⟨k1, h1, h2⟩ := hL2
      refine ⟨k1, ?_, h2.lk hdT lk⟩
      rcases h1 with h1 | ⟨o, h1⟩
      · exact Or.inl (lk _ _ h1 hne)
      · exact Or.inr ⟨o, lk _ _ h1 hne⟩
    have hLD : dL ≠ D := Ne.symm hDd
    have mvE : ∀ {G2 : Hp}, Eb D HL G2 → ∀ b v, HL b = some v → seqO v → G2 b = some v := fun x b v e q => x.keep b v (fun z => by
      rw [z, hkmL] at e
      cases e
      exact q) e (fun ps z => by rw [z] at q; exact q)
    have hLk : ∀ {G2 : Hp}, Eb D HL G2 → TrAt K G2 dL es := fun x => by
      obtain ⟨k1, h1, h2⟩ := hLL
      refine ⟨k1, ?_, mv_row (mvE x) h2⟩
      rcases h1 with h1 | ⟨o, h1⟩
      · exact Or.inl (x.keep _ _ hLD h1 (fun ps z => by cases z))
      · exact Or.inr ⟨o, x.keep _ _ hLD h1 (fun ps z => by cases z)⟩
    refine ⟨_, rfl, dT, od2, kt, rfl, ld, for_it LD.walk_itemsT (fun i σ G2 => (∃ v3 v4, σ = [some (.ref dL), some (.ref dT), some (.ref D), v3, v4, none]) ∧ Eb D HL G2 ∧ ∃ km, G2 D = some (.dT km) ∧ RowE K G2 km (overA es ++ overB es (ts.take i)))
      ⟨⟨_, _, rfl⟩, Eb.refl _, km, hkmL, by rw [List.take_zero, show overB es [] = [] from rfl, List.append_nil]; exact rkmL⟩ (fun i σ G2 _ h => h.2.1.keep _ _ hTD ld (fun ps z => by cases z)) ?_ ?_⟩
    · rintro i x σ G2 G2' hi ⟨⟨v3, v4, rfl⟩, xg, km, hkm, rkm⟩ ⟨Tp, kk, v, q, hk, rfl, hTn, hq, rfl⟩
      obtain ⟨en, hen, ek, dv⟩ := (mv_row (mvE xg) rowT1).get hk
      have ek : kk = en.1.map Sum.inr := ek
      rw [ek] at hq
      have pq : PathX G2 q en.1 := PathX.of_key hq
      have xT := Ex.new (o := .tup [V.ref q, v]) hTn
      have sT : SqT K (upd G2 Tp (.tup [V.ref q, v])) Tp [V.ref q, v] := SqT.of upd_same
      have pq' := PathX.ex xT pq
      have dv' := Dp_ex xT dv
      have hkm' := xT.keep _ _ hkm (fun ps z => by cases z)
      have rkm' := rkm.ex xT
      have x3 := xg.trans (ex_eb xT)
      generalize upd G2 Tp (.tup [V.ref q, v]) = G3 at sT pq' dv' hkm' rkm' x3 ⊢
      have etake : ts.take (i + 1) = ts.take i ++ [en] := by rw [List.take_add_one, hen]; rfl
      have hmem := List.mem_of_getElem? hen
      obtain ⟨gp, thing⟩ := gT en hmem
      have hL3 := hLk x3
      obtain ⟨k1, h1, rowL3⟩ := id hL3
      have skip : ∀ G4, Ex G3 G4 → passE es en.1 = false → ((∃ v3 v4, [some (V.ref dL), some (.ref dT), some (.ref D), some (.ref q), some v, none] = [some (.ref dL), some (.ref dT), some (.ref D), v3, v4, none]) ∧ Eb D HL G4 ∧ ∃ km, G4 D = some (.dT km) ∧ RowE K G4 km (overA es ++ overB es (ts.take (i + 1)))) := fun G4 x4 hp => by
        refine ⟨⟨_, _, rfl⟩, x3.trans (ex_eb x4), km, x4.keep _ _ hkm' (fun ps z => by cases z), ?_⟩
        rw [etake, overB_snoc, if_neg (by rw [hp]; decide)]
        exact rkm'.ex x4
      refine ⟨Tp, _, rfl, sT, rfl, _, _, rfl, _, _, rfl, rfl, ?_⟩
      refine ⟨_, rfl, _, rfl, dL, _, rfl, get_tr h1 pq', _, rfl, ?_⟩
      rcases rowL3.val (p := en.1) with ⟨e1, e2⟩ | ⟨v0, D0, e1, e2, _⟩
      rotate_left
      · rw [e1]
        exact iteF (iteF (skip G3 (Ex.refl _) (by unfold passE; rw [e2]; rfl)))
      rw [e1]
      refine iteT ⟨_, rfl, _, rfl, _, rfl, dL, q, es, en.1, rfl, hL3, layer_root lay, pq', gp, x3.tab _ (lt _ t12), x3.tab _ (lt _ t22), fun G4 r x4 pr => ?_⟩
      obtain ⟨D1, hD1⟩ := longOf_val (p := en.1) (layer_root lay)
      refine ⟨dL, r, es, longOf es en.1, rfl, hL3.ex x4, (fun e he => entry_shaped (eL e he)), pr, begs_good gp _ (longOf_beg (layer_root lay)), roofH_begs rL hD1, x4.tab _ (x3.tab _ (lt _ t12)), x4.tab _ (x3.tab _ (lt _ t22)), x4.tab _ (x3.tab _ (lt _ t72)), fun G5 x5 => ⟨_, rfl, ?_⟩⟩
      have hp : passE es en.1 = (begs (longOf es en.1)).all (seeAt es) := by
        unfold passE
        rw [e2]
        rfl
      have x45 := x4.trans x5
      cases hb : (begs (longOf es en.1)).all (seeAt es) with
      | false => exact iteF (skip G5 x45 (by rw [hp, hb]))
      | true =>
        refine iteT ⟨_, rfl, v, en.2, rfl, Dp_ex x45 dv', thing, fun G6 u x6 du => ?_⟩
        have x36 := x45.trans x6
        have hkm6 := x36.keep _ _ hkm' (fun ps z => by cases z)
        have rkm6 := rkm'.ex x36
        have pq6 := PathX.ex x36 pq'
        have hkl : km.length < sizeLine := by
          have e1 := rkm6.len
          have e3 : (overA es).length ≤ es.length := by
            unfold overA
            rw [List.length_map]
            exact List.length_filter_le _ _
          have e4 : (overB es (ts.take i)).length ≤ (ts.take i).length := by
            unfold overB
            rw [List.length_map]
            exact List.length_filter_le _ _
          rw [List.length_take] at e4
          rw [List.length_append] at e1
          rw [sizeLine_eq]
          omega
        have hnew : valV km (en.1.map Sum.inr) = none := by
          rcases rkm6.val (p := en.1) with ⟨f1, _⟩ | ⟨_, d, _, f2, _⟩
          · exact f1
          · exfalso
            obtain ⟨y, hy, hy2, _⟩ := valE_mem f2
            rcases List.mem_append.mp hy with hy | hy
            · obtain ⟨y0, hy0, rfl⟩ := List.mem_map.mp hy
              have hy3 := (List.mem_filter.mp hy0).1
              have hy2 : y0.1 = en.1 := hy2
              have : valE es y0.1 = some y0.2 := valE_nd ndL hy3
              rw [hy2, e2] at this
              cases this
            · obtain ⟨y0, hy0, rfl⟩ := List.mem_map.mp hy
              have hy3 := (List.mem_filter.mp hy0).1
              exact take_new ndT hen (List.mem_map.mpr ⟨y0, hy3, hy2⟩)
        refine ⟨_, rfl, _, rfl, D, _, rfl, DPut.t (k := en.1.map Sum.inr) (v := u) hkm6 pq6.key hkl, ?_⟩
        have mv := mv_upd (u := .dT (putK km (en.1.map Sum.inr) u)) hkm6 (fun q => q)
        have row2 := mv_row mv rkm6
        have du2 := mv_dp mv du
        refine ⟨⟨_, _, rfl⟩, (x3.trans (ex_eb x36)).trans (Eb.set hkm6 (fun ps z => by cases z)), _, upd_same, ?_⟩
        rw [putK_new _ hnew] at row2 du2 ⊢
        rw [etake, overB_snoc, if_pos (by rw [hp, hb]), ← List.append_assoc]
        exact Paired.snoc row2 ⟨rfl, du2⟩
    rintro σ G ⟨⟨v3, v4, rfl⟩, xg, km, hkm, rkm⟩
    rw [rowT.len, List.take_length] at rkm
    refine hR _ G xg fun H3 y3 kp => ?_
    have frT := xg.keep _ _ hTD ld (fun ps z => by cases z)
    have rkm3 : RowE K H3 km (overA es ++ overB es ts) := RowE.lk (Or.inr ⟨od2, frT⟩) kp rkm
    have hkm3 := kp _ _ hkm (Ne.symm hTD)
    have x03 : Ex H H3 := Eb.ex x2 hDn y3
    refine ⟨_, rfl, D, overE es ts, rfl, ⟨km, Or.inl hkm3, rkm3⟩, ?_, ?_, ?_, fun H4 l kvs x4 e4 f4 r4 => k H4 l kvs (x03.trans x4) e4 (x03.free _ f4) r4⟩
    · exact overE_nd ndL ndT
    · exact overE_ren eL fun e he => (gT e he).2
    · have e3 : (overA es).length ≤ es.length := by
        unfold overA
        rw [List.length_map]
        exact List.length_filter_le _ _
      have e4 : (overB es ts).length ≤ ts.length := by
        unfold overB
        rw [List.length_map]
        exact List.length_filter_le _ _
      unfold overE
      rw [List.length_append]
      omega
end
/-! ### shown, of any things -/
theorem plainE_len (es : Ents) : (plainE es).length = es.length := by
  have h1 := congrArg List.length (renOf_keys (upE es) ([], []))
  have h2 : (plainE es).length = (upE es).length := by
    have : ((renOf (upE es)).2.map (·.1)).length = ((upE es).map (·.1)).length := by
      rw [show renOf (upE es) = (upE es).foldl renStep ([], []) from rfl, renOf_keys]
      rfl
    rwa [List.length_map, List.length_map] at this
  rw [h2]
  unfold upE
  rw [List.length_map, (keysUpE_perm es).length_eq, List.length_map]
theorem overE_lenS (es ts : Ents) : (overE es ts).length ≤ es.length + ts.length := by
  have e3 : (overA es).length ≤ es.length := by
    unfold overA
    rw [List.length_map]
    exact List.length_filter_le _ _
  have e4 : (overB es ts).length ≤ ts.length := by
    unfold overB
    rw [List.length_map]
    exact List.length_filter_le _ _
  unfold overE
  rw [List.length_append]
  omega
def spWithRoomG (K : PySem.W.Frag) (C : Addr) : Sp := fun vs H Q E => ∃ d es, vs = [.ref d] ∧ TrAt K H d es ∧ es.length ≤ 1000 ∧ (es.length ≤ 80 → Q (.ref d) H) ∧ (80 < es.length → E (.ref C) none H)
def spShownG (K : PySem.W.Frag) (P1 P2 P3 P4 P5 P6 P7 CL CT CF : Addr) : Sp := fun vs H Q E => ∃ v u, vs = [v, u] ∧ Tabs5 H P1 P2 P3 P4 P5 ∧ TabG H P6 ∧ TabG H P7 ∧
  ((LayerQ K H v false ∧ ∀ H', Ex H H' → E (.ref CL) none H') ∨
   ∃ dL es, v = .ref dL ∧ TrAt K H dL es ∧ smallE es ∧ layerB es = true ∧ (es.map (·.1)).Nodup ∧
    ((TreeQ K H u false ∧ ∀ H', Ex H H' → E (.ref CT) none H') ∨
     ∃ dT ts, u = .ref dT ∧ dL ≠ dT ∧ TrAt K H dT ts ∧ smallE ts ∧ treeB ts = true ∧ (ts.map (·.1)).Nodup ∧
      (80 < (overE es ts).length → ∀ H', Ex H H' → E (.ref CF) none H') ∧
      ((overE es ts).length ≤ 80 → ∀ H' l kvs, Ex H H' → H' l = some (.dT kvs) → H l = none → RowE K H' kvs (plainE (overE es ts)) → Q (.ref l) H')))
section
variable {P : Program} {w : World} {K : PySem.W.Frag} {mg : Str → Option Value} {base : Heap}
theorem scWithRoom : FnScope ["tree"] ["tree"] (defScope sWithRoom) := ⟨rfl, rfl, rfl, by decide +kernel, rfl, by decide +kernel, by decide +kernel⟩
theorem ok_withRoomG {f C : Addr} {fd : FuncData} (F : Fun K "_with_room" "_with_room" sWithRoom f fd) (M : Mg mg) (R : MgR mg) (RF : Ref K mg "Full" C) : FnOk P w K mg base (L2.CX P w) 1 f fd ["tree"] (spWithRoomG K C) := by
  refine F.okX scWithRoom (fun vs H Q E h => ?_) (fun cdv A outer s H vs Q E hr h => ?_)
  · obtain ⟨d, es, rfl, _⟩ := h
    rfl
  · obtain ⟨d, es, rfl, ⟨kvs, hd, row⟩, h1000, k, kf⟩ := h
    obtain ⟨tm, hm⟩ := R.mostPaths
    refine ⟨_, pss_cons (ps_if (pt_cmpR op_gt (pe_callB call_lenR (by rfl) M.len PySem.boot_len (pa_cons (pv 0) pa_nil)) (pe_glob (v := .int 80) (by rfl) hm ⟨_, rfl⟩) (nomark _))
      (pss_one (ps_raise rfl (takes_of rfl rfl rfl rfl) (pmk_own PySem.F.excBase_ValueError RF.x RF.g RF.k (raises_own RF.b RF.t) rfl))) pss_nil)
      (pss_one (ps_ret (pv 0))), ?_⟩
    have hl := row.len
    refine ⟨_, rfl, d, kvs, rfl, hd, _, _, rfl, rfl, _, rfl, ?_⟩
    by_cases h80 : (80 : Int) < ((kvs.length : Nat) : Int)
    · rw [decide_eq_true h80]
      exact iteT (kf (by omega))
    · rw [decide_eq_false h80]
      exact iteF ⟨_, rfl, k (by omega)⟩
theorem scShown : FnScope ["layer", "tree"] ["layer", "tree"] (defScope sShown) := ⟨rfl, rfl, rfl, by decide +kernel, rfl, by decide +kernel, by decide +kernel⟩
theorem ok_shownG {f fL fT fO fW P1 P2 P3 P4 P5 P6 P7 CL CT CF : Addr} {fd fdL fdT fdO fdW : FuncData} (F : Fun K "shown" "shown" sShown f fd)
    (GL : FnOk P w K mg base (L2.CX P w) 10 fL fdL ["thing"] (spCheckLayer K P1 P2 P3 P4 P6 CL)) (mL : mg "check_layer" = some (.ref fL)) (kL : PySem.W.keepIn K (.ref fL) = true) (bL : Binds K fdL ["thing"] [])
    (GT : FnOk P w K mg base (L2.CX P w) 10 fT fdT ["thing"] (spCheckTree K P1 P2 P3 P4 P5 CT)) (mT : mg "check_tree" = some (.ref fT)) (kT : PySem.W.keepIn K (.ref fT) = true) (bT : Binds K fdT ["thing"] [])
    (GO : FnOk P w K mg base CX0 9 fO fdO ["layer", "tree"] (spLaidOver K P1 P2 P7)) (mO : mg "laid_over" = some (.ref fO)) (kO : PySem.W.keepIn K (.ref fO) = true) (bO : Binds K fdO ["layer", "tree"] [])
    (GW : FnOk P w K mg base (L2.CX P w) 1 fW fdW ["tree"] (spWithRoomG K CF)) (mW : mg "_with_room" = some (.ref fW)) (kW : PySem.W.keepIn K (.ref fW) = true) (bW : Binds K fdW ["tree"] []) :
    FnOk P w K mg base (L2.CX P w) 11 f fd ["layer", "tree"] (spShownG K P1 P2 P3 P4 P5 P6 P7 CL CT CF) := by
  refine F.okX scShown (fun vs H Q E h => ?_) (fun cdv A outer s H vs Q E hr h => ?_)
  · obtain ⟨v, u, rfl, _⟩ := h
    rfl
  · obtain ⟨v, u, rfl, T, t6, t7, h⟩ := h
    have r9 := hr.mono (show 9 ≤ 10 by decide)
    have r1 := hr.mono (show 1 ≤ 10 by decide)
    refine ⟨_, pss_cons (ps_expr (pe_call (E := E) GL hr (by rfl) mL kL bL .nil (passes_call (takes_of rfl rfl rfl rfl) (fun _ _ _ _ h => h)) (pa_cons (pv 0) pa_nil)))
      (pss_cons (ps_expr (pe_call (E := E) GT hr (by rfl) mT kT bT .nil (passes_call (takes_of rfl rfl rfl rfl) (fun _ _ _ _ h => h)) (pa_cons (pv 1) pa_nil)))
      (pss_one (ps_ret (pe_call (E := E) GW r1 (by rfl) mW kW bW .nil (passes_call (takes_of rfl rfl rfl rfl) (fun _ _ _ _ h => h)) (pa_cons (pe_call (E := E) GO r9 (by rfl) mO kO bO .nil pass0 (pa_cons (pv 0) (pa_cons (pv 1) pa_nil))) pa_nil))))), ?_⟩
    rcases h with ⟨lq, kb⟩ | ⟨dL, es, rfl, hL, smL, lay, ndL, h⟩
    · exact ⟨_, rfl, v, false, rfl, lq, ⟨T.t1, T.t2, T.t3, T.t4, t6⟩, (fun z => nomatch z), fun _ H1 x1 => kb H1 x1⟩
    have ql : LayerQ K H (.ref dL) true := by
      have := LayerQ.dict hL smL
      rwa [lay] at this
    refine ⟨_, rfl, .ref dL, true, rfl, ql, ⟨T.t1, T.t2, T.t3, T.t4, t6⟩, fun _ H1 x1 => ?_, fun z => nomatch z⟩
    rcases h with ⟨tq, kb⟩ | ⟨dT, ts, rfl, hne, hT, smT, tre, ndT, kF, k⟩
    · exact ⟨_, rfl, u, false, rfl, tq.ex x1, T.ex x1, (fun z => nomatch z), fun _ H2 x2 => kb H2 (x1.trans x2)⟩
    have qt : TreeQ K H (.ref dT) true := by
      have := TreeQ.dict hT smT
      rwa [tre] at this
    refine ⟨_, rfl, .ref dT, true, rfl, qt.ex x1, T.ex x1, fun _ H2 x2 => ?_, fun z => nomatch z⟩
    have x02 := x1.trans x2
    have T2 := T.ex x02
    obtain ⟨h81, gT, thT, _, _⟩ := treeB_parts tre
    obtain ⟨h41, _⟩ := layerB_parts lay
    refine ⟨_, rfl, _, rfl, dL, dT, es, ts, rfl, hne, hL.ex x02, lay, ndL, hT.ex x02, ndT, fun e he => ⟨gT e he, ?_⟩, by omega, T2.t1, T2.t2, x02.tab _ t7, fun H3 l kvs x3 e3 f3 r3 => ?_⟩
    · rcases tree_form (thT e he) with h | ⟨n, z, h, _, _⟩
      · exact Or.inl h
      · exact Or.inr ⟨n, z, h⟩
    · have hlen := plainE_len (overE es ts)
      have hov := overE_lenS es ts
      exact ⟨l, _, rfl, ⟨kvs, Or.inl e3, r3⟩, by omega, fun h => k (by omega) H3 l kvs (x02.trans x3) e3 (x02.free _ f3) r3, fun h => kF (by omega) H3 (x02.trans x3)⟩
end
/-! ### open_drawers, refused -/
def spOpenBad (K : PySem.W.Frag) (P1 P2 P3 P4 P5 P6 CL CT : Addr) : Sp := fun vs H Q E => ∃ v u, vs = [v, u] ∧ Tabs5 H P1 P2 P3 P4 P5 ∧ TabG H P6 ∧
  ((LayerQ K H v false ∧ ∀ H', Ex H H' → E (.ref CL) none H') ∨ (LayerQ K H v true ∧ TreeQ K H u false ∧ ∀ H', Ex H H' → E (.ref CT) none H'))
section
variable {P : Program} {w : World} {K : PySem.W.Frag} {mg : Str → Option Value} {base : Heap}
abbrev odN : List Str := ["layer", "tree", "drawers", "path", "thing"]
theorem scOpenD : FnScope odN ["layer", "tree"] (defScope sOpenDrawers) := ⟨rfl, rfl, rfl, by decide +kernel, rfl, by decide +kernel, by decide +kernel⟩
theorem ok_openBad {f fT fL fX P1 P2 P3 P4 P5 P6 P7 CT CL aD : Addr} {fd fdT fdL fdX : FuncData} (F : Fun K "open_drawers" "open_drawers" sOpenDrawers f fd) (mS : mg "sorted" = none) (S : Cst K mg "DRAWER" [.str "drawer"] aD)
    (GL : FnOk P w K mg base (L2.CX P w) 10 fL fdL ["thing"] (spCheckLayer K P1 P2 P3 P4 P6 CL)) (mL : mg "check_layer" = some (.ref fL)) (kL : PySem.W.keepIn K (.ref fL) = true) (bL : Binds K fdL ["thing"] [])
    (GT : FnOk P w K mg base (L2.CX P w) 10 fT fdT ["thing"] (spCheckTree K P1 P2 P3 P4 P5 CT)) (mT : mg "check_tree" = some (.ref fT)) (kT : PySem.W.keepIn K (.ref fT) = true) (bT : Binds K fdT ["thing"] [])
    (GX : FnOk P w K mg base CX0 8 fX fdX ["layer", "path"] (spLets K P1 P2 P7)) (mX : mg "lets_through" = some (.ref fX)) (kX : PySem.W.keepIn K (.ref fX) = true) (bX : Binds K fdX ["layer", "path"] []) :
    FnOk P w K mg base (L2.CX P w) 11 f fd ["layer", "tree"] (spOpenBad K P1 P2 P3 P4 P5 P6 CL CT) := by
  refine F.okX scOpenD (fun vs H Q E h => ?_) (fun cdv A outer s H vs Q E hr h => ?_)
  · obtain ⟨v, u, rfl, _⟩ := h
    rfl
  · obtain ⟨v, u, rfl, T, t6, h⟩ := h
    have r8 := hr.mono (show 8 ≤ 10 by decide)
    have hu1 : (A.deeper (envOfC "open_drawers" (defScope sOpenDrawers) s.heap.objs.size f cdv)).units + 1 < cLine := by have := hr.units; omega
    have hu3 : (A.deeper (envOfC "open_drawers" (defScope sOpenDrawers) s.heap.objs.size f cdv)).units + 3 < cLine := by have := hr.units; omega
    refine ⟨_, pss_cons (ps_expr (pe_call (E := E) GL hr (by rfl) mL kL bL .nil (passes_call (takes_of rfl rfl rfl rfl) (fun _ _ _ _ h => h)) (pa_cons (pv 0) pa_nil)))
      (pss_cons (ps_expr (pe_call (E := E) GT hr (by rfl) mT kT bT .nil (passes_call (takes_of rfl rfl rfl rfl) (fun _ _ _ _ h => h)) (pa_cons (pv 1) pa_nil)))
      (pss_cons (ps_lockS (ps_setLc (i := 2) (own := [("path", 3), ("thing", 4)]) (g := gTup K 2 (gCons (gName 3) (gCons (gName 4) gNil)))
          (tt := tAnd (tTest (tOp (rEqD K) (tVar 4) (tC (.ref aD)))) (tTest (tDIn (tVar 3) (tVar 0))))
          (by rfl) scOpenD.nd rfl rfl (sw_true rfl rfl rfl (by decide +kernel)) (pi_itemsT (pv 1))
          (blkOk_by (N := odN) (sc := defScope sOpenDrawers) (by decide +kernel)) (fun _ _ _ _ _ => by exact pg_tup rfl (pgs_cons (pg_name (i := 3) scOpenD.nd rfl (Or.inl rfl)) (pgs_cons (pg_name (i := 4) scOpenD.nd rfl (Or.inl rfl)) pgs_nil)))
          (fun _ _ _ _ _ => pts_one (PW.pt (pw_and (pt_cmpR (op_eqD hr.units) (pv 4) (pe_glob (v := .ref aD) (by rfl) S.g rfl) (nomark _)) (pw_and1 (pt_cmp (pc_din hu1 (pv 3) (pv 0)))))))
          (fun _ _ _ _ _ => pv 3)))
      (pss_one (ps_ret (pe_callB (LS.cr_sortL hu3) (by rfl) mS (by decide +kernel) (pa_cons (pe_lc (own := [("path", 3)]) (g := gName 3) (tt := tB (tCall (spLets K P1 P2 P7) [] E0 (tCons (tVar 0) (tCons (tVar 3) tNil)))) rfl scOpenD.nd (pi_list (pv 2))
          (blkOk_by (N := odN) (sc := defScope sOpenDrawers) (by decide +kernel)) (fun _ _ _ _ _ => pg_name (i := 3) scOpenD.nd rfl (Or.inl rfl))
          (fun _ _ _ _ _ => pts_one (pt_val (pe_call (E := E0) GX r8 (by rfl) mX kX bX .nil pass0 (pa_cons (pv 0) (pa_cons (pv 3) pa_nil)))))
          (fun _ _ _ _ _ => pv 3)) pa_nil)))))), ?_⟩
    rcases h with ⟨lq, kb⟩ | ⟨lq, tq, kb⟩
    · exact ⟨_, rfl, v, false, rfl, lq, ⟨T.t1, T.t2, T.t3, T.t4, t6⟩, (fun z => nomatch z), fun _ H1 x1 => kb H1 x1⟩
    · refine ⟨_, rfl, v, true, rfl, lq, ⟨T.t1, T.t2, T.t3, T.t4, t6⟩, fun _ H1 x1 => ?_, fun z => nomatch z⟩
      exact ⟨_, rfl, u, false, rfl, tq.ex x1, T.ex x1, (fun z => nomatch z), fun _ H2 x2 => kb H2 (x1.trans x2)⟩
end
/-! ### look, refused -/
def spLookBad (K : PySem.W.Frag) (P1 P2 P3 P4 P6 P8 CS CP : Addr) : Sp := fun vs H Q E => ∃ v u, vs = [v, u] ∧ Tabs5 H P1 P2 P3 P4 P6 ∧ TabG H P8 ∧
  ((StackQ K H v false ∧ ∀ H', Ex H H' → E (.ref CS) none H') ∨ (StackQ K H v true ∧ PathB K H u false ∧ ∀ H', Ex H H' → E (.ref CP) none H'))
section
variable {P : Program} {w : World} {K : PySem.W.Frag} {mg : Str → Option Value} {base : Heap}
theorem ok_lookBad {f fS fP fA fL fX P1 P2 P3 P4 P6 P7 P8 CS C : Addr} {fd fdS fdP fdA fdL fdX : FuncData} (F : Fun K "look" "look" sLook f fd)
    (GS : FnOk P w K mg base (L2.CX P w) 12 fS fdS ["thing"] (spCheckStackG K P1 P2 P3 P4 P6 P8 CS)) (mS : mg "check_stack" = some (.ref fS)) (kS : PySem.W.keepIn K (.ref fS) = true) (bS : Binds K fdS ["thing"] [])
    (GP : FnOk P w K mg base (L2.CX P w) 6 fP fdP ["thing"] (spCheck K P1 P2 C)) (mP : mg "check_path" = some (.ref fP)) (kP : PySem.W.keepIn K (.ref fP) = true) (bP : Binds K fdP ["thing"] [])
    (GA : FnOk P w K mg base CX0 1 fA fdA ["entry"] (spAsLooked K)) (mA : mg "_as_looked_at" = some (.ref fA)) (kA : PySem.W.keepIn K (.ref fA) = true) (bA : Binds K fdA ["entry"] [])
    (GL : FnOk P w K mg base CX0 8 fL fdL ["layer", "path"] (spLongest K P1 P2)) (mL : mg "longest" = some (.ref fL)) (kL : PySem.W.keepIn K (.ref fL) = true) (bL : Binds K fdL ["layer", "path"] [])
    (GX : FnOk P w K mg base CX0 8 fX fdX ["layer", "path"] (spLets K P1 P2 P7)) (mX : mg "lets_through" = some (.ref fX)) (kX : PySem.W.keepIn K (.ref fX) = true) (bX : Binds K fdX ["layer", "path"] []) :
    FnOk P w K mg base (L2.CX P w) 13 f fd ["stack", "path"] (spLookBad K P1 P2 P3 P4 P6 P8 CS C) := by
  refine F.okX scLook (fun vs H Q E h => ?_) (fun cdv A outer s H vs Q E hr h => ?_)
  · obtain ⟨v, u, rfl, _⟩ := h
    rfl
  · obtain ⟨v, u, rfl, T, t8, h⟩ := h
    have r6 := hr.mono (show 6 ≤ 12 by decide)
    have r8 := hr.mono (show 8 ≤ 12 by decide)
    have r1 := hr.mono (show 1 ≤ 12 by decide)
    have hu1 : (A.deeper (envOfC "look" (defScope sLook) s.heap.objs.size f cdv)).units + 1 < cLine := by have := hr.units; omega
    refine ⟨_, pss_cons (ps_expr (pe_call (E := E) GS hr (by rfl) mS kS bS .nil (passes_call (takes_of rfl rfl rfl rfl) (fun _ _ _ _ h => h)) (pa_cons (pv 0) pa_nil)))
      (pss_cons (ps_expr (pe_call (E := E) GP r6 (by rfl) mP kP bP .nil (passes_call (takes_of rfl rfl rfl rfl) (fun _ _ _ _ h => h)) (pa_cons (pv 1) pa_nil)))
      (pss_cons (ps_for (passes_of rfl) rfl (pi_list (pv 0)) (pg_name (i := 2) scLook.nd rfl (Or.inl rfl))
        (pss_cons (ps_if (pt_cmp (pc_din hu1 (pv 1) (pv 2))) (pss_one (ps_ret (pe_call (E := E0) GA r1 (by rfl) mA kA bA .nil pass0 (pa_cons (pe_dget hu1 (pv 2) (pv 1) (fun _ _ => rfl)) pa_nil)))) pss_nil)
        (pss_one (ps_if (pt_not (pt_val (pe_call (E := E0) GX r8 (by rfl) mX kX bX .nil pass0 (pa_cons (pv 2) (pa_cons (pe_call (E := E0) GL r8 (by rfl) mL kL bL .nil pass0 (pa_cons (pv 2) (pa_cons (pv 1) pa_nil))) pa_nil)))))
          (pss_one (ps_ret pe_non)) pss_nil))))
      (pss_one (ps_ret pe_non)))), ?_⟩
    rcases h with ⟨sq, kb⟩ | ⟨sq, pb, kb⟩
    · exact ⟨_, rfl, v, false, rfl, sq, T, t8, (fun z => nomatch z), fun _ H1 x1 => kb H1 x1⟩
    · refine ⟨_, rfl, v, true, rfl, sq, T, t8, fun _ H1 x1 => ?_, fun z => nomatch z⟩
      exact ⟨_, rfl, u, false, rfl, pb.ex x1, x1.tab _ T.t1, x1.tab _ T.t2, (fun z => nomatch z), fun _ H2 x2 => kb H2 (x1.trans x2)⟩
end
/-! ### laid -/
theorem plainE_keys (es : Ents) : (plainE es).map (·.1) = keysUpE es := by
  unfold plainE
  rw [show renOf (upE es) = (upE es).foldl renStep ([], []) from rfl, renOf_keys]
  unfold upE
  rw [List.map_map]
  show [] ++ (keysUpE es).map _ = _
  rw [List.nil_append]
  exact List.map_id' _
theorem ren_thing {s : List Int} {d : PyData} (h : thingD d) : thingD (renD s d) := by
  rcases h with rfl | ⟨n, z, rfl⟩
  · exact Or.inl (renD_oth (w := "drawer") (ds := []) (by decide +kernel)).1
  · exact Or.inr ⟨_, z, renD_file.1⟩
theorem fold_thing : ∀ (us : Ents) (st : List Int × Ents), (∀ e ∈ us, thingD e.2) → (∀ e ∈ st.2, thingD e.2) → ∀ e ∈ (us.foldl renStep st).2, thingD e.2
  | [], st, _, h => h
  | u :: us, st, hu, h => fold_thing us (renStep st u) (fun e he => hu e (List.mem_cons_of_mem _ he)) fun e he => by
    unfold renStep at he
    rcases List.mem_append.mp he with he | he
    · exact h e he
    · rw [List.mem_singleton.mp he]
      exact ren_thing (hu u (List.mem_cons_self ..))
theorem plainE_thing {es : Ents} (h : ∀ e ∈ es, thingD e.2) : ∀ e ∈ plainE es, thingD e.2 := by
  refine fold_thing (upE es) ([], []) (fun e he => ?_) (fun e he => nomatch he)
  obtain ⟨p, hp, rfl⟩ := List.mem_map.mp he
  have hk : p ∈ es.map (·.1) := (keysUpE_perm es).mem_iff.mp hp
  show thingD ((valE es p).getD .none)
  cases hv : valE es p with
  | none =>
    exfalso
    obtain ⟨x, hx, rfl⟩ := List.mem_map.mp hk
    unfold valE at hv
    rw [Option.map_eq_none_iff] at hv
    exact List.find?_eq_none.mp hv x hx (decide_eq_true rfl)
  | some d =>
    obtain ⟨x, hx, _, rfl⟩ := valE_mem hv
    exact h x hx
theorem plainE_key {es : Ents} {e : List Str × PyData} (h : e ∈ plainE es) : e.1 ∈ es.map (·.1) := by
  have : e.1 ∈ (plainE es).map (·.1) := List.mem_map.mpr ⟨e, h, rfl⟩
  rw [plainE_keys] at this
  exact (keysUpE_perm es).mem_iff.mp this
def laidE : List Ents → Ents
  | [] => [([], drD)]
  | es :: r => plainE (overE es (laidE r))
def sizeS : List Ents → Nat
  | [] => 1
  | es :: r => es.length + sizeS r
theorem overE_thing {es ts : Ents} (eL : ∀ e ∈ es, entryB e.2 = true) (eT : ∀ e ∈ ts, thingD e.2) : ∀ e ∈ overE es ts, thingD e.2 := by
  intro e he
  unfold overE at he
  rcases List.mem_append.mp he with he | he
  · obtain ⟨x, hx, rfl⟩ := List.mem_map.mp he
    obtain ⟨hx1, hx2⟩ := List.mem_filter.mp hx
    show thingD (asSeenD x.2)
    rcases entry_form (eL x hx1) with ⟨b, hd⟩ | hd | ⟨n, z, hd, _, _⟩
    · rw [hd]
      exact Or.inl rfl
    · rw [hd] at hx2
      exact absurd hx2 (by decide +kernel)
    · rw [hd]
      exact Or.inr ⟨n, z, rfl⟩
  · obtain ⟨x, hx, rfl⟩ := List.mem_map.mp he
    show thingD (apartD x.2)
    rcases eT x (List.mem_filter.mp hx).1 with hd | ⟨n, z, hd⟩
    · rw [hd]
      exact Or.inl rfl
    · rw [hd]
      exact Or.inr ⟨-1 - n, z, rfl⟩
theorem overE_key {es ts : Ents} {e : List Str × PyData} (h : e ∈ overE es ts) : e.1 ∈ es.map (·.1) ∨ e.1 ∈ ts.map (·.1) := by
  unfold overE at h
  rcases List.mem_append.mp h with h | h
  · obtain ⟨x, hx, rfl⟩ := List.mem_map.mp h
    exact Or.inl (List.mem_map.mpr ⟨x, (List.mem_filter.mp hx).1, rfl⟩)
  · obtain ⟨x, hx, rfl⟩ := List.mem_map.mp h
    exact Or.inr (List.mem_map.mpr ⟨x, (List.mem_filter.mp hx).1, rfl⟩)
theorem overE_len (es ts : Ents) : (overE es ts).length ≤ es.length + ts.length := by
  have e3 : (overA es).length ≤ es.length := by
    unfold overA
    rw [List.length_map]
    exact List.length_filter_le _ _
  have e4 : (overB es ts).length ≤ ts.length := by
    unfold overB
    rw [List.length_map]
    exact List.length_filter_le _ _
  unfold overE
  rw [List.length_append]
  omega
structure OkE (ts : Ents) : Prop where
  nd : (ts.map (·.1)).Nodup
  path : ∀ e ∈ ts, goodPath e.1 = true
  thing : ∀ e ∈ ts, thingD e.2
theorem laidE_ok : ∀ {lss : List Ents}, (∀ es ∈ lss, layerB es = true ∧ (es.map (·.1)).Nodup) → OkE (laidE lss) ∧ (laidE lss).length ≤ sizeS lss
  | [], _ => by
    refine ⟨⟨by decide +kernel, fun e he => ?_, fun e he => ?_⟩, Nat.le_refl _⟩
    · rw [List.mem_singleton.mp he]
      decide +kernel
    · rw [List.mem_singleton.mp he]
      exact Or.inl rfl
  | es :: r, h => by
    obtain ⟨ok, len⟩ := laidE_ok fun x hx => h x (List.mem_cons_of_mem _ hx)
    obtain ⟨lay, nd⟩ := h es (List.mem_cons_self ..)
    obtain ⟨_, gL, eL, _, _⟩ := layerB_parts lay
    refine ⟨⟨?_, fun e he => ?_, fun e he => plainE_thing (overE_thing eL ok.thing) e he⟩, ?_⟩
    · show ((plainE _).map (·.1)).Nodup
      rw [plainE_keys]
      exact (keysUpE_perm _).nodup_iff.mpr (overE_nd nd ok.nd)
    · obtain ⟨x, hx, ex⟩ := List.mem_map.mp (plainE_key (show e ∈ plainE _ from he))
      rw [← ex]
      rcases overE_key hx with h1 | h1
      · obtain ⟨y, hy, ey⟩ := List.mem_map.mp h1
        rw [← ey]
        exact gL y hy
      · obtain ⟨y, hy, ey⟩ := List.mem_map.mp h1
        rw [← ey]
        exact ok.path y hy
    · show (plainE _).length ≤ es.length + sizeS r
      rw [plainE_len]
      have := overE_len es (laidE r)
      omega
/-! ### laid, refused -/
def spLaidBad (K : PySem.W.Frag) (P1 P2 P3 P4 P6 P7 P8 CS CF : Addr) : Sp := fun vs H Q E => ∃ v, vs = [v] ∧ Tabs8 H P1 P2 P3 P4 P6 P7 P8 ∧
  ((StackQ K H v false ∧ ∀ H', Ex H H' → E (.ref CS) none H') ∨
   ∃ l lss, v = .ref l ∧ StackQ K H v true ∧ StackAt K H l lss ∧ (∀ es ∈ lss, layerB es = true ∧ (es.map (·.1)).Nodup) ∧ 80 < (laidE lss).length ∧ ∀ H', Ex H H' → E (.ref CF) none H')
section
variable {P : Program} {w : World} {K : PySem.W.Frag} {mg : Str → Option Value} {base : Heap}
abbrev lpdN : List Str := ["stack", "tree", "layer"]
theorem scLaidP : FnScope lpdN ["stack"] (defScope sLaidP) := ⟨rfl, rfl, rfl, by decide +kernel, rfl, by decide +kernel, by decide +kernel⟩
theorem ok_laidBad {f fS fO fW P1 P2 P3 P4 P6 P7 P8 aD CS CF : Addr} {fd fdS fdO fdW : FuncData} (F : Fun K "laid" "laid" sLaidP f fd) (SD : Cst K mg "DRAWER" [.str "drawer"] aD) (mRev : mg "reversed" = none)
    (GS : FnOk P w K mg base (L2.CX P w) 12 fS fdS ["thing"] (spCheckStackG K P1 P2 P3 P4 P6 P8 CS)) (mS : mg "check_stack" = some (.ref fS)) (kS : PySem.W.keepIn K (.ref fS) = true) (bS : Binds K fdS ["thing"] [])
    (GO : FnOk P w K mg base CX0 9 fO fdO ["layer", "tree"] (spLaidOver K P1 P2 P7)) (mO : mg "laid_over" = some (.ref fO)) (kO : PySem.W.keepIn K (.ref fO) = true) (bO : Binds K fdO ["layer", "tree"] [])
    (GW : FnOk P w K mg base (L2.CX P w) 1 fW fdW ["tree"] (spWithRoomG K CF)) (mW : mg "_with_room" = some (.ref fW)) (kW : PySem.W.keepIn K (.ref fW) = true) (bW : Binds K fdW ["tree"] []) :
    FnOk P w K mg base (L2.CX P w) 13 f fd ["stack"] (spLaidBad K P1 P2 P3 P4 P6 P7 P8 CS CF) := by
  refine F.okX scLaidP (fun vs H Q E h => ?_) (fun cdv A outer s H vs Q E hr h => ?_)
  · obtain ⟨v, rfl, _⟩ := h
    rfl
  · obtain ⟨v, rfl, T, h⟩ := h
    have r9 := hr.mono (show 9 ≤ 12 by decide)
    have r1 := hr.mono (show 1 ≤ 12 by decide)
    have hu1 : (A.deeper (envOfC "laid" (defScope sLaidP) s.heap.objs.size f cdv)).units + 1 < cLine := by have := hr.units; omega
    refine ⟨_, pss_cons (ps_expr (pe_call (E := E) GS hr (by rfl) mS kS bS .nil (passes_call (takes_of rfl rfl rfl rfl) (fun _ _ _ _ h => h)) (pa_cons (pv 0) pa_nil)))
      (pss_cons (ps_set (i := 1) scLaidP.nd rfl (Or.inl rfl) (pe_dispT hu1 (pps_cons (pe_tup pa_nil) (pe_glob (v := .ref aD) (by rfl) SD.g rfl) pps_nil) rfl rfl (by simp) (by decide)))
      (pss_cons (ps_for (passes_of rfl) rfl (pi_reversed (by rfl) mRev (pa_cons (pv 0) pa_nil)) (pg_name (i := 2) scLaidP.nd rfl (Or.inl rfl))
        (pss_one (ps_set (i := 1) scLaidP.nd rfl (Or.inl rfl) (pe_call (E := E) GW r1 (by rfl) mW kW bW .nil (passes_call (takes_of rfl rfl rfl rfl) (fun _ _ _ _ h => h)) (pa_cons (pe_call (E := E0) GO r9 (by rfl) mO kO bO .nil pass0 (pa_cons (pv 2) (pa_cons (pv 1) pa_nil))) pa_nil)))))
      (pss_one (ps_ret (pv 1))))), ?_⟩
    rcases h with ⟨sq, kb⟩ | ⟨l, lss, rfl, sq, hst, goods, hbig, kf⟩
    · exact ⟨_, rfl, v, false, rfl, sq, T.t, T.t8, (fun z => nomatch z), fun _ H1 x1 => kb H1 x1⟩
    obtain ⟨ds, h1, h2, h3⟩ := hst
    refine ⟨_, rfl, .ref l, true, rfl, sq, T.t, T.t8, fun _ H1 x1 => ?_, fun z => nomatch z⟩
    intro a0 ha0
    refine ⟨Nat.zero_le _, fun p0 hp0 => ?_⟩
    have d0 : (upd H1 a0 (.dT [])) a0 = some (.dT []) := upd_same
    have xe := Ex.new (o := .tup []) hp0
    have xa := (Ex.new (o := .dT []) ha0).trans xe
    have t1 : PathX (upd (upd H1 a0 (.dT [])) p0 (.tup [])) p0 [] := upd_same
    have d1 := xe.keep _ _ d0 (fun ps z => by cases z)
    generalize upd (upd H1 a0 (.dT [])) p0 (.tup []) = Hm at xa t1 d1 ⊢
    clear d0 xe hp0
    refine ⟨d1, [([], .ref aD)], .cons ⟨⟨p0, rfl, t1⟩, rfl⟩ .nil, (by show 1 ≤ 15; decide), ?_⟩
    have emt : mergeT [] [(([] : List L2.Key), V.ref aD)] = [([], .ref aD)] := rfl
    rw [emt]
    have xb : Ex H1 (upd Hm a0 (.dT [([], .ref aD)])) := Eb.ex xa ha0 (Eb.set d1 (fun ps z => by cases z))
    have e0 : (upd Hm a0 (.dT [([], .ref aD)])) a0 = some (.dT [([], .ref aD)]) := upd_same
    generalize upd Hm a0 (.dT [([], .ref aD)]) = G0 at xb e0 ⊢
    clear t1 d1 xa emt
    have x0 := x1.trans xb
    have r0 : RowE K G0 [([], .ref aD)] (laidE []) := .cons ⟨rfl, .tup (SD.t G0) (.cons (.str _) .nil)⟩ .nil
    have hlen : ds.length = lss.length := Paired.length h3
    have hds : ∀ {d es}, TrAt K H d es → H d ≠ none := by
      rintro d es ⟨kv, h | ⟨o, h⟩, _⟩ z
      · rw [z] at h; cases h
      · rw [z] at h; cases h
    have T0 := T.ex x0
    refine ⟨_, rfl, l, ds.map V.ref, rfl, h2 _ x0, for_it (walk_rev (K := K) (a := l) (xs := ds.map V.ref)) (fun i σ G => ∃ t v kvs, σ = [some (.ref l), some (.ref t), v] ∧ Ex G0 G ∧ H t = none ∧ G t = some (.dT kvs) ∧ RowE K G kvs (laidE (lss.drop (lss.length - i))) ∧ (laidE (lss.drop (lss.length - i))).length ≤ 80)
      ⟨a0, none, _, rfl, Ex.refl _, x1.free _ ha0, e0, ?_, ?_⟩ (fun i σ G _ h => ?_) ?_ ?_⟩
    · rw [Nat.sub_zero, List.drop_length]
      exact r0
    · rw [Nat.sub_zero, List.drop_length]
      exact (by decide : (1 : Nat) ≤ 80)
    · obtain ⟨t, v, kvs, _, x, _⟩ := h
      exact h2 _ (x0.trans x)
    · rintro i x σ G G' hi ⟨t, v, kvs, rfl, xg, hT, eT, rT, hsz⟩ ⟨rfl, hx⟩
      rw [List.length_map] at hi hx
      rw [List.getElem?_map] at hx
      obtain ⟨d, hd, rfl⟩ := Option.map_eq_some_iff.mp hx
      obtain ⟨es, hes, ht⟩ := paired_get h3 hd
      have hmem := List.mem_of_getElem? hes
      obtain ⟨lay, nd⟩ := goods es hmem
      obtain ⟨ok, len⟩ := laidE_ok (lss := lss.drop (lss.length - i)) fun x hx => goods x (List.mem_of_mem_drop hx)
      have ecut : lss.drop (lss.length - (i + 1)) = es :: lss.drop (lss.length - i) := by
        have hj : lss.length - (i + 1) = ds.length - 1 - i := by omega
        obtain ⟨hjl, hje⟩ := List.getElem?_eq_some_iff.mp hes
        rw [hj, List.drop_eq_getElem_cons hjl, hje]
        congr 2
        omega
      have xG := x0.trans xg
      have TG := T.ex xG
      refine ⟨_, rfl, _, rfl, d, t, es, _, rfl, (fun z => hds ht (by rw [z]; exact hT)), ht.ex xG, lay, nd, ⟨kvs, Or.inl eT, rT⟩, ok.nd, fun e he => ⟨ok.path e he, ok.thing e he⟩, by omega, TG.t.t1, TG.t.t2, TG.t7, fun G2 u ku x2 eu hu ru => ?_⟩
      have hov := overE_len es (laidE (lss.drop (lss.length - i)))
      have h41 := (layerB_parts lay).1
      have elaid : plainE (overE es (laidE (lss.drop (lss.length - i)))) = laidE (lss.drop (lss.length - (i + 1))) := by rw [ecut]; rfl
      have elen : (laidE (lss.drop (lss.length - (i + 1)))).length = (overE es (laidE (lss.drop (lss.length - i)))).length := by rw [← elaid, plainE_len]
      refine ⟨u, _, rfl, ⟨ku, Or.inl eu, ru⟩, by rw [plainE_len]; omega, fun hle => ⟨u, _, ku, rfl, xg.trans x2, xG.free _ hu, eu, ?_, ?_⟩, fun hgt => kf _ ((x0.trans xg).trans x2)⟩
      · rw [ecut]
        exact ru
      · rw [← elaid]
        exact hle
    · rintro σ G ⟨t, v, kvs, rfl, xg, hT, eT, rT, hsz⟩
      exfalso
      rw [List.length_map, hlen, Nat.sub_self, List.drop_zero] at hsz
      omega
end
end LK

namespace LK
open PySem PySem.Spec PyProof.Rows L2 GA LT LE L2H LD
/-! ### wide ones -/
def rowL (z : Str) (b : Nat) : List (List Str) := z.cps.toList.map fun a => [(⟨#[a]⟩ : Str) ++ (⟨#[b]⟩ : Str)]
def keysW (z : Str) : List (List Str) := lettersS.cps.toList.flatMap (rowL z)
def keysTo (z : Str) (i : Nat) : List (List Str) := (lettersS.cps.toList.take i).flatMap (rowL z)
def rowsOf (e : Addr) (ks : List (List Str)) : List (List L2.Key × V) := ks.map fun k => (k.map Sum.inr, .ref e)
theorem keys_step {z : Str} {i b : Nat} (h : lettersS.cps.toList[i]? = some b) : keysTo z (i + 1) = keysTo z i ++ rowL z b := by
  unfold keysTo
  rw [List.take_add_one, h, List.flatMap_append]
  show _ ++ (rowL z b ++ []) = _
  rw [List.append_nil]
theorem keys_pre {z : Str} {i b j : Nat} {k : List Str} (h : lettersS.cps.toList[i]? = some b) (hk : (rowL z b)[j]? = some k) (nd : (keysW z).Nodup) : k ∉ keysTo z i ++ (rowL z b).take j := by
  obtain ⟨hl, e⟩ := List.getElem?_eq_some_iff.mp h
  have e1 : keysW z = keysTo z i ++ (rowL z b ++ (lettersS.cps.toList.drop (i + 1)).flatMap (rowL z)) := by
    unfold keysW keysTo
    conv => lhs; rw [← List.take_append_drop i lettersS.cps.toList, List.flatMap_append, List.drop_eq_getElem_cons hl, e]
    rfl
  obtain ⟨hl2, e2⟩ := List.getElem?_eq_some_iff.mp hk
  have e3 : rowL z b = (rowL z b).take j ++ k :: (rowL z b).drop (j + 1) := by
    conv => lhs; rw [← List.take_append_drop j (rowL z b), List.drop_eq_getElem_cons hl2, e2]
  rw [e1, e3] at nd
  have nd : ((keysTo z i ++ (rowL z b).take j) ++ (k :: ((rowL z b).drop (j + 1) ++ (lettersS.cps.toList.drop (i + 1)).flatMap (rowL z)))).Nodup := by
    simpa [List.append_assoc] using nd
  intro hm
  exact (List.nodup_append.mp nd).2.2 k hm k (List.mem_cons_self ..) rfl
theorem rows_new {e : Addr} {ks : List (List Str)} {k : List Str} (h : k ∉ ks) : valV (rowsOf e ks) (k.map Sum.inr) = none := by
  cases hv : valV (rowsOf e ks) (k.map Sum.inr) with
  | none => rfl
  | some v =>
    unfold valV at hv
    obtain ⟨x, hx, _⟩ := Option.map_eq_some_iff.mp hv
    have hm := List.mem_of_find?_eq_some hx
    have hp := of_decide_eq_true (List.find?_some (p := fun x : List L2.Key × V => decide (x.1 = k.map Sum.inr)) hx)
    obtain ⟨q, hq, rfl⟩ := List.mem_map.mp hm
    have : q = k := List.map_inj_right (fun _ _ e => Sum.inr.inj e) |>.mp hp
    exact absurd (this ▸ hq) h
theorem rows_snoc (e : Addr) (ks : List (List Str)) (k : List Str) : rowsOf e (ks ++ [k]) = rowsOf e ks ++ [(k.map Sum.inr, V.ref e)] := by
  unfold rowsOf
  rw [List.map_append]
  rfl
theorem take_snoc {ks : List (List Str)} {k : List Str} (m : Nat) : (ks ++ [k]).take m = if ks.length < m then ks ++ [k] else ks.take m := by
  split
  · exact List.take_of_length_le (by rw [List.length_append, List.length_singleton]; omega)
  · rw [List.take_append_of_le_length (by omega)]
theorem keys_len {z : Str} (i : Nat) (hz : z.length ≤ 4) : (keysTo z i).length ≤ 4 * i := by
  induction i with
  | zero => exact Nat.le_refl _
  | succ i ih =>
    cases h : lettersS.cps.toList[i]? with
    | none =>
      have : keysTo z (i + 1) = keysTo z i := by unfold keysTo; rw [List.take_add_one, h]; simp
      rw [this]; omega
    | some b =>
      rw [keys_step h, List.length_append]
      have : (rowL z b).length = z.length := by unfold rowL; rw [List.length_map, Array.length_toList]; rfl
      omega
def wideE (z : Str) (m : Nat) (D : PyData) : Ents := ((keysW z).take m).map fun k => (k, D)
def wideK (z : Str) (m : Nat) (e : Addr) : List (List L2.Key × V) := rowsOf e ((keysW z).take m)
def spWide (K : PySem.W.Frag) : Sp := fun vs H Q _ => ∃ (z : Str) (m : Nat) (e : Addr), vs = [.str z, .int (m : Nat), .ref e] ∧ (keysW z).Nodup ∧ z.length ≤ 4 ∧ m ≤ 100 ∧
  ∀ H' d, Ex H H' → H d = none → H' d = some (.dT (wideK z m e)) → Q (.ref d) H'
section
variable {P : Program} {w : World} {K : PySem.W.Frag} {mg : Str → Option Value} {base : Heap}
abbrev wdN : List Str := ["_law_first", "_law_many", "_law_entry", "_law_made", "_law_last", "_law_sign"]
theorem scWide : FnScope wdN ["_law_first", "_law_many", "_law_entry"] (defScope sWide) := ⟨rfl, rfl, rfl, by decide +kernel, rfl, by decide +kernel, by decide +kernel⟩
theorem ok_wide {f : Addr} {fd : FuncData} (F : Fun K "_law_wide" "_law_wide" sWide f fd) (M : Mg mg) : FnOk P w K mg base CX0 1 f fd ["_law_first", "_law_many", "_law_entry"] (spWide K) := by
  refine F.ok scWide (fun vs H Q E h => ?_) (fun cdv A outer s H vs Q E hr h => ?_)
  · obtain ⟨z, m, e, rfl, _⟩ := h
    rfl
  · obtain ⟨z, m, e, rfl, nd, hz, hm, k⟩ := h
    have hu1 : (A.deeper (envOfC "_law_wide" (defScope sWide) s.heap.objs.size f cdv)).units + 1 < cLine := by have := hr.units; omega
    refine ⟨_, pss_cons (ps_set (i := 3) scWide.nd rfl (Or.inl rfl) pe_dnewT)
      (pss_cons (ps_for PassesOwn.never rfl (pi_str pe_str) (pg_name (i := 4) scWide.nd rfl (Or.inl rfl))
        (pss_one (ps_for PassesOwn.never rfl (pi_str (pv 0)) (pg_name (i := 5) scWide.nd rfl (Or.inl rfl))
          (pss_one (ps_if (pt_cmpR op_lt (pe_callB call_lenR (by rfl) M.len PySem.boot_len (pa_cons (pv 3) pa_nil)) (pv 1) (nomark _))
            (pss_one (ps_dput hu1 (pv 3) (pe_tup (pa_cons (pe_op op_add_str (pv 5) (pv 4)) pa_nil)) (pv 2) rfl)) pss_nil)))))
      (pss_one (ps_ret (pv 3)))), ?_⟩
    refine fun D hD => ?_
    have x0 := Ex.new (o := .dT []) hD
    have e0 : (upd H D (.dT [])) D = some (.dT (rowsOf e ((keysTo z 0).take m))) := by
      rw [upd_same]
      show some (HO.dT []) = some (HO.dT (rowsOf e (List.take m [])))
      rw [List.take_nil]
      rfl
    refine ⟨lettersS, rfl, for_it (walk_str (z := lettersS)) (fun i σ G => ∃ v4 v5, σ = [some (.str z), some (.int (m : Nat)), some (.ref e), some (.ref D), v4, v5] ∧ Ex H G ∧ G D = some (.dT (rowsOf e ((keysTo z i).take m))))
      ⟨none, none, rfl, x0, e0⟩ (fun _ _ _ _ _ => trivial) ?_ ?_⟩
    · rintro i x σ G G' hi ⟨v4, v5, rfl, xg, eg⟩ ⟨rfl, b, hb, rfl⟩
      have hb2 : lettersS.cps.toList[i]? = some b := by rw [Array.getElem?_toList]; exact hb
      refine ⟨_, rfl, z, rfl, for_it (walk_str (z := z)) (fun j σ G => ∃ v5, σ = [some (.str z), some (.int (m : Nat)), some (.ref e), some (.ref D), some (.str ⟨#[b]⟩), v5] ∧ Ex H G ∧ G D = some (.dT (rowsOf e ((keysTo z i ++ (rowL z b).take j).take m))))
        ⟨v5, rfl, xg, by rw [List.take_zero, List.append_nil]; exact eg⟩ (fun _ _ _ _ _ => trivial) ?_ ?_⟩
      · rintro j x σ G G' hj ⟨v5, rfl, xg, eg⟩ ⟨rfl, a, ha, rfl⟩
        have hk : (rowL z b)[j]? = some [(⟨#[a]⟩ : Str) ++ (⟨#[b]⟩ : Str)] := by
          unfold rowL
          rw [List.getElem?_map, Array.getElem?_toList, ha]
          rfl
        have hnew := keys_pre hb2 hk nd
        have etake : (rowL z b).take (j + 1) = (rowL z b).take j ++ [[(⟨#[a]⟩ : Str) ++ (⟨#[b]⟩ : Str)]] := by rw [List.take_add_one, hk]; rfl
        refine ⟨_, rfl, D, _, rfl, Or.inl eg, _, rfl, _, _, rfl, rfl, _, rfl, ?_⟩
        have el : (rowsOf e ((keysTo z i ++ (rowL z b).take j).take m)).length = min m (keysTo z i ++ (rowL z b).take j).length := by unfold rowsOf; rw [List.length_map, List.length_take]
        rw [el]
        by_cases hlt : (keysTo z i ++ (rowL z b).take j).length < m
        · rw [decide_eq_true (by omega)]
          have efull : (keysTo z i ++ (rowL z b).take j).take m = keysTo z i ++ (rowL z b).take j := List.take_of_length_le (by omega)
          rw [efull] at eg el
          refine iteT ⟨_, rfl, _, rfl, _, rfl, _, rfl, _, _, rfl, rfl, (by show 1 + 1 ≤ sizeLine; decide), (by show 1 ≤ sizeLine; decide), fun kq hkq => ?_⟩
          have x2 := Ex.new (o := .tup [V.str ((⟨#[a]⟩ : Str) ++ (⟨#[b]⟩ : Str))]) hkq
          have ek : PathX (upd G' kq (.tup [V.str ((⟨#[a]⟩ : Str) ++ (⟨#[b]⟩ : Str))])) kq [(⟨#[a]⟩ : Str) ++ (⟨#[b]⟩ : Str)] := upd_same
          have eg2 := x2.keep _ _ eg (fun ps z => by cases z)
          have hkl : (rowsOf e (keysTo z i ++ (rowL z b).take j)).length < sizeLine := by
            have h1 : (rowsOf e (keysTo z i ++ (rowL z b).take j)).length = (keysTo z i ++ (rowL z b).take j).length := by unfold rowsOf; rw [List.length_map]
            rw [sizeLine_eq]
            omega
          refine ⟨D, _, rfl, DPut.t (k := ([(⟨#[a]⟩ : Str) ++ (⟨#[b]⟩ : Str)]).map Sum.inr) (v := .ref e) eg2 ek.key hkl, _, rfl, (xg.trans x2).put hD, ?_⟩
          rw [upd_same, putK_new _ (rows_new hnew), etake, ← List.append_assoc, take_snoc, if_pos hlt, rows_snoc]
        · rw [decide_eq_false (by omega)]
          refine iteF ⟨_, rfl, xg, ?_⟩
          rw [etake, ← List.append_assoc, take_snoc, if_neg hlt]
          exact eg
      · rintro σ G ⟨v5, rfl, xg, eg⟩
        refine ⟨_, _, rfl, xg, ?_⟩
        rw [keys_step hb2]
        have : (rowL z b).take z.cps.size = rowL z b := List.take_of_length_le (by unfold rowL; rw [List.length_map, Array.length_toList]; exact Nat.le_refl _)
        rw [this] at eg
        exact eg
    · rintro σ G ⟨v4, v5, rfl, xg, eg⟩
      have : keysTo z lettersS.cps.size = keysW z := by
        unfold keysTo keysW
        rw [List.take_of_length_le (by rw [Array.length_toList]; exact Nat.le_refl _)]
      rw [this] at eg
      exact ⟨_, rfl, k G D xg hD eg⟩
end
/-! ### what the law asks -/
structure TabsA (H : Hp) (P1 P2 P3 P4 P5 P6 P7 P8 : Addr) : Prop where
  t : Tabs5 H P1 P2 P3 P4 P5
  t6 : TabG H P6
  t7 : TabG H P7
  t8 : TabG H P8
theorem TabsA.ex {H H' : Hp} {P1 P2 P3 P4 P5 P6 P7 P8 : Addr} (x : Ex H H') (T : TabsA H P1 P2 P3 P4 P5 P6 P7 P8) : TabsA H' P1 P2 P3 P4 P5 P6 P7 P8 := ⟨T.t.ex x, x.tab _ T.t6, x.tab _ T.t7, x.tab _ T.t8⟩
theorem TabsA.ev {tw : Addr} {H H' : Hp} {P1 P2 P3 P4 P5 P6 P7 P8 : Addr} (x : Ev tw H H') (T : TabsA H P1 P2 P3 P4 P5 P6 P7 P8) : TabsA H' P1 P2 P3 P4 P5 P6 P7 P8 := ⟨⟨x.tab _ T.t.t1, x.tab _ T.t.t2, x.tab _ T.t.t3, x.tab _ T.t.t4, x.tab _ T.t.t5⟩, x.tab _ T.t6, x.tab _ T.t7, x.tab _ T.t8⟩
/-- what is asked, and what is told -/
inductive AskQ (K : PySem.W.Frag) (H : Hp) (Q : VK) : Int → V → V → Prop
  | lay0 {v u : V} (n : Int) (hn : n = 0 ∨ n = 1) (l : LayerQ K H v false) (t : ToldI K H Q 3) : AskQ K H Q n v u
  | tree0 {dL : Addr} {u : V} {es : Ents} (hL : TrAt K H dL es) (s : smallE es) (b : layerB es = true) (nd : (es.map (·.1)).Nodup) (tq : TreeQ K H u false) (t : ToldI K H Q 2) : AskQ K H Q 0 (.ref dL) u
  | show0 {dL dT : Addr} {es ts : Ents} (hL : TrAt K H dL es) (s : smallE es) (b : layerB es = true) (nd : (es.map (·.1)).Nodup) (hne : dL ≠ dT) (hT : TrAt K H dT ts) (sT : smallE ts) (bT : treeB ts = true) (ndT : (ts.map (·.1)).Nodup)
      (tF : 80 < (overE es ts).length → ToldI K H Q 15) (k : (overE es ts).length ≤ 80 → ∀ H' l kvs, Ex H H' → H' l = some (.dT kvs) → RowE K H' kvs (plainE (overE es ts)) → Q (.ref l) H') : AskQ K H Q 0 (.ref dL) (.ref dT)
  | tree1 {v u : V} (l : LayerQ K H v true) (tq : TreeQ K H u false) (t : ToldI K H Q 2) : AskQ K H Q 1 v u
  | stack {v u : V} (n : Int) (hn : n = 2 ∨ n = 3) (s : StackQ K H v false) (t : ToldI K H Q 4) : AskQ K H Q n v u
  | full {l : Addr} {u : V} {lss : List Ents} (s : StackQ K H (.ref l) true) (st : StackAt K H l lss) (g : ∀ es ∈ lss, layerB es = true ∧ (es.map (·.1)).Nodup) (h : 80 < (laidE lss).length) (t : ToldI K H Q 15) : AskQ K H Q 2 (.ref l) u
  | path {v u : V} (s : StackQ K H v true) (p : PathB K H u false) (t : ToldI K H Q 0) : AskQ K H Q 3 v u
def spAsk (K : PySem.W.Frag) (P1 P2 P3 P4 P5 P6 P7 P8 : Addr) : Sp := fun vs H Q _ => ∃ n v u, vs = [.int n, v, u] ∧ TabsA H P1 P2 P3 P4 P5 P6 P7 P8 ∧ AskQ K H Q n v u
section
variable {P : Program} {w : World} {K : PySem.W.Frag} {mg : Str → Option Value} {base : Heap}
theorem scAsk : FnScope ["_law_what", "_law_one", "_law_other", "_law_e"] ["_law_what", "_law_one", "_law_other"] (defScope sAsk) := ⟨rfl, rfl, rfl, by decide +kernel, rfl, by decide +kernel, by decide +kernel⟩
theorem ok_ask {f fS fO fA fK fW P1 P2 P3 P4 P5 P6 P7 P8 CL CT CS CP CF T : Addr} {fd fdS fdO fdA fdK fdW : FuncData} (F : Fun K "_law_ask" "_law_ask" sAsk f fd) (gT : mg "TreeError" = some (.ref T))
    (e3 : PySem.W.exmOne K (.ref CL) (.ref T) = some true) (e2 : PySem.W.exmOne K (.ref CT) (.ref T) = some true) (e4 : PySem.W.exmOne K (.ref CS) (.ref T) = some true) (e0 : PySem.W.exmOne K (.ref CP) (.ref T) = some true) (e15 : PySem.W.exmOne K (.ref CF) (.ref T) = some true)
    (W3 : Wh K mg CL 3) (W2 : Wh K mg CT 2) (W4 : Wh K mg CS 4) (W0 : Wh K mg CP 0) (W15 : Wh K mg CF 15)
    (GS : FnOk P w K mg base (L2.CX P w) 11 fS fdS ["layer", "tree"] (spShownG K P1 P2 P3 P4 P5 P6 P7 CL CT CF)) (mS : mg "shown" = some (.ref fS)) (kS : PySem.W.keepIn K (.ref fS) = true) (bS : Binds K fdS ["layer", "tree"] [])
    (GO : FnOk P w K mg base (L2.CX P w) 11 fO fdO ["layer", "tree"] (spOpenBad K P1 P2 P3 P4 P5 P6 CL CT)) (mO : mg "open_drawers" = some (.ref fO)) (kO : PySem.W.keepIn K (.ref fO) = true) (bO : Binds K fdO ["layer", "tree"] [])
    (GA : FnOk P w K mg base (L2.CX P w) 13 fA fdA ["stack"] (spLaidBad K P1 P2 P3 P4 P6 P7 P8 CS CF)) (mA : mg "laid" = some (.ref fA)) (kA : PySem.W.keepIn K (.ref fA) = true) (bA : Binds K fdA ["stack"] [])
    (GK : FnOk P w K mg base (L2.CX P w) 13 fK fdK ["stack", "path"] (spLookBad K P1 P2 P3 P4 P6 P8 CS CP)) (mK : mg "look" = some (.ref fK)) (kK : PySem.W.keepIn K (.ref fK) = true) (bK : Binds K fdK ["stack", "path"] [])
    (GW : FnE P w K mg base CX0 1 fW fdW ["_law_e"] (spWhich K mg)) (mW : mg "_law_which" = some (.ref fW)) (kW : PySem.W.keepIn K (.ref fW) = true) (bW : Binds K fdW ["_law_e"] []) :
    FnOk P w K mg base CX0 14 f fd ["_law_what", "_law_one", "_law_other"] (spAsk K P1 P2 P3 P4 P5 P6 P7 P8) := by
  refine F.ok scAsk (fun vs H Q E h => ?_) (fun cdv A outer s H vs Q E hr h => ?_)
  · obtain ⟨n, v, u, rfl, _⟩ := h
    rfl
  · obtain ⟨n, v, u, rfl, TA, h⟩ := h
    have r11 := hr.mono (show 11 ≤ 13 by decide)
    have AA : ∀ (X : Cx), X.prog = P → X.w = w → X.K = K → X.mg = mg → X.base = base → ∀ g sp, ((g = fS ∧ sp = spShownG K P1 P2 P3 P4 P5 P6 P7 CL CT CF) ∨ (g = fO ∧ sp = spOpenBad K P1 P2 P3 P4 P5 P6 CL CT)) → HeldX X (L2.CX P w) 11 g sp := by
      intro X q1 q2 q3 q4 q5 g sp hh
      subst q1 q2 q3 q4 q5
      rcases hh with ⟨rfl, rfl⟩ | ⟨rfl, rfl⟩
      · exact ⟨_, _, GS, kS, bS⟩
      · exact ⟨_, _, GO, kO, bO⟩
    refine ⟨_, pss_one (ps_try_as (i := 3) (ts := fun a cls d => tRet (tCallS (spWhich K mg a cls d) (fun _ _ _ _ => False) (tCons (tVar 3) tNil))) (Wout := fun _ _ _ _ => False) rfl rfl scAsk.nd rfl rfl ⟨rfl, by decide, Or.inl gT⟩ takes0
      (fun W pn xe tk _ => pss_cons (ps_if (pt_cmpR op_lt (pv 0) pe_int (nomark _))
          (pss_one (ps_ret (pe_callC (CX := L2.CX P w) (E := WE W) (AA _ rfl rfl rfl rfl rfl) r11 (pe_ix (r := rIxL K) ix_list (pe_lst (pa_cons (pe_glob (v := .ref fS) (by rfl) mS rfl) (pa_cons (pe_glob (v := .ref fO) (by rfl) mO rfl) pa_nil))) (pv 0) (fun _ _ => rfl))
            (fun σ => passAt tk σ) (pa_cons (pv 1) (pa_cons (pv 2) pa_nil))))) pss_nil)
        (pss_one (ps_ret (pe_ifExp (pt_cmpR op_eq (pv 0) pe_int (nomark _)) (pe_callS (E := WE W) GA hr (by rfl) mA kA bA (fun σ => passAt tk σ) (pa_cons (pv 1) pa_nil))
          (pe_callS (E := WE W) GK hr (by rfl) mK kK bK (fun σ => passAt tk σ) (pa_cons (pv 1) (pa_cons (pv 2) pa_nil)))))))
      (fun a oe cls d pn hz hf => pss_one (ps_ret (pe_callE GW (by have r1 : Room 1 _ := hr.mono (by decide); exact ⟨r1.dp, r1.un⟩) ⟨hz, hf⟩ List.mem_cons_self (by rfl) mW kW bW (fun _ _ _ _ _ _ _ z => z.elim) (pa_cons (pv 3) pa_nil))))), ?_⟩
    have ref : ∀ (C : Addr) (i : Nat), PySem.W.exmOne K (.ref C) (.ref T) = some true → Wh K mg C i → ∀ (H1 : Hp), Ex H H1 → ToldI K H Q i → Refused H1 (WE (wAs K (.ref T) 3 (fun a cls d => tRet (tCallS (spWhich K mg a cls d) (fun _ _ _ _ => False) (tCons (tVar 3) tNil))) (fun _ _ _ _ => False)
        { nx := fun _ G => Q .non G, rt := Q }) [some (.int n), some v, some u, none]) C := fun C i eT Wi H1 x1 b H2 x2 =>
      ⟨true, eT, fun _ a _ => ⟨_, rfl, C, i, rfl, rfl, rfl, Wi, fun H3 r x3 hr => b H3 r ((x1.trans x2).trans x3) hr⟩, fun z => nomatch z⟩
    have s0 := fun (h : n = 0) => h
    have Tl : Tabs5 H P1 P2 P3 P4 P6 := ⟨TA.t.t1, TA.t.t2, TA.t.t3, TA.t.t4, TA.t6⟩
    refine ⟨_, rfl, _, _, rfl, rfl, _, rfl, ?_⟩
    by_cases hn2 : n < 2
    · rw [decide_eq_true hn2]
      refine iteT ⟨(by show 2 ≤ sizeLine; decide), fun p hp => ?_⟩
      have x1 := Ex.new (o := .lst [.ref fS, .ref fO]) hp
      have TA1 := TA.ex x1
      cases h with
      | lay0 n hn l t =>
        rcases hn with rfl | rfl
        · exact ⟨_, rfl, p, [.ref fS, .ref fO], 0, .ref fS, rfl, rfl, SqL.of upd_same, rfl, fS, _, rfl, .inl ⟨rfl, rfl⟩, _, rfl, _, rfl, v, u, rfl, TA1.t, TA1.t6, TA1.t7, .inl ⟨l.ex x1, ref CL 3 e3 W3 _ x1 t⟩⟩
        · exact ⟨_, rfl, p, [.ref fS, .ref fO], 1, .ref fO, rfl, rfl, SqL.of upd_same, rfl, fO, _, rfl, .inr ⟨rfl, rfl⟩, _, rfl, _, rfl, v, u, rfl, TA1.t, TA1.t6, .inl ⟨l.ex x1, ref CL 3 e3 W3 _ x1 t⟩⟩
      | tree0 hL s b nd tq t =>
        exact ⟨_, rfl, p, [.ref fS, .ref fO], 0, .ref fS, rfl, rfl, SqL.of upd_same, rfl, fS, _, rfl, .inl ⟨rfl, rfl⟩, _, rfl, _, rfl, _, u, rfl, TA1.t, TA1.t6, TA1.t7, .inr ⟨_, _, rfl, hL.ex x1, s, b, nd, .inl ⟨tq.ex x1, ref CT 2 e2 W2 _ x1 t⟩⟩⟩
      | show0 hL s b nd hne hT sT bT ndT tF k =>
        exact ⟨_, rfl, p, [.ref fS, .ref fO], 0, .ref fS, rfl, rfl, SqL.of upd_same, rfl, fS, _, rfl, .inl ⟨rfl, rfl⟩, _, rfl, _, rfl, _, _, rfl, TA1.t, TA1.t6, TA1.t7, .inr ⟨_, _, rfl, hL.ex x1, s, b, nd, .inr ⟨_, _, rfl, hne, hT.ex x1, sT, bT, ndT,
          fun h => ref CF 15 e15 W15 _ x1 (tF h), fun h H' l kvs x e _ r => k h H' l kvs (x1.trans x) e r⟩⟩⟩
      | tree1 l tq t =>
        exact ⟨_, rfl, p, [.ref fS, .ref fO], 1, .ref fO, rfl, rfl, SqL.of upd_same, rfl, fO, _, rfl, .inr ⟨rfl, rfl⟩, _, rfl, _, rfl, v, u, rfl, TA1.t, TA1.t6, .inr ⟨l.ex x1, tq.ex x1, ref CT 2 e2 W2 _ x1 t⟩⟩
      | stack n hn s t => omega
      | full s st g h t => omega
      | path s p t => omega
    · rw [decide_eq_false hn2]
      refine iteF ⟨_, rfl, rfl, _, rfl, ?_⟩
      cases h with
      | lay0 n hn l t => omega
      | tree0 hL s b nd tq t => omega
      | show0 hL s b nd hne hT sT bT ndT tF k => omega
      | tree1 l tq t => omega
      | stack n hn s t =>
        rcases hn with rfl | rfl
        · rw [show decide (V.int 2 = V.int 2) = true from decide_eq_true rfl]
          exact iteT ⟨_, rfl, v, rfl, ⟨Tl, TA.t7, TA.t8⟩, .inl ⟨s, ref CS 4 e4 W4 H (Ex.refl H) t⟩⟩
        · rw [show decide (V.int 3 = V.int 2) = false by decide]
          exact iteF ⟨_, rfl, _, rfl, v, u, rfl, Tl, TA.t8, .inl ⟨s, ref CS 4 e4 W4 H (Ex.refl H) t⟩⟩
      | full s st g h t =>
        rw [show decide (V.int 2 = V.int 2) = true from decide_eq_true rfl]
        exact iteT ⟨_, rfl, _, rfl, ⟨Tl, TA.t7, TA.t8⟩, .inr ⟨_, _, rfl, s, st, g, h, ref CF 15 e15 W15 H (Ex.refl H) t⟩⟩
      | path s p t =>
        rw [show decide (V.int 3 = V.int 2) = false by decide]
        exact iteF ⟨_, rfl, _, rfl, v, u, rfl, Tl, TA.t8, .inr ⟨s, p, ref CP 0 e0 W0 H (Ex.refl H) t⟩⟩
end
/-! ### the wide ones, reckoned -/
def bigE (z : Str) (m : Nat) (D : PyData) : Ents := wideE z m D ++ [([], D)]
theorem keys_nd1 : (keysW "pqr").Nodup := by decide +kernel
theorem keys_nd2 : (keysW "stuv").Nodup := by decide +kernel
theorem keys_nd3 : (keysW "stu").Nodup := by decide +kernel
theorem keys_nd4 : (keysW "v").Nodup := by decide +kernel
def layOk (es : Ents) : Bool := layerB es && (smallEB es && decide (es.map (·.1)).Nodup)
theorem tall_ok : ∀ m ∈ [30, 31, 32], layOk (bigE "pqr" m seeD) = true := by decide +kernel
theorem large_ok : (treeB (bigE "stuv" 49 drD) && (smallEB (bigE "stuv" 49 drD) && decide ((bigE "stuv" 49 drD).map (·.1)).Nodup)) = true := by decide +kernel
theorem last_ok : layOk (bigE "stu" 39 seeD) = true := by decide +kernel
theorem first_ok : layOk (bigE "v" 20 seeD) = true := by decide +kernel
theorem over_len : ∀ m ∈ [30, 31, 32], (overE (bigE "pqr" m seeD) (bigE "stuv" 49 drD)).length = 50 + m := by decide +kernel
/-! ### wide ones in the law -/
theorem row_rows {K : PySem.W.Frag} {G : Hp} {e : Addr} {D : PyData} (h : Dp K G (.ref e) D) : ∀ ks : List (List Str), RowE K G (rowsOf e ks) (ks.map fun k => (k, D))
  | [] => .nil
  | k :: ks => .cons ⟨rfl, h⟩ (row_rows h ks)
theorem key_one {z : Str} {k : List Str} (h : k ∈ keysW z) : k ≠ [] := by
  unfold keysW at h
  obtain ⟨b, _, hb⟩ := List.mem_flatMap.mp h
  obtain ⟨a, _, rfl⟩ := List.mem_map.mp hb
  exact fun z => nomatch z
theorem wide_tr {K : PySem.W.Frag} {G : Hp} {z : Str} {m : Nat} {e1 e2 d : Addr} {D : PyData} (h : G d = some (.dT (putK (wideK z m e1) [] (.ref e2)))) (h1 : Dp K G (.ref e1) D) (h2 : Dp K G (.ref e2) D) : TrAt K G d (bigE z m D) := by
  have hn : valV (wideK z m e1) (([] : List Str).map Sum.inr) = none := rows_new fun hm => key_one (List.mem_of_mem_take hm) rfl
  have h : G d = some (.dT (putK (wideK z m e1) (([] : List Str).map Sum.inr) (.ref e2))) := h
  rw [putK_new _ hn] at h
  exact ⟨_, Or.inl h, pairSnoc ⟨rfl, h2⟩ (row_rows h1 _)⟩
theorem wide_read {K : PySem.W.Frag} {z : Str} {m : Nat} {tr : TA} {xs : List V} {i : Nat} {rest : TS} {Dn : Ends} {σ : L2.St} {G : Hp} (ht : ∀ σ H Q, Q xs H → tr σ H Q) (hx : xs.length ≤ sizeLine) (nd : (keysW z).Nodup) (hz : z.length ≤ 4) (hm : m ≤ 100) (hi : i < σ.length)
    (k : ∀ G' d e1 e2, Ex G G' → G d = none → G' d = some (.dT (putK (wideK z m e1) [] (.ref e2))) → G' e1 = some (.tup xs) → G' e2 = some (.tup xs) → rest Dn (σ.set i (some (.ref d))) G') :
    tSeq (tAsg (tCall (spWide K) [] E0 (tCons (tC (.str z)) (tCons (tC (.int (m : Nat))) (tCons (tTup tr) tNil)))) (gName i)) (tSeq (sDPut (tVar i) (tTup tNil) (tTup tr)) rest) Dn σ G := by
  refine ht _ _ _ ⟨hx, fun e1 he1 => ?_⟩
  have x1 := Ex.new (o := .tup xs) he1
  have f1 : (upd G e1 (.tup xs)) e1 = some (.tup xs) := upd_same
  generalize upd G e1 (.tup xs) = G1 at x1 f1 ⊢
  refine ⟨z, m, e1, rfl, nd, hz, hm, fun G2 d x2 hd ed => ?_⟩
  refine ht _ _ _ ⟨hx, fun e2 he2 => ⟨_, by rw [List.getElem?_set_self hi], Nat.zero_le _, fun p hp => ?_⟩⟩
  have x3 := Ex.new (o := .tup xs) he2
  have x4 := Ex.new (o := .tup []) hp
  have f2 := x4.keep _ _ (upd_same : (upd G2 e2 (.tup xs)) e2 = some (.tup xs)) (fun ps z => by cases z)
  have f0 : (upd (upd G2 e2 (.tup xs)) p (.tup [])) p = some (.tup (([] : List L2.Key).map kV)) := upd_same
  have x34 := x3.trans x4
  have ed := x34.keep _ _ ed (fun ps z => by cases z)
  have f1 := x34.keep _ _ (x2.keep _ _ f1 (fun ps z => by cases z)) (fun ps z => by cases z)
  have x24 := x2.trans x34
  generalize upd (upd G2 e2 (.tup xs)) p (.tup []) = G4 at f0 f1 f2 ed x24 ⊢
  refine ⟨d, _, rfl, DPut.t (k := []) (v := .ref e2) ed f0 ?_, ?_⟩
  · unfold wideK rowsOf
    rw [List.length_map, List.length_take, sizeLine_eq]
    omega
  · refine k _ d e1 e2 ((x1.trans x24).put (x1.free _ hd)) (x1.free _ hd) upd_same ?_ ?_
    · rw [upd_ne (ne_of f1 ed (fun z => by cases z))]
      exact f1
    · rw [upd_ne (ne_of f2 ed (fun z => by cases z))]
      exact f2
/-! ### how many there are -/
theorem over_keyL {es ts : Ents} {e : List Str × PyData} (h : e ∈ es) (hg : PyData.eqv e.2 goneD = false) : e.1 ∈ (overE es ts).map (·.1) := by
  refine List.mem_map.mpr ⟨(e.1, asSeenD e.2), List.mem_append_left _ (List.mem_map.mpr ⟨e, List.mem_filter.mpr ⟨h, ?_⟩, rfl⟩), rfl⟩
  show (!PyData.eqv e.2 goneD) = true
  rw [hg]
  rfl
theorem over_keyR {es ts : Ents} {p : List Str} (h : p ∈ ts.map (·.1)) (hp : passE es p = true) : p ∈ (overE es ts).map (·.1) := by
  obtain ⟨e, he, rfl⟩ := List.mem_map.mp h
  exact List.mem_map.mpr ⟨(e.1, apartD e.2), List.mem_append_right _ (List.mem_map.mpr ⟨e, List.mem_filter.mpr ⟨he, hp⟩, rfl⟩), rfl⟩
theorem plain_keyM {es : Ents} {p : List Str} (h : p ∈ es.map (·.1)) : p ∈ (plainE es).map (·.1) := by
  rw [plainE_keys]
  exact (keysUpE_perm es).mem_iff.mpr h
theorem big_gone {z : Str} {m : Nat} {e : List Str × PyData} (h : e ∈ bigE z m seeD) : PyData.eqv e.2 goneD = false := by
  have : e.2 = seeD := by
    unfold bigE wideE at h
    rcases List.mem_append.mp h with h | h
    · obtain ⟨k, _, rfl⟩ := List.mem_map.mp h
      rfl
    · rw [List.mem_singleton.mp h]
  rw [this]
  decide +kernel
theorem big_laid {z : Str} {m : Nat} {r : List Ents} {p : List Str} (h : p ∈ (bigE z m seeD).map (·.1)) : p ∈ (laidE (bigE z m seeD :: r)).map (·.1) := by
  obtain ⟨e, he, rfl⟩ := List.mem_map.mp h
  exact plain_keyM (over_keyL he (big_gone he))
theorem big_pass {z : Str} {m : Nat} {r : List Ents} {p : List Str} (h : p ∈ (laidE r).map (·.1)) (hp : passE (bigE z m seeD) p = true) : p ∈ (laidE (bigE z m seeD :: r)).map (·.1) := plain_keyM (over_keyR h hp)
def allW (m : Nat) : List (List Str) := (keysW "v").take 20 ++ ((keysW "pqr").take m ++ (keysW "stu").take 39)
theorem allW_nd : ∀ m ∈ [31, 32], (allW m).Nodup := by decide +kernel
theorem allW_len : ∀ m ∈ [31, 32], 80 < (allW m).length := by decide +kernel
theorem passW1 : ∀ m ∈ [31, 32], ∀ p ∈ (keysW "stu").take 39, passE (bigE "pqr" m seeD) p = true := by decide +kernel
theorem passW2 : ∀ m ∈ [31, 32], ∀ p ∈ (keysW "pqr").take m ++ (keysW "stu").take 39, passE (bigE "v" 20 seeD) p = true := by decide +kernel
theorem big_key {z : Str} {m : Nat} {p : List Str} (h : p ∈ (keysW z).take m) : p ∈ (bigE z m seeD).map (·.1) := by
  unfold bigE wideE
  rw [List.map_append, List.map_map]
  exact List.mem_append_left _ (List.mem_map.mpr ⟨p, h, rfl⟩)
theorem wide_full {m : Nat} (hm : m ∈ [31, 32]) : 80 < (laidE [bigE "v" 20 seeD, bigE "pqr" m seeD, bigE "stu" 39 seeD]).length := by
  have h := List.Nodup.length_le_of_subset (allW_nd m hm) (l₂ := (laidE [bigE "v" 20 seeD, bigE "pqr" m seeD, bigE "stu" 39 seeD]).map (·.1)) fun p hp => by
    unfold allW at hp
    rcases List.mem_append.mp hp with hp | hp
    · exact big_laid (big_key hp)
    · refine big_pass ?_ (passW2 m hm p hp)
      rcases List.mem_append.mp hp with hp | hp
      · exact big_laid (big_key hp)
      · exact big_pass (big_laid (big_key hp)) (passW1 m hm p hp)
  rw [List.length_map] at h
  exact Nat.lt_of_lt_of_le (allW_len m hm) h
end LK

namespace LK
open PySem PySem.Spec PyProof.Rows L2 GA LT LE L2H LD
/-! ### k22 -/
def spLaw (K : PySem.W.Frag) (P1 P2 P3 P4 P5 P6 P7 P8 : Addr) : Sp := fun vs H Q _ => ∃ (a : Addr) (ns : List Int), vs = [.ref a] ∧ SqL K H a (ns.map V.int) ∧ ns.length ≤ 63 ∧ TabG H P1 ∧ TabG H P2 ∧ TabG H P3 ∧ TabG H P4 ∧ TabG H P5 ∧ TabG H P6 ∧ TabG H P7 ∧ TabG H P8 ∧ ∀ H', Q (.bl true) H'
/-- a list of refusals against the row that is asked -/
theorem refs_ne {K : PySem.W.Frag} {G : Hp} {D q1 q2 q3 : Addr} {rs : List Addr} {i : Int} {Q : V → Hp → Prop} (hD : G D = some (.lst (rs.map V.ref))) (hn : rs.length = 2) (hp : ∀ r ∈ rs, RefAt K G r i)
    (h1 : G q1 = none) (h2 : (upd G q1 (.tup [.str "refused", .int i])) q2 = none) (h3 : (upd (upd G q1 (.tup [.str "refused", .int i])) q2 (.lst [.ref q1])) q3 = none) (k : ∀ G3, Ex G G3 → Q (.bl false) G3) :
    rNeD K (.ref D) (.ref q3) (upd (upd (upd G q1 (.tup [.str "refused", .int i])) q2 (.lst [.ref q1])) q3 (.lst [.ref q1, .ref q1])) Q := by
  have y1 := Ex.new (o := .tup [.str "refused", .int i]) h1
  have e1 : RefAt K (upd G q1 (.tup [.str "refused", .int i])) q1 i := SqT.of upd_same
  have y2 := Ex.new (o := .lst [.ref q1]) h2
  have hq := e1.ex y2
  have y3 := Ex.new (o := .lst [.ref q1, .ref q1]) h3
  have t3 : (upd (upd (upd G q1 (.tup [.str "refused", .int i])) q2 (.lst [.ref q1])) q3 (.lst [.ref q1, .ref q1])) q3 = some (.lst [.ref q1, .ref q1]) := upd_same
  have hq := hq.ex y3
  have y := (y1.trans y2).trans y3
  generalize upd (upd (upd G q1 (.tup [.str "refused", .int i])) q2 (.lst [.ref q1])) q3 (.lst [.ref q1, .ref q1]) = G3 at y t3 hq ⊢
  have d1 : Dp K G3 (.ref D) (.list (List.replicate 2 (refD i))) := by
    rw [← hn]
    exact .lst (SqL.of (y.keep _ _ hD (fun ps z => by cases z))) (dpAll_refs fun r hr => (hp r hr).ex y)
  have d2 : Dp K G3 (.ref q3) (.list (List.replicate 2 (refD i))) := .lst (SqL.of t3) (dpAll_refs (rs := [q1, q1]) fun r hr => by
    have : r = q1 := by simpa using hr
    rw [this]
    exact hq)
  have hs : SeqAt.shaped (.list (List.replicate 2 (refD i))) = true := by
    have h0 := shaped_ref i
    simp [SeqAt.shaped, refD, PyData.canLay0, PyData.canLayAll0, PyData.depth, PyData.depthAll] at h0 ⊢
    exact h0
  refine ⟨_, _, d1, d2, hs, hs, ?_⟩
  rw [show PyData.eqv (.list (List.replicate 2 (refD i))) (.list (List.replicate 2 (refD i))) = true by simp [refD, PyData.eqv, PyData.eqvAll]]
  exact k G3 y
/-- the layer and the tree of the law -/
structure Here (H : Hp) (tw dL dT : Addr) (kL kT : List (List L2.Key × V)) (tL : La) (tT : Tr) : Prop where
  l : H dL = some (.dT kL)
  rl : RowN H kL tL
  t : H dT = some (.dT kT)
  rt : RowT H kT tT
  nl : dL ≠ tw
  nt : dT ≠ tw
theorem Here.ev {H H' : Hp} {tw dL dT : Addr} {kL kT : List (List L2.Key × V)} {tL : La} {tT : Tr} (T : Town tw H) (v : Ev tw H H') (h : Here H tw dL dT kL kT tL tT) : Here H' tw dL dT kL kT tL tT := by
  have nt : ∀ {b : Addr} {xs : List V}, H b = some (.tup xs) → b ≠ tw := fun {b xs} e z => by
    obtain ⟨u0, u1, _, et⟩ := T
    rw [z, et] at e
    cases e
  exact ⟨v.keep _ _ h.nl h.l (fun ps z => by cases z), h.rl.keep fun b xs e => v.keep _ _ (nt e) e (fun ps z => by cases z), v.keep _ _ h.nt h.t (fun ps z => by cases z), h.rt.keep fun b xs e => v.keep _ _ (nt e) e (fun ps z => by cases z), h.nl, h.nt⟩
theorem Here.lay {K : PySem.W.Frag} {H : Hp} {tw dL dT : Addr} {kL kT : List (List L2.Key × V)} {tL : La} {tT : Tr} (h : Here H tw dL dT kL kT tL tT) (g : GoodL tL) : LayerQ K H (.ref dL) true := by
  have := LayerQ.dict (K := K) ⟨kL, Or.inl h.l, h.rl.row⟩ (goodL_small g)
  rwa [g.lay] at this
section
variable {P : Program} {w : World} {K : PySem.W.Frag} {mg : Str → Option Value} {base : Heap}
abbrev lawN : List Str := ["_law_script", "_law_town", "_law_layer_here", "_law_tree_here", "_law_bad", "_law_odd", "_law_wrong", "_law_path", "_law_tall", "_law_large", "_law_made", "_law_last", "_law_first", "_law_what"]
theorem scLaw : FnScope lawN ["_law_script"] (defScope sLaw) := ⟨rfl, rfl, rfl, by decide +kernel, rfl, by decide +kernel, by decide +kernel⟩
theorem ok_law {f fY fT fB fO fN fA fP fD fW P1 P2 P3 P4 P5 P6 P7 P8 : Addr} {fd fdY fdT fdB fdO fdN fdA fdP fdD fdW : FuncData} (F : Fun K "law" "law" sLaw f fd) (M : Mg mg) (R : MgR mg)
    (GY : FnOk P w K mg base CX0 4 fY fdY ["_law_script", "_law_town", "_law_many"] (spLayer K)) (mY : mg "_law_layer" = some (.ref fY)) (kY : PySem.W.keepIn K (.ref fY) = true) (bY : Binds K fdY ["_law_script", "_law_town", "_law_many"] [])
    (GT : FnOk P w K mg base CX0 4 fT fdT ["_law_script", "_law_town", "_law_many"] (spTree K)) (mT : mg "_law_tree" = some (.ref fT)) (kT : PySem.W.keepIn K (.ref fT) = true) (bT : Binds K fdT ["_law_script", "_law_town", "_law_many"] [])
    (GB : FnOk P w K mg base CX0 3 fB fdB ["_law_script", "_law_town"] (spNoLayer K)) (mB : mg "_law_no_layer" = some (.ref fB)) (kB : PySem.W.keepIn K (.ref fB) = true) (bB : Binds K fdB ["_law_script", "_law_town"] [])
    (GO : FnOk P w K mg base CX0 3 fO fdO ["_law_script", "_law_town"] (spNoTree K)) (mO : mg "_law_no_tree" = some (.ref fO)) (kO : PySem.W.keepIn K (.ref fO) = true) (bO : Binds K fdO ["_law_script", "_law_town"] [])
    (GN : FnOk P w K mg base CX0 3 fN fdN ["_law_script", "_law_town"] (spNoPath K)) (mN : mg "_law_no_path" = some (.ref fN)) (kN : PySem.W.keepIn K (.ref fN) = true) (bN : Binds K fdN ["_law_script", "_law_town"] [])
    (GA : FnOk P w K mg base CX0 14 fA fdA ["_law_what", "_law_one", "_law_other"] (spAsk K P1 P2 P3 P4 P5 P6 P7 P8)) (mA : mg "_law_ask" = some (.ref fA)) (kA : PySem.W.keepIn K (.ref fA) = true) (bA : Binds K fdA ["_law_what", "_law_one", "_law_other"] [])
    (GP : FnOk P w K mg base CX0 2 fP fdP ["_law_script", "_law_town", "_law_some"] (spPick K)) (mP : mg "_law_pick" = some (.ref fP)) (kP : PySem.W.keepIn K (.ref fP) = true) (bP : Binds K fdP ["_law_script", "_law_town", "_law_some"] [])
    (GD : FnOk P w K mg base CX0 1 fD fdD ["_law_script", "_law_town", "_law_many"] (spDraw K)) (mD : mg "_law_draw" = some (.ref fD)) (kD : PySem.W.keepIn K (.ref fD) = true) (bD : Binds K fdD ["_law_script", "_law_town", "_law_many"] [])
    (GW : FnOk P w K mg base CX0 1 fW fdW ["_law_first", "_law_many", "_law_entry"] (spWide K)) (mW : mg "_law_wide" = some (.ref fW)) (kW : PySem.W.keepIn K (.ref fW) = true) (bW : Binds K fdW ["_law_first", "_law_many", "_law_entry"] []) :
    FnOk P w K mg base CX0 15 f fd ["_law_script"] (spLaw K P1 P2 P3 P4 P5 P6 P7 P8) := by
  refine F.ok scLaw (fun vs H Q E h => ?_) (fun cdv A outer s H vs Q E hr h => ?_)
  · obtain ⟨a, ns, rfl, _⟩ := h
    rfl
  · obtain ⟨sc, ns, rfl, hsq, h63, hT1, hT2, hT3, hT4, hT5, hT6, hT7, hT8, k⟩ := h
    have r1 := hr.mono (show 1 ≤ 14 by decide)
    have r2 := hr.mono (show 2 ≤ 14 by decide)
    have r3 := hr.mono (show 3 ≤ 14 by decide)
    have r4 := hr.mono (show 4 ≤ 14 by decide)
    have hu1 : (A.deeper (envOfC "law" (defScope sLaw) s.heap.objs.size f cdv)).units + 1 < cLine := by have := hr.units; omega
    refine ⟨_, pss_cons (ps_set (i := 1) scLaw.nd rfl (Or.inr rfl) (pe_lst (pa_cons pe_int (pa_cons pe_int pa_nil))))
      (pss_cons (ps_asg (pe_tup (pa_cons (pe_call (E := E0) GY r4 (by rfl) mY kY bY .nil pass0 (pa_cons (pv 0) (pa_cons (pv 1) (pa_cons pe_int pa_nil)))) (pa_cons (pe_call (E := E0) GT r4 (by rfl) mT kT bT .nil pass0 (pa_cons (pv 0) (pa_cons (pv 1) (pa_cons pe_int pa_nil)))) pa_nil)))
          (pg_tup rfl (pgs_cons (pg_name (i := 2) scLaw.nd rfl (Or.inr rfl)) (pgs_cons (pg_name (i := 3) scLaw.nd rfl (Or.inr rfl)) pgs_nil))))
      (pss_cons (ps_asg (pe_tup (pa_cons (pe_call (E := E0) GB r3 (by rfl) mB kB bB .nil pass0 (pa_cons (pv 0) (pa_cons (pv 1) pa_nil))) (pa_cons (pe_call (E := E0) GO r3 (by rfl) mO kO bO .nil pass0 (pa_cons (pv 0) (pa_cons (pv 1) pa_nil))) pa_nil)))
          (pg_tup rfl (pgs_cons (pg_name (i := 4) scLaw.nd rfl (Or.inr rfl)) (pgs_cons (pg_name (i := 5) scLaw.nd rfl (Or.inr rfl)) pgs_nil))))
      (pss_cons (ps_if (pt_cmpR (op_neD hr.units)
          (pe_lc (own := [("_law_what", 13)]) (g := gName 13) (tt := tYes) rfl scLaw.nd (pi_range1 (by rfl) M.range (pa_cons pe_int pa_nil))
            (blkOk_by (N := lawN) (sc := defScope sLaw) (by decide +kernel)) (fun _ _ _ _ _ => pg_name (i := 13) scLaw.nd rfl (Or.inl rfl)) (fun _ _ _ _ _ => pts_nil)
            (fun _ _ _ _ _ => pe_call (E := E0) GA hr (by rfl) mA kA bA .nil pass0 (pa_cons (pv 13) (pa_cons (pv 4) (pa_cons (pe_call (E := E0) GP r2 (by rfl) mP kP bP .nil pass0 (pa_cons (pv 0) (pa_cons (pv 1) (pa_cons (pe_lst (pa_cons (pv 3) (pa_cons (pv 5) pa_nil))) pa_nil)))) pa_nil)))))
          (pe_op op_rep (pe_lst (pa_cons (pe_tup (pa_cons pe_str (pa_cons pe_int pa_nil))) pa_nil)) pe_int) (nomark _)) (pss_one (ps_ret pe_bl)) pss_nil)
      (pss_cons (ps_if (pt_cmpR (op_neD hr.units)
          (pe_lc (own := [("_law_what", 13)]) (g := gName 13) (tt := tYes) rfl scLaw.nd (pi_range1 (by rfl) M.range (pa_cons pe_int pa_nil))
            (blkOk_by (N := lawN) (sc := defScope sLaw) (by decide +kernel)) (fun _ _ _ _ _ => pg_name (i := 13) scLaw.nd rfl (Or.inl rfl)) (fun _ _ _ _ _ => pts_nil)
            (fun _ _ _ _ _ => pe_call (E := E0) GA hr (by rfl) mA kA bA .nil pass0 (pa_cons (pv 13) (pa_cons (pv 2) (pa_cons (pv 5) pa_nil)))))
          (pe_op op_rep (pe_lst (pa_cons (pe_tup (pa_cons pe_str (pa_cons pe_int pa_nil))) pa_nil)) pe_int) (nomark _)) (pss_one (ps_ret pe_bl)) pss_nil)
      (pss_cons (ps_set (i := 6) scLaw.nd rfl (Or.inr rfl) (pe_call (E := E0) GP r2 (by rfl) mP kP bP .nil pass0 (pa_cons (pv 0) (pa_cons (pv 1) (pa_cons (pe_lst (pa_cons pe_non (pa_cons (pe_lst pa_nil) (pa_cons (pe_lst (pa_cons (pv 4) pa_nil)) (pa_cons (pe_lst (pa_cons (pv 2) (pa_cons (pv 4) pa_nil)))
          (pa_cons (pe_op op_rep (pe_lst (pa_cons (pv 2) pa_nil)) pe_int) (pa_cons (pv 2) (pa_cons (pe_tup (pa_cons (pv 2) pa_nil)) (pa_cons (pe_lst (pa_cons pe_non pa_nil)) pa_nil))))))))) pa_nil)))))
      (pss_cons (ps_set (i := 7) scLaw.nd rfl (Or.inr rfl) (pe_call (E := E0) GN r3 (by rfl) mN kN bN .nil pass0 (pa_cons (pv 0) (pa_cons (pv 1) pa_nil))))
      (pss_cons (ps_if (pt_cmpR (op_neD hr.units)
          (pe_lc (own := [("_law_what", 13)]) (g := gName 13) (tt := tYes) rfl scLaw.nd (pi_tup (pe_tup (pa_cons pe_int (pa_cons pe_int pa_nil))))
            (blkOk_by (N := lawN) (sc := defScope sLaw) (by decide +kernel)) (fun _ _ _ _ _ => pg_name (i := 13) scLaw.nd rfl (Or.inl rfl)) (fun _ _ _ _ _ => pts_nil)
            (fun _ _ _ _ _ => pe_call (E := E0) GA hr (by rfl) mA kA bA .nil pass0 (pa_cons (pv 13) (pa_cons (pv 6) (pa_cons (pv 7) pa_nil)))))
          (pe_op op_rep (pe_lst (pa_cons (pe_tup (pa_cons pe_str (pa_cons pe_int pa_nil))) pa_nil)) pe_int) (nomark _)) (pss_one (ps_ret pe_bl)) pss_nil)
      (pss_cons (ps_if (pt_cmpR (op_neD hr.units) (pe_call (E := E0) GA hr (by rfl) mA kA bA .nil pass0 (pa_cons pe_int (pa_cons (pe_lst (pa_cons (pv 2) pa_nil)) (pa_cons (pv 7) pa_nil)))) (pe_tup (pa_cons pe_str (pa_cons pe_int pa_nil))) (nomark _)) (pss_one (ps_ret pe_bl)) pss_nil)
      (pss_cons (ps_set (i := 8) scLaw.nd rfl (Or.inl rfl) (pe_call (E := E0) GW r1 (by rfl) mW kW bW .nil pass0 (pa_cons pe_str (pa_cons (pe_op op_add pe_int (pe_call (E := E0) GD r1 (by rfl) mD kD bD .nil pass0 (pa_cons (pv 0) (pa_cons (pv 1) (pa_cons pe_int pa_nil))))) (pa_cons (pe_tup (pa_cons pe_str (pa_cons pe_bl pa_nil))) pa_nil)))))
      (pss_cons (ps_dput hu1 (pv 8) (pe_tup pa_nil) (pe_tup (pa_cons pe_str (pa_cons pe_bl pa_nil))) rfl)
      (pss_cons (ps_set (i := 9) scLaw.nd rfl (Or.inl rfl) (pe_call (E := E0) GW r1 (by rfl) mW kW bW .nil pass0 (pa_cons pe_str (pa_cons pe_int (pa_cons (pe_tup (pa_cons pe_str pa_nil)) pa_nil)))))
      (pss_cons (ps_dput hu1 (pv 9) (pe_tup pa_nil) (pe_tup (pa_cons pe_str pa_nil)) rfl)
      (pss_cons (ps_set (i := 10) scLaw.nd rfl (Or.inl rfl) (pe_call (E := E0) GA hr (by rfl) mA kA bA .nil pass0 (pa_cons pe_int (pa_cons (pv 8) (pa_cons (pv 9) pa_nil)))))
      (pss_cons (ps_if (pt_cmpR op_eq (pe_callB call_lenR (by rfl) M.len PySem.boot_len (pa_cons (pv 8) pa_nil)) pe_int (nomark _))
          (pss_one (ps_ret (pe_and (pe_callB call_isR (by rfl) M.isinstance boot_isinstance (pa_cons (pv 10) (pa_cons (pe_bltn (v := .ty "dict") (by rfl) R.dict (by decide +kernel) rfl) pa_nil)))
            (pe_one (pe_cmpR op_eq (pe_callB call_lenR (by rfl) M.len PySem.boot_len (pa_cons (pv 10) pa_nil)) pe_int (nomark _)))))) pss_nil)
      (pss_cons (ps_set (i := 11) scLaw.nd rfl (Or.inl rfl) (pe_call (E := E0) GW r1 (by rfl) mW kW bW .nil pass0 (pa_cons pe_str (pa_cons pe_int (pa_cons (pe_tup (pa_cons pe_str (pa_cons pe_bl pa_nil))) pa_nil)))))
      (pss_cons (ps_dput hu1 (pv 11) (pe_tup pa_nil) (pe_tup (pa_cons pe_str (pa_cons pe_bl pa_nil))) rfl)
      (pss_cons (ps_set (i := 12) scLaw.nd rfl (Or.inl rfl) (pe_call (E := E0) GW r1 (by rfl) mW kW bW .nil pass0 (pa_cons pe_str (pa_cons pe_int (pa_cons (pe_tup (pa_cons pe_str (pa_cons pe_bl pa_nil))) pa_nil)))))
      (pss_cons (ps_dput hu1 (pv 12) (pe_tup pa_nil) (pe_tup (pa_cons pe_str (pa_cons pe_bl pa_nil))) rfl)
      (pss_one (ps_ret (pe_and (pe_cmpR (op_eqD hr.units) (pv 10) (pe_tup (pa_cons pe_str (pa_cons pe_int pa_nil))) (nomark _))
        (pe_one (pe_cmpR (op_eqD hr.units) (pe_call (E := E0) GA hr (by rfl) mA kA bA .nil pass0 (pa_cons pe_int (pa_cons (pe_lst (pa_cons (pv 12) (pa_cons (pv 8) (pa_cons (pv 11) pa_nil)))) (pa_cons pe_non pa_nil)))) (pe_tup (pa_cons pe_str (pa_cons pe_int pa_nil))) (nomark _)))))))))))))))))))))))), ?_⟩
    refine ⟨(by show 2 ≤ sizeLine; decide), fun tw htw => ?_⟩
    have xa := Ex.new (o := .lst [.int 0, .int 0]) htw
    have L1 : Lw K (upd H tw (.lst [.int 0, .int 0])) sc tw ns := Lw.make hsq h63 htw
    have T1 : TabsA (upd H tw (.lst [.int 0, .int 0])) P1 P2 P3 P4 P5 P6 P7 P8 := ⟨⟨xa.tab _ hT1, xa.tab _ hT2, xa.tab _ hT3, xa.tab _ hT4, xa.tab _ hT5⟩, xa.tab _ hT6, xa.tab _ hT7, xa.tab _ hT8⟩
    generalize upd H tw (.lst [.int 0, .int 0]) = H1 at L1 T1 ⊢
    clear xa hsq hT1 hT2 hT3 hT4 hT5 hT6 hT7 hT8
    -- a layer and a tree
    refine ⟨_, rfl, _, rfl, sc, tw, ns, 5, rfl, L1, by decide, fun H2 dL kL tL v2 hnL hdL rowL gL nlL lenL => ?_⟩
    have L2 := L1.ev v2
    have nL : dL ≠ tw := L1.town.ne hnL
    refine ⟨_, rfl, _, rfl, sc, tw, ns, 5, rfl, L2, by decide, fun H3 dT kT tT v3 hnT hdT rowT gT ltrT lenT => ?_⟩
    have L3 := L2.ev v3
    have nT : dT ≠ tw := L2.town.ne hnT
    have hLT : dL ≠ dT := fun z => by
      rw [z, hnT] at hdL
      cases hdL
    have notw : ∀ {b : Addr} {xs : List V}, H2 b = some (.tup xs) → b ≠ tw := fun {b xs} e z => by
      obtain ⟨u0, u1, _, et⟩ := L2.town
      rw [z, et] at e
      cases e
    have X3 : Here H3 tw dL dT kL kT tL tT := ⟨v3.keep _ _ nL hdL (fun ps z => by cases z), rowL.keep fun b xs e => v3.keep _ _ (notw e) e (fun ps z => by cases z), hdT, rowT, nL, nT⟩
    have T3 := TabsA.ev (v2.trans v3) T1
    refine ⟨(by show 2 ≤ sizeLine; decide), fun tp htp => ?_⟩
    have xt := Ex.new (o := .tup [V.ref dL, V.ref dT]) htp
    have st : SqT K (upd H3 tp (.tup [V.ref dL, V.ref dT])) tp [V.ref dL, V.ref dT] := SqT.of upd_same
    have L4 := L3.ex xt
    have T4 := T3.ex xt
    have X4 := X3.ev L3.town (xt.ev L3.town)
    generalize upd H3 tp (.tup [V.ref dL, V.ref dT]) = H4 at st L4 T4 X4 ⊢
    clear xt htp L3 T3 X3 v3 v2 L2 L1 T1 hdL hdT rowL rowT notw hnL hnT
    refine ⟨tp, _, rfl, st, rfl, _, _, rfl, _, _, rfl, rfl, ?_⟩
    clear st
    -- what is no layer, what is no tree
    refine ⟨_, rfl, _, rfl, sc, tw, ns, rfl, L4, fun H5 bad v5 hbt hbad => ?_⟩
    have L5 := L4.ev v5
    refine ⟨_, rfl, _, rfl, sc, tw, ns, rfl, L5, fun H6 odd v6 hot hodd => ?_⟩
    have L6 := L5.ev v6
    have X6 := X4.ev L4.town (v5.trans v6)
    have T6 := TabsA.ev (v5.trans v6) T4
    have B6 : ∀ G, Ev tw H6 G → LayerQ K G bad false := fun G v => hbad G (v6.trans v)
    refine ⟨(by show 2 ≤ sizeLine; decide), fun tp htp => ?_⟩
    have xt := Ex.new (o := .tup [bad, odd]) htp
    have st : SqT K (upd H6 tp (.tup [bad, odd])) tp [bad, odd] := SqT.of upd_same
    have vt := xt.ev L6.town
    have L7 := L6.ex xt
    have T7 := T6.ex xt
    have X7 := X6.ev L6.town vt
    have B7 : ∀ G, Ev tw (upd H6 tp (.tup [bad, odd])) G → LayerQ K G bad false := fun G v => B6 G (vt.trans v)
    have O7 : ∀ G, Ev tw (upd H6 tp (.tup [bad, odd])) G → TreeQ K G odd false := fun G v => hodd G (vt.trans v)
    generalize upd H6 tp (.tup [bad, odd]) = H7 at st L7 T7 X7 B7 O7 ⊢
    clear xt htp vt L6 T6 X6 B6 v6 L5 v5 L4 T4 X4 hbad hodd
    refine ⟨tp, _, rfl, st, rfl, _, _, rfl, _, _, rfl, rfl, ?_⟩
    clear st
    -- what is no layer: asked twice
    refine ⟨_, rfl, by decide, by decide, fun D hD => ?_⟩
    have hDt : D ≠ tw := L7.town.ne hD
    have v0 := (Ex.new (o := .lst []) hD).ev L7.town
    refine lc_range (lo := 0) (n := 2) (fun i G => Ev tw H7 G ∧ ∃ rs : List Addr, G D = some (.lst (rs.map V.ref)) ∧ rs.length = i ∧ ∀ r ∈ rs, RefAt K G r 3) ⟨v0, [], upd_same, rfl, fun r hr => nomatch hr⟩ ?_ ?_
    · rintro i G hi ⟨vg, rs, hl, hn, hp⟩
      have LG := L7.ev vg
      refine ⟨rfl, _, rfl, _, rfl, _, rfl, _, rfl, _, rfl, _, rfl, (by show 2 ≤ sizeLine; decide), fun l hl2 => ?_⟩
      have xl := Ex.new (o := .lst [.ref dT, odd]) hl2
      have hlt : l ≠ tw := LG.town.ne hl2
      have Ll := LG.ex xl
      refine ⟨sc, tw, l, ns, _, rfl, Ll, SqL.of upd_same, hlt, (by show 0 < 2; decide), (by show 2 < 1000; decide), fun Ga x va hx => ?_⟩
      have vGa := (xl.ev LG.town).trans va
      have La := LG.ev vGa
      have hla := vGa.keep _ _ hDt hl (fun ps z => by cases z)
      have hpa : ∀ r ∈ rs, RefAt K Ga r 3 := fun r hr => Ev.tup LG.town vGa (hp r hr)
      refine ⟨_, bad, x, rfl, TabsA.ev (vg.trans vGa) T7, .lay0 _ (by omega) (B7 _ (vg.trans vGa)) fun Gb r xb rb => ?_⟩
      have hlb := xb.keep _ _ hla (fun ps z => by cases z)
      refine ⟨rs.map V.ref, hlb, by rw [List.length_map, hn]; exact Nat.lt_trans hi (by decide), ?_, rs ++ [r], ?_, by rw [List.length_append, hn]; rfl, fun q hq => ?_⟩
      · exact ((vg.trans vGa).trans (xb.ev La.town)).put L7.town hD
      · rw [upd_same, List.map_append]
        rfl
      · rcases List.mem_append.mp hq with h | h
        · exact sqT_put ((hpa q h).ex xb) hlb
        · rw [List.mem_singleton.mp h]
          exact sqT_put rb hlb
    rintro G ⟨vg, rs, hrs, hn, hp⟩
    refine ⟨(by show 2 ≤ sizeLine; decide), fun q1 hq1 => ⟨(by show 1 ≤ sizeLine; decide), fun q2 hq2 => ⟨q2, 2, _, rfl, rfl, upd_same, by decide, by decide, (by show 2 ≤ sizeLine; decide), fun q3 hq3 => refs_ne hrs hn hp hq1 hq2 hq3 fun G3 x3 => ⟨_, rfl, iteF ?_⟩⟩⟩⟩
    have vG := vg.trans (x3.ev (L7.ev vg).town)
    have L8 := L7.ev vG
    have T8 := TabsA.ev vG T7
    have X8 := X7.ev L7.town vG
    have B8 : ∀ G, Ev tw G3 G → LayerQ K G bad false := fun G v => B7 G (vG.trans v)
    have O8 : ∀ G, Ev tw G3 G → TreeQ K G odd false := fun G v => O7 G (vG.trans v)
    clear vG vg hrs hn hp hq1 hq2 hq3 x3 L7 T7 X7 B7 O7 v0 hDt hD
    -- what is no tree: asked twice
    refine ⟨_, rfl, by decide, by decide, fun D hD => ?_⟩
    have ask2 : ∀ (i : Nat) (G : Hp) (Qx : VK), i < 2 → Ex G3 G → ToldI K G Qx 2 → AskQ K G Qx (0 + (i : Int)) (.ref dL) odd := fun i G Qx hi x t => by
      have XG := X8.ev L8.town (x.ev L8.town)
      have OG := O8 G (x.ev L8.town)
      have : i = 0 ∨ i = 1 := by omega
      rcases this with rfl | rfl
      · exact .tree0 (es := entsL tL) ⟨kL, Or.inl XG.l, XG.rl.row⟩ (goodL_small gL) gL.lay (by unfold entsL; rw [List.map_map]; exact gL.nd) OG t
      · exact .tree1 (XG.lay gL) OG t
    refine lc_range (lo := 0) (n := 2) (fun i G => Ex G3 G ∧ ∃ rs : List Addr, G D = some (.lst (rs.map V.ref)) ∧ rs.length = i ∧ ∀ r ∈ rs, RefAt K G r 2) ⟨Ex.new hD, [], upd_same, rfl, fun r hr => nomatch hr⟩ ?_ ?_
    · rintro i G hi ⟨xg, rs, hl, hn, hp⟩
      refine ⟨rfl, _, rfl, _, rfl, _, rfl, _, .ref dL, odd, rfl, T8.ex xg, ask2 i G _ hi xg fun Gb r xb rb => ?_⟩
      have hlb := xb.keep _ _ hl (fun ps z => by cases z)
      refine ⟨rs.map V.ref, hlb, by rw [List.length_map, hn]; exact Nat.lt_trans hi (by decide), (xg.trans xb).put hD, rs ++ [r], ?_, by rw [List.length_append, hn]; rfl, fun q hq => ?_⟩
      · rw [upd_same, List.map_append]
        rfl
      · rcases List.mem_append.mp hq with h | h
        · exact sqT_put ((hp q h).ex xb) hlb
        · rw [List.mem_singleton.mp h]
          exact sqT_put rb hlb
    rintro G ⟨xg, rs, hrs, hn, hp⟩
    refine ⟨(by show 2 ≤ sizeLine; decide), fun q1 hq1 => ⟨(by show 1 ≤ sizeLine; decide), fun q2 hq2 => ⟨q2, 2, _, rfl, rfl, upd_same, by decide, by decide, (by show 2 ≤ sizeLine; decide), fun q3 hq3 => refs_ne hrs hn hp hq1 hq2 hq3 fun G4 x4 => ⟨_, rfl, iteF ?_⟩⟩⟩⟩
    have xG := xg.trans x4
    have vG := xG.ev L8.town
    have L9 := L8.ev vG
    have T9 := T8.ex xG
    have X9 := X8.ev L8.town vG
    have B9 : ∀ G, Ev tw G4 G → LayerQ K G bad false := fun G v => B8 G (vG.trans v)
    have O9 : ∀ G, Ev tw G4 G → TreeQ K G odd false := fun G v => O8 G (vG.trans v)
    clear vG xG xg hrs hn hp hq1 hq2 hq3 x4 L8 T8 X8 B8 O8 hD ask2
    -- what is no stack
    refine ⟨_, rfl, _, rfl, (by show 0 ≤ sizeLine; decide), fun l1 h1 => ?_⟩
    have x1 := Ex.new (o := .lst []) h1
    have e1 : (upd G4 l1 (.lst [])) l1 = some (.lst []) := upd_same
    generalize upd G4 l1 (.lst []) = K1 at x1 e1 ⊢
    refine ⟨_, rfl, (by show 1 ≤ sizeLine; decide), fun l2 h2 => ?_⟩
    have x2 := Ex.new (o := .lst [bad]) h2
    have e2 : (upd K1 l2 (.lst [bad])) l2 = some (.lst [bad]) := upd_same
    generalize upd K1 l2 (.lst [bad]) = K2 at x2 e2 ⊢
    refine ⟨_, rfl, _, rfl, (by show 2 ≤ sizeLine; decide), fun l3 h3 => ?_⟩
    have x3 := Ex.new (o := .lst [.ref dL, bad]) h3
    have e3 : (upd K2 l3 (.lst [.ref dL, bad])) l3 = some (.lst [.ref dL, bad]) := upd_same
    generalize upd K2 l3 (.lst [.ref dL, bad]) = K3 at x3 e3 ⊢
    refine ⟨_, rfl, (by show 1 ≤ sizeLine; decide), fun l4 h4 => ⟨l4, 5, _, rfl, rfl, upd_same, by decide, by decide, (by show 5 ≤ sizeLine; decide), fun l5 h5 => ?_⟩⟩
    have x5 := (Ex.new (o := .lst [.ref dL]) h4).trans (Ex.new (o := .lst [.ref dL, .ref dL, .ref dL, .ref dL, .ref dL]) h5)
    rw [show (List.replicate (5 : Int).toNat [V.ref dL]).flatten = [.ref dL, .ref dL, .ref dL, .ref dL, .ref dL] from rfl]
    have e5 : (upd (upd K3 l4 (.lst [.ref dL])) l5 (.lst [.ref dL, .ref dL, .ref dL, .ref dL, .ref dL])) l5 = some (.lst [.ref dL, .ref dL, .ref dL, .ref dL, .ref dL]) := upd_same
    generalize upd (upd K3 l4 (.lst [.ref dL])) l5 (.lst [.ref dL, .ref dL, .ref dL, .ref dL, .ref dL]) = K5 at x5 e5 ⊢
    clear h4 h5
    refine ⟨_, rfl, _, rfl, (by show 1 ≤ sizeLine; decide), fun l6 h6 => ?_⟩
    have x6 := Ex.new (o := .tup [.ref dL]) h6
    have e6 : (upd K5 l6 (.tup [.ref dL])) l6 = some (.tup [.ref dL]) := upd_same
    generalize upd K5 l6 (.tup [.ref dL]) = K6 at x6 e6 ⊢
    refine ⟨(by show 1 ≤ sizeLine; decide), fun l7 h7 => ⟨(by show 8 ≤ sizeLine; decide), fun l8 h8 => ?_⟩⟩
    have x7 := Ex.new (o := .lst [.non]) h7
    have e7 : (upd K6 l7 (.lst [.non])) l7 = some (.lst [.non]) := upd_same
    generalize upd K6 l7 (.lst [.non]) = K7 at x7 e7 h8 ⊢
    have x8 := Ex.new (o := .lst [.non, .ref l1, .ref l2, .ref l3, .ref l5, .ref dL, .ref l6, .ref l7]) h8
    have e8 : (upd K7 l8 (.lst [.non, .ref l1, .ref l2, .ref l3, .ref l5, .ref dL, .ref l6, .ref l7])) l8 = some (.lst [.non, .ref l1, .ref l2, .ref l3, .ref l5, .ref dL, .ref l6, .ref l7]) := upd_same
    generalize upd K7 l8 (.lst [.non, .ref l1, .ref l2, .ref l3, .ref l5, .ref dL, .ref l6, .ref l7]) = K8 at x8 e8 ⊢
    have kp : ∀ {A B : Hp} {b : Addr} {o : HO}, Ex A B → A b = some o → (∀ ps, o ≠ .tbl ps) → B b = some o := fun x e n => x.keep _ _ e n
    have g7 := kp x8 e7 (fun ps z => by cases z)
    have g6 := kp (x7.trans x8) e6 (fun ps z => by cases z)
    have x68 := (x6.trans x7).trans x8
    have g5 := kp x68 e5 (fun ps z => by cases z)
    have g3 := kp (x5.trans x68) e3 (fun ps z => by cases z)
    have g2 := kp (x3.trans (x5.trans x68)) e2 (fun ps z => by cases z)
    have g1 := kp (x2.trans (x3.trans (x5.trans x68))) e1 (fun ps z => by cases z)
    have xx := x1.trans (x2.trans (x3.trans (x5.trans x68)))
    have vv := xx.ev L9.town
    have La := L9.ev vv
    have ntw : ∀ {b : Addr} {o : HO}, K8 b = some o → (∀ u0 u1 : Int, o ≠ .lst [.int u0, .int u1]) → b ≠ tw := fun {b o} e n z => by
      obtain ⟨u0, u1, _, et⟩ := La.town
      rw [z, et] at e
      cases e
      exact n u0 u1 rfl
    have n8 := ntw e8 (fun u0 u1 z => by cases z)
    refine ⟨sc, tw, l8, ns, _, rfl, La, SqL.of e8, n8, (by show 0 < 8; decide), (by show 8 < 1000; decide), fun G5 wrong v5 hx => ?_⟩
    have vw := vv.trans v5
    have L10 := L9.ev vw
    have T10 := TabsA.ev vw T9
    have X10 := X9.ev L9.town vw
    have SW : ∀ G, Ev tw G5 G → StackQ K G wrong false := fun G v => by
      have vG := v5.trans v
      have XG := X10.ev L10.town v
      have BG := B9 G (vw.trans v)
      have lq : LayerQ K G (.ref dL) true := XG.lay gL
      have kk : ∀ {b : Addr} {o : HO}, K8 b = some o → (∀ u0 u1 : Int, o ≠ .lst [.int u0, .int u1]) → (∀ ps, o ≠ .tbl ps) → G b = some o := fun {b o} e n m => vG.keep _ _ (ntw e n) e m
      have z1 := kk g1 (fun u0 u1 z => by cases z) (fun ps z => by cases z)
      have z2 := kk g2 (fun u0 u1 z => by cases z) (fun ps z => by cases z)
      have z3 := kk g3 (fun u0 u1 z => by cases z) (fun ps z => by cases z)
      have z5 := kk g5 (fun u0 u1 z => by cases z) (fun ps z => by cases z)
      have z6 := kk g6 (fun u0 u1 z => by cases z) (fun ps z => by cases z)
      have z7 := kk g7 (fun u0 u1 z => by cases z) (fun ps z => by cases z)
      simp only [List.mem_cons, List.not_mem_nil, or_false] at hx
      rcases hx with rfl | rfl | rfl | rfl | rfl | rfl | rfl | rfl
      · exact .oth .non (by decide)
      · exact .lst z1 .nil (by show 0 ≤ 100; decide)
      · exact .lst z2 (.cons BG .nil) (by show 1 ≤ 100; decide)
      · exact .lst z3 (.cons lq (.cons BG .nil)) (by show 2 ≤ 100; decide)
      · exact .lst z5 (.cons lq (.cons lq (.cons lq (.cons lq (.cons lq .nil))))) (by show 5 ≤ 100; decide)
      · exact .dict (Or.inl XG.l)
      · exact .oth (.tup (SqT.of z6)) (by decide)
      · exact .lst z7 (.cons (.oth .non (by decide)) .nil) (by show 1 ≤ 100; decide)
    clear kp g7 g6 g5 g3 g2 g1 x68 xx vv vw La n8 ntw e1 e2 e3 e5 e6 e7 e8 x1 x2 x3 x5 x6 x7 x8 h1 h2 h3 h6 h7 h8 hx v5
    -- what is no path
    refine ⟨_, rfl, _, rfl, sc, tw, ns, rfl, L10, fun G6 path v6 pb => ?_⟩
    have L11 := L10.ev v6
    have T11 := TabsA.ev v6 T10
    have X11 := X10.ev L10.town v6
    have S11 : ∀ G, Ev tw G6 G → StackQ K G wrong false := fun G v => SW G (v6.trans v)
    clear v6 SW L10 T10 X10 B9 O9 X9 T9 L9
    refine ⟨(by show 2 ≤ sizeLine; decide), fun t2 ht2 => ?_⟩
    have xt := Ex.new (o := .tup [.int 2, .int 3]) ht2
    have et : (upd G6 t2 (.tup [.int 2, .int 3])) t2 = some (.tup [.int 2, .int 3]) := upd_same
    have L12 := L11.ex xt
    have T12 := T11.ex xt
    have vt := xt.ev L11.town
    have X12 := X11.ev L11.town vt
    have S12 : ∀ G, Ev tw (upd G6 t2 (.tup [.int 2, .int 3])) G → StackQ K G wrong false := fun G v => S11 G (vt.trans v)
    have pb12 := pb.ex xt
    generalize upd G6 t2 (.tup [.int 2, .int 3]) = G7 at et L12 T12 X12 S12 pb12 ⊢
    clear xt ht2 vt L11 T11 X11 S11 pb
    refine ⟨t2, rfl, ⟨_, SqT.of et⟩, fun D hD => ?_⟩
    refine lc_it (walk_tup (K := K) (a := t2) (xs := [.int 2, .int 3])) (fun i G => Ex G7 G ∧ ∃ rs : List Addr, G D = some (.lst (rs.map V.ref)) ∧ rs.length = i ∧ ∀ r ∈ rs, RefAt K G r 4) ⟨Ex.new hD, [], upd_same, rfl, fun r hr => nomatch hr⟩ (fun i G _ h => SqT.of (h.1.keep _ _ et (fun ps z => by cases z))) ?_ ?_
    · rintro i y G G' hi ⟨xg, rs, hl, hn, hp⟩ ⟨rfl, hy⟩
      have hy2 : ∃ n : Int, y = .int n ∧ (n = 2 ∨ n = 3) := by
        have : i = 0 ∨ i = 1 := by have : i < 2 := hi; omega
        rcases this with rfl | rfl
        · exact ⟨2, (Option.some.inj hy).symm, Or.inl rfl⟩
        · exact ⟨3, (Option.some.inj hy).symm, Or.inr rfl⟩
      obtain ⟨n, rfl, hn23⟩ := hy2
      refine ⟨rfl, _, rfl, _, rfl, _, rfl, n, wrong, path, rfl, T12.ex xg, .stack n hn23 (S12 _ (xg.ev L12.town)) fun Gb r xb rb => ?_⟩
      have hlb := xb.keep _ _ hl (fun ps z => by cases z)
      refine ⟨rs.map V.ref, hlb, by rw [List.length_map, hn]; exact Nat.lt_trans hi (by decide), (xg.trans xb).put hD, rs ++ [r], ?_, by rw [List.length_append, hn]; rfl, fun q hq => ?_⟩
      · rw [upd_same, List.map_append]
        rfl
      · rcases List.mem_append.mp hq with h | h
        · exact sqT_put ((hp q h).ex xb) hlb
        · rw [List.mem_singleton.mp h]
          exact sqT_put rb hlb
    rintro G ⟨xg, rs, hrs, hn, hp⟩
    refine ⟨(by show 2 ≤ sizeLine; decide), fun q1 hq1 => ⟨(by show 1 ≤ sizeLine; decide), fun q2 hq2 => ⟨q2, 2, _, rfl, rfl, upd_same, by decide, by decide, (by show 2 ≤ sizeLine; decide), fun q3 hq3 => refs_ne hrs hn hp hq1 hq2 hq3 fun G8 x8 => ⟨_, rfl, iteF ?_⟩⟩⟩⟩
    have xG := xg.trans x8
    have L13 := L12.ex xG
    have T13 := T12.ex xG
    have X13 := X12.ev L12.town (xG.ev L12.town)
    have pb13 := pb12.ex xG
    clear xG xg x8 hrs hn hp hq1 hq2 hq3 L12 T12 X12 S12 pb12 et hD
    -- a stack that is one, and no path
    refine ⟨_, rfl, (by show 1 ≤ sizeLine; decide), fun l1 h1 => ?_⟩
    have x1 := Ex.new (o := .lst [.ref dL]) h1
    have e1 : (upd G8 l1 (.lst [.ref dL])) l1 = some (.lst [.ref dL]) := upd_same
    have L14 := L13.ex x1
    have T14 := T13.ex x1
    have X14 := X13.ev L13.town (x1.ev L13.town)
    have pb14 := pb13.ex x1
    generalize upd G8 l1 (.lst [.ref dL]) = G9 at e1 L14 T14 X14 pb14 ⊢
    clear x1 h1 L13 T13 X13 pb13
    refine ⟨_, rfl, 3, .ref l1, path, rfl, T14, .path (.lst e1 (.cons (X14.lay gL) .nil) (by show 1 ≤ 100; decide)) pb14 fun Ga r xa ra => ⟨(by show 2 ≤ sizeLine; decide), fun p hp => ?_⟩⟩
    have xp := Ex.new (o := .tup [.str "refused", .int 0]) hp
    refine ⟨refD 0, refD 0, (ra.ex xp).dp, RefAt.dp (SqT.of upd_same), shaped_ref 0, shaped_ref 0, _, rfl, ?_⟩
    rw [show PyData.eqv (refD 0) (refD 0) = true by simp [refD, PyData.eqv, PyData.eqvAll]]
    refine iteF ?_
    have xG := xa.trans xp
    have L15 := L14.ex xG
    have T15 := T14.ex xG
    generalize upd Ga p (.tup [.str "refused", .int 0]) = GA0 at xG L15 T15 ⊢
    clear xG xp hp ra xa L14 T14 X14 pb14 e1 gL gT
    -- the wide ones
    refine ⟨_, rfl, _, rfl, sc, tw, ns, 3, rfl, L15, by decide, by decide, fun Gb r vb r0 r3' => ?_⟩
    obtain ⟨n, rfl⟩ : ∃ n : Nat, r = (n : Int) := ⟨r.toNat, by omega⟩
    have hn3 : n < 3 := by omega
    have Lb := L15.ev vb
    have Tb := TabsA.ev vb T15
    refine ⟨_, _, rfl, rfl, (by show 2 ≤ sizeLine; decide), fun e1 he1 => ?_⟩
    have y1 := Ex.new (o := .tup [.str "drawer", .bl false]) he1
    have f1 : (upd Gb e1 (.tup [.str "drawer", .bl false])) e1 = some (.tup [.str "drawer", .bl false]) := upd_same
    have Lc := Lb.ex y1
    have Tc := Tb.ex y1
    generalize upd Gb e1 (.tup [.str "drawer", .bl false]) = Gc at f1 Lc Tc ⊢
    clear y1 he1 Lb Tb vb L15 T15
    refine ⟨"pqr", 30 + n, e1, by show [V.str "pqr", V.int ((30 : Int) + (n : Int)), V.ref e1] = _; rw [show (30 : Int) + (n : Int) = ((30 + n : Nat) : Int) by omega], keys_nd1, by decide +kernel, by omega, fun Gd d1 x1 hd1 ed1 => ?_⟩
    have f1 := x1.keep _ _ f1 (fun ps z => by cases z)
    -- its root
    refine ⟨(by show 2 ≤ sizeLine; decide), fun e2 he2 => ⟨_, rfl, Nat.zero_le _, fun p0 hp0 => ?_⟩⟩
    have y2 := Ex.new (o := .tup [.str "drawer", .bl false]) he2
    have y3 := Ex.new (o := .tup []) hp0
    have f2 := y3.keep _ _ (upd_same : (upd Gd e2 (.tup [.str "drawer", .bl false])) e2 = some (.tup [.str "drawer", .bl false])) (fun ps z => by cases z)
    have f0 : (upd (upd Gd e2 (.tup [.str "drawer", .bl false])) p0 (.tup [])) p0 = some (.tup (([] : List L2.Key).map kV)) := upd_same
    have x23 := y2.trans y3
    have f1 := x23.keep _ _ f1 (fun ps z => by cases z)
    have ed1 := x23.keep _ _ ed1 (fun ps z => by cases z)
    have xe := x1.trans x23
    generalize upd (upd Gd e2 (.tup [.str "drawer", .bl false])) p0 (.tup []) = Ge at f0 f1 f2 ed1 xe ⊢
    clear y2 y3 x23 he2 hp0 x1
    refine ⟨d1, _, rfl, DPut.t (k := []) (v := .ref e2) ed1 f0 ?_, ?_⟩
    · unfold wideK rowsOf
      rw [List.length_map, List.length_take, sizeLine_eq]
      omega
    have xf : Ex Gc (upd Ge d1 (.dT (putK (wideK "pqr" (30 + n) e1) [] (.ref e2)))) := xe.put hd1
    have f1 : (upd Ge d1 (.dT (putK (wideK "pqr" (30 + n) e1) [] (.ref e2)))) e1 = some (.tup [.str "drawer", .bl false]) := by
      rw [upd_ne (ne_of f1 ed1 (fun z => by cases z))]
      exact f1
    have f2 : (upd Ge d1 (.dT (putK (wideK "pqr" (30 + n) e1) [] (.ref e2)))) e2 = some (.tup [.str "drawer", .bl false]) := by
      rw [upd_ne (ne_of f2 ed1 (fun z => by cases z))]
      exact f2
    have edf : (upd Ge d1 (.dT (putK (wideK "pqr" (30 + n) e1) [] (.ref e2)))) d1 = some (.dT (putK (wideK "pqr" (30 + n) e1) [] (.ref e2))) := upd_same
    generalize upd Ge d1 (.dT (putK (wideK "pqr" (30 + n) e1) [] (.ref e2))) = Gf at xf f1 f2 edf ⊢
    have see : ∀ {G : Hp} {e : Addr}, G e = some (.tup [.str "drawer", .bl false]) → Dp K G (.ref e) seeD := fun h => .tup (SqT.of h) (.cons (.str _) (.cons (.bl _) .nil))
    have drw : ∀ {G : Hp} {e : Addr}, G e = some (.tup [.str "drawer"]) → Dp K G (.ref e) drD := fun h => .tup (SqT.of h) (.cons (.str _) .nil)
    have tall := wide_tr (K := K) (D := seeD) edf (see f1) (see f2)
    have Lf := Lc.ex xf
    have Tf := Tc.ex xf
    clear f0 f1 f2 ed1 xe xf Lc Tc hd1
    refine wide_read (z := "stuv") (m := 49) (xs := [.str "drawer"]) (fun σ H Q h => h) (by show 1 ≤ sizeLine; decide) keys_nd2 (by decide +kernel) (by omega) (by show 9 < 14; decide) fun Gg d2 e3 e4 xg h2 ed2 f3 f4 => ?_
    have hne : d1 ≠ d2 := ne_of_none edf h2
    have large := wide_tr (K := K) (D := drD) ed2 (drw f3) (drw f4)
    have tall := tall.ex xg
    have Lg := Lf.ex xg
    have Tg := Tf.ex xg
    clear xg edf h2 ed2 f3 f4 Lf Tf
    have m30 : 30 + n ∈ [30, 31, 32] := by
      simp only [List.mem_cons, List.not_mem_nil, or_false]
      omega
    have t1 := tall_ok _ m30
    have t2 := large_ok
    unfold layOk at t1
    simp only [Bool.and_eq_true, decide_eq_true_eq] at t1 t2
    have elen := over_len _ m30
    have wtall : (bigE "pqr" (30 + n) seeD).length = 31 + n := by
      have : ∀ m ∈ [30, 31, 32], (bigE "pqr" m seeD).length = m + 1 := by decide +kernel
      rw [this _ m30]
      omega
    refine ⟨_, rfl, _, rfl, 0, _, _, rfl, Tg, .show0 tall (smallE_of t1.2.1) t1.1 t1.2.2 hne large (smallE_of t2.2.1) t2.1 t2.2.2 (fun hbig Gh r xh rh => ?_) (fun hfit Gh l kvs xh eh rowh => ?_)⟩
    · have hn1 : 1 ≤ n := by omega
      have tall := tall.ex xh
      have Th := Tg.ex xh
      obtain ⟨kt, hkt, rkt⟩ := id tall
      refine ⟨_, rfl, d1, kt, rfl, hkt, rfl, _, rfl, ?_⟩
      rw [show decide (V.int ((kt.length : Nat) : Int) = V.int 31) = false from decide_eq_false fun z => by
        have := rkt.len
        have : ((kt.length : Nat) : Int) = 31 := V.int.inj z
        omega]
      refine iteF ?_
      refine wide_read (z := "stu") (m := 39) (xs := [.str "drawer", .bl false]) (fun σ H Q h => h) (by show 2 ≤ sizeLine; decide) keys_nd3 (by decide +kernel) (by omega) (by show 11 < 14; decide) fun Gi d3 e5 e6 xi h3 ed3 f5 f6 => ?_
      have last := wide_tr (K := K) (D := seeD) ed3 (see f5) (see f6)
      refine wide_read (z := "v") (m := 20) (xs := [.str "drawer", .bl false]) (fun σ H Q h => h) (by show 2 ≤ sizeLine; decide) keys_nd4 (by decide +kernel) (by omega) (by show 12 < 14; decide) fun Gj d4 e7 e8 xj h4 ed4 f7 f8 => ?_
      have first := wide_tr (K := K) (D := seeD) ed4 (see f7) (see f8)
      have xij := xi.trans xj
      have tall := tall.ex xij
      have last := last.ex xj
      have Tj := Th.ex xij
      have rj : RefAt K Gj r 15 := (rh.ex xij)
      have m31 : 30 + n ∈ [31, 32] := by
        simp only [List.mem_cons, List.not_mem_nil, or_false]
        omega
      have l1' := last_ok
      have f1' := first_ok
      unfold layOk at l1' f1'
      simp only [Bool.and_eq_true, decide_eq_true_eq] at l1' f1'
      have qd : ∀ {G : Hp} {d : Addr} {es : Ents}, TrAt K G d es → smallEB es = true → layerB es = true → LayerQ K G (.ref d) true := fun {G d es} h1 h2 h3 => by
        have := LayerQ.dict (K := K) h1 (smallE_of h2)
        rwa [h3] at this
      refine ⟨_, rfl, (by show 2 ≤ sizeLine; decide), fun pa hpa => ?_⟩
      have xa := Ex.new (o := .tup [.str "refused", .int 15]) hpa
      refine ⟨refD 15, refD 15, (rj.ex xa).dp, RefAt.dp (SqT.of upd_same), shaped_ref 15, shaped_ref 15, true, by rw [show PyData.eqv (refD 15) (refD 15) = true by simp [refD, PyData.eqv, PyData.eqvAll]], ?_⟩
      rw [if_pos rfl]
      have tall := tall.ex xa
      have last := last.ex xa
      have first := first.ex xa
      have Ta := Tj.ex xa
      generalize upd Gj pa (.tup [.str "refused", .int 15]) = Gk at tall last first Ta ⊢
      refine ⟨_, rfl, _, rfl, _, rfl, (by show 3 ≤ sizeLine; decide), fun q hq => ?_⟩
      have xq := Ex.new (o := .lst [.ref d4, .ref d1, .ref d3]) hq
      have eq1 : (upd Gk q (.lst [.ref d4, .ref d1, .ref d3])) q = some (.lst [.ref d4, .ref d1, .ref d3]) := upd_same
      have tall := tall.ex xq
      have last := last.ex xq
      have first := first.ex xq
      have Tb := Ta.ex xq
      generalize upd Gk q (.lst [.ref d4, .ref d1, .ref d3]) = Gl at eq1 tall last first Tb ⊢
      refine ⟨2, .ref q, .non, rfl, Tb, .full (lss := [bigE "v" 20 seeD, bigE "pqr" (30 + n) seeD, bigE "stu" 39 seeD])
        (.lst eq1 (.cons (qd first f1'.2.1 f1'.1) (.cons (qd tall t1.2.1 t1.1) (.cons (qd last l1'.2.1 l1'.1) .nil))) (by show 3 ≤ 100; decide)) ⟨[d4, d1, d3], SqL.of eq1, fun H' x => SqL.of (x.keep _ _ eq1 (fun ps z => by cases z)), .cons first (.cons tall (.cons last .nil))⟩
        (fun es he => ?_) (wide_full m31) fun Gm r2 xm rm => ⟨(by show 2 ≤ sizeLine; decide), fun pb hpb => ?_⟩⟩
      · simp only [List.mem_cons, List.not_mem_nil, or_false] at he
        rcases he with rfl | rfl | rfl
        · exact ⟨f1'.1, f1'.2.2⟩
        · exact ⟨t1.1, t1.2.2⟩
        · exact ⟨l1'.1, l1'.2.2⟩
      have xb := Ex.new (o := .tup [.str "refused", .int 15]) hpb
      refine ⟨refD 15, refD 15, (rm.ex xb).dp, RefAt.dp (SqT.of upd_same), shaped_ref 15, shaped_ref 15, ?_⟩
      rw [show PyData.eqv (refD 15) (refD 15) = true by simp [refD, PyData.eqv, PyData.eqvAll]]
      exact k _
    · have hn0 : n = 0 := by omega
      subst hn0
      have tall := tall.ex xh
      obtain ⟨kt, hkt, rkt⟩ := id tall
      refine ⟨_, rfl, d1, kt, rfl, hkt, rfl, _, rfl, ?_⟩
      rw [show decide (V.int ((kt.length : Nat) : Int) = V.int 31) = true from decide_eq_true (by
        have := rkt.len
        have : kt.length = 31 := by omega
        rw [this]
        rfl)]
      refine iteT ?_
      have hlen := plainE_len (overE (bigE "pqr" (30 + 0) seeD) (bigE "stuv" 49 drD))
      have hr := rowh.len
      refine ⟨_, rfl, .inr ⟨l, kvs, rfl, Or.inl eh, true, rfl, ?_⟩⟩
      rw [if_pos rfl]
      refine ⟨_, rfl, l, kvs, rfl, Or.inl eh, rfl, ?_⟩
      rw [show decide (V.int ((kvs.length : Nat) : Int) = V.int 80) = true from decide_eq_true (by
        have : kvs.length = 80 := by omega
        rw [this]
        rfl)]
      exact k _
end
end LK

namespace LK
open PySem PySem.Spec PyProof.Rows L2 GA LT LE L2H LD
/-! ### what the top has written -/
theorem all_mk {l : PySem.W.OpenLaw} {q : Program} {w : World} {K : PySem.W.Frag} {h : Heap} {mg : Str → Option Value} {fz fa f0 f1 f2 f3 f4 f5 f6 f7 f8 f9 f10 f11 f12 f13 f14 f15 f16 f17 f18 f19 f20 f21 f22 f23 f24 f25 f26 f27 f28 f29 f30 f31 f32 f33 f34 f35 f36 f37 f38 f39 f40 f41 f42 cP1 P1 cP2 P2 cP3 P3 cP4 P4 cP5 P5 cP6 P6 cP7 P7 cP8 P8 T C0 C1 C2 C3 C4 C5 C6 C7 C8 C9 C10 C11 C12 C13 C14 C15 C16 aDR aGO aSE : Addr} {g1 g2 g3 g4 g5 g6 g7 g9 g8 : Tok} (X : K.In h) (G : h.Ns mainGlobals mg) (hfa : mg "law" = some (.ref fz)) (TT : TabsOf q K h)
    {od0 an0 od1 an1 od2 an2 od3 an3 od4 an4 od5 an5 od6 an6 od7 an7 od8 an8 od9 an9 od10 an10 od11 an11 od12 an12 od13 an13 od14 an14 od15 an15 od16 an16 od17 an17 od18 an18 od19 an19 od20 an20 od21 an21 od22 an22 od23 an23 od24 an24 od25 an25 od26 an26 od27 an27 od28 an28 od29 an29 od30 an30 od31 an31 od32 an32 od33 an33 od34 an34 od35 an35 od36 an36 od37 an37 od38 an38 od39 an39 od40 an40 od41 an41 od42 an42 od43 an43 xd1 xd2 xd3 xd4 xd5 xd6 xd7 xd8 : Option Addr} {sl0 sl1 sl2 sl3 sl4 sl5 sl6 sl7 sl8 sl9 sl10 sl11 sl12 sl13 sl14 sl15 sl16 sl17 sl18 sl19 sl20 sl21 sl22 sl23 sl24 sl25 sl26 sl27 sl28 sl29 sl30 sl31 sl32 sl33 sl34 sl35 sl36 sl37 sl38 sl39 sl40 sl41 sl42 sl43 xs1 xs2 xs3 xs4 xs5 xs6 xs7 xs8 : Array (Option Value)}
    {xv1 xv2 xv3 xv4 xv5 xv6 xv7 xv8 : Array Value}
    {oc0 kV0 dc0 pm0 ct0 oc1 kV1 dc1 pm1 ct1 oc2 kV2 dc2 pm2 ct2 oc3 kV3 dc3 pm3 ct3 oc4 kV4 dc4 pm4 ct4 oc5 kV5 dc5 pm5 ct5 oc6 kV6 dc6 pm6 ct6 oc7 kV7 dc7 pm7 ct7 oc8 kV8 dc8 pm8 ct8 cd8 oc9 kV9 dc9 pm9 ct9 cd9 oc10 kV10 dc10 pm10 ct10 cd10 oc11 kV11 dc11 pm11 ct11 cd11 oc12 kV12 dc12 pm12 ct12 cd12 oc13 kV13 dc13 pm13 ct13 cd13 oc14 kV14 dc14 pm14 ct14 cd14 oc15 kV15 dc15 pm15 ct15 cd15 oc16 kV16 dc16 pm16 ct16 cd16 oc17 kV17 dc17 pm17 ct17 cd17 oc18 kV18 dc18 pm18 ct18 cd18 oc19 kV19 dc19 pm19 ct19 cd19 oc20 kV20 dc20 pm20 ct20 cd20 oc21 kV21 dc21 pm21 ct21 cd21 oc22 kV22 dc22 pm22 ct22 cd22 oc23 kV23 dc23 pm23 ct23 cd23 oc24 kV24 dc24 pm24 ct24 cd24 oc25 kV25 dc25 pm25 ct25 cd25 oc26 kV26 dc26 pm26 ct26 cd26 oc27 kV27 dc27 pm27 ct27 cd27 oc28 kV28 dc28 pm28 ct28 cd28 oc29 kV29 dc29 pm29 ct29 cd29 oc30 kV30 dc30 pm30 ct30 cd30 oc31 kV31 dc31 pm31 ct31 cd31 oc32 kV32 dc32 pm32 ct32 cd32 oc33 kV33 dc33 pm33 ct33 cd33 oc34 kV34 dc34 pm34 ct34 cd34 oc35 kV35 dc35 pm35 ct35 cd35 oc36 kV36 dc36 pm36 ct36 cd36 oc37 kV37 dc37 pm37 ct37 cd37 oc38 kV38 dc38 pm38 ct38 cd38 oc39 kV39 dc39 pm39 ct39 cd39 oc40 kV40 dc40 pm40 ct40 cd40 oc41 kV41 dc41 pm41 ct41 cd41 oc42 kV42 dc42 pm42 ct42 cd42 oc43 kV43 dc43 pm43 ct43 cd43 xo1 xo2 xo3 xo4 xo5 xo6 xo7 xo8 : Value} {gDR gGO gSE : Tok} {nDR nGO nSE : Nat} {oDR oGO oSE : Option Addr} {sDR sGO sSE : Array (Option Value)}
    (a0 : PySem.W.nsIn K mainGlobals "is_name" = some (some (.ref f0)))
    (l0 : K.lookup f0 = some ⟨oc0, od0, .func (PySem.W.fnOf "is_name" "is_name" (defArgs sIsName) (defBody sIsName) (defScope sIsName) .none kV0 dc0 pm0 an0 (.ref cP1) ct0), sl0⟩)
    (c0 : PySem.W.codeIn K (.ref cP1) "is_name" = true)
    (k0 : PySem.W.keepIn K (.ref f0) = true)
    (a1 : PySem.W.nsIn K mainGlobals "is_path" = some (some (.ref f1)))
    (l1 : K.lookup f1 = some ⟨oc1, od1, .func (PySem.W.fnOf "is_path" "is_path" (defArgs sIsPath) (defBody sIsPath) (defScope sIsPath) .none kV1 dc1 pm1 an1 (.ref cP2) ct1), sl1⟩)
    (c1 : PySem.W.codeIn K (.ref cP2) "is_path" = true)
    (k1 : PySem.W.keepIn K (.ref f1) = true)
    (a2 : PySem.W.nsIn K mainGlobals "is_text" = some (some (.ref f2)))
    (l2 : K.lookup f2 = some ⟨oc2, od2, .func (PySem.W.fnOf "is_text" "is_text" (defArgs sIsText) (defBody sIsText) (defScope sIsText) .none kV2 dc2 pm2 an2 (.ref cP3) ct2), sl2⟩)
    (c2 : PySem.W.codeIn K (.ref cP3) "is_text" = true)
    (k2 : PySem.W.keepIn K (.ref f2) = true)
    (a3 : PySem.W.nsIn K mainGlobals "has_drawers_above" = some (some (.ref f3)))
    (l3 : K.lookup f3 = some ⟨oc3, od3, .func (PySem.W.fnOf "has_drawers_above" "has_drawers_above" (defArgs sHasDrawers) (defBody sHasDrawers) (defScope sHasDrawers) .none kV3 dc3 pm3 an3 (.ref cP4) ct3), sl3⟩)
    (c3 : PySem.W.codeIn K (.ref cP4) "has_drawers_above" = true)
    (k3 : PySem.W.keepIn K (.ref f3) = true)
    (a4 : PySem.W.nsIn K mainGlobals "is_tree" = some (some (.ref f4)))
    (l4 : K.lookup f4 = some ⟨oc4, od4, .func (PySem.W.fnOf "is_tree" "is_tree" (defArgs sIsTree) (defBody sIsTree) (defScope sIsTree) .none kV4 dc4 pm4 an4 (.ref cP5) ct4), sl4⟩)
    (c4 : PySem.W.codeIn K (.ref cP5) "is_tree" = true)
    (k4 : PySem.W.keepIn K (.ref f4) = true)
    (a5 : PySem.W.nsIn K mainGlobals "is_layer" = some (some (.ref f5)))
    (l5 : K.lookup f5 = some ⟨oc5, od5, .func (PySem.W.fnOf "is_layer" "is_layer" (defArgs sIsLayer) (defBody sIsLayer) (defScope sIsLayer) .none kV5 dc5 pm5 an5 (.ref cP6) ct5), sl5⟩)
    (c5 : PySem.W.codeIn K (.ref cP6) "is_layer" = true)
    (k5 : PySem.W.keepIn K (.ref f5) = true)
    (a6 : PySem.W.nsIn K mainGlobals "lets_through" = some (some (.ref f6)))
    (l6 : K.lookup f6 = some ⟨oc6, od6, .func (PySem.W.fnOf "lets_through" "lets_through" (defArgs sLetsThrough) (defBody sLetsThrough) (defScope sLetsThrough) .none kV6 dc6 pm6 an6 (.ref cP7) ct6), sl6⟩)
    (c6 : PySem.W.codeIn K (.ref cP7) "lets_through" = true)
    (k6 : PySem.W.keepIn K (.ref f6) = true)
    (a7 : PySem.W.nsIn K mainGlobals "is_stack" = some (some (.ref f7)))
    (l7 : K.lookup f7 = some ⟨oc7, od7, .func (PySem.W.fnOf "is_stack" "is_stack" (defArgs sIsStack) (defBody sIsStack) (defScope sIsStack) .none kV7 dc7 pm7 an7 (.ref cP8) ct7), sl7⟩)
    (c7 : PySem.W.codeIn K (.ref cP8) "is_stack" = true)
    (k7 : PySem.W.keepIn K (.ref f7) = true)
    (a8 : PySem.W.nsIn K mainGlobals "check_path" = some (some (.ref f8)))
    (l8 : K.lookup f8 = some ⟨oc8, od8, .func (PySem.W.fnOf "check_path" "check_path" (defArgs sCheckPath) (defBody sCheckPath) (defScope sCheckPath) .none kV8 dc8 pm8 an8 cd8 ct8), sl8⟩)
    (c8 : PySem.W.codeIn K cd8 "check_path" = true)
    (k8 : PySem.W.keepIn K (.ref f8) = true)
    (a9 : PySem.W.nsIn K mainGlobals "above" = some (some (.ref f9)))
    (l9 : K.lookup f9 = some ⟨oc9, od9, .func (PySem.W.fnOf "above" "above" (defArgs sAbove) (defBody sAbove) (defScope sAbove) .none kV9 dc9 pm9 an9 cd9 ct9), sl9⟩)
    (c9 : PySem.W.codeIn K cd9 "above" = true)
    (k9 : PySem.W.keepIn K (.ref f9) = true)
    (a10 : PySem.W.nsIn K mainGlobals "beginnings" = some (some (.ref f10)))
    (l10 : K.lookup f10 = some ⟨oc10, od10, .func (PySem.W.fnOf "beginnings" "beginnings" (defArgs sBeginnings) (defBody sBeginnings) (defScope sBeginnings) .none kV10 dc10 pm10 an10 cd10 ct10), sl10⟩)
    (c10 : PySem.W.codeIn K cd10 "beginnings" = true)
    (k10 : PySem.W.keepIn K (.ref f10) = true)
    (a11 : PySem.W.nsIn K mainGlobals "is_number" = some (some (.ref f11)))
    (l11 : K.lookup f11 = some ⟨oc11, od11, .func (PySem.W.fnOf "is_number" "is_number" (defArgs sIsNumber) (defBody sIsNumber) (defScope sIsNumber) .none kV11 dc11 pm11 an11 cd11 ct11), sl11⟩)
    (c11 : PySem.W.codeIn K cd11 "is_number" = true)
    (k11 : PySem.W.keepIn K (.ref f11) = true)
    (a12 : PySem.W.nsIn K mainGlobals "is_kind" = some (some (.ref f12)))
    (l12 : K.lookup f12 = some ⟨oc12, od12, .func (PySem.W.fnOf "is_kind" "is_kind" (defArgs sIsKind) (defBody sIsKind) (defScope sIsKind) .none kV12 dc12 pm12 an12 cd12 ct12), sl12⟩)
    (c12 : PySem.W.codeIn K cd12 "is_kind" = true)
    (k12 : PySem.W.keepIn K (.ref f12) = true)
    (a13 : PySem.W.nsIn K mainGlobals "is_drawer" = some (some (.ref f13)))
    (l13 : K.lookup f13 = some ⟨oc13, od13, .func (PySem.W.fnOf "is_drawer" "is_drawer" (defArgs sIsDrawer) (defBody sIsDrawer) (defScope sIsDrawer) .none kV13 dc13 pm13 an13 cd13 ct13), sl13⟩)
    (c13 : PySem.W.codeIn K cd13 "is_drawer" = true)
    (k13 : PySem.W.keepIn K (.ref f13) = true)
    (a14 : PySem.W.nsIn K mainGlobals "is_file" = some (some (.ref f14)))
    (l14 : K.lookup f14 = some ⟨oc14, od14, .func (PySem.W.fnOf "is_file" "is_file" (defArgs sIsFile) (defBody sIsFile) (defScope sIsFile) .none kV14 dc14 pm14 an14 cd14 ct14), sl14⟩)
    (c14 : PySem.W.codeIn K cd14 "is_file" = true)
    (k14 : PySem.W.keepIn K (.ref f14) = true)
    (a15 : PySem.W.nsIn K mainGlobals "has_one_text_each" = some (some (.ref f15)))
    (l15 : K.lookup f15 = some ⟨oc15, od15, .func (PySem.W.fnOf "has_one_text_each" "has_one_text_each" (defArgs sHasOneText) (defBody sHasOneText) (defScope sHasOneText) .none kV15 dc15 pm15 an15 cd15 ct15), sl15⟩)
    (c15 : PySem.W.codeIn K cd15 "has_one_text_each" = true)
    (k15 : PySem.W.keepIn K (.ref f15) = true)
    (a16 : PySem.W.nsIn K mainGlobals "check_tree" = some (some (.ref f16)))
    (l16 : K.lookup f16 = some ⟨oc16, od16, .func (PySem.W.fnOf "check_tree" "check_tree" (defArgs sCheckTree) (defBody sCheckTree) (defScope sCheckTree) .none kV16 dc16 pm16 an16 cd16 ct16), sl16⟩)
    (c16 : PySem.W.codeIn K cd16 "check_tree" = true)
    (k16 : PySem.W.keepIn K (.ref f16) = true)
    (a17 : PySem.W.nsIn K mainGlobals "renumbered" = some (some (.ref f17)))
    (l17 : K.lookup f17 = some ⟨oc17, od17, .func (PySem.W.fnOf "renumbered" "renumbered" (defArgs sRenumbered) (defBody sRenumbered) (defScope sRenumbered) .none kV17 dc17 pm17 an17 cd17 ct17), sl17⟩)
    (c17 : PySem.W.codeIn K cd17 "renumbered" = true)
    (k17 : PySem.W.keepIn K (.ref f17) = true)
    (a18 : PySem.W.nsIn K mainGlobals "_is_entry" = some (some (.ref f18)))
    (l18 : K.lookup f18 = some ⟨oc18, od18, .func (PySem.W.fnOf "_is_entry" "_is_entry" (defArgs sIsEntry) (defBody sIsEntry) (defScope sIsEntry) .none kV18 dc18 pm18 an18 cd18 ct18), sl18⟩)
    (c18 : PySem.W.codeIn K cd18 "_is_entry" = true)
    (k18 : PySem.W.keepIn K (.ref f18) = true)
    (a19 : PySem.W.nsIn K mainGlobals "check_layer" = some (some (.ref f19)))
    (l19 : K.lookup f19 = some ⟨oc19, od19, .func (PySem.W.fnOf "check_layer" "check_layer" (defArgs sCheckLayer) (defBody sCheckLayer) (defScope sCheckLayer) .none kV19 dc19 pm19 an19 cd19 ct19), sl19⟩)
    (c19 : PySem.W.codeIn K cd19 "check_layer" = true)
    (k19 : PySem.W.keepIn K (.ref f19) = true)
    (a20 : PySem.W.nsIn K mainGlobals "check_stack" = some (some (.ref f20)))
    (l20 : K.lookup f20 = some ⟨oc20, od20, .func (PySem.W.fnOf "check_stack" "check_stack" (defArgs sCheckStack) (defBody sCheckStack) (defScope sCheckStack) .none kV20 dc20 pm20 an20 cd20 ct20), sl20⟩)
    (c20 : PySem.W.codeIn K cd20 "check_stack" = true)
    (k20 : PySem.W.keepIn K (.ref f20) = true)
    (a21 : PySem.W.nsIn K mainGlobals "apart" = some (some (.ref f21)))
    (l21 : K.lookup f21 = some ⟨oc21, od21, .func (PySem.W.fnOf "apart" "apart" (defArgs sApart) (defBody sApart) (defScope sApart) .none kV21 dc21 pm21 an21 cd21 ct21), sl21⟩)
    (c21 : PySem.W.codeIn K cd21 "apart" = true)
    (k21 : PySem.W.keepIn K (.ref f21) = true)
    (a22 : PySem.W.nsIn K mainGlobals "longest" = some (some (.ref f22)))
    (l22 : K.lookup f22 = some ⟨oc22, od22, .func (PySem.W.fnOf "longest" "longest" (defArgs sLongest) (defBody sLongest) (defScope sLongest) .none kV22 dc22 pm22 an22 cd22 ct22), sl22⟩)
    (c22 : PySem.W.codeIn K cd22 "longest" = true)
    (k22 : PySem.W.keepIn K (.ref f22) = true)
    (a23 : PySem.W.nsIn K mainGlobals "_as_seen" = some (some (.ref f23)))
    (l23 : K.lookup f23 = some ⟨oc23, od23, .func (PySem.W.fnOf "_as_seen" "_as_seen" (defArgs sAsSeen) (defBody sAsSeen) (defScope sAsSeen) .none kV23 dc23 pm23 an23 cd23 ct23), sl23⟩)
    (c23 : PySem.W.codeIn K cd23 "_as_seen" = true)
    (k23 : PySem.W.keepIn K (.ref f23) = true)
    (a24 : PySem.W.nsIn K mainGlobals "laid_over" = some (some (.ref f24)))
    (l24 : K.lookup f24 = some ⟨oc24, od24, .func (PySem.W.fnOf "laid_over" "laid_over" (defArgs sLaidOver) (defBody sLaidOver) (defScope sLaidOver) .none kV24 dc24 pm24 an24 cd24 ct24), sl24⟩)
    (c24 : PySem.W.codeIn K cd24 "laid_over" = true)
    (k24 : PySem.W.keepIn K (.ref f24) = true)
    (a25 : PySem.W.nsIn K mainGlobals "_with_room" = some (some (.ref f25)))
    (l25 : K.lookup f25 = some ⟨oc25, od25, .func (PySem.W.fnOf "_with_room" "_with_room" (defArgs sWithRoom) (defBody sWithRoom) (defScope sWithRoom) .none kV25 dc25 pm25 an25 cd25 ct25), sl25⟩)
    (c25 : PySem.W.codeIn K cd25 "_with_room" = true)
    (k25 : PySem.W.keepIn K (.ref f25) = true)
    (a26 : PySem.W.nsIn K mainGlobals "shown" = some (some (.ref f26)))
    (l26 : K.lookup f26 = some ⟨oc26, od26, .func (PySem.W.fnOf "shown" "shown" (defArgs sShown) (defBody sShown) (defScope sShown) .none kV26 dc26 pm26 an26 cd26 ct26), sl26⟩)
    (c26 : PySem.W.codeIn K cd26 "shown" = true)
    (k26 : PySem.W.keepIn K (.ref f26) = true)
    (a27 : PySem.W.nsIn K mainGlobals "laid" = some (some (.ref f27)))
    (l27 : K.lookup f27 = some ⟨oc27, od27, .func (PySem.W.fnOf "laid" "laid" (defArgs sLaidP) (defBody sLaidP) (defScope sLaidP) .none kV27 dc27 pm27 an27 cd27 ct27), sl27⟩)
    (c27 : PySem.W.codeIn K cd27 "laid" = true)
    (k27 : PySem.W.keepIn K (.ref f27) = true)
    (a28 : PySem.W.nsIn K mainGlobals "_as_looked_at" = some (some (.ref f28)))
    (l28 : K.lookup f28 = some ⟨oc28, od28, .func (PySem.W.fnOf "_as_looked_at" "_as_looked_at" (defArgs sAsLooked) (defBody sAsLooked) (defScope sAsLooked) .none kV28 dc28 pm28 an28 cd28 ct28), sl28⟩)
    (c28 : PySem.W.codeIn K cd28 "_as_looked_at" = true)
    (k28 : PySem.W.keepIn K (.ref f28) = true)
    (a29 : PySem.W.nsIn K mainGlobals "look" = some (some (.ref f29)))
    (l29 : K.lookup f29 = some ⟨oc29, od29, .func (PySem.W.fnOf "look" "look" (defArgs sLook) (defBody sLook) (defScope sLook) .none kV29 dc29 pm29 an29 cd29 ct29), sl29⟩)
    (c29 : PySem.W.codeIn K cd29 "look" = true)
    (k29 : PySem.W.keepIn K (.ref f29) = true)
    (a30 : PySem.W.nsIn K mainGlobals "open_drawers" = some (some (.ref f30)))
    (l30 : K.lookup f30 = some ⟨oc30, od30, .func (PySem.W.fnOf "open_drawers" "open_drawers" (defArgs sOpenDrawers) (defBody sOpenDrawers) (defScope sOpenDrawers) .none kV30 dc30 pm30 an30 cd30 ct30), sl30⟩)
    (c30 : PySem.W.codeIn K cd30 "open_drawers" = true)
    (k30 : PySem.W.keepIn K (.ref f30) = true)
    (a31 : PySem.W.nsIn K mainGlobals "_law_draw" = some (some (.ref f31)))
    (l31 : K.lookup f31 = some ⟨oc31, od31, .func (PySem.W.fnOf "_law_draw" "_law_draw" (defArgs sDraw) (defBody sDraw) (defScope sDraw) .none kV31 dc31 pm31 an31 cd31 ct31), sl31⟩)
    (c31 : PySem.W.codeIn K cd31 "_law_draw" = true)
    (k31 : PySem.W.keepIn K (.ref f31) = true)
    (a32 : PySem.W.nsIn K mainGlobals "_law_pick" = some (some (.ref f32)))
    (l32 : K.lookup f32 = some ⟨oc32, od32, .func (PySem.W.fnOf "_law_pick" "_law_pick" (defArgs sPick) (defBody sPick) (defScope sPick) .none kV32 dc32 pm32 an32 cd32 ct32), sl32⟩)
    (c32 : PySem.W.codeIn K cd32 "_law_pick" = true)
    (k32 : PySem.W.keepIn K (.ref f32) = true)
    (a33 : PySem.W.nsIn K mainGlobals "_law_letter" = some (some (.ref f33)))
    (l33 : K.lookup f33 = some ⟨oc33, od33, .func (PySem.W.fnOf "_law_letter" "_law_letter" (defArgs sLetter) (defBody sLetter) (defScope sLetter) .none kV33 dc33 pm33 an33 cd33 ct33), sl33⟩)
    (c33 : PySem.W.codeIn K cd33 "_law_letter" = true)
    (k33 : PySem.W.keepIn K (.ref f33) = true)
    (a34 : PySem.W.nsIn K mainGlobals "_law_text" = some (some (.ref f34)))
    (l34 : K.lookup f34 = some ⟨oc34, od34, .func (PySem.W.fnOf "_law_text" "_law_text" (defArgs sText) (defBody sText) (defScope sText) .none kV34 dc34 pm34 an34 cd34 ct34), sl34⟩)
    (c34 : PySem.W.codeIn K cd34 "_law_text" = true)
    (k34 : PySem.W.keepIn K (.ref f34) = true)
    (a35 : PySem.W.nsIn K mainGlobals "_law_tree" = some (some (.ref f35)))
    (l35 : K.lookup f35 = some ⟨oc35, od35, .func (PySem.W.fnOf "_law_tree" "_law_tree" (defArgs sTree) (defBody sTree) (defScope sTree) .none kV35 dc35 pm35 an35 cd35 ct35), sl35⟩)
    (c35 : PySem.W.codeIn K cd35 "_law_tree" = true)
    (k35 : PySem.W.keepIn K (.ref f35) = true)
    (a36 : PySem.W.nsIn K mainGlobals "_law_layer" = some (some (.ref f36)))
    (l36 : K.lookup f36 = some ⟨oc36, od36, .func (PySem.W.fnOf "_law_layer" "_law_layer" (defArgs sLayer) (defBody sLayer) (defScope sLayer) .none kV36 dc36 pm36 an36 cd36 ct36), sl36⟩)
    (c36 : PySem.W.codeIn K cd36 "_law_layer" = true)
    (k36 : PySem.W.keepIn K (.ref f36) = true)
    (a37 : PySem.W.nsIn K mainGlobals "_law_no_path" = some (some (.ref f37)))
    (l37 : K.lookup f37 = some ⟨oc37, od37, .func (PySem.W.fnOf "_law_no_path" "_law_no_path" (defArgs sNoPath) (defBody sNoPath) (defScope sNoPath) .none kV37 dc37 pm37 an37 cd37 ct37), sl37⟩)
    (c37 : PySem.W.codeIn K cd37 "_law_no_path" = true)
    (k37 : PySem.W.keepIn K (.ref f37) = true)
    (a38 : PySem.W.nsIn K mainGlobals "_law_no_tree" = some (some (.ref f38)))
    (l38 : K.lookup f38 = some ⟨oc38, od38, .func (PySem.W.fnOf "_law_no_tree" "_law_no_tree" (defArgs sNoTree) (defBody sNoTree) (defScope sNoTree) .none kV38 dc38 pm38 an38 cd38 ct38), sl38⟩)
    (c38 : PySem.W.codeIn K cd38 "_law_no_tree" = true)
    (k38 : PySem.W.keepIn K (.ref f38) = true)
    (a39 : PySem.W.nsIn K mainGlobals "_law_no_layer" = some (some (.ref f39)))
    (l39 : K.lookup f39 = some ⟨oc39, od39, .func (PySem.W.fnOf "_law_no_layer" "_law_no_layer" (defArgs sNoLayer) (defBody sNoLayer) (defScope sNoLayer) .none kV39 dc39 pm39 an39 cd39 ct39), sl39⟩)
    (c39 : PySem.W.codeIn K cd39 "_law_no_layer" = true)
    (k39 : PySem.W.keepIn K (.ref f39) = true)
    (a40 : PySem.W.nsIn K mainGlobals "_law_which" = some (some (.ref f40)))
    (l40 : K.lookup f40 = some ⟨oc40, od40, .func (PySem.W.fnOf "_law_which" "_law_which" (defArgs sWhich) (defBody sWhich) (defScope sWhich) .none kV40 dc40 pm40 an40 cd40 ct40), sl40⟩)
    (c40 : PySem.W.codeIn K cd40 "_law_which" = true)
    (k40 : PySem.W.keepIn K (.ref f40) = true)
    (a41 : PySem.W.nsIn K mainGlobals "_law_wide" = some (some (.ref f41)))
    (l41 : K.lookup f41 = some ⟨oc41, od41, .func (PySem.W.fnOf "_law_wide" "_law_wide" (defArgs sWide) (defBody sWide) (defScope sWide) .none kV41 dc41 pm41 an41 cd41 ct41), sl41⟩)
    (c41 : PySem.W.codeIn K cd41 "_law_wide" = true)
    (k41 : PySem.W.keepIn K (.ref f41) = true)
    (a42 : PySem.W.nsIn K mainGlobals "_law_ask" = some (some (.ref f42)))
    (l42 : K.lookup f42 = some ⟨oc42, od42, .func (PySem.W.fnOf "_law_ask" "_law_ask" (defArgs sAsk) (defBody sAsk) (defScope sAsk) .none kV42 dc42 pm42 an42 cd42 ct42), sl42⟩)
    (c42 : PySem.W.codeIn K cd42 "_law_ask" = true)
    (k42 : PySem.W.keepIn K (.ref f42) = true)
    (a43 : PySem.W.nsIn K mainGlobals "law" = some (some (.ref fa)))
    (l43 : K.lookup fa = some ⟨oc43, od43, .func (PySem.W.fnOf "law" "law" (defArgs sLaw) (defBody sLaw) (defScope sLaw) .none kV43 dc43 pm43 an43 cd43 ct43), sl43⟩)
    (c43 : PySem.W.codeIn K cd43 "law" = true)
    (k43 : PySem.W.keepIn K (.ref fa) = true)
    (u1 : K.lookup cP1 = some ⟨xo1, xd1, .fields xv1, xs1⟩)
    (i1 : (xv1[11]? : Option Value) = some (.ref P1))
    (u2 : K.lookup cP2 = some ⟨xo2, xd2, .fields xv2, xs2⟩)
    (i2 : (xv2[11]? : Option Value) = some (.ref P2))
    (u3 : K.lookup cP3 = some ⟨xo3, xd3, .fields xv3, xs3⟩)
    (i3 : (xv3[11]? : Option Value) = some (.ref P3))
    (u4 : K.lookup cP4 = some ⟨xo4, xd4, .fields xv4, xs4⟩)
    (i4 : (xv4[11]? : Option Value) = some (.ref P4))
    (u5 : K.lookup cP5 = some ⟨xo5, xd5, .fields xv5, xs5⟩)
    (i5 : (xv5[11]? : Option Value) = some (.ref P5))
    (u6 : K.lookup cP6 = some ⟨xo6, xd6, .fields xv6, xs6⟩)
    (i6 : (xv6[11]? : Option Value) = some (.ref P6))
    (u7 : K.lookup cP7 = some ⟨xo7, xd7, .fields xv7, xs7⟩)
    (i7 : (xv7[11]? : Option Value) = some (.ref P7))
    (u8 : K.lookup cP8 = some ⟨xo8, xd8, .fields xv8, xs8⟩)
    (i8 : (xv8[11]? : Option Value) = some (.ref P8))
    (z_isinstance : PySem.W.nsIn K mainGlobals "isinstance" = some none)
    (z_str : PySem.W.nsIn K mainGlobals "str" = some none)
    (z_tuple : PySem.W.nsIn K mainGlobals "tuple" = some none)
    (z_len : PySem.W.nsIn K mainGlobals "len" = some none)
    (z_all : PySem.W.nsIn K mainGlobals "all" = some none)
    (z_range : PySem.W.nsIn K mainGlobals "range" = some none)
    (z_int : PySem.W.nsIn K mainGlobals "int" = some none)
    (z_bool : PySem.W.nsIn K mainGlobals "bool" = some none)
    (z_dict : PySem.W.nsIn K mainGlobals "dict" = some none)
    (z_list : PySem.W.nsIn K mainGlobals "list" = some none)
    (z_sorted : PySem.W.nsIn K mainGlobals "sorted" = some none)
    (z_reversed : PySem.W.nsIn K mainGlobals "reversed" = some none)
    (z_ValueError : PySem.W.nsIn K mainGlobals "ValueError" = some none)
    (h_LETTERS : PySem.W.nsIn K mainGlobals "LETTERS" = some (some (.str lettersS g1)))
    (h_MOST_LETTERS : PySem.W.nsIn K mainGlobals "MOST_LETTERS" = some (some (.int 4 g2)))
    (h_MOST_NAMES : PySem.W.nsIn K mainGlobals "MOST_NAMES" = some (some (.int 5 g3)))
    (h_SIGNS : PySem.W.nsIn K mainGlobals "SIGNS" = some (some (.str signsS g4)))
    (h_MOST_SIGNS : PySem.W.nsIn K mainGlobals "MOST_SIGNS" = some (some (.int 40 g5)))
    (h_LAST_NUMBER : PySem.W.nsIn K mainGlobals "LAST_NUMBER" = some (some (.int 999 g6)))
    (h_MOST_ENTRIES : PySem.W.nsIn K mainGlobals "MOST_ENTRIES" = some (some (.int 40 g7)))
    (h_MOST_PATHS : PySem.W.nsIn K mainGlobals "MOST_PATHS" = some (some (.int 80 g9)))
    (h_MOST_LAYERS : PySem.W.nsIn K mainGlobals "MOST_LAYERS" = some (some (.int 4 g8)))
    (r01 : PySem.W.nsIn K mainGlobals "NoPath" = some (some (.ref C0)))
    (r02 : PySem.W.excIn K C0 [.type "ValueError", .type "Exception", .type "BaseException", .type "object"] "ValueError.__new__" = true)
    (r03 : PySem.W.keepIn K (.ref C0) = true)
    (r04 : PySem.W.subIn K (.ref C0) (.type "BaseException") = some true)
    (r05 : PySem.W.typeIn K (.ref C0) = some (.type "type"))
    (r21 : PySem.W.nsIn K mainGlobals "NoTree" = some (some (.ref C2)))
    (r22 : PySem.W.excIn K C2 [.type "ValueError", .type "Exception", .type "BaseException", .type "object"] "ValueError.__new__" = true)
    (r23 : PySem.W.keepIn K (.ref C2) = true)
    (r24 : PySem.W.subIn K (.ref C2) (.type "BaseException") = some true)
    (r25 : PySem.W.typeIn K (.ref C2) = some (.type "type"))
    (r31 : PySem.W.nsIn K mainGlobals "NoLayer" = some (some (.ref C3)))
    (r32 : PySem.W.excIn K C3 [.type "ValueError", .type "Exception", .type "BaseException", .type "object"] "ValueError.__new__" = true)
    (r33 : PySem.W.keepIn K (.ref C3) = true)
    (r34 : PySem.W.subIn K (.ref C3) (.type "BaseException") = some true)
    (r35 : PySem.W.typeIn K (.ref C3) = some (.type "type"))
    (r41 : PySem.W.nsIn K mainGlobals "NoStack" = some (some (.ref C4)))
    (r42 : PySem.W.excIn K C4 [.type "ValueError", .type "Exception", .type "BaseException", .type "object"] "ValueError.__new__" = true)
    (r43 : PySem.W.keepIn K (.ref C4) = true)
    (r44 : PySem.W.subIn K (.ref C4) (.type "BaseException") = some true)
    (r45 : PySem.W.typeIn K (.ref C4) = some (.type "type"))
    (r151 : PySem.W.nsIn K mainGlobals "Full" = some (some (.ref C15)))
    (r152 : PySem.W.excIn K C15 [.type "ValueError", .type "Exception", .type "BaseException", .type "object"] "ValueError.__new__" = true)
    (r153 : PySem.W.keepIn K (.ref C15) = true)
    (r154 : PySem.W.subIn K (.ref C15) (.type "BaseException") = some true)
    (r155 : PySem.W.typeIn K (.ref C15) = some (.type "type"))
    (x_NoText : PySem.W.nsIn K mainGlobals "NoText" = some (some (.ref C1)))
    (x_NoHandle : PySem.W.nsIn K mainGlobals "NoHandle" = some (some (.ref C5)))
    (x_NoPower : PySem.W.nsIn K mainGlobals "NoPower" = some (some (.ref C6)))
    (x_Root : PySem.W.nsIn K mainGlobals "Root" = some (some (.ref C7)))
    (x_NotThere : PySem.W.nsIn K mainGlobals "NotThere" = some (some (.ref C8)))
    (x_NoDrawer : PySem.W.nsIn K mainGlobals "NoDrawer" = some (some (.ref C9)))
    (x_IsDrawer : PySem.W.nsIn K mainGlobals "IsDrawer" = some (some (.ref C10)))
    (x_Taken : PySem.W.nsIn K mainGlobals "Taken" = some (some (.ref C11)))
    (x_NotEmpty : PySem.W.nsIn K mainGlobals "NotEmpty" = some (some (.ref C12)))
    (x_Within : PySem.W.nsIn K mainGlobals "Within" = some (some (.ref C13)))
    (x_TooLong : PySem.W.nsIn K mainGlobals "TooLong" = some (some (.ref C14)))
    (x_Dark : PySem.W.nsIn K mainGlobals "Dark" = some (some (.ref C16)))
    (xc0a : PySem.W.findIn K (.ref C0) "__getattribute__" = some (some (.builtin "BaseException.__getattribute__")))
    (xc0b : PySem.W.findIn K (.ref C0) "__getattr__" = some none)
    (xc0c : PySem.W.hasDictIn K C0 = true)
    (xc0d : PySem.W.findIn K (.ref C0) "__class__" = some (some (.builtin "object.__class__")))
    (xc0e : PySem.W.mroIn K C0 (.type "object") = some true)
    (xc2a : PySem.W.findIn K (.ref C2) "__getattribute__" = some (some (.builtin "BaseException.__getattribute__")))
    (xc2b : PySem.W.findIn K (.ref C2) "__getattr__" = some none)
    (xc2c : PySem.W.hasDictIn K C2 = true)
    (xc2d : PySem.W.findIn K (.ref C2) "__class__" = some (some (.builtin "object.__class__")))
    (xc2e : PySem.W.mroIn K C2 (.type "object") = some true)
    (xc3a : PySem.W.findIn K (.ref C3) "__getattribute__" = some (some (.builtin "BaseException.__getattribute__")))
    (xc3b : PySem.W.findIn K (.ref C3) "__getattr__" = some none)
    (xc3c : PySem.W.hasDictIn K C3 = true)
    (xc3d : PySem.W.findIn K (.ref C3) "__class__" = some (some (.builtin "object.__class__")))
    (xc3e : PySem.W.mroIn K C3 (.type "object") = some true)
    (xc4a : PySem.W.findIn K (.ref C4) "__getattribute__" = some (some (.builtin "BaseException.__getattribute__")))
    (xc4b : PySem.W.findIn K (.ref C4) "__getattr__" = some none)
    (xc4c : PySem.W.hasDictIn K C4 = true)
    (xc4d : PySem.W.findIn K (.ref C4) "__class__" = some (some (.builtin "object.__class__")))
    (xc4e : PySem.W.mroIn K C4 (.type "object") = some true)
    (xc15a : PySem.W.findIn K (.ref C15) "__getattribute__" = some (some (.builtin "BaseException.__getattribute__")))
    (xc15b : PySem.W.findIn K (.ref C15) "__getattr__" = some none)
    (xc15c : PySem.W.hasDictIn K C15 = true)
    (xc15d : PySem.W.findIn K (.ref C15) "__class__" = some (some (.builtin "object.__class__")))
    (xc15e : PySem.W.mroIn K C15 (.type "object") = some true)
    (gs1 : PySem.W.specialIn K (.builtin "object.__class__") "__get__" = some (some (.builtin "getset_descriptor.__get__")))
    (gs2 : PySem.W.takesIn K (.builtin "object.__class__") = some true)
    (kit0_0 : PySem.W.kitOne K (.ref C0) (.ref C0) = some true)
    (kit0_1 : PySem.W.kitOne K (.ref C0) (.ref C1) = some false)
    (kit0_2 : PySem.W.kitOne K (.ref C0) (.ref C2) = some false)
    (kit0_3 : PySem.W.kitOne K (.ref C0) (.ref C3) = some false)
    (kit0_4 : PySem.W.kitOne K (.ref C0) (.ref C4) = some false)
    (kit0_5 : PySem.W.kitOne K (.ref C0) (.ref C5) = some false)
    (kit0_6 : PySem.W.kitOne K (.ref C0) (.ref C6) = some false)
    (kit0_7 : PySem.W.kitOne K (.ref C0) (.ref C7) = some false)
    (kit0_8 : PySem.W.kitOne K (.ref C0) (.ref C8) = some false)
    (kit0_9 : PySem.W.kitOne K (.ref C0) (.ref C9) = some false)
    (kit0_10 : PySem.W.kitOne K (.ref C0) (.ref C10) = some false)
    (kit0_11 : PySem.W.kitOne K (.ref C0) (.ref C11) = some false)
    (kit0_12 : PySem.W.kitOne K (.ref C0) (.ref C12) = some false)
    (kit0_13 : PySem.W.kitOne K (.ref C0) (.ref C13) = some false)
    (kit0_14 : PySem.W.kitOne K (.ref C0) (.ref C14) = some false)
    (kit0_15 : PySem.W.kitOne K (.ref C0) (.ref C15) = some false)
    (kit0_16 : PySem.W.kitOne K (.ref C0) (.ref C16) = some false)
    (kitV0 : PySem.W.kitOne K (.ref C0) (.type "ValueError") = some true)
    (kit2_0 : PySem.W.kitOne K (.ref C2) (.ref C0) = some false)
    (kit2_1 : PySem.W.kitOne K (.ref C2) (.ref C1) = some false)
    (kit2_2 : PySem.W.kitOne K (.ref C2) (.ref C2) = some true)
    (kit2_3 : PySem.W.kitOne K (.ref C2) (.ref C3) = some false)
    (kit2_4 : PySem.W.kitOne K (.ref C2) (.ref C4) = some false)
    (kit2_5 : PySem.W.kitOne K (.ref C2) (.ref C5) = some false)
    (kit2_6 : PySem.W.kitOne K (.ref C2) (.ref C6) = some false)
    (kit2_7 : PySem.W.kitOne K (.ref C2) (.ref C7) = some false)
    (kit2_8 : PySem.W.kitOne K (.ref C2) (.ref C8) = some false)
    (kit2_9 : PySem.W.kitOne K (.ref C2) (.ref C9) = some false)
    (kit2_10 : PySem.W.kitOne K (.ref C2) (.ref C10) = some false)
    (kit2_11 : PySem.W.kitOne K (.ref C2) (.ref C11) = some false)
    (kit2_12 : PySem.W.kitOne K (.ref C2) (.ref C12) = some false)
    (kit2_13 : PySem.W.kitOne K (.ref C2) (.ref C13) = some false)
    (kit2_14 : PySem.W.kitOne K (.ref C2) (.ref C14) = some false)
    (kit2_15 : PySem.W.kitOne K (.ref C2) (.ref C15) = some false)
    (kit2_16 : PySem.W.kitOne K (.ref C2) (.ref C16) = some false)
    (kitV2 : PySem.W.kitOne K (.ref C2) (.type "ValueError") = some true)
    (kit3_0 : PySem.W.kitOne K (.ref C3) (.ref C0) = some false)
    (kit3_1 : PySem.W.kitOne K (.ref C3) (.ref C1) = some false)
    (kit3_2 : PySem.W.kitOne K (.ref C3) (.ref C2) = some false)
    (kit3_3 : PySem.W.kitOne K (.ref C3) (.ref C3) = some true)
    (kit3_4 : PySem.W.kitOne K (.ref C3) (.ref C4) = some false)
    (kit3_5 : PySem.W.kitOne K (.ref C3) (.ref C5) = some false)
    (kit3_6 : PySem.W.kitOne K (.ref C3) (.ref C6) = some false)
    (kit3_7 : PySem.W.kitOne K (.ref C3) (.ref C7) = some false)
    (kit3_8 : PySem.W.kitOne K (.ref C3) (.ref C8) = some false)
    (kit3_9 : PySem.W.kitOne K (.ref C3) (.ref C9) = some false)
    (kit3_10 : PySem.W.kitOne K (.ref C3) (.ref C10) = some false)
    (kit3_11 : PySem.W.kitOne K (.ref C3) (.ref C11) = some false)
    (kit3_12 : PySem.W.kitOne K (.ref C3) (.ref C12) = some false)
    (kit3_13 : PySem.W.kitOne K (.ref C3) (.ref C13) = some false)
    (kit3_14 : PySem.W.kitOne K (.ref C3) (.ref C14) = some false)
    (kit3_15 : PySem.W.kitOne K (.ref C3) (.ref C15) = some false)
    (kit3_16 : PySem.W.kitOne K (.ref C3) (.ref C16) = some false)
    (kitV3 : PySem.W.kitOne K (.ref C3) (.type "ValueError") = some true)
    (kit4_0 : PySem.W.kitOne K (.ref C4) (.ref C0) = some false)
    (kit4_1 : PySem.W.kitOne K (.ref C4) (.ref C1) = some false)
    (kit4_2 : PySem.W.kitOne K (.ref C4) (.ref C2) = some false)
    (kit4_3 : PySem.W.kitOne K (.ref C4) (.ref C3) = some false)
    (kit4_4 : PySem.W.kitOne K (.ref C4) (.ref C4) = some true)
    (kit4_5 : PySem.W.kitOne K (.ref C4) (.ref C5) = some false)
    (kit4_6 : PySem.W.kitOne K (.ref C4) (.ref C6) = some false)
    (kit4_7 : PySem.W.kitOne K (.ref C4) (.ref C7) = some false)
    (kit4_8 : PySem.W.kitOne K (.ref C4) (.ref C8) = some false)
    (kit4_9 : PySem.W.kitOne K (.ref C4) (.ref C9) = some false)
    (kit4_10 : PySem.W.kitOne K (.ref C4) (.ref C10) = some false)
    (kit4_11 : PySem.W.kitOne K (.ref C4) (.ref C11) = some false)
    (kit4_12 : PySem.W.kitOne K (.ref C4) (.ref C12) = some false)
    (kit4_13 : PySem.W.kitOne K (.ref C4) (.ref C13) = some false)
    (kit4_14 : PySem.W.kitOne K (.ref C4) (.ref C14) = some false)
    (kit4_15 : PySem.W.kitOne K (.ref C4) (.ref C15) = some false)
    (kit4_16 : PySem.W.kitOne K (.ref C4) (.ref C16) = some false)
    (kitV4 : PySem.W.kitOne K (.ref C4) (.type "ValueError") = some true)
    (kit15_0 : PySem.W.kitOne K (.ref C15) (.ref C0) = some false)
    (kit15_1 : PySem.W.kitOne K (.ref C15) (.ref C1) = some false)
    (kit15_2 : PySem.W.kitOne K (.ref C15) (.ref C2) = some false)
    (kit15_3 : PySem.W.kitOne K (.ref C15) (.ref C3) = some false)
    (kit15_4 : PySem.W.kitOne K (.ref C15) (.ref C4) = some false)
    (kit15_5 : PySem.W.kitOne K (.ref C15) (.ref C5) = some false)
    (kit15_6 : PySem.W.kitOne K (.ref C15) (.ref C6) = some false)
    (kit15_7 : PySem.W.kitOne K (.ref C15) (.ref C7) = some false)
    (kit15_8 : PySem.W.kitOne K (.ref C15) (.ref C8) = some false)
    (kit15_9 : PySem.W.kitOne K (.ref C15) (.ref C9) = some false)
    (kit15_10 : PySem.W.kitOne K (.ref C15) (.ref C10) = some false)
    (kit15_11 : PySem.W.kitOne K (.ref C15) (.ref C11) = some false)
    (kit15_12 : PySem.W.kitOne K (.ref C15) (.ref C12) = some false)
    (kit15_13 : PySem.W.kitOne K (.ref C15) (.ref C13) = some false)
    (kit15_14 : PySem.W.kitOne K (.ref C15) (.ref C14) = some false)
    (kit15_15 : PySem.W.kitOne K (.ref C15) (.ref C15) = some true)
    (kit15_16 : PySem.W.kitOne K (.ref C15) (.ref C16) = some false)
    (kitV15 : PySem.W.kitOne K (.ref C15) (.type "ValueError") = some true)
    (te1 : PySem.W.nsIn K mainGlobals "TreeError" = some (some (.ref T)))
    (te2_0 : PySem.W.exmOne K (.ref C0) (.ref T) = some true)
    (te2_2 : PySem.W.exmOne K (.ref C2) (.ref T) = some true)
    (te2_3 : PySem.W.exmOne K (.ref C3) (.ref T) = some true)
    (te2_4 : PySem.W.exmOne K (.ref C4) (.ref T) = some true)
    (te2_15 : PySem.W.exmOne K (.ref C15) (.ref T) = some true)
    (hDR : PySem.W.nsIn K mainGlobals "DRAWER" = some (some (.ref aDR)))
    (lDR : K.lookup aDR = some ⟨.type "tuple", oDR, .seq #[.str "drawer" gDR] nDR, sDR⟩)
    (hGO : PySem.W.nsIn K mainGlobals "GONE" = some (some (.ref aGO)))
    (lGO : K.lookup aGO = some ⟨.type "tuple", oGO, .seq #[.str "gone" gGO] nGO, sGO⟩)
    (hSE : PySem.W.nsIn K mainGlobals "SEE_THROUGH" = some (some (.ref aSE)))
    (lSE : K.lookup aSE = some ⟨.type "tuple", oSE, .seq #[.str "drawer" gSE, .bool false] nSE, sSE⟩)
    (nt : PySem.W.noTabs K = true)
    {dr1 : DefRec} (r1 : (recsOf q).find? (fun e => e.name == ("is_name" : Str)) = some dr1)
    {dr2 : DefRec} (r2 : (recsOf q).find? (fun e => e.name == ("is_path" : Str)) = some dr2)
    {dr3 : DefRec} (r3 : (recsOf q).find? (fun e => e.name == ("is_text" : Str)) = some dr3)
    {dr4 : DefRec} (r4 : (recsOf q).find? (fun e => e.name == ("has_drawers_above" : Str)) = some dr4)
    {dr5 : DefRec} (r5 : (recsOf q).find? (fun e => e.name == ("is_tree" : Str)) = some dr5)
    {dr6 : DefRec} (r6 : (recsOf q).find? (fun e => e.name == ("is_layer" : Str)) = some dr6)
    {dr7 : DefRec} (r7 : (recsOf q).find? (fun e => e.name == ("lets_through" : Str)) = some dr7)
    {dr8 : DefRec} (r8 : (recsOf q).find? (fun e => e.name == ("is_stack" : Str)) = some dr8)
    : LamX.LawAtS l w K (fun _ _ _ _ _ _ => False) 15 63 "_law_script" mg fz h := by
  have e := hfa.symm.trans (PySem.W.mg_of X G a43)
  cases e
  obtain ⟨q1, w1⟩ := TT _ _ _ _ r1 (tab_in a0 l0 u1 i1)
  have F0 : FunC K "is_name" "is_name" sIsName f0 _ cP1 := ⟨⟨_, _, _, _, _, _, _, _, rfl, l0, c0⟩, k0⟩
  have b0 := F0.fn.binds (ps := ["thing"]) fun _ _ _ _ _ _ us hl => match us, hl with | [_], _ => rfl
  have m0 := PySem.W.mg_of X G a0
  obtain ⟨q2, w2⟩ := TT _ _ _ _ r2 (tab_in a1 l1 u2 i2)
  have F1 : FunC K "is_path" "is_path" sIsPath f1 _ cP2 := ⟨⟨_, _, _, _, _, _, _, _, rfl, l1, c1⟩, k1⟩
  have b1 := F1.fn.binds (ps := ["thing"]) fun _ _ _ _ _ _ us hl => match us, hl with | [_], _ => rfl
  have m1 := PySem.W.mg_of X G a1
  obtain ⟨q3, w3⟩ := TT _ _ _ _ r3 (tab_in a2 l2 u3 i3)
  have F2 : FunC K "is_text" "is_text" sIsText f2 _ cP3 := ⟨⟨_, _, _, _, _, _, _, _, rfl, l2, c2⟩, k2⟩
  have b2 := F2.fn.binds (ps := ["thing"]) fun _ _ _ _ _ _ us hl => match us, hl with | [_], _ => rfl
  have m2 := PySem.W.mg_of X G a2
  obtain ⟨q4, w4⟩ := TT _ _ _ _ r4 (tab_in a3 l3 u4 i4)
  have F3 : FunC K "has_drawers_above" "has_drawers_above" sHasDrawers f3 _ cP4 := ⟨⟨_, _, _, _, _, _, _, _, rfl, l3, c3⟩, k3⟩
  have b3 := F3.fn.binds (ps := ["tree"]) fun _ _ _ _ _ _ us hl => match us, hl with | [_], _ => rfl
  have m3 := PySem.W.mg_of X G a3
  obtain ⟨q5, w5⟩ := TT _ _ _ _ r5 (tab_in a4 l4 u5 i5)
  have F4 : FunC K "is_tree" "is_tree" sIsTree f4 _ cP5 := ⟨⟨_, _, _, _, _, _, _, _, rfl, l4, c4⟩, k4⟩
  have b4 := F4.fn.binds (ps := ["thing"]) fun _ _ _ _ _ _ us hl => match us, hl with | [_], _ => rfl
  have m4 := PySem.W.mg_of X G a4
  obtain ⟨q6, w6⟩ := TT _ _ _ _ r6 (tab_in a5 l5 u6 i6)
  have F5 : FunC K "is_layer" "is_layer" sIsLayer f5 _ cP6 := ⟨⟨_, _, _, _, _, _, _, _, rfl, l5, c5⟩, k5⟩
  have b5 := F5.fn.binds (ps := ["thing"]) fun _ _ _ _ _ _ us hl => match us, hl with | [_], _ => rfl
  have m5 := PySem.W.mg_of X G a5
  obtain ⟨q7, w7⟩ := TT _ _ _ _ r7 (tab_in a6 l6 u7 i7)
  have F6 : FunC K "lets_through" "lets_through" sLetsThrough f6 _ cP7 := ⟨⟨_, _, _, _, _, _, _, _, rfl, l6, c6⟩, k6⟩
  have b6 := F6.fn.binds (ps := ["layer", "path"]) fun _ _ _ _ _ _ us hl => match us, hl with | [_, _], _ => rfl
  have m6 := PySem.W.mg_of X G a6
  obtain ⟨q8, w8⟩ := TT _ _ _ _ r8 (tab_in a7 l7 u8 i8)
  have F7 : FunC K "is_stack" "is_stack" sIsStack f7 _ cP8 := ⟨⟨_, _, _, _, _, _, _, _, rfl, l7, c7⟩, k7⟩
  have b7 := F7.fn.binds (ps := ["thing"]) fun _ _ _ _ _ _ us hl => match us, hl with | [_], _ => rfl
  have m7 := PySem.W.mg_of X G a7
  have F8 := fun_mk (st := sCheckPath) l8 c8 k8
  have b8 := F8.binds (ps := ["thing"]) fun _ _ _ _ _ _ us hl => match us, hl with | [_], _ => rfl
  have m8 := PySem.W.mg_of X G a8
  have F9 := fun_mk (st := sAbove) l9 c9 k9
  have b9 := F9.binds (ps := ["path"]) fun _ _ _ _ _ _ us hl => match us, hl with | [_], _ => rfl
  have m9 := PySem.W.mg_of X G a9
  have F10 := fun_mk (st := sBeginnings) l10 c10 k10
  have b10 := F10.binds (ps := ["path"]) fun _ _ _ _ _ _ us hl => match us, hl with | [_], _ => rfl
  have m10 := PySem.W.mg_of X G a10
  have F11 := fun_mk (st := sIsNumber) l11 c11 k11
  have b11 := F11.binds (ps := ["thing"]) fun _ _ _ _ _ _ us hl => match us, hl with | [_], _ => rfl
  have m11 := PySem.W.mg_of X G a11
  have F12 := fun_mk (st := sIsKind) l12 c12 k12
  have b12 := F12.binds (ps := ["thing", "word", "many"]) fun _ _ _ _ _ _ us hl => match us, hl with | [_, _, _], _ => rfl
  have m12 := PySem.W.mg_of X G a12
  have F13 := fun_mk (st := sIsDrawer) l13 c13 k13
  have b13 := F13.binds (ps := ["thing"]) fun _ _ _ _ _ _ us hl => match us, hl with | [_], _ => rfl
  have m13 := PySem.W.mg_of X G a13
  have F14 := fun_mk (st := sIsFile) l14 c14 k14
  have b14 := F14.binds (ps := ["thing"]) fun _ _ _ _ _ _ us hl => match us, hl with | [_], _ => rfl
  have m14 := PySem.W.mg_of X G a14
  have F15 := fun_mk (st := sHasOneText) l15 c15 k15
  have b15 := F15.binds (ps := ["things"]) fun _ _ _ _ _ _ us hl => match us, hl with | [_], _ => rfl
  have m15 := PySem.W.mg_of X G a15
  have F16 := fun_mk (st := sCheckTree) l16 c16 k16
  have b16 := F16.binds (ps := ["thing"]) fun _ _ _ _ _ _ us hl => match us, hl with | [_], _ => rfl
  have m16 := PySem.W.mg_of X G a16
  have F17 := fun_mk (st := sRenumbered) l17 c17 k17
  have b17 := F17.binds (ps := ["tree"]) fun _ _ _ _ _ _ us hl => match us, hl with | [_], _ => rfl
  have m17 := PySem.W.mg_of X G a17
  have F18 := fun_mk (st := sIsEntry) l18 c18 k18
  have b18 := F18.binds (ps := ["thing"]) fun _ _ _ _ _ _ us hl => match us, hl with | [_], _ => rfl
  have m18 := PySem.W.mg_of X G a18
  have F19 := fun_mk (st := sCheckLayer) l19 c19 k19
  have b19 := F19.binds (ps := ["thing"]) fun _ _ _ _ _ _ us hl => match us, hl with | [_], _ => rfl
  have m19 := PySem.W.mg_of X G a19
  have F20 := fun_mk (st := sCheckStack) l20 c20 k20
  have b20 := F20.binds (ps := ["thing"]) fun _ _ _ _ _ _ us hl => match us, hl with | [_], _ => rfl
  have m20 := PySem.W.mg_of X G a20
  have F21 := fun_mk (st := sApart) l21 c21 k21
  have b21 := F21.binds (ps := ["thing"]) fun _ _ _ _ _ _ us hl => match us, hl with | [_], _ => rfl
  have m21 := PySem.W.mg_of X G a21
  have F22 := fun_mk (st := sLongest) l22 c22 k22
  have b22 := F22.binds (ps := ["layer", "path"]) fun _ _ _ _ _ _ us hl => match us, hl with | [_, _], _ => rfl
  have m22 := PySem.W.mg_of X G a22
  have F23 := fun_mk (st := sAsSeen) l23 c23 k23
  have b23 := F23.binds (ps := ["entry"]) fun _ _ _ _ _ _ us hl => match us, hl with | [_], _ => rfl
  have m23 := PySem.W.mg_of X G a23
  have F24 := fun_mk (st := sLaidOver) l24 c24 k24
  have b24 := F24.binds (ps := ["layer", "tree"]) fun _ _ _ _ _ _ us hl => match us, hl with | [_, _], _ => rfl
  have m24 := PySem.W.mg_of X G a24
  have F25 := fun_mk (st := sWithRoom) l25 c25 k25
  have b25 := F25.binds (ps := ["tree"]) fun _ _ _ _ _ _ us hl => match us, hl with | [_], _ => rfl
  have m25 := PySem.W.mg_of X G a25
  have F26 := fun_mk (st := sShown) l26 c26 k26
  have b26 := F26.binds (ps := ["layer", "tree"]) fun _ _ _ _ _ _ us hl => match us, hl with | [_, _], _ => rfl
  have m26 := PySem.W.mg_of X G a26
  have F27 := fun_mk (st := sLaidP) l27 c27 k27
  have b27 := F27.binds (ps := ["stack"]) fun _ _ _ _ _ _ us hl => match us, hl with | [_], _ => rfl
  have m27 := PySem.W.mg_of X G a27
  have F28 := fun_mk (st := sAsLooked) l28 c28 k28
  have b28 := F28.binds (ps := ["entry"]) fun _ _ _ _ _ _ us hl => match us, hl with | [_], _ => rfl
  have m28 := PySem.W.mg_of X G a28
  have F29 := fun_mk (st := sLook) l29 c29 k29
  have b29 := F29.binds (ps := ["stack", "path"]) fun _ _ _ _ _ _ us hl => match us, hl with | [_, _], _ => rfl
  have m29 := PySem.W.mg_of X G a29
  have F30 := fun_mk (st := sOpenDrawers) l30 c30 k30
  have b30 := F30.binds (ps := ["layer", "tree"]) fun _ _ _ _ _ _ us hl => match us, hl with | [_, _], _ => rfl
  have m30 := PySem.W.mg_of X G a30
  have F31 := fun_mk (st := sDraw) l31 c31 k31
  have b31 := F31.binds (ps := ["_law_script", "_law_town", "_law_many"]) fun _ _ _ _ _ _ us hl => match us, hl with | [_, _, _], _ => rfl
  have m31 := PySem.W.mg_of X G a31
  have F32 := fun_mk (st := sPick) l32 c32 k32
  have b32 := F32.binds (ps := ["_law_script", "_law_town", "_law_some"]) fun _ _ _ _ _ _ us hl => match us, hl with | [_, _, _], _ => rfl
  have m32 := PySem.W.mg_of X G a32
  have F33 := fun_mk (st := sLetter) l33 c33 k33
  have b33 := F33.binds (ps := ["_law_script", "_law_town"]) fun _ _ _ _ _ _ us hl => match us, hl with | [_, _], _ => rfl
  have m33 := PySem.W.mg_of X G a33
  have F34 := fun_mk (st := sText) l34 c34 k34
  have b34 := F34.binds (ps := ["_law_script", "_law_town"]) fun _ _ _ _ _ _ us hl => match us, hl with | [_, _], _ => rfl
  have m34 := PySem.W.mg_of X G a34
  have F35 := fun_mk (st := sTree) l35 c35 k35
  have b35 := F35.binds (ps := ["_law_script", "_law_town", "_law_many"]) fun _ _ _ _ _ _ us hl => match us, hl with | [_, _, _], _ => rfl
  have m35 := PySem.W.mg_of X G a35
  have F36 := fun_mk (st := sLayer) l36 c36 k36
  have b36 := F36.binds (ps := ["_law_script", "_law_town", "_law_many"]) fun _ _ _ _ _ _ us hl => match us, hl with | [_, _, _], _ => rfl
  have m36 := PySem.W.mg_of X G a36
  have F37 := fun_mk (st := sNoPath) l37 c37 k37
  have b37 := F37.binds (ps := ["_law_script", "_law_town"]) fun _ _ _ _ _ _ us hl => match us, hl with | [_, _], _ => rfl
  have m37 := PySem.W.mg_of X G a37
  have F38 := fun_mk (st := sNoTree) l38 c38 k38
  have b38 := F38.binds (ps := ["_law_script", "_law_town"]) fun _ _ _ _ _ _ us hl => match us, hl with | [_, _], _ => rfl
  have m38 := PySem.W.mg_of X G a38
  have F39 := fun_mk (st := sNoLayer) l39 c39 k39
  have b39 := F39.binds (ps := ["_law_script", "_law_town"]) fun _ _ _ _ _ _ us hl => match us, hl with | [_, _], _ => rfl
  have m39 := PySem.W.mg_of X G a39
  have F40 := fun_mk (st := sWhich) l40 c40 k40
  have b40 := F40.binds (ps := ["_law_e"]) fun _ _ _ _ _ _ us hl => match us, hl with | [_], _ => rfl
  have m40 := PySem.W.mg_of X G a40
  have F41 := fun_mk (st := sWide) l41 c41 k41
  have b41 := F41.binds (ps := ["_law_first", "_law_many", "_law_entry"]) fun _ _ _ _ _ _ us hl => match us, hl with | [_, _, _], _ => rfl
  have m41 := PySem.W.mg_of X G a41
  have F42 := fun_mk (st := sAsk) l42 c42 k42
  have b42 := F42.binds (ps := ["_law_what", "_law_one", "_law_other"]) fun _ _ _ _ _ _ us hl => match us, hl with | [_, _, _], _ => rfl
  have m42 := PySem.W.mg_of X G a42
  have F43 := fun_mk (st := sLaw) l43 c43 k43
  have b43 := F43.binds (ps := ["_law_script"]) fun _ _ _ _ _ _ us hl => match us, hl with | [_], _ => rfl
  have m43 := PySem.W.mg_of X G a43
  have n_isinstance := PySem.W.mg_none_of X G z_isinstance
  have n_str := PySem.W.mg_none_of X G z_str
  have n_tuple := PySem.W.mg_none_of X G z_tuple
  have n_len := PySem.W.mg_none_of X G z_len
  have n_all := PySem.W.mg_none_of X G z_all
  have n_range := PySem.W.mg_none_of X G z_range
  have n_int := PySem.W.mg_none_of X G z_int
  have n_bool := PySem.W.mg_none_of X G z_bool
  have n_dict := PySem.W.mg_none_of X G z_dict
  have n_list := PySem.W.mg_none_of X G z_list
  have n_sorted := PySem.W.mg_none_of X G z_sorted
  have n_reversed := PySem.W.mg_none_of X G z_reversed
  have n_ValueError := PySem.W.mg_none_of X G z_ValueError
  have v_LETTERS := PySem.W.mg_of X G h_LETTERS
  have v_MOST_LETTERS := PySem.W.mg_of X G h_MOST_LETTERS
  have v_MOST_NAMES := PySem.W.mg_of X G h_MOST_NAMES
  have v_SIGNS := PySem.W.mg_of X G h_SIGNS
  have v_MOST_SIGNS := PySem.W.mg_of X G h_MOST_SIGNS
  have v_LAST_NUMBER := PySem.W.mg_of X G h_LAST_NUMBER
  have v_MOST_ENTRIES := PySem.W.mg_of X G h_MOST_ENTRIES
  have v_MOST_PATHS := PySem.W.mg_of X G h_MOST_PATHS
  have v_MOST_LAYERS := PySem.W.mg_of X G h_MOST_LAYERS
  have R0 : Ref K mg "NoPath" C0 := ⟨PySem.W.mg_of X G r01, r02, r03, r04, r05⟩
  have R2 : Ref K mg "NoTree" C2 := ⟨PySem.W.mg_of X G r21, r22, r23, r24, r25⟩
  have R3 : Ref K mg "NoLayer" C3 := ⟨PySem.W.mg_of X G r31, r32, r33, r34, r35⟩
  have R4 : Ref K mg "NoStack" C4 := ⟨PySem.W.mg_of X G r41, r42, r43, r44, r45⟩
  have R15 : Ref K mg "Full" C15 := ⟨PySem.W.mg_of X G r151, r152, r153, r154, r155⟩
  refine ⟨PySem.W.fnOf "law" "law" (defArgs sLaw) (defBody sLaw) (defScope sLaw) .none kV43 dc43 pm43 an43 cd43 ct43, [(cP1, P1), (cP2, P2), (cP3, P3), (cP4, P4), (cP5, P5), (cP6, P6), (cP7, P7), (cP8, P8)], spLaw K P1 P2 P3 P4 P5 P6 P7 P8, ?_, ?_, ?_, fun s v => .of_eq rfl, ?_, ?_⟩
  · intro p hp
    simp only [List.mem_cons, List.not_mem_nil, or_false] at hp
    rcases hp with rfl | rfl | rfl | rfl | rfl | rfl | rfl | rfl
    · exact w1
    · exact w2
    · exact w3
    · exact w4
    · exact w5
    · exact w6
    · exact w7
    · exact w8
  · intro p hp
    simp only [List.mem_cons, List.not_mem_nil, or_false] at hp
    rcases hp with rfl | rfl | rfl | rfl | rfl | rfl | rfl | rfl
    · exact noTab X nt w1
    · exact noTab X nt w2
    · exact noTab X nt w3
    · exact noTab X nt w4
    · exact noTab X nt w5
    · exact noTab X nt w6
    · exact noTab X nt w7
    · exact noTab X nt w8
  · intro p hp
    simp only [List.mem_cons, List.not_mem_nil, or_false] at hp
    rcases hp with rfl | rfl | rfl | rfl | rfl | rfl | rfl | rfl
    · exact q1
    · exact q2
    · exact q3
    · exact q4
    · exact q5
    · exact q6
    · exact q7
    · exact q8
  · intro H a ns hl _ hH hS
    exact ⟨a, ns, rfl, hS, hl, ⟨#[], hH (cP1, P1) (by simp), trivial⟩, ⟨#[], hH (cP2, P2) (by simp), trivial⟩, ⟨#[], hH (cP3, P3) (by simp), trivial⟩, ⟨#[], hH (cP4, P4) (by simp), trivial⟩, ⟨#[], hH (cP5, P5) (by simp), trivial⟩, ⟨#[], hH (cP6, P6) (by simp), trivial⟩, ⟨#[], hH (cP7, P7) (by simp), trivial⟩, ⟨#[], hH (cP8, P8) (by simp), trivial⟩, fun _ => rfl⟩
  · intro base _ _ hTB
    have TB1 := hTB (cP1, P1) (by simp)
    have TB2 := hTB (cP2, P2) (by simp)
    have TB3 := hTB (cP3, P3) (by simp)
    have TB4 := hTB (cP4, P4) (by simp)
    have TB5 := hTB (cP5, P5) (by simp)
    have TB6 := hTB (cP6, P6) (by simp)
    have TB7 := hTB (cP7, P7) (by simp)
    have TB8 := hTB (cP8, P8) (by simp)
    have M : Mg mg := ⟨n_isinstance, n_str, n_tuple, n_len, n_all, n_range, ⟨_, v_LETTERS⟩, ⟨_, v_MOST_LETTERS⟩, ⟨_, v_MOST_NAMES⟩⟩
    have MT : MgT mg := ⟨⟨_, v_SIGNS⟩, ⟨_, v_MOST_SIGNS⟩⟩
    have MR : MgR mg := ⟨n_int, n_bool, n_dict, n_list, ⟨_, v_LAST_NUMBER⟩, ⟨_, v_MOST_PATHS⟩⟩
    have ML : MgL mg := ⟨⟨_, v_MOST_ENTRIES⟩⟩
    have SD : Cst K mg "DRAWER" [.str "drawer"] aDR := ⟨PySem.W.mg_of X G hDR, fun H => Or.inr ⟨_, _, _, lDR, rfl, rfl, (by show 1 ≤ sizeLine; decide), .cons ⟨_, rfl⟩ .nil⟩⟩
    have SG : Cst K mg "GONE" [.str "gone"] aGO := ⟨PySem.W.mg_of X G hGO, fun H => Or.inr ⟨_, _, _, lGO, rfl, rfl, (by show 1 ≤ sizeLine; decide), .cons ⟨_, rfl⟩ .nil⟩⟩
    have SS : Cst K mg "SEE_THROUGH" [.str "drawer", .bl false] aSE := ⟨PySem.W.mg_of X G hSE, fun H => Or.inr ⟨_, _, _, lSE, rfl, rfl, (by show 2 ≤ sizeLine; decide), .cons ⟨_, rfl⟩ (.cons rfl .nil)⟩⟩
    have x_NoPath := r01
    have x_NoTree := r21
    have x_NoLayer := r31
    have x_NoStack := r41
    have x_Full := r151
    have W0 : Wh K mg C0 0 := by
      refine ⟨⟨xc0a, xc0b, r04, xc0c, xc0d, gs1, gs2, xc0e⟩, by decide, fun j x hj => ?_, kitV0⟩
      have hj17 : j < 17 := (List.getElem?_eq_some_iff.mp hj).1
      match j, hj17, hj with
      | 0, _, hj => exact (Option.some.inj hj) ▸ ⟨C0, PySem.W.mg_of X G x_NoPath, kit0_0⟩
      | 1, _, hj => exact (Option.some.inj hj) ▸ ⟨C1, PySem.W.mg_of X G x_NoText, kit0_1⟩
      | 2, _, hj => exact (Option.some.inj hj) ▸ ⟨C2, PySem.W.mg_of X G x_NoTree, kit0_2⟩
      | 3, _, hj => exact (Option.some.inj hj) ▸ ⟨C3, PySem.W.mg_of X G x_NoLayer, kit0_3⟩
      | 4, _, hj => exact (Option.some.inj hj) ▸ ⟨C4, PySem.W.mg_of X G x_NoStack, kit0_4⟩
      | 5, _, hj => exact (Option.some.inj hj) ▸ ⟨C5, PySem.W.mg_of X G x_NoHandle, kit0_5⟩
      | 6, _, hj => exact (Option.some.inj hj) ▸ ⟨C6, PySem.W.mg_of X G x_NoPower, kit0_6⟩
      | 7, _, hj => exact (Option.some.inj hj) ▸ ⟨C7, PySem.W.mg_of X G x_Root, kit0_7⟩
      | 8, _, hj => exact (Option.some.inj hj) ▸ ⟨C8, PySem.W.mg_of X G x_NotThere, kit0_8⟩
      | 9, _, hj => exact (Option.some.inj hj) ▸ ⟨C9, PySem.W.mg_of X G x_NoDrawer, kit0_9⟩
      | 10, _, hj => exact (Option.some.inj hj) ▸ ⟨C10, PySem.W.mg_of X G x_IsDrawer, kit0_10⟩
      | 11, _, hj => exact (Option.some.inj hj) ▸ ⟨C11, PySem.W.mg_of X G x_Taken, kit0_11⟩
      | 12, _, hj => exact (Option.some.inj hj) ▸ ⟨C12, PySem.W.mg_of X G x_NotEmpty, kit0_12⟩
      | 13, _, hj => exact (Option.some.inj hj) ▸ ⟨C13, PySem.W.mg_of X G x_Within, kit0_13⟩
      | 14, _, hj => exact (Option.some.inj hj) ▸ ⟨C14, PySem.W.mg_of X G x_TooLong, kit0_14⟩
      | 15, _, hj => exact (Option.some.inj hj) ▸ ⟨C15, PySem.W.mg_of X G x_Full, kit0_15⟩
      | 16, _, hj => exact (Option.some.inj hj) ▸ ⟨C16, PySem.W.mg_of X G x_Dark, kit0_16⟩
    have W2 : Wh K mg C2 2 := by
      refine ⟨⟨xc2a, xc2b, r24, xc2c, xc2d, gs1, gs2, xc2e⟩, by decide, fun j x hj => ?_, kitV2⟩
      have hj17 : j < 17 := (List.getElem?_eq_some_iff.mp hj).1
      match j, hj17, hj with
      | 0, _, hj => exact (Option.some.inj hj) ▸ ⟨C0, PySem.W.mg_of X G x_NoPath, kit2_0⟩
      | 1, _, hj => exact (Option.some.inj hj) ▸ ⟨C1, PySem.W.mg_of X G x_NoText, kit2_1⟩
      | 2, _, hj => exact (Option.some.inj hj) ▸ ⟨C2, PySem.W.mg_of X G x_NoTree, kit2_2⟩
      | 3, _, hj => exact (Option.some.inj hj) ▸ ⟨C3, PySem.W.mg_of X G x_NoLayer, kit2_3⟩
      | 4, _, hj => exact (Option.some.inj hj) ▸ ⟨C4, PySem.W.mg_of X G x_NoStack, kit2_4⟩
      | 5, _, hj => exact (Option.some.inj hj) ▸ ⟨C5, PySem.W.mg_of X G x_NoHandle, kit2_5⟩
      | 6, _, hj => exact (Option.some.inj hj) ▸ ⟨C6, PySem.W.mg_of X G x_NoPower, kit2_6⟩
      | 7, _, hj => exact (Option.some.inj hj) ▸ ⟨C7, PySem.W.mg_of X G x_Root, kit2_7⟩
      | 8, _, hj => exact (Option.some.inj hj) ▸ ⟨C8, PySem.W.mg_of X G x_NotThere, kit2_8⟩
      | 9, _, hj => exact (Option.some.inj hj) ▸ ⟨C9, PySem.W.mg_of X G x_NoDrawer, kit2_9⟩
      | 10, _, hj => exact (Option.some.inj hj) ▸ ⟨C10, PySem.W.mg_of X G x_IsDrawer, kit2_10⟩
      | 11, _, hj => exact (Option.some.inj hj) ▸ ⟨C11, PySem.W.mg_of X G x_Taken, kit2_11⟩
      | 12, _, hj => exact (Option.some.inj hj) ▸ ⟨C12, PySem.W.mg_of X G x_NotEmpty, kit2_12⟩
      | 13, _, hj => exact (Option.some.inj hj) ▸ ⟨C13, PySem.W.mg_of X G x_Within, kit2_13⟩
      | 14, _, hj => exact (Option.some.inj hj) ▸ ⟨C14, PySem.W.mg_of X G x_TooLong, kit2_14⟩
      | 15, _, hj => exact (Option.some.inj hj) ▸ ⟨C15, PySem.W.mg_of X G x_Full, kit2_15⟩
      | 16, _, hj => exact (Option.some.inj hj) ▸ ⟨C16, PySem.W.mg_of X G x_Dark, kit2_16⟩
    have W3 : Wh K mg C3 3 := by
      refine ⟨⟨xc3a, xc3b, r34, xc3c, xc3d, gs1, gs2, xc3e⟩, by decide, fun j x hj => ?_, kitV3⟩
      have hj17 : j < 17 := (List.getElem?_eq_some_iff.mp hj).1
      match j, hj17, hj with
      | 0, _, hj => exact (Option.some.inj hj) ▸ ⟨C0, PySem.W.mg_of X G x_NoPath, kit3_0⟩
      | 1, _, hj => exact (Option.some.inj hj) ▸ ⟨C1, PySem.W.mg_of X G x_NoText, kit3_1⟩
      | 2, _, hj => exact (Option.some.inj hj) ▸ ⟨C2, PySem.W.mg_of X G x_NoTree, kit3_2⟩
      | 3, _, hj => exact (Option.some.inj hj) ▸ ⟨C3, PySem.W.mg_of X G x_NoLayer, kit3_3⟩
      | 4, _, hj => exact (Option.some.inj hj) ▸ ⟨C4, PySem.W.mg_of X G x_NoStack, kit3_4⟩
      | 5, _, hj => exact (Option.some.inj hj) ▸ ⟨C5, PySem.W.mg_of X G x_NoHandle, kit3_5⟩
      | 6, _, hj => exact (Option.some.inj hj) ▸ ⟨C6, PySem.W.mg_of X G x_NoPower, kit3_6⟩
      | 7, _, hj => exact (Option.some.inj hj) ▸ ⟨C7, PySem.W.mg_of X G x_Root, kit3_7⟩
      | 8, _, hj => exact (Option.some.inj hj) ▸ ⟨C8, PySem.W.mg_of X G x_NotThere, kit3_8⟩
      | 9, _, hj => exact (Option.some.inj hj) ▸ ⟨C9, PySem.W.mg_of X G x_NoDrawer, kit3_9⟩
      | 10, _, hj => exact (Option.some.inj hj) ▸ ⟨C10, PySem.W.mg_of X G x_IsDrawer, kit3_10⟩
      | 11, _, hj => exact (Option.some.inj hj) ▸ ⟨C11, PySem.W.mg_of X G x_Taken, kit3_11⟩
      | 12, _, hj => exact (Option.some.inj hj) ▸ ⟨C12, PySem.W.mg_of X G x_NotEmpty, kit3_12⟩
      | 13, _, hj => exact (Option.some.inj hj) ▸ ⟨C13, PySem.W.mg_of X G x_Within, kit3_13⟩
      | 14, _, hj => exact (Option.some.inj hj) ▸ ⟨C14, PySem.W.mg_of X G x_TooLong, kit3_14⟩
      | 15, _, hj => exact (Option.some.inj hj) ▸ ⟨C15, PySem.W.mg_of X G x_Full, kit3_15⟩
      | 16, _, hj => exact (Option.some.inj hj) ▸ ⟨C16, PySem.W.mg_of X G x_Dark, kit3_16⟩
    have W4 : Wh K mg C4 4 := by
      refine ⟨⟨xc4a, xc4b, r44, xc4c, xc4d, gs1, gs2, xc4e⟩, by decide, fun j x hj => ?_, kitV4⟩
      have hj17 : j < 17 := (List.getElem?_eq_some_iff.mp hj).1
      match j, hj17, hj with
      | 0, _, hj => exact (Option.some.inj hj) ▸ ⟨C0, PySem.W.mg_of X G x_NoPath, kit4_0⟩
      | 1, _, hj => exact (Option.some.inj hj) ▸ ⟨C1, PySem.W.mg_of X G x_NoText, kit4_1⟩
      | 2, _, hj => exact (Option.some.inj hj) ▸ ⟨C2, PySem.W.mg_of X G x_NoTree, kit4_2⟩
      | 3, _, hj => exact (Option.some.inj hj) ▸ ⟨C3, PySem.W.mg_of X G x_NoLayer, kit4_3⟩
      | 4, _, hj => exact (Option.some.inj hj) ▸ ⟨C4, PySem.W.mg_of X G x_NoStack, kit4_4⟩
      | 5, _, hj => exact (Option.some.inj hj) ▸ ⟨C5, PySem.W.mg_of X G x_NoHandle, kit4_5⟩
      | 6, _, hj => exact (Option.some.inj hj) ▸ ⟨C6, PySem.W.mg_of X G x_NoPower, kit4_6⟩
      | 7, _, hj => exact (Option.some.inj hj) ▸ ⟨C7, PySem.W.mg_of X G x_Root, kit4_7⟩
      | 8, _, hj => exact (Option.some.inj hj) ▸ ⟨C8, PySem.W.mg_of X G x_NotThere, kit4_8⟩
      | 9, _, hj => exact (Option.some.inj hj) ▸ ⟨C9, PySem.W.mg_of X G x_NoDrawer, kit4_9⟩
      | 10, _, hj => exact (Option.some.inj hj) ▸ ⟨C10, PySem.W.mg_of X G x_IsDrawer, kit4_10⟩
      | 11, _, hj => exact (Option.some.inj hj) ▸ ⟨C11, PySem.W.mg_of X G x_Taken, kit4_11⟩
      | 12, _, hj => exact (Option.some.inj hj) ▸ ⟨C12, PySem.W.mg_of X G x_NotEmpty, kit4_12⟩
      | 13, _, hj => exact (Option.some.inj hj) ▸ ⟨C13, PySem.W.mg_of X G x_Within, kit4_13⟩
      | 14, _, hj => exact (Option.some.inj hj) ▸ ⟨C14, PySem.W.mg_of X G x_TooLong, kit4_14⟩
      | 15, _, hj => exact (Option.some.inj hj) ▸ ⟨C15, PySem.W.mg_of X G x_Full, kit4_15⟩
      | 16, _, hj => exact (Option.some.inj hj) ▸ ⟨C16, PySem.W.mg_of X G x_Dark, kit4_16⟩
    have W15 : Wh K mg C15 15 := by
      refine ⟨⟨xc15a, xc15b, r154, xc15c, xc15d, gs1, gs2, xc15e⟩, by decide, fun j x hj => ?_, kitV15⟩
      have hj17 : j < 17 := (List.getElem?_eq_some_iff.mp hj).1
      match j, hj17, hj with
      | 0, _, hj => exact (Option.some.inj hj) ▸ ⟨C0, PySem.W.mg_of X G x_NoPath, kit15_0⟩
      | 1, _, hj => exact (Option.some.inj hj) ▸ ⟨C1, PySem.W.mg_of X G x_NoText, kit15_1⟩
      | 2, _, hj => exact (Option.some.inj hj) ▸ ⟨C2, PySem.W.mg_of X G x_NoTree, kit15_2⟩
      | 3, _, hj => exact (Option.some.inj hj) ▸ ⟨C3, PySem.W.mg_of X G x_NoLayer, kit15_3⟩
      | 4, _, hj => exact (Option.some.inj hj) ▸ ⟨C4, PySem.W.mg_of X G x_NoStack, kit15_4⟩
      | 5, _, hj => exact (Option.some.inj hj) ▸ ⟨C5, PySem.W.mg_of X G x_NoHandle, kit15_5⟩
      | 6, _, hj => exact (Option.some.inj hj) ▸ ⟨C6, PySem.W.mg_of X G x_NoPower, kit15_6⟩
      | 7, _, hj => exact (Option.some.inj hj) ▸ ⟨C7, PySem.W.mg_of X G x_Root, kit15_7⟩
      | 8, _, hj => exact (Option.some.inj hj) ▸ ⟨C8, PySem.W.mg_of X G x_NotThere, kit15_8⟩
      | 9, _, hj => exact (Option.some.inj hj) ▸ ⟨C9, PySem.W.mg_of X G x_NoDrawer, kit15_9⟩
      | 10, _, hj => exact (Option.some.inj hj) ▸ ⟨C10, PySem.W.mg_of X G x_IsDrawer, kit15_10⟩
      | 11, _, hj => exact (Option.some.inj hj) ▸ ⟨C11, PySem.W.mg_of X G x_Taken, kit15_11⟩
      | 12, _, hj => exact (Option.some.inj hj) ▸ ⟨C12, PySem.W.mg_of X G x_NotEmpty, kit15_12⟩
      | 13, _, hj => exact (Option.some.inj hj) ▸ ⟨C13, PySem.W.mg_of X G x_Within, kit15_13⟩
      | 14, _, hj => exact (Option.some.inj hj) ▸ ⟨C14, PySem.W.mg_of X G x_TooLong, kit15_14⟩
      | 15, _, hj => exact (Option.some.inj hj) ▸ ⟨C15, PySem.W.mg_of X G x_Full, kit15_15⟩
      | 16, _, hj => exact (Option.some.inj hj) ▸ ⟨C16, PySem.W.mg_of X G x_Dark, kit15_16⟩
    have MK : MgK mg := ⟨⟨_, v_MOST_LAYERS⟩⟩
    have G0 := ok_isName (P := l.prog) (w := w) F0 M TB1 
    have G1 := ok_isPath  F1 M TB2 G0 m0 k0 b0
    have G2 := ok_isText (P := l.prog) (w := w) F2 M MT TB3 
    have G8 := ok_checkPath  F8 R0 G1 m1 k1 b1
    have G9 := ok_aboveX  F9  G8 m8 k8 b8
    have G10 := ok_beginningsX  F10 M G8 m8 k8 b8
    have G11 := ok_isNumber (P := l.prog) (w := w) (base := base) F11 M MR 
    have G12 := ok_isKind (P := l.prog) (w := w) (base := base) F12 M 
    have G13 := ok_isDrawer  F13  G12 m12 k12 b12
    have G14 := ok_isFile  F14  G12 m12 k12 b12 G11 m11 k11 b11 G2 m2 k2 b2
    have G3 := ok_hasDrawers  F3 M TB4 G9 m9 k9 b9
    have G15 := ok_hasOneText  F15  G14 m14 k14 b14
    have G4 := ok_isTree  F4 M MR TB5 G1 m1 k1 b1 G13 m13 k13 b13 G14 m14 k14 b14 G3 m3 k3 b3 G15 m15 k15 b15
    have G16 := ok_checkTree  F16 R2 G4 m4 k4 b4
    have G17 := ok_renum (P := l.prog) (w := w) (base := base) F17 M n_sorted 
    have G18 := ok_isEntry  F18 M MR G12 m12 k12 b12 G14 m14 k14 b14
    have G5 := ok_isLayer  F5 M MR ML TB6 G1 m1 k1 b1 G18 m18 k18 b18 G3 m3 k3 b3 G15 m15 k15 b15
    have G7 := ok_isStackG  F7 M MR MK TB8 G5 m5 k5 b5
    have G19 := ok_checkLayer  F19 R3 G5 m5 k5 b5
    have G20 := ok_checkStackG  F20 R4 G7 m7 k7 b7
    have G21 := ok_apart (P := l.prog) (w := w) (mg := mg) (base := base) F21  
    have G22 := ok_longest  F22  G10 m10 k10 b10
    have G6 := ok_lets  F6 M TB7 SS G10 m10 k10 b10
    have G23 := ok_asSeen (P := l.prog) (w := w) (base := base) F23 SD 
    have G24 := ok_laidOver  F24 SG G23 m23 k23 b23 G21 m21 k21 b21 G22 m22 k22 b22 G6 m6 k6 b6 G17 m17 k17 b17
    have G25 := ok_withRoomG (P := l.prog) (w := w) (base := base) F25 M MR R15 
    have G26 := ok_shownG  F26  G19 m19 k19 b19 G16 m16 k16 b16 G24 m24 k24 b24 G25 m25 k25 b25
    have G27 := ok_laidBad  F27 SD n_reversed G20 m20 k20 b20 G24 m24 k24 b24 G25 m25 k25 b25
    have G28 := ok_asLooked (P := l.prog) (w := w) (base := base) F28 SG SD 
    have G29 := ok_lookBad  F29  G20 m20 k20 b20 G8 m8 k8 b8 G28 m28 k28 b28 G22 m22 k22 b22 G6 m6 k6 b6
    have G30 := ok_openBad  F30 n_sorted SD G19 m19 k19 b19 G16 m16 k16 b16 G6 m6 k6 b6
    have G31 := ok_draw (P := l.prog) (w := w) (base := base) F31 M.len 
    have G32 := ok_pick  F32 M.len G31 m31 k31 b31
    have G33 := ok_letter  F33  G32 m32 k32 b32
    have G34 := ok_text  F34  G32 m32 k32 b32
    have G35 := ok_tree  F35 M n_sorted G31 m31 k31 b31 G32 m32 k32 b32 G33 m33 k33 b33 G34 m34 k34 b34
    have G36 := ok_layer  F36 M n_sorted G31 m31 k31 b31 G32 m32 k32 b32 G33 m33 k33 b33 G34 m34 k34 b34
    have G37 := ok_noPath  F37  G32 m32 k32 b32
    have G38 := ok_noTree  F38  G32 m32 k32 b32
    have G39 := ok_noLayer  F39  G32 m32 k32 b32
    have G40 := ok_which (P := l.prog) (w := w) (base := base) F40 M.isinstance n_ValueError 
    have G41 := ok_wide (P := l.prog) (w := w) (base := base) F41 M 
    have G42 := ok_ask  F42 (PySem.W.mg_of X G te1) te2_3 te2_2 te2_4 te2_0 te2_15 W3 W2 W4 W0 W15 G26 m26 k26 b26 G30 m30 k30 b30 G27 m27 k27 b27 G29 m29 k29 b29 G40 m40 k40 b40
    exact ok_law F43 M MR G36 m36 k36 b36 G35 m35 k35 b35 G39 m39 k39 b39 G38 m38 k38 b38 G37 m37 k37 b37 G42 m42 k42 b42 G32 m32 k32 b32 G31 m31 k31 b31 G41 m41 k41 b41
end LK
open PySem PySem.W PyProof.Rows
set_option maxRecDepth 100000 in
set_option maxHeartbeats 0 in
theorem PySem.Challenge.cw_laidtrees_k22_layers_refused_holds : PySem.Challenge.rw_laidtrees_k22_layers_refused.Holds := by
  w_on; o_law; k_head; (case hw => w_witness2)
  k_fill
  refine LT.walk_tabs (k := 15) (CX := fun _ => fun _ _ _ _ _ _ => False) (l := PySem.Challenge.rw_laidtrees_k22_layers_refused) (x := "_law_script") rfl (by decide) rfl ⟨rfl, by decide, by decide⟩ (fun w h Y => PySem.W.kIn_of Y) ?F (fun _ _ _ _ _ h => h)
  case F =>
    intro w mg fa h KX G hmg TT
    refine' LK.all_mk KX G hmg TT ?a0 ?l0 ?c0 ?k0 ?a1 ?l1 ?c1 ?k1 ?a2 ?l2 ?c2 ?k2 ?a3 ?l3 ?c3 ?k3 ?a4 ?l4 ?c4 ?k4 ?a5 ?l5 ?c5 ?k5 ?a6 ?l6 ?c6 ?k6 ?a7 ?l7 ?c7 ?k7 ?a8 ?l8 ?c8 ?k8 ?a9 ?l9 ?c9 ?k9 ?a10 ?l10 ?c10 ?k10 ?a11 ?l11 ?c11 ?k11 ?a12 ?l12 ?c12 ?k12 ?a13 ?l13 ?c13 ?k13 ?a14 ?l14 ?c14 ?k14 ?a15 ?l15 ?c15 ?k15 ?a16 ?l16 ?c16 ?k16 ?a17 ?l17 ?c17 ?k17 ?a18 ?l18 ?c18 ?k18 ?a19 ?l19 ?c19 ?k19 ?a20 ?l20 ?c20 ?k20 ?a21 ?l21 ?c21 ?k21 ?a22 ?l22 ?c22 ?k22 ?a23 ?l23 ?c23 ?k23 ?a24 ?l24 ?c24 ?k24 ?a25 ?l25 ?c25 ?k25 ?a26 ?l26 ?c26 ?k26 ?a27 ?l27 ?c27 ?k27 ?a28 ?l28 ?c28 ?k28 ?a29 ?l29 ?c29 ?k29 ?a30 ?l30 ?c30 ?k30 ?a31 ?l31 ?c31 ?k31 ?a32 ?l32 ?c32 ?k32 ?a33 ?l33 ?c33 ?k33 ?a34 ?l34 ?c34 ?k34 ?a35 ?l35 ?c35 ?k35 ?a36 ?l36 ?c36 ?k36 ?a37 ?l37 ?c37 ?k37 ?a38 ?l38 ?c38 ?k38 ?a39 ?l39 ?c39 ?k39 ?a40 ?l40 ?c40 ?k40 ?a41 ?l41 ?c41 ?k41 ?a42 ?l42 ?c42 ?k42 ?a43 ?l43 ?c43 ?k43 ?u1 ?i1 ?u2 ?i2 ?u3 ?i3 ?u4 ?i4 ?u5 ?i5 ?u6 ?i6 ?u7 ?i7 ?u8 ?i8 ?z_isinstance ?z_str ?z_tuple ?z_len ?z_all ?z_range ?z_int ?z_bool ?z_dict ?z_list ?z_sorted ?z_reversed ?z_ValueError ?h_LETTERS ?h_MOST_LETTERS ?h_MOST_NAMES ?h_SIGNS ?h_MOST_SIGNS ?h_LAST_NUMBER ?h_MOST_ENTRIES ?h_MOST_PATHS ?h_MOST_LAYERS ?r01 ?r02 ?r03 ?r04 ?r05 ?r21 ?r22 ?r23 ?r24 ?r25 ?r31 ?r32 ?r33 ?r34 ?r35 ?r41 ?r42 ?r43 ?r44 ?r45 ?r151 ?r152 ?r153 ?r154 ?r155 ?x_NoText ?x_NoHandle ?x_NoPower ?x_Root ?x_NotThere ?x_NoDrawer ?x_IsDrawer ?x_Taken ?x_NotEmpty ?x_Within ?x_TooLong ?x_Dark ?xc0a ?xc0b ?xc0c ?xc0d ?xc0e ?xc2a ?xc2b ?xc2c ?xc2d ?xc2e ?xc3a ?xc3b ?xc3c ?xc3d ?xc3e ?xc4a ?xc4b ?xc4c ?xc4d ?xc4e ?xc15a ?xc15b ?xc15c ?xc15d ?xc15e ?gs1 ?gs2 ?kit0_0 ?kit0_1 ?kit0_2 ?kit0_3 ?kit0_4 ?kit0_5 ?kit0_6 ?kit0_7 ?kit0_8 ?kit0_9 ?kit0_10 ?kit0_11 ?kit0_12 ?kit0_13 ?kit0_14 ?kit0_15 ?kit0_16 ?kitV0 ?kit2_0 ?kit2_1 ?kit2_2 ?kit2_3 ?kit2_4 ?kit2_5 ?kit2_6 ?kit2_7 ?kit2_8 ?kit2_9 ?kit2_10 ?kit2_11 ?kit2_12 ?kit2_13 ?kit2_14 ?kit2_15 ?kit2_16 ?kitV2 ?kit3_0 ?kit3_1 ?kit3_2 ?kit3_3 ?kit3_4 ?kit3_5 ?kit3_6 ?kit3_7 ?kit3_8 ?kit3_9 ?kit3_10 ?kit3_11 ?kit3_12 ?kit3_13 ?kit3_14 ?kit3_15 ?kit3_16 ?kitV3 ?kit4_0 ?kit4_1 ?kit4_2 ?kit4_3 ?kit4_4 ?kit4_5 ?kit4_6 ?kit4_7 ?kit4_8 ?kit4_9 ?kit4_10 ?kit4_11 ?kit4_12 ?kit4_13 ?kit4_14 ?kit4_15 ?kit4_16 ?kitV4 ?kit15_0 ?kit15_1 ?kit15_2 ?kit15_3 ?kit15_4 ?kit15_5 ?kit15_6 ?kit15_7 ?kit15_8 ?kit15_9 ?kit15_10 ?kit15_11 ?kit15_12 ?kit15_13 ?kit15_14 ?kit15_15 ?kit15_16 ?kitV15 ?te1 ?te2_0 ?te2_2 ?te2_3 ?te2_4 ?te2_15 ?hDR ?lDR ?hGO ?lGO ?hSE ?lSE ?nt ?r1 ?r2 ?r3 ?r4 ?r5 ?r6 ?r7 ?r8
    (case a0 => k_is)
    (case l0 => k_is)
    (case c0 => k_is)
    (case k0 => k_is)
    (case a1 => k_is)
    (case l1 => k_is)
    (case c1 => k_is)
    (case k1 => k_is)
    (case a2 => k_is)
    (case l2 => k_is)
    (case c2 => k_is)
    (case k2 => k_is)
    (case a3 => k_is)
    (case l3 => k_is)
    (case c3 => k_is)
    (case k3 => k_is)
    (case a4 => k_is)
    (case l4 => k_is)
    (case c4 => k_is)
    (case k4 => k_is)
    (case a5 => k_is)
    (case l5 => k_is)
    (case c5 => k_is)
    (case k5 => k_is)
    (case a6 => k_is)
    (case l6 => k_is)
    (case c6 => k_is)
    (case k6 => k_is)
    (case a7 => k_is)
    (case l7 => k_is)
    (case c7 => k_is)
    (case k7 => k_is)
    (case a8 => k_is)
    (case l8 => k_is)
    (case c8 => k_is)
    (case k8 => k_is)
    (case a9 => k_is)
    (case l9 => k_is)
    (case c9 => k_is)
    (case k9 => k_is)
    (case a10 => k_is)
    (case l10 => k_is)
    (case c10 => k_is)
    (case k10 => k_is)
    (case a11 => k_is)
    (case l11 => k_is)
    (case c11 => k_is)
    (case k11 => k_is)
    (case a12 => k_is)
    (case l12 => k_is)
    (case c12 => k_is)
    (case k12 => k_is)
    (case a13 => k_is)
    (case l13 => k_is)
    (case c13 => k_is)
    (case k13 => k_is)
    (case a14 => k_is)
    (case l14 => k_is)
    (case c14 => k_is)
    (case k14 => k_is)
    (case a15 => k_is)
    (case l15 => k_is)
    (case c15 => k_is)
    (case k15 => k_is)
    (case a16 => k_is)
    (case l16 => k_is)
    (case c16 => k_is)
    (case k16 => k_is)
    (case a17 => k_is)
    (case l17 => k_is)
    (case c17 => k_is)
    (case k17 => k_is)
    (case a18 => k_is)
    (case l18 => k_is)
    (case c18 => k_is)
    (case k18 => k_is)
    (case a19 => k_is)
    (case l19 => k_is)
    (case c19 => k_is)
    (case k19 => k_is)
    (case a20 => k_is)
    (case l20 => k_is)
    (case c20 => k_is)
    (case k20 => k_is)
    (case a21 => k_is)
    (case l21 => k_is)
    (case c21 => k_is)
    (case k21 => k_is)
    (case a22 => k_is)
    (case l22 => k_is)
    (case c22 => k_is)
    (case k22 => k_is)
    (case a23 => k_is)
    (case l23 => k_is)
    (case c23 => k_is)
    (case k23 => k_is)
    (case a24 => k_is)
    (case l24 => k_is)
    (case c24 => k_is)
    (case k24 => k_is)
    (case a25 => k_is)
    (case l25 => k_is)
    (case c25 => k_is)
    (case k25 => k_is)
    (case a26 => k_is)
    (case l26 => k_is)
    (case c26 => k_is)
    (case k26 => k_is)
    (case a27 => k_is)
    (case l27 => k_is)
    (case c27 => k_is)
    (case k27 => k_is)
    (case a28 => k_is)
    (case l28 => k_is)
    (case c28 => k_is)
    (case k28 => k_is)
    (case a29 => k_is)
    (case l29 => k_is)
    (case c29 => k_is)
    (case k29 => k_is)
    (case a30 => k_is)
    (case l30 => k_is)
    (case c30 => k_is)
    (case k30 => k_is)
    (case a31 => k_is)
    (case l31 => k_is)
    (case c31 => k_is)
    (case k31 => k_is)
    (case a32 => k_is)
    (case l32 => k_is)
    (case c32 => k_is)
    (case k32 => k_is)
    (case a33 => k_is)
    (case l33 => k_is)
    (case c33 => k_is)
    (case k33 => k_is)
    (case a34 => k_is)
    (case l34 => k_is)
    (case c34 => k_is)
    (case k34 => k_is)
    (case a35 => k_is)
    (case l35 => k_is)
    (case c35 => k_is)
    (case k35 => k_is)
    (case a36 => k_is)
    (case l36 => k_is)
    (case c36 => k_is)
    (case k36 => k_is)
    (case a37 => k_is)
    (case l37 => k_is)
    (case c37 => k_is)
    (case k37 => k_is)
    (case a38 => k_is)
    (case l38 => k_is)
    (case c38 => k_is)
    (case k38 => k_is)
    (case a39 => k_is)
    (case l39 => k_is)
    (case c39 => k_is)
    (case k39 => k_is)
    (case a40 => k_is)
    (case l40 => k_is)
    (case c40 => k_is)
    (case k40 => k_is)
    (case a41 => k_is)
    (case l41 => k_is)
    (case c41 => k_is)
    (case k41 => k_is)
    (case a42 => k_is)
    (case l42 => k_is)
    (case c42 => k_is)
    (case k42 => k_is)
    (case a43 => k_is)
    (case l43 => k_is)
    (case c43 => k_is)
    (case k43 => k_is)
    (case u1 => k_is)
    (case i1 => exact rfl)
    (case u2 => k_is)
    (case i2 => exact rfl)
    (case u3 => k_is)
    (case i3 => exact rfl)
    (case u4 => k_is)
    (case i4 => exact rfl)
    (case u5 => k_is)
    (case i5 => exact rfl)
    (case u6 => k_is)
    (case i6 => exact rfl)
    (case u7 => k_is)
    (case i7 => exact rfl)
    (case u8 => k_is)
    (case i8 => exact rfl)
    (case z_isinstance => k_is)
    (case z_str => k_is)
    (case z_tuple => k_is)
    (case z_len => k_is)
    (case z_all => k_is)
    (case z_range => k_is)
    (case z_int => k_is)
    (case z_bool => k_is)
    (case z_dict => k_is)
    (case z_list => k_is)
    (case z_sorted => k_is)
    (case z_reversed => k_is)
    (case z_ValueError => k_is)
    (case h_LETTERS => k_is)
    (case h_MOST_LETTERS => k_is)
    (case h_MOST_NAMES => k_is)
    (case h_SIGNS => k_is)
    (case h_MOST_SIGNS => k_is)
    (case h_LAST_NUMBER => k_is)
    (case h_MOST_ENTRIES => k_is)
    (case h_MOST_PATHS => k_is)
    (case h_MOST_LAYERS => k_is)
    (case r01 => k_is)
    (case r02 => k_exc)
    (case r03 => k_is)
    (case r04 => k_is)
    (case r05 => k_is)
    (case r21 => k_is)
    (case r22 => k_exc)
    (case r23 => k_is)
    (case r24 => k_is)
    (case r25 => k_is)
    (case r31 => k_is)
    (case r32 => k_exc)
    (case r33 => k_is)
    (case r34 => k_is)
    (case r35 => k_is)
    (case r41 => k_is)
    (case r42 => k_exc)
    (case r43 => k_is)
    (case r44 => k_is)
    (case r45 => k_is)
    (case r151 => k_is)
    (case r152 => k_exc)
    (case r153 => k_is)
    (case r154 => k_is)
    (case r155 => k_is)
    (case x_NoText => k_is)
    (case x_NoHandle => k_is)
    (case x_NoPower => k_is)
    (case x_Root => k_is)
    (case x_NotThere => k_is)
    (case x_NoDrawer => k_is)
    (case x_IsDrawer => k_is)
    (case x_Taken => k_is)
    (case x_NotEmpty => k_is)
    (case x_Within => k_is)
    (case x_TooLong => k_is)
    (case x_Dark => k_is)
    (case xc0a => k_is)
    (case xc0b => k_is)
    (case xc0c => k_is)
    (case xc0d => k_is)
    (case xc0e => k_is)
    (case xc2a => k_is)
    (case xc2b => k_is)
    (case xc2c => k_is)
    (case xc2d => k_is)
    (case xc2e => k_is)
    (case xc3a => k_is)
    (case xc3b => k_is)
    (case xc3c => k_is)
    (case xc3d => k_is)
    (case xc3e => k_is)
    (case xc4a => k_is)
    (case xc4b => k_is)
    (case xc4c => k_is)
    (case xc4d => k_is)
    (case xc4e => k_is)
    (case xc15a => k_is)
    (case xc15b => k_is)
    (case xc15c => k_is)
    (case xc15d => k_is)
    (case xc15e => k_is)
    (case gs1 => k_is)
    (case gs2 => k_is)
    (case kit0_0 => kernel_rfl)
    (case kit0_1 => kernel_rfl)
    (case kit0_2 => kernel_rfl)
    (case kit0_3 => kernel_rfl)
    (case kit0_4 => kernel_rfl)
    (case kit0_5 => kernel_rfl)
    (case kit0_6 => kernel_rfl)
    (case kit0_7 => kernel_rfl)
    (case kit0_8 => kernel_rfl)
    (case kit0_9 => kernel_rfl)
    (case kit0_10 => kernel_rfl)
    (case kit0_11 => kernel_rfl)
    (case kit0_12 => kernel_rfl)
    (case kit0_13 => kernel_rfl)
    (case kit0_14 => kernel_rfl)
    (case kit0_15 => kernel_rfl)
    (case kit0_16 => kernel_rfl)
    (case kitV0 => kernel_rfl)
    (case kit2_0 => kernel_rfl)
    (case kit2_1 => kernel_rfl)
    (case kit2_2 => kernel_rfl)
    (case kit2_3 => kernel_rfl)
    (case kit2_4 => kernel_rfl)
    (case kit2_5 => kernel_rfl)
    (case kit2_6 => kernel_rfl)
    (case kit2_7 => kernel_rfl)
    (case kit2_8 => kernel_rfl)
    (case kit2_9 => kernel_rfl)
    (case kit2_10 => kernel_rfl)
    (case kit2_11 => kernel_rfl)
    (case kit2_12 => kernel_rfl)
    (case kit2_13 => kernel_rfl)
    (case kit2_14 => kernel_rfl)
    (case kit2_15 => kernel_rfl)
    (case kit2_16 => kernel_rfl)
    (case kitV2 => kernel_rfl)
    (case kit3_0 => kernel_rfl)
    (case kit3_1 => kernel_rfl)
    (case kit3_2 => kernel_rfl)
    (case kit3_3 => kernel_rfl)
    (case kit3_4 => kernel_rfl)
    (case kit3_5 => kernel_rfl)
    (case kit3_6 => kernel_rfl)
    (case kit3_7 => kernel_rfl)
    (case kit3_8 => kernel_rfl)
    (case kit3_9 => kernel_rfl)
    (case kit3_10 => kernel_rfl)
    (case kit3_11 => kernel_rfl)
    (case kit3_12 => kernel_rfl)
    (case kit3_13 => kernel_rfl)
    (case kit3_14 => kernel_rfl)
    (case kit3_15 => kernel_rfl)
    (case kit3_16 => kernel_rfl)
    (case kitV3 => kernel_rfl)
    (case kit4_0 => kernel_rfl)
    (case kit4_1 => kernel_rfl)
    (case kit4_2 => kernel_rfl)
    (case kit4_3 => kernel_rfl)
    (case kit4_4 => kernel_rfl)
    (case kit4_5 => kernel_rfl)
    (case kit4_6 => kernel_rfl)
    (case kit4_7 => kernel_rfl)
    (case kit4_8 => kernel_rfl)
    (case kit4_9 => kernel_rfl)
    (case kit4_10 => kernel_rfl)
    (case kit4_11 => kernel_rfl)
    (case kit4_12 => kernel_rfl)
    (case kit4_13 => kernel_rfl)
    (case kit4_14 => kernel_rfl)
    (case kit4_15 => kernel_rfl)
    (case kit4_16 => kernel_rfl)
    (case kitV4 => kernel_rfl)
    (case kit15_0 => kernel_rfl)
    (case kit15_1 => kernel_rfl)
    (case kit15_2 => kernel_rfl)
    (case kit15_3 => kernel_rfl)
    (case kit15_4 => kernel_rfl)
    (case kit15_5 => kernel_rfl)
    (case kit15_6 => kernel_rfl)
    (case kit15_7 => kernel_rfl)
    (case kit15_8 => kernel_rfl)
    (case kit15_9 => kernel_rfl)
    (case kit15_10 => kernel_rfl)
    (case kit15_11 => kernel_rfl)
    (case kit15_12 => kernel_rfl)
    (case kit15_13 => kernel_rfl)
    (case kit15_14 => kernel_rfl)
    (case kit15_15 => kernel_rfl)
    (case kit15_16 => kernel_rfl)
    (case kitV15 => kernel_rfl)
    (case te1 => k_is)
    (case te2_0 => kernel_rfl)
    (case te2_2 => kernel_rfl)
    (case te2_3 => kernel_rfl)
    (case te2_4 => kernel_rfl)
    (case te2_15 => kernel_rfl)
    (case hDR => k_is)
    (case lDR => k_is)
    (case hGO => k_is)
    (case lGO => k_is)
    (case hSE => k_is)
    (case lSE => k_is)
    (case nt => kernel_rfl)
    (case r1 => exact rfl)
    (case r2 => exact rfl)
    (case r3 => exact rfl)
    (case r4 => exact rfl)
    (case r5 => exact rfl)
    (case r6 => exact rfl)
    (case r7 => exact rfl)
    (case r8 => exact rfl)
#print axioms PySem.Challenge.cw_laidtrees_k22_layers_refused_holds

