import PyProof.Rows.All
import Wide.All
import OpenK.AllK
import Wide.FinOn
import HandS.ForMost
import HandS.AnyAll
import HandS.GenList
import HandS.Lambda
import HandS.EndTab
import HandS.ForExc
import HandS.IsInst
import HandS.TupAny
import HandS.Wide
import HandS.Conv
import HandS.Style
import HandS.TupMul
import HandS.SetFor
import HandS.EndBits
import HandS.HotCalls
import HandS.ExcIs
import HandS.DictTup
import HandS.DictEq
import HandS.DictComp
import HandS.TupLen
import HandS.SortOrd
import HandS.TupSets
import KE.KDictDisplayH
import KE.KDictCopyH
import KE.KDictWalk
import KE.KDictList
import HandS.Keys
import HandS.SortRule
import HandS.TupLe
import KE.KSortTup
import PyProof.Rows.SortKeyStr
import HandS.Walk
import KE.LtData
import HandS.Iter
import HandS.DictSubView
import KE.KEqDict
import HandS.ListEq
import HandS.Star
import HandS.More
import HandS.Comp
import HandS.Deep
import HandS.Defaults
import KE.KStateDown
import HandS.Head0
import HandS.Head1
import HandS.Head2
import HandS.HeadHook1
import HandS.HeadHook2
import HandS.HeadHook3
import HandS.HeadHook4
import HandS.HeadWalk
import HandS.HeadEnd
import PySem.Challenge.RW_laidtrees_k42_handles_refused
set_option Elab.async false
set_option linter.all false
set_option maxRecDepth 100000
set_option maxHeartbeats 4000000
/-! all(elt for x in iter), any(..): the element may call defs, allocate, and let tables of code objects grow. -/
namespace GA
open PySem PySem.Spec PyProof.Rows L2 GenW

/-- the context of the generator's own frame, resumed within A -/
abbrev gcx (X : Cx) (A : Around) (s : Shared) (H : Hp) (ge : Env) (N : List Str) (fp : List Addr) (pn : List (Addr × Obj)) : Cx :=
  { X with
    A := A, N := N, s_0 := s, H_0 := H, env := ge, outer := X.stack, stack := ge :: X.stack,
    ex := fp, fn := fun _ => false, calm := true, pn := pn, xe := fun _ _ => False }

/-- the names of the generator's frame: those of the def (N0), pad more slots, its own name x at slot j -/
structure GN (N0 : List Str) (sc scope : Scope) (x : Str) (N : List Str) (pad j : Nat) : Prop where
  kind : scope.kind = .function
  co : scope.isCoroutine = false
  cell : ∀ y ∈ scope.names, y.2 ≠ .cell
  dot : scope.names.lookup (".0" : Str) = some NameKind.local
  loc : scope.names.lookup x = some .local
  only : ∀ y ∈ scope.names, y.2 = .local → y.1 = x ∨ y.1 ∉ N
  free : ∀ y ∈ scope.names, y.2 = .free → sc.names.lookup y.1 = some .cell ∨ sc.names.lookup y.1 = some .free
  nd : N.Nodup
  jx : N[j]? = some x
  len : N.length = N0.length + pad
  pre : N.take N0.length = N0

/-- the slots of the generator's frame -/
abbrev gsl (σ : L2.St) (pad j : Nat) (v : Option V) : L2.St := (σ ++ List.replicate pad none).set j v

section
variable {X : Cx} {pins : List (Addr × Obj)} {σ : L2.St} {H : Hp} {s : Shared}

theorem gfree {N : List Str} {scope : Scope} {x : Str} {pad j : Nat} (I : Inv X pins σ H s) (G : GN X.N X.env.scope scope x N pad j) :
    ∀ y ∈ scope.names, y.2 = .free → ∃ c, X.env.cells.lookup y.1 = some c := by
  intro y hy e
  rcases G.free y hy e with h | h
  · exact I.ok.has _ (Or.inl h)
  · exact I.ok.has _ (Or.inr h)

/-- the frame has just been made -/
theorem gstart {N : List Str} {scope : Scope} {x : Str} {pad j : Nat} {A : Around} {fp : List Addr} {code itv : Value} {h5 : Heap} {gs : Array GenState} {tk : Nat} {a : Addr} {go : Obj}
    (I : Inv X pins σ H s) (G : GN X.N X.env.scope scope x N pad j) (hA : A.handled = none)
    (hfr : A.frames = some (genEnv scope (cloFrom X.env.cells scope.names []) s.heap.objs.size code builtinsNs X.env :: X.stack))
    (hfp : ∀ b ∈ fp, FpOk X pins H b ∧ b < s.heap.objs.size)
    (kp : ∀ b o, s.heap.get? b = some o → h5.get? b = some o)
    (hn : h5.Ns s.heap.objs.size (fun y => if y = ".0" then some itv else none)) (hb : AllBare gs)
    (ha : h5.get? a = some go) (hlt : s.heap.objs.size < a) (hgo : ∀ v, go.data ≠ .cell v) :
    Inv (gcx X A s H (genEnv scope (cloFrom X.env.cells scope.names []) s.heap.objs.size code builtinsNs X.env) N fp [(a, go)]) []
      (gsl σ pad j none) H { s with gens := gs, toks := tk, heap := h5 } := by
  have cm : ∀ {y c}, (y, c) ∈ cloFrom X.env.cells scope.names [] → X.env.cells.lookup y = some c ∧ (y, NameKind.free) ∈ scope.names := by
    intro y c hm
    rcases cloFrom_mem hm with h | ⟨h1, rfl⟩
    · cases h
    · obtain ⟨c, hc⟩ := gfree I G _ h1 rfl
      rw [hc]
      exact ⟨rfl, h1⟩
  have cl : ∀ {y c}, (cloFrom X.env.cells scope.names []).lookup y = some c → X.env.cells.lookup y = some c :=
    fun e => (cm (PySem.mem_of_lookup e)).1
  have clt : ∀ {y c}, X.env.cells.lookup y = some c → c < s.heap.objs.size := by
    intro y c e
    obtain ⟨v, z⟩ := I.cell _ _ e
    exact z.lt
  have frC : H s.heap.objs.size = none := I.hok.fresh (Nat.le_refl _)
  have okg : (gcx X A s H (genEnv scope (cloFrom X.env.cells scope.names []) s.heap.objs.size code builtinsNs X.env) N fp [(a, go)]).Ok := by
    constructor
    case mod => exact I.ok.mod
    case kind => exact G.kind
    case glob => exact I.ok.glob
    case blt => rfl
    case above => exact Nat.le_refl _
    case inj => exact fun y z c e1 e2 => I.ok.inj y z c (cl e1) (cl e2)
    case has =>
      intro y hy
      have hy : scope.names.lookup y = some .cell ∨ scope.names.lookup y = some .free := hy
      rcases hy with hy | hy
      · exact absurd rfl (G.cell _ (PySem.mem_of_lookup hy))
      · exact mem_lookup (cloFrom_has (cells := X.env.cells) (acc := []) (PySem.mem_of_lookup hy))
    case cab => exact fun y c z _ => nomatch z
    case hd => exact fun _ => hA
    case frames => exact hfr
    case stk => exact .inr ⟨rfl, rfl⟩
    case exf =>
      intro b hb
      obtain ⟨⟨_, _, _, _, f5, _⟩, f7⟩ := hfp b hb
      exact ⟨Nat.ne_of_lt f7, fun y c e => f5 y c (cl e)⟩
    case bs => exact I.bs
    case bsz => exact Nat.le_trans I.ok.bsz I.sz
    case noex =>
      intro b o e hb
      obtain ⟨⟨_, _, _, f4, _, _⟩, _⟩ := hfp b hb
      rcases f4 with z | z
      · exact I.ok.noex b o e z
      · have h1 := Heap.lt_size e
        exact absurd (Nat.lt_of_lt_of_le (Nat.lt_of_lt_of_le h1 I.ok.bsz) z) (Nat.lt_irrefl _)
    case exfs =>
      intro b hb z
      obtain ⟨⟨_, f2, f3, _, _, _⟩, _⟩ := hfp b hb
      rcases List.mem_cons.mp (I.stkSub b z) with y | y
      · exact f2 y
      · exact f3 y
    case funs => exact I.stack
    case frf => exact I.stkFree
  refine ⟨okg, rfl, hb, Un.kept kp, ⟨_, hn, ?_⟩, ?_, frC, ?_, ?_, I.hok.kept kp, ?_⟩
  · intro i y v h1 h2 h3
    have hij : i ≠ j := by
      intro e
      subst e
      have h2 : (gsl σ pad i none)[i]? = some (some v) := h2
      rw [List.getElem?_set] at h2
      split at h2
      · split at h2 <;> cases h2
      · rename_i z; exact z rfl
    have h2' : (σ ++ List.replicate pad none)[i]? = some (some v) := by
      have h2 : (gsl σ pad j none)[i]? = some (some v) := h2
      rw [List.getElem?_set_ne (Ne.symm hij)] at h2
      exact h2
    have hi : i < σ.length := by
      rcases Nat.lt_or_ge i σ.length with z | z
      · exact z
      · rw [List.getElem?_append_right z, List.getElem?_replicate] at h2'
        split at h2' <;> cases h2'
    rw [List.getElem?_append_left hi] at h2'
    have hN : X.N[i]? = some y := by
      have e : (N.take X.N.length)[i]? = some y := by
        rw [List.getElem?_take_of_lt (by rw [← I.len]; exact hi)]
        exact h1
      rw [G.pre] at e
      exact e
    have hyx : y ≠ x := by
      intro e
      subst e
      exact hij (nodup_ix G.nd h1 G.jx)
    have h3 : scope.names.lookup y = some .local ∨ scope.names.lookup y = some .cell ∨ scope.names.lookup y = some .free := h3
    rcases h3 with z | z | z
    · rcases G.only _ (PySem.mem_of_lookup z) rfl with q | q
      · exact absurd q hyx
      · exact absurd (List.mem_of_getElem? h1) q
    · exact absurd rfl (G.cell _ (PySem.mem_of_lookup z))
    · have hv : X.env.scope.names.lookup y = some .cell ∨ X.env.scope.names.lookup y = some .free := G.free _ (PySem.mem_of_lookup z) rfl
      obtain ⟨m, hm, hl⟩ := I.loc
      obtain ⟨u, r, lk⟩ := hl i y v hN h2' (.inr hv)
      refine ⟨u, r, .inr ⟨.inr z, ?_⟩⟩
      obtain ⟨c', e'⟩ := mem_lookup (cloFrom_has (cells := X.env.cells) (acc := []) (PySem.mem_of_lookup z))
      refine ⟨c', e', ?_⟩
      rcases lk with ⟨k, _⟩ | ⟨_, c, e, ic⟩
      · have k : X.env.scope.names.lookup y = some .local := k
        rcases hv with q | q <;> (rw [q] at k; cases k)
      · have e2 := cl e'
        rw [e2] at e
        cases e
        obtain ⟨ob, ho, hd⟩ := ic
        exact ⟨ob, kp _ _ ho, hd⟩
  · intro y c e
    obtain ⟨v, ob, ho, hd⟩ := I.cell y c (cl e)
    exact ⟨v, ob, kp _ _ ho, hd⟩
  · exact fun y c e => I.freeC y c (cl e)
  · intro p hp
    have hp : p ∈ [(a, go)] ++ ([] : List (Addr × Obj)) := hp
    rw [List.append_nil] at hp
    rw [List.mem_singleton.mp hp]
    have hle := Nat.le_of_lt hlt
    refine ⟨ha, I.hok.fresh hle, Ne.symm (Nat.ne_of_lt hlt), ?_, hgo⟩
    intro z
    rcases List.mem_cons.mp (I.stkSub a z) with y | y
    · rw [y] at hlt
      exact absurd (Nat.lt_trans hlt I.lt) (Nat.lt_irrefl _)
    · exact I.nofs hle y
  · show ((σ ++ List.replicate pad none).set j none).length = N.length
    rw [List.length_set, List.length_append, List.length_replicate, I.len, G.len]
end

/-! ### the turns -/
/-- the end of the run, an item on its way -/
def gEnd (Xg : Cx) (Qe : Hp → Prop) : GenEnd := fun _ _ r s1 =>
  ((r = .ok (.ret .none) ∨ r = .ok .next) ∧ ∃ σ' H', Inv Xg [] σ' H' s1 ∧ Qe H') ∨ ∃ e : Value, r = .error e ∧ False
/-- go: the truth that lets the walk go on; Qb: what is wanted of the other one -/
def gItem (Xg : Cx) (go : Bool) (Qb : Hp → Prop) : Protocol := fun _ _ v s1 kap =>
  ∃ b H', v = Value.bool b ∧ (∃ pns σ', Inv Xg pns σ' H' s1) ∧ (b ≠ go → Qb H') ∧
    (b = go → ∀ s', s'.heap = s1.heap → s'.os = s1.os → AllBare s'.gens → kap (.send .none) s')

section
variable {X : Cx} {elt iter : Expr} {x : Str} {px gpos : Pos} {scope : Scope}
theorem gen_seg {A : Around} {s4 : Shared} {H4 : Hp} {ge : Env} {N : List Str} {fp : List Addr} {pn : List (Addr × Obj)} {it : Addr} {J : It} {tn : Nat → Heap → Prop} {te : TE} {σ0 : L2.St} {j : Nat} {go : Bool} {Qe Qb : Hp → Prop}
    (T : Turn X.prog X.w X.K (.Name x px) J fp it tn) (hnd : N.Nodup) (hj : N[j]? = some x) (hloc : ge.scope.names.lookup x = some .local) (hco : ge.scope.isCoroutine = false)
    (hpnf : ∀ p ∈ pn, p.1 ∉ fp)
    (pe : PE (gcx X ((A.over (.compLoop (.GeneratorExp elt [⟨.Name x px, iter, [], 0⟩] scope gpos) 0 (.ref it) .none ge) [])) s4 H4 ge N fp pn) elt te)
    (W : Nat → Nat → Hp → Prop) (h0 : σ0[j]? = some none)
    (turn : ∀ i m H, W i m H → (J.stop i H ∧ Qe H) ∨ (J.go i H ∧ ∀ y H', J.yld i H y H' → te (σ0.set j (some y)) H' fun v H3 => ∃ b, v = .bl b ∧ (b ≠ go → Qb H3) ∧ (b = go → ∃ m', m' < m ∧ W (i + 1) m' H3))) :
    ∀ (n i m : Nat) (H : Hp) (s0 s : Shared), m < n → W i m H → Inv (gcx X ((A.over (.compLoop (.GeneratorExp elt [⟨.Name x px, iter, [], 0⟩] scope gpos) 0 (.ref it) .none ge) [])) s4 H4 ge N fp pn) [] σ0 H s →
      tn i s.heap → (∀ b ∈ fp, H b = none) →
      Seg (model X.prog X.w) A (gEnd (gcx X ((A.over (.compLoop (.GeneratorExp elt [⟨.Name x px, iter, [], 0⟩] scope gpos) 0 (.ref it) .none ge) [])) s4 H4 ge N fp pn) Qe)
        (gItem (gcx X ((A.over (.compLoop (.GeneratorExp elt [⟨.Name x px, iter, [], 0⟩] scope gpos) 0 (.ref it) .none ge) [])) s4 H4 ge N fp pn) go Qb) n s0
        (.compLoop (.GeneratorExp elt [⟨.Name x px, iter, [], 0⟩] scope gpos) 0 (.ref it) .none ge)
        ((model X.prog X.w).den (.compLoop (.GeneratorExp elt [⟨.Name x px, iter, [], 0⟩] scope gpos) 0 (.ref it) .none ge)) [] s := by
  generalize hAg : (A.over (.compLoop (.GeneratorExp elt [⟨.Name x px, iter, [], 0⟩] scope gpos) 0 (.ref it) .none ge) []) = Ag at pe ⊢
  have stat : ∀ {ps : List (Addr × Obj)} {σ' : L2.St} {H' : Hp} {s' : Shared}, (∀ p ∈ ps, p.1 ∉ fp) → Inv (gcx X Ag s4 H4 ge N fp pn) ps σ' H' s' → (∀ b ∈ fp, H' b = none) → ∀ b ∈ fp, FpOk (gcx X Ag s4 H4 ge N fp pn) ps H' b := by
    intro ps σ' H' s' hps I' hn b hb
    refine ⟨hn b hb, (I'.ok.exf b hb).1, I'.ok.exfs b hb, .inl hb, fun x c e => (I'.ok.exf b hb).2 x c e, fun p hp z => ?_⟩
    rcases List.mem_append.mp hp with q | q
    · exact hpnf p q (z ▸ hb)
    · exact hps p q (z ▸ hb)
  have nop : ∀ p ∈ ([] : List (Addr × Obj)), p.1 ∉ fp := fun p hp => by simp at hp
  intro n
  induction n with
  | zero => intro i m H s0 s hm; omega
  | succ n ih =>
    intro i m H s0 s hm hw I st nf
    show Seg _ A _ _ _ s0 _ ((compTurn (.GeneratorExp elt [⟨.Name x px, iter, [], 0⟩] scope gpos) 0 (.ref it) .none ge).onRaise (leaving ge)) [] s
    rw [compTurn_gen, Sem.onRaise_eq_wrap]
    refine seg_bind_wrap (wpAny_standAt ?_)
    rcases turn i m H hw with ⟨stop, qq⟩ | ⟨goes, step⟩
    · refine seg_bind_wrap ?_
      rw [hAg]
      refine thnF (T.done (gcx X Ag s4 H4 ge N fp pn) rfl rfl rfl rfl i [] s σ0 H (fun _ _ => False) I (stat nop I nf) st stop) fun r s6 hr6 => ?_
      obtain ⟨hr, I6⟩ := hr6
      subst hr
      exact seg_end (.ok .next) (.inl ⟨.inr rfl, σ0, H, I6, qq⟩)
    · refine seg_bind_wrap ?_
      rw [hAg]
      refine thnF (T.item (gcx X Ag s4 H4 ge N fp pn) rfl rfl rfl rfl i [] s σ0 H (fun _ _ => False) I (stat nop I nf) st goes) fun r s6 hr6 => ?_
      obtain ⟨u, hr, h6⟩ := hr6
      subst hr
      refine seg_bind_wrap ?_
      rw [hAg]
      refine thnF h6 fun _ s7 hs7 => ?_
      obtain ⟨y, H7, I7, r7, y7, st7, n7⟩ := hs7
      have I7' := I7.pinned (stat nop I7 n7) (T.obj _ _ st7)
      refine seg_bind_wrap ?_
      rw [hAg]
      refine wpAny_assign_Name (store_ok (i := j) (v := y) I7' hnd hj (.inl hloc) r7 (fun s8 I8 => ?_) (.inr hloc))
      refine seg_bind_wrap ?_
      simp only [List.forIn_nil]
      refine wpAny_pure ?_
      simp only [if_true]
      have hy : ∀ v, yieldOut ge v = yieldValue v := fun v => by simp only [yieldOut, hco, Bool.false_eq_true, if_false]
      simp only [hy]
      rw [Sem.bind_eq_wrap', Sem.bind_eq_wrap', Sem.wrap_wrap, Sem.wrap_wrap]
      refine seg_wrap ?_
      rw [hAg]
      refine thnF (pe.run _ s8 _ H7 _ I8 (step y H7 y7)) fun z s9 hz => ?_
      obtain ⟨v, H9, I9, r9, b, rfl, hno, hgo⟩ := hz
      obtain rfl : z = Value.bool b := r9
      refine seg_at (seg_yield rfl rfl rfl ⟨b, H9, rfl, ⟨_, _, I9⟩, hno, fun e s'' hh hos hb => ?_⟩)
      obtain ⟨m', hlt, w'⟩ := hgo e
      have I10 : Inv (gcx X Ag s4 H4 ge N fp pn) ([] ++ pinsAt fp s7.heap) (σ0.set j (some y)) H9 s'' :=
        I9.call' (ch := []) hos (by rw [hh]; exact Un.refl) (by rw [hh]; exact I9.hok) hb (fun b hb => by simp at hb)
      have pin' : ∀ b ∈ fp, ∀ o, s7.heap.get? b = some o → s''.heap.get? b = some o ∧ H9 b = none := fun b hb o e =>
        let z := I10.pin (b, o) (List.mem_append_right _ (List.mem_append_right _ (mem_pinsAt hb e)))
        ⟨z.1, z.2.1⟩
      refine seg_again rfl (ih (i + 1) m' H9 s'' s'' (by omega) w' ((I10.unpinned (pins := [])).weak (by rw [List.length_set]) fun k v e2 => ?_) (T.keep _ _ _ st7 fun b hb o e => (pin' b hb o e).1) fun b hb => ?_)
      · have hk : k ≠ j := fun q => by
          rw [q, h0] at e2
          cases e2
        rw [List.getElem?_set_ne (Ne.symm hk)]
        exact e2
      · obtain ⟨o, e2, _⟩ := T.obj _ _ st7 b hb
        exact (pin' b hb o e2).2
end

/-! ### the consumer -/
section
variable {P : Program} {w : World}
/-- what the consumer's loop makes of an item: «all» goes on by True, «any» by False -/
theorem loop_all {Xg : Cx} {A : Around} {R : Result → Shared → Prop} {a : Addr} {g : Nat} {Qe Qb : Hp → Prop} (hh : A.handled = none) (hd : A.depth < recursionLimit)
    (gen : ∀ pns σ' H' s', Inv Xg pns σ' H' s' → s'.heap.IsGen a g)
    (hend : ∀ (b : Bool) pns σ' H' s1, Inv Xg pns σ' H' s1 → (if b = true then Qe H' else Qb H') → ∀ s', s'.os = s1.os → AllBare s'.gens → (∀ c o, s1.heap.get? c = some o → s'.heap.get? c = some o) → R (.ok (.ret (.bool b))) s') :
    ∀ (n : Nat) (s : Shared), s.heap.IsGen a g → s.heap.NoLimit →
      (∃ gs, s.gens[g]? = some gs ∧ gs.Goes (model P w) A.in1.in1 (gEnd Xg Qe) (gItem Xg true Qb) n (.send .none) (s.setGen g .running)) →
      codeAny (model P w) A (.builtin "all.loop" ⟨[.ref a], []⟩) R s := by
  intro n
  induction n with
  | zero =>
    intro s hg hl hgo
    obtain ⟨gs, hgs, hgo⟩ := hgo
    refine codeAny_builtin F.entry_all_loop ?_
    rw [Around.under_plainId F.plain_all_loop _]
    show wpAny _ A.in1 (pyNext (.ref a) >>= _) _ _ s
    refine wpAny_bind (next_genG (A := A.in1) (Er := fun _ _ => False) hh hl hd hg hgs hgo (fun v s₁ gs' hbare hv => ?_) (fun s₁ hp h' hk => ?_) fun e s₁ he => he.elim)
    · obtain ⟨b, H', rfl, ⟨pns, σ', J⟩, hno, hgo⟩ := hv
      cases b with
      | true => exact (hgo rfl s₁ rfl rfl J.bare).elim
      | false =>
        refine wpAny_bind (wpAny_holding (wpAny_truthy_bool ?_))
        refine wpAny_bind (wpAny_letGo ?_)
        simp only [Bool.false_eq_true, if_false]
        refine wpAny_bind (wpAny_rule (wpAny_pure ?_))
        exact hend false pns σ' H' s₁ J (hno (by decide)) _ rfl (allBare_setGen J.bare hbare) fun _ _ e => e
    · obtain ⟨σ', H', J, q⟩ := hp
      refine wpAny_bind (wpAny_rule (wpAny_pure ?_))
      exact hend true [] σ' H' s₁ J q _ rfl (allBare_setGen J.bare rfl) hk
  | succ n ih =>
    intro s hg hl hgo
    obtain ⟨gs, hgs, hgo⟩ := hgo
    have hgl : g < s.gens.size := (Array.getElem?_eq_some_iff.mp hgs).1
    refine codeAny_builtin F.entry_all_loop ?_
    rw [Around.under_plainId F.plain_all_loop _]
    show wpAny _ A.in1 (pyNext (.ref a) >>= _) _ _ s
    refine wpAny_bind (wpAny_gsz (n := g + 1) hgl (next_genG (A := A.in1) (Er := fun _ _ => False) hh hl hd hg hgs hgo (fun v s₁ gs' hbare hv => ?_) (fun s₁ hp h' hk => ?_) fun e s₁ he => he.elim))
    · intro hsz
      obtain ⟨b, H', rfl, ⟨pns, σ', J⟩, hno, hgo⟩ := hv
      refine wpAny_bind (wpAny_holding (wpAny_truthy_bool ?_))
      refine wpAny_bind (wpAny_letGo ?_)
      cases b with
      | true =>
        simp only [if_true]
        have hsz1 : g < s₁.gens.size := by
          have q : (s₁.setGen g gs').gens.size = s₁.gens.size := setGen_size _ _ _
          have hsz' : g + 1 ≤ (s₁.setGen g gs').gens.size := hsz
          omega
        refine wpAny_pure ⟨plainId_quiet F.plain_all_loop _, ih (s₁.setGen g gs') (show s₁.heap.IsGen a g from gen _ _ _ _ J) (show s₁.heap.NoLimit from J.nolimit) ⟨gs', setGen_at hsz1, ?_⟩⟩
        exact hgo rfl ((s₁.setGen g gs').setGen g .running) rfl rfl (allBare_setGen (allBare_setGen J.bare hbare) rfl)
      | false =>
        simp only [Bool.false_eq_true, if_false]
        refine wpAny_bind (wpAny_rule (wpAny_pure ?_))
        exact hend false pns σ' H' s₁ J (hno (by decide)) _ rfl (allBare_setGen J.bare hbare) fun _ _ e => e
    · intro _
      obtain ⟨σ', H', J, q⟩ := hp
      refine wpAny_bind (wpAny_rule (wpAny_pure ?_))
      exact hend true [] σ' H' s₁ J q _ rfl (allBare_setGen J.bare rfl) hk

theorem loop_any {Xg : Cx} {A : Around} {R : Result → Shared → Prop} {a : Addr} {g : Nat} {Qe Qb : Hp → Prop} (hh : A.handled = none) (hd : A.depth < recursionLimit)
    (gen : ∀ pns σ' H' s', Inv Xg pns σ' H' s' → s'.heap.IsGen a g)
    (hend : ∀ (b : Bool) pns σ' H' s1, Inv Xg pns σ' H' s1 → (if b = true then Qb H' else Qe H') → ∀ s', s'.os = s1.os → AllBare s'.gens → (∀ c o, s1.heap.get? c = some o → s'.heap.get? c = some o) → R (.ok (.ret (.bool b))) s') :
    ∀ (n : Nat) (s : Shared), s.heap.IsGen a g → s.heap.NoLimit →
      (∃ gs, s.gens[g]? = some gs ∧ gs.Goes (model P w) A.in1.in1 (gEnd Xg Qe) (gItem Xg false Qb) n (.send .none) (s.setGen g .running)) →
      codeAny (model P w) A (.builtin "any.loop" ⟨[.ref a], []⟩) R s := by
  intro n
  induction n with
  | zero =>
    intro s hg hl hgo
    obtain ⟨gs, hgs, hgo⟩ := hgo
    refine codeAny_builtin F.entry_any_loop ?_
    rw [Around.under_plainId F.plain_any_loop _]
    show wpAny _ A.in1 (pyNext (.ref a) >>= _) _ _ s
    refine wpAny_bind (next_genG (A := A.in1) (Er := fun _ _ => False) hh hl hd hg hgs hgo (fun v s₁ gs' hbare hv => ?_) (fun s₁ hp h' hk => ?_) fun e s₁ he => he.elim)
    · obtain ⟨b, H', rfl, ⟨pns, σ', J⟩, hno, hgo⟩ := hv
      cases b with
      | false => exact (hgo rfl s₁ rfl rfl J.bare).elim
      | true =>
        refine wpAny_bind (wpAny_holding (wpAny_truthy_bool ?_))
        refine wpAny_bind (wpAny_letGo ?_)
        simp only [if_true]
        refine wpAny_bind (wpAny_rule (wpAny_pure ?_))
        exact hend true pns σ' H' s₁ J (hno (by decide)) _ rfl (allBare_setGen J.bare hbare) fun _ _ e => e
    · obtain ⟨σ', H', J, q⟩ := hp
      refine wpAny_bind (wpAny_rule (wpAny_pure ?_))
      exact hend false [] σ' H' s₁ J q _ rfl (allBare_setGen J.bare rfl) hk
  | succ n ih =>
    intro s hg hl hgo
    obtain ⟨gs, hgs, hgo⟩ := hgo
    have hgl : g < s.gens.size := (Array.getElem?_eq_some_iff.mp hgs).1
    refine codeAny_builtin F.entry_any_loop ?_
    rw [Around.under_plainId F.plain_any_loop _]
    show wpAny _ A.in1 (pyNext (.ref a) >>= _) _ _ s
    refine wpAny_bind (wpAny_gsz (n := g + 1) hgl (next_genG (A := A.in1) (Er := fun _ _ => False) hh hl hd hg hgs hgo (fun v s₁ gs' hbare hv => ?_) (fun s₁ hp h' hk => ?_) fun e s₁ he => he.elim))
    · intro hsz
      obtain ⟨b, H', rfl, ⟨pns, σ', J⟩, hno, hgo⟩ := hv
      refine wpAny_bind (wpAny_holding (wpAny_truthy_bool ?_))
      refine wpAny_bind (wpAny_letGo ?_)
      cases b with
      | false =>
        simp only [Bool.false_eq_true, if_false]
        have hsz1 : g < s₁.gens.size := by
          have q : (s₁.setGen g gs').gens.size = s₁.gens.size := setGen_size _ _ _
          have hsz' : g + 1 ≤ (s₁.setGen g gs').gens.size := hsz
          omega
        refine wpAny_pure ⟨plainId_quiet F.plain_any_loop _, ih (s₁.setGen g gs') (show s₁.heap.IsGen a g from gen _ _ _ _ J) (show s₁.heap.NoLimit from J.nolimit) ⟨gs', setGen_at hsz1, ?_⟩⟩
        exact hgo rfl ((s₁.setGen g gs').setGen g .running) rfl rfl (allBare_setGen (allBare_setGen J.bare hbare) rfl)
      | true =>
        simp only [if_true]
        refine wpAny_bind (wpAny_rule (wpAny_pure ?_))
        exact hend true pns σ' H' s₁ J (hno (by decide)) _ rfl (allBare_setGen J.bare hbare) fun _ _ e => e
    · intro _
      obtain ⟨σ', H', J, q⟩ := hp
      refine wpAny_bind (wpAny_rule (wpAny_pure ?_))
      exact hend false [] σ' H' s₁ J q _ rfl (allBare_setGen J.bare rfl) hk
end

/-! ### the expression -/
/-- some table stands at P -/
def TabG (H : Hp) (P : Addr) : Prop := ∃ ps : Array Value, H P = some (.tbl ps) ∧ TriplesOk ps.toList
/-- H' is H but for the table at P -/
def Tabd (P : Addr) (H H' : Hp) : Prop := TabG H' P ∧ ∀ b, b ≠ P → H' b = H b
/-- what a walk by a generator asks: go is the item's truth that lets it go on -/
def GW (J : It) (te : TE) (σ0 : L2.St) (j : Nat) (go : Bool) (Q : Bool → Hp → Prop) (H : Hp) : Prop :=
  ∃ W : Nat → Nat → Hp → Prop, (∃ m, W 0 m H) ∧ ∀ i m H, W i m H →
    (J.stop i H ∧ Q go H) ∨ (J.go i H ∧ ∀ y H', J.yld i H y H' → te (σ0.set j (some y)) H' fun v H3 => ∃ b, v = .bl b ∧ (b ≠ go → Q (!go) H3) ∧ (b = go → ∃ m', m' < m ∧ W (i + 1) m' H3))
/-- the reading -/
def tGen (P : Addr) (go : Bool) (wi : TI) (te : TE) (pad j : Nat) : TE := fun σ H Q => wi σ H fun J H1 => TabG H1 P ∧
  ∀ H2, Tabd P H1 H2 → GW J te (gsl σ pad j none) j go (fun b H3 => Q (.bl b) H3) H2

section
variable {X : Cx} {c P : Addr} {elt iter : Expr} {x : Str} {px p pos gpos : Pos} {scope : Scope} {wi : TI} {te : TE} {k pad j : Nat} {N : List Str}

theorem room_gen {A : Around} {gx : Expr} {it : Value} {ge : Env} (hr : Room (k + 1) A) (hf : Code.isFrame (.compLoop gx 0 it .none ge) = true := by rfl) :
    Room k (A.in1.in1.over (.compLoop gx 0 it .none ge) []) := by
  have h1 := hr.dp
  have h2 := hr.un
  have e1 : (Code.compLoop gx 0 it .none ge).weight ≤ 1 := by
    show Code.frames _ + _ + _ + _ ≤ 1
    have : (Code.compLoop gx 0 it .none ge).frames ≤ 1 := by
      show (if Code.isFrame (.compLoop gx 0 it .none ge) = true then 1 else 0) ≤ 1
      split <;> omega
    simpa [Code.isCreation, Code.isGuard, Code.isCaller] using this
  have e2 : (Code.compLoop gx 0 it .none ge).cUnits ≤ 3 := by
    show 3 * (Code.compLoop gx 0 it .none ge).frames ≤ 3
    have : (Code.compLoop gx 0 it .none ge).frames ≤ 1 := by
      show (if Code.isFrame (.compLoop gx 0 it .none ge) = true then 1 else 0) ≤ 1
      split <;> omega
    omega
  refine ⟨hr.hd, ?_, ?_⟩
  · show A.depth + 0 + (Code.compLoop gx 0 it .none ge).weight + 3 * k + 5 < recursionLimit
    omega
  · show A.units + 1 + 1 + 0 + (Code.compLoop gx 0 it .none ge).cUnits + 16 * k + 200 < cLine
    omega

theorem gen_core {Q : Bool → Hp → Prop} {Q' : Value → Shared → Prop} {pins : List (Addr × Obj)} {σ : L2.St} {H : Hp} {s : Shared} {go : Bool} (hr : Room (k + 1) X.A) (hc : X.calm = true) (TB : LamX.TabB X.base X.mg c P) (hcode : X.env.code = .ref c)
    (G : GN X.N X.env.scope scope x N pad j) (hi : PI X (.Name x px) iter wi)
    (hel : ∀ (A : Around) (s : Shared) (H : Hp) (cl : List (Str × Addr)) (C : Addr) (code : Value) (fp : List Addr) (pn : List (Addr × Obj)), Room k A → PE (gcx X A s H (genEnv scope cl C code builtinsNs X.env) N fp pn) elt te)
    (hs : ∀ v, genFold iter X.env v = pure v) (I : Inv X pins σ H s)
    (h : wi σ H fun J H1 => TabG H1 P ∧ ∀ H2, Tabd P H1 H2 → GW J te (gsl σ pad j none) j go Q H2)
    (hQ : ∀ (Xg : Cx) (a : Addr) (g n : Nat) (s5 : Shared),
      (∀ pns σ' H' s', Inv Xg pns σ' H' s' → s'.heap.IsGen a g) →
      (∀ pns σ' H' s1, Inv Xg pns σ' H' s1 → ∀ s', s'.os = s1.os → AllBare s'.gens → (∀ b o, s1.heap.get? b = some o → s'.heap.get? b = some o) → Inv X pins σ H' s') →
      s5.heap.IsGen a g → s5.heap.NoLimit →
      (∃ gs, s5.gens[g]? = some gs ∧ gs.Goes (model X.prog X.w) X.A.in1.in1 (gEnd Xg (Q go)) (gItem Xg go (Q (!go))) n (.send .none) (s5.setGen g .running)) →
      Q' (.ref a) s5) :
    wpAny (model X.prog X.w) X.A (eval (.GeneratorExp elt [⟨.Name x px, iter, [], 0⟩] scope gpos) X.env) Q' X.xe s := by
  refine wpAny_GeneratorExp_make G.co (closure_ok (gfree I G)) G.cell G.dot G.kind hr.depth ?_ hs
  refine thn (hi.run pins s σ H _ I h) fun xv s0 h0 => thn h0 fun itv s1 h1 => ?_
  obtain ⟨it, fp, tn, J, H1, rfl, I1, T, st1, f1, ⟨ps, hP, ht⟩, q1⟩ := h1
  refine ⟨I1.nolimit, ?_⟩
  have hPs : s1.heap.get? P = some { cls := .none, data := .fields ps } := I1.hok P _ hP
  have nPf : ∀ b ∈ fp, b ≠ P := fun b hb z => by
    have e := (f1 b hb).1
    rw [z, hP] at e
    cases e
  have lt1 : ∀ b ∈ fp, b < s1.heap.objs.size := fun b hb => by
    obtain ⟨o, e, _⟩ := T.obj _ _ st1 b hb
    exact Heap.lt_size e
  have cd : PySem.W.CodeHd s1.heap c P := TB.code.keeps fun b u e => I1.bk b u e
  -- behind the code object's making
  have cont : ∀ (code : Value) (s4 : Shared) (H4 : Hp), Inv X pins σ H4 s4 → Tabd P H1 H4 → (∀ b o, b ≠ P → s1.heap.get? b = some o → s4.heap.get? b = some o) →
      wpAny (model X.prog X.w) X.A (builtinsFor X.env.globals X.env.builtins) (fun bi s₄ =>
        ∀ h', h'.Ns s₄.heap.objs.size (fun y => if y = ".0" then some (.ref it) else none) → Heap.SameBut s₄.heap.objs.size (s₄.heap.push { cls := .type "frame", data := .dict #[] }) h' →
          Q' (.ref h'.objs.size) { s₄ with
            gens := s₄.gens.push (.fresh (.compStart (.GeneratorExp elt [⟨.Name x px, iter, [], 0⟩] scope gpos) 0 (.ref it) .none (genEnv scope (cloFrom X.env.cells scope.names []) s₄.heap.objs.size code bi X.env))),
            toks := s₄.toks + 1 + 1 + 1,
            heap := h'.push { cls := .type "generator", data := .fields #[.int s₄.gens.size 0, .str "<genexpr>" (s₄.toks + 1), .str (X.env.qual ++ "<genexpr>") (s₄.toks + 1 + 1)] } }) X.xe s4 := by
    intro code s4 H4 I4 hT k4
    obtain ⟨bm, ob, e1, e2, e3, e4, e5, e6, e7, e8⟩ := TB.bm
    refine wpAny_builtinsFor (m := X.mg) (by rw [I4.ok.glob]; exact I4.mod.glob.keeps I4.bk) e1 e2 (I4.bk _ _ e5) e6 e7 e8 ?_
    intro h' hn hsb
    have sz' : h'.objs.size = s4.heap.objs.size + 1 := by rw [hsb.1, Heap.size_push]
    have kp' : ∀ b o, s4.heap.get? b = some o → h'.get? b = some o := fun b o e =>
      hsb.extBut b o (Nat.ne_of_lt (Heap.lt_size e)) (Heap.get?_push_of_some _ e)
    generalize hgo : ({ cls := .type "generator", data := .fields #[.int s4.gens.size 0, .str "<genexpr>" (s4.toks + 1), .str (X.env.qual ++ "<genexpr>") (s4.toks + 1 + 1)] } : Obj) = gob
    have hgc : ∀ v, gob.data ≠ .cell v := fun v z => by rw [← hgo] at z; cases z
    have hga : (h'.push gob).get? h'.objs.size = some gob := Heap.get?_push_size _ (by rw [← hgo]; rfl)
    have kp5 : ∀ b o, s4.heap.get? b = some o → (h'.push gob).get? b = some o := fun b o e => Heap.get?_push_of_some _ (kp' b o e)
    have gfpn : ∀ b ∈ fp, H4 b = none := fun b hb => by rw [hT.2 b (nPf b hb)]; exact (f1 b hb).1
    have st4 : tn 0 s4.heap := T.keep _ _ _ st1 fun b hb o e => k4 b o (nPf b hb) e
    have lt4 : ∀ b ∈ fp, b < s4.heap.objs.size := fun b hb => by
      obtain ⟨o, e, _⟩ := T.obj _ _ st4 b hb
      exact Heap.lt_size e
    have f4 : ∀ b ∈ fp, FpOk X pins H4 b ∧ b < s4.heap.objs.size := fun b hb => ⟨⟨gfpn b hb, (f1 b hb).2⟩, lt4 b hb⟩
    generalize hge : genEnv scope (cloFrom X.env.cells scope.names []) s4.heap.objs.size code builtinsNs X.env = ge
    have hAg : Room k (X.A.in1.in1.over (.compLoop (.GeneratorExp elt [⟨.Name x px, iter, [], 0⟩] scope gpos) 0 (.ref it) .none ge) []) := room_gen hr
    have hfr : (X.A.in1.in1.over (.compLoop (.GeneratorExp elt [⟨.Name x px, iter, [], 0⟩] scope gpos) 0 (.ref it) .none ge) []).frames = some (ge :: X.stack) := by
      show (X.A.frames).map _ = _
      rw [I4.ok.frames]
      rfl
    have hbg : AllBare (s4.gens.push (.fresh (.compStart (.GeneratorExp elt [⟨.Name x px, iter, [], 0⟩] scope gpos) 0 (.ref it) .none ge))) := I4.bare.push rfl
    generalize hs5 : ({ s4 with
      gens := s4.gens.push (.fresh (.compStart (.GeneratorExp elt [⟨.Name x px, iter, [], 0⟩] scope gpos) 0 (.ref it) .none ge)),
      toks := s4.toks + 1 + 1 + 1, heap := h'.push gob } : Shared) = s5
    have I5 : ∀ gs : Array GenState, AllBare gs → Inv (gcx X (X.A.in1.in1.over (.compLoop (.GeneratorExp elt [⟨.Name x px, iter, [], 0⟩] scope gpos) 0 (.ref it) .none ge) []) s4 H4 ge N fp [(h'.objs.size, gob)]) []
        (gsl σ pad j none) H4 { s4 with gens := gs, toks := s4.toks + 1 + 1 + 1, heap := h'.push gob } := by
      intro gs hb
      subst hge
      exact gstart I4 G hAg.hd hfr f4 kp5 (hn.push _) hb hga (by rw [sz']; exact Nat.lt_succ_self _) hgc
    have isg : ∀ h : Heap, h.get? h'.objs.size = some gob → h.IsGen h'.objs.size s4.gens.size := fun h e => by
      subst hgo
      exact ⟨_, _, _, e, rfl, rfl, rfl⟩
    obtain ⟨W, ⟨m0, w0⟩, turn⟩ := q1 H4 hT
    have pe := hel _ s4 H4 (cloFrom X.env.cells scope.names []) s4.heap.objs.size code fp [(h'.objs.size, gob)] hAg
    rw [hge] at pe
    have hloc : ge.scope.names.lookup x = some .local := by subst hge; exact G.loc
    have hco : ge.scope.isCoroutine = false := by subst hge; exact G.co
    have hpnf : ∀ p ∈ [(h'.objs.size, gob)], p.1 ∉ fp := fun p hp hm => by
      rw [List.mem_singleton.mp hp] at hm
      have := lt4 _ hm
      rw [sz'] at this
      exact absurd (Nat.lt_trans this (Nat.lt_succ_self _)) (Nat.lt_irrefl _)
    have hjl : (gsl σ pad j none)[j]? = some none := by
      have hl : j < (σ ++ List.replicate pad none).length := by
        rw [List.length_append, List.length_replicate, I4.len, ← G.len]
        exact (List.getElem?_eq_some_iff.mp G.jx).1
      show ((σ ++ List.replicate pad none).set j none)[j]? = some none
      rw [List.getElem?_set_self hl]
    refine hQ (gcx X (X.A.in1.in1.over (.compLoop (.GeneratorExp elt [⟨.Name x px, iter, [], 0⟩] scope gpos) 0 (.ref it) .none ge) []) s4 H4 ge N fp [(h'.objs.size, gob)]) h'.objs.size s4.gens.size (m0 + 1) s5 ?_ ?_ ?_ ?_ ?_
    · intro pns σ' H' s' J'
      exact isg _ (J'.pin (h'.objs.size, gob) (List.mem_append_left _ (List.mem_singleton.mpr rfl))).1
    · intro pns σ' H' s1' J' s' hos hbare hk
      exact I4.call' (ch := fp) (hos.trans J'.os) (J'.base.trans (Un.kept hk)) (J'.hok.kept hk) hbare fun b hb =>
        ⟨(f4 b hb).1.2.2.2.1, (f4 b hb).1.2.1, (f4 b hb).1.2.2.2.2.1, (f4 b hb).1.2.2.2.2.2⟩
    · subst hs5; exact isg _ hga
    · subst hs5; exact I4.nolimit.keeps kp5
    · refine ⟨.fresh (.compStart (.GeneratorExp elt [⟨.Name x px, iter, [], 0⟩] scope gpos) 0 (.ref it) .none ge), by subst hs5; exact Array.getElem?_push_size .., rfl, ?_⟩
      have hb5 : AllBare (s5.setGen s4.gens.size .running).gens := by
        subst hs5
        exact allBare_setGen hbg rfl
      have loop := gen_seg (A := X.A.in1.in1) (gpos := gpos) (go := go) (Qe := Q go) (Qb := Q (!go)) T G.nd G.jx hloc hco hpnf pe W hjl turn (m0 + 1) 0 m0 H4 (s5.setGen s4.gens.size .running) (s5.setGen s4.gens.size .running) (Nat.lt_succ_self _) w0
        (by subst hs5; exact I5 _ hb5) (by subst hs5; exact T.keep _ _ _ st4 fun b _ o e => kp5 b o e) gfpn
      show Seg _ X.A.in1.in1 _ _ _ _ _ ((compStart (.GeneratorExp elt [⟨.Name x px, iter, [], 0⟩] scope gpos) 0 (.ref it) .none ge).onRaise (leaving ge)) [] _
      unfold compStart
      rw [Sem.onRaise_eq_wrap]
      show Seg _ X.A.in1.in1 _ _ _ _ _ ((ask >>= _).wrap _ _ _ _) [] _
      refine seg_bind_wrap (wpAny_askSetting ?_)
      split
      · exact seg_again rfl loop
      · have self : ∀ (A' : Around) (R' : Value → Shared → Prop) (E' : Value → Shared → Prop), R' (.ref it) (s5.setGen s4.gens.size .running) → wpAny (model X.prog X.w) A' (pyIter (.ref it)) R' E' (s5.setGen s4.gens.size .running) :=
          fun A' R' E' hR => T.self A' 0 _ _ _ (by subst hs5; exact T.keep _ _ _ st4 fun b _ o e => kp5 b o e) hR
        first
          | exact seg_bind_wrap (wpAny_rule (seg_bind_wrap (wpAny_standAt (seg_bind_wrap (self _ _ _ (seg_again rfl loop))))))
          | (refine seg_bind_wrap (wpAny_rule ?_); show Seg _ X.A.in1.in1 _ _ _ _ _ ((standAt iter.pos >>= _).wrap _ _ _ _) [] _; exact seg_bind_wrap (wpAny_standAt (seg_bind_wrap (self _ _ _ (seg_again rfl loop)))))
  cases hf : codeAmong gpos ps.toList with
  | none =>
    refine wpAny_genexprCodeX hcode (cd.code hPs ht) (cd.tab hPs) hf fun c' h' tk hx hge hlt hco' _ htab' _ => ?_
    obtain ⟨o1, vs, f9, tf, fl, tg, inF, tx, tt, op, _, _, _, _, _, _, _, _, _, htr, _⟩ := hco'
    have hP3 := htab'.2
    refine cont _ _ (upd H1 P (.tbl (ps ++ #[rawInt gpos.line, rawInt gpos.col, .ref c']))) (GxR.inv_tab (g' := s1.gens) (d' := s1.drawn) I1 hP (fun b o hb e => hx b o hb e) hP3 I1.bare) ⟨⟨_, upd_same, htr⟩, fun b hb => upd_ne hb⟩ fun b o hb e => hx b o hb e
  | some cv =>
    refine wpAny_genexprCode_hit hcode (cd.code hPs ht) hf ?_
    exact cont cv s1 H1 I1 ⟨⟨ps, hP, ht⟩, fun _ _ => rfl⟩ fun b o _ e => e
/-- all(elt for x in iter) -/
theorem pe_all (hr : Room (k + 1) X.A) (hc : X.calm = true) (hg : Gl X "all") (hm : X.mg "all" = none) (TB : LamX.TabB X.base X.mg c P) (hcode : X.env.code = .ref c)
    (G : GN X.N X.env.scope scope x N pad j) (hi : PI X (.Name x px) iter wi)
    (hel : ∀ (A : Around) (s : Shared) (H : Hp) (cl : List (Str × Addr)) (C : Addr) (code : Value) (fp : List Addr) (pn : List (Addr × Obj)), Room k A → PE (gcx X A s H (genEnv scope cl C code builtinsNs X.env) N fp pn) elt te)
    (hs : ∀ v, genFold iter X.env v = pure v := by intro _; rfl)
    (he : starEach [.GeneratorExp elt [⟨.Name x px, iter, [], 0⟩] scope gpos] X.env = (false, eval (.GeneratorExp elt [⟨.Name x px, iter, [], 0⟩] scope gpos) X.env) :: starEach [] X.env := by rfl) :
    PE X (.Call (.Name "all" p) [.GeneratorExp elt [⟨.Name x px, iter, [], 0⟩] scope gpos] [] pos) (tGen P true wi te pad j) := by
  constructor
  intro pins s σ H Q I h
  refine wpAny_Call_Name_kw (ld_blt I hg hm boot_all ?_)
  refine PyProof.Rows.callWith_builtin1 ?_ he (by rfl)
  rw [he]
  show wpAny _ _ (spliced ((false, eval (.GeneratorExp elt [⟨.Name x px, iter, [], 0⟩] scope gpos) X.env) :: backTo pos (starEach [] X.env))) _ _ s
  refine Calls.spliced_cons (gen_core (Q := fun b H3 => Q (.bl b) H3) (go := true) hr hc TB hcode G hi hel hs I h fun Xg a g n s5 g1 g2 g3 g4 g5 => ?_)
  refine Calls.spliced_nil ?_
  refine call_function_tree F.kind_all F.plain_all F.entry_all (F.args_all1 _) ?_
  unfold Builtin.«all»
  refine wpAny_bind (m := oneArg "all" _) (wpAny_pure ?_)
  refine wpAny_bind (wpAny_pyIter_gen g3 ?_)
  refine wpAny_pure ⟨plainId_quiet F.plain_all_loop _, loop_all hr.hd hr.depth g1 (fun b pns σ' H' s1 J q s' h1 h2 h3 => ?_) n s5 g3 g4 g5⟩
  refine ⟨.bl b, H', g2 pns σ' H' s1 J s' h1 h2 h3, rfl, ?_⟩
  cases b <;> exact q
/-- any(elt for x in iter) -/
theorem pe_any (hr : Room (k + 1) X.A) (hc : X.calm = true) (hg : Gl X "any") (hm : X.mg "any" = none) (TB : LamX.TabB X.base X.mg c P) (hcode : X.env.code = .ref c)
    (G : GN X.N X.env.scope scope x N pad j) (hi : PI X (.Name x px) iter wi)
    (hel : ∀ (A : Around) (s : Shared) (H : Hp) (cl : List (Str × Addr)) (C : Addr) (code : Value) (fp : List Addr) (pn : List (Addr × Obj)), Room k A → PE (gcx X A s H (genEnv scope cl C code builtinsNs X.env) N fp pn) elt te)
    (hs : ∀ v, genFold iter X.env v = pure v := by intro _; rfl)
    (he : starEach [.GeneratorExp elt [⟨.Name x px, iter, [], 0⟩] scope gpos] X.env = (false, eval (.GeneratorExp elt [⟨.Name x px, iter, [], 0⟩] scope gpos) X.env) :: starEach [] X.env := by rfl) :
    PE X (.Call (.Name "any" p) [.GeneratorExp elt [⟨.Name x px, iter, [], 0⟩] scope gpos] [] pos) (tGen P false wi te pad j) := by
  constructor
  intro pins s σ H Q I h
  refine wpAny_Call_Name_kw (ld_blt I hg hm boot_any ?_)
  refine PyProof.Rows.callWith_builtin1 ?_ he (by rfl)
  rw [he]
  show wpAny _ _ (spliced ((false, eval (.GeneratorExp elt [⟨.Name x px, iter, [], 0⟩] scope gpos) X.env) :: backTo pos (starEach [] X.env))) _ _ s
  refine Calls.spliced_cons (gen_core (Q := fun b H3 => Q (.bl b) H3) (go := false) hr hc TB hcode G hi hel hs I h fun Xg a g n s5 g1 g2 g3 g4 g5 => ?_)
  refine Calls.spliced_nil ?_
  refine call_function_tree F.kind_any F.plain_any F.entry_any (F.args_any1 _) ?_
  unfold Builtin.«any»
  refine wpAny_bind (m := oneArg "any" _) (wpAny_pure ?_)
  refine wpAny_bind (wpAny_pyIter_gen g3 ?_)
  refine wpAny_pure ⟨plainId_quiet F.plain_any_loop _, loop_any hr.hd hr.depth g1 (fun b pns σ' H' s1 J q s' h1 h2 h3 => ?_) n s5 g3 g4 g5⟩
  refine ⟨.bl b, H', g2 pns σ' H' s1 J s' h1 h2 h3, rfl, ?_⟩
  cases b <;> exact q
end
end GA

/-! What all proofs of this program lean on. -/
namespace LT
open PySem PySem.Spec PyProof.Rows L2 GA

/-! ### what stays -/
/-- nothing that was tracked is gone or changed; tables of code objects may have grown -/
structure Ex (H H' : Hp) : Prop where
  keep : ∀ b o, H b = some o → (∀ ps, o ≠ .tbl ps) → H' b = some o
  tab : ∀ b, TabG H b → TabG H' b
  free : ∀ b, H' b = none → H b = none
theorem Ex.refl (H : Hp) : Ex H H := ⟨fun _ _ h _ => h, fun _ h => h, fun _ h => h⟩
theorem Ex.trans {H H1 H2 : Hp} (a : Ex H H1) (b : Ex H1 H2) : Ex H H2 :=
  ⟨fun c o h n => b.keep c o (a.keep c o h n) n, fun c h => b.tab c (a.tab c h), fun c h => a.free c (b.free c h)⟩
theorem Ex.new {H : Hp} {p : Addr} {o : HO} (h : H p = none) : Ex H (upd H p o) := by
  constructor
  · intro b u e _
    rw [upd_ne (ne_of_none e h)]
    exact e
  · rintro b ⟨ps, e, t⟩
    exact ⟨ps, by rw [upd_ne (ne_of_none e h)]; exact e, t⟩
  · intro b e
    by_cases hb : b = p
    · rw [hb]; exact h
    · rw [upd_ne hb] at e; exact e
theorem Ex.tabd {P : Addr} {H H' : Hp} (h : Tabd P H H') (hP : TabG H P) : Ex H H' := by
  obtain ⟨⟨ps, e, t⟩, hk⟩ := h
  constructor
  · intro b o e1 n
    have hb : b ≠ P := fun z => by
      obtain ⟨qs, e2, _⟩ := hP
      rw [z, e2] at e1
      cases e1
      exact n qs rfl
    rw [hk b hb]
    exact e1
  · intro b hb
    by_cases z : b = P
    · rw [z]; exact ⟨ps, e, t⟩
    · obtain ⟨qs, e2, t2⟩ := hb
      exact ⟨qs, by rw [hk b z]; exact e2, t2⟩
  · intro b hb
    by_cases z : b = P
    · rw [z, e] at hb; cases hb
    · rw [hk b z] at hb; exact hb
theorem Ex.rd {H H' : Hp} {a : Addr} {u : HO} (x : Ex H H') (h : Rd H a u) (n : ∀ ps, u ≠ .tbl ps) : Rd H' a u := by
  rcases h with h | ⟨o, h⟩
  · exact Or.inl (x.keep _ _ h n)
  · exact Or.inr ⟨o, x.keep _ _ h (fun ps z => by cases z)⟩
theorem Ex.tup {K : PySem.W.Frag} {H H' : Hp} {a : Addr} {xs : List V} (x : Ex H H') (h : SqT K H a xs) : SqT K H' a xs := by
  rcases h with h | h
  · exact Or.inl (x.rd h (fun ps z => by cases z))
  · exact Or.inr h
theorem Ex.lst {K : PySem.W.Frag} {H H' : Hp} {a : Addr} {xs : List V} (x : Ex H H') (h : SqL K H a xs) : SqL K H' a xs := by
  rcases h with h | h
  · exact Or.inl (x.rd h (fun ps z => by cases z))
  · exact Or.inr h

/-! ### kinds of things -/
inductive Kn (K : PySem.W.Frag) (H : Hp) : V → String → Prop
  | non : Kn K H .non "NoneType"
  | bl (b : Bool) : Kn K H (.bl b) "bool"
  | int (i : Int) : Kn K H (.int i) "int"
  | str (z : Str) : Kn K H (.str z) "str"
  | lst {a : Addr} {xs : List V} (e : SqL K H a xs) : Kn K H (.ref a) "list"
  | tup {a : Addr} {xs : List V} (e : SqT K H a xs) : Kn K H (.ref a) "tuple"
  | dK {a : Addr} {kvs : List (Key × V)} (e : H a = some (.dK kvs)) : Kn K H (.ref a) "dict"
  | dT {a : Addr} {kvs : List (List Key × V)} (e : H a = some (.dT kvs)) : Kn K H (.ref a) "dict"
  | dX {a : Addr} {f : Heap → Prop} (e : H a = some (.ext f)) (c : ∀ h, f h → ∃ o, h.get? a = some o ∧ o.cls = .type "dict") : Kn K H (.ref a) "dict"
theorem Kn.ex {K : PySem.W.Frag} {H H' : Hp} {v : V} {n : String} (x : Ex H H') (h : Kn K H v n) : Kn K H' v n := by
  cases h with
  | non => exact .non
  | bl b => exact .bl b
  | int i => exact .int i
  | str z => exact .str z
  | lst e => exact .lst (x.lst e)
  | tup e => exact .tup (x.tup e)
  | dK e => exact .dK (x.keep _ _ e (fun ps z => by cases z))
  | dT e => exact .dT (x.keep _ _ e (fun ps z => by cases z))
  | dX e c => exact .dX (x.keep _ _ e (fun ps z => by cases z)) c
def isB (n m : String) : Bool := n == m || (n == "bool" && m == "int")
def okT (m : String) : Bool := ["str", "tuple", "int", "bool", "dict", "list"].contains m
def rIs (K : PySem.W.Frag) : List V → Hp → VK → Prop := fun xs H Q => ∃ (x : V) (n m : String), xs = [x, .ty m] ∧ Kn K H x n ∧ okT m = true ∧ Q (.bl (isB n m)) H
theorem okT_cases {m : String} (h : okT m = true) : m = "str" ∨ m = "tuple" ∨ m = "int" ∨ m = "bool" ∨ m = "dict" ∨ m = "list" := by
  have h2 : m ∈ ["str", "tuple", "int", "bool", "dict", "list"] := List.contains_iff_mem.mp h
  simpa using h2
theorem Kn.isStr {K : PySem.W.Frag} {H : Hp} {v : V} (h : Kn K H v "str") : ∃ z, v = .str z := by
  generalize e : "str" = n at h
  cases h with
  | str z => exact ⟨z, rfl⟩
  | _ => exact absurd e (by decide)
theorem Kn.isTup {K : PySem.W.Frag} {H : Hp} {v : V} (h : Kn K H v "tuple") : ∃ a xs, v = .ref a ∧ SqT K H a xs := by
  generalize e : "tuple" = n at h
  cases h with
  | tup k => exact ⟨_, _, rfl, k⟩
  | _ => exact absurd e (by decide)
theorem Kn.is {K : PySem.W.Frag} {H : Hp} {v : V} {n m : String} (h : Kn K H v n) (hn : n ≠ m) (hb : n = "bool" → m ≠ "int") : isB n m = false := by
  unfold isB
  rw [beq_false_of_ne hn, Bool.false_or]
  cases e : n == "bool" with
  | false => rfl
  | true => rw [beq_false_of_ne (hb (beq_iff_eq.mp e))]; rfl
theorem Kn.notStr {K : PySem.W.Frag} {H : Hp} {v : V} {n : String} (h : Kn K H v n) (hn : n ≠ "str") : isB n "str" = false := h.is hn (fun _ => by decide)
theorem Kn.notTup {K : PySem.W.Frag} {H : Hp} {v : V} {n : String} (h : Kn K H v n) (hn : n ≠ "tuple") : isB n "tuple" = false := h.is hn (fun _ => by decide)
section
variable {X : Cx}
theorem call_is : CallR X (.builtin "isinstance") (rIs X.K) := by
  intro pins s σ H xs us Q I r h
  obtain ⟨x, n, m, rfl, kn, hm, q⟩ := h
  obtain ⟨u1, u2, rfl, r1, r2⟩ := vals2 r
  obtain rfl : u2 = Value.type m := r2
  have fin : ∀ tk, EP X pins σ Q (.bool (isB n m)) { s with toks := tk } := fun tk => ⟨.bl _, H, I.tok tk, rfl, q⟩
  have go : ∀ (t : String) (P : Heap → Prop), PySem.W.KitX X.K u1 (.type t) P → P s.heap → u1 ≠ .builtin "__main__.__loader__#opaque" → kitB t m = some (isB n m) →
      wpAny (model X.prog X.w) X.A (call (.builtin "isinstance") [u1, .type m]) (EP X pins σ Q) X.xe s :=
    fun t P Z p hx e => PySem.W.kia_one Z I.kIn p (kit_ty e) hx fin
  have base : ∀ t, TyX X.K H x (.type t) → kitB t m = some (isB n m) → wpAny (model X.prog X.w) X.A (call (.builtin "isinstance") [u1, .type m]) (EP X pins σ Q) X.xe s := fun t ty e => by
    obtain ⟨P, Z, p, hx⟩ := kit_of I r1 ty
    exact PySem.W.kia_one Z I.kIn p (kit_ty e) hx fin
  have seqT : ∀ {a : Addr} {ys : List V}, SqT X.K H a ys → TyX X.K H (.ref a) (.type "tuple") := fun {a ys} e => by
    rcases e with (e | ⟨o, e⟩) | ⟨o, its, k, e, c, _⟩
    · exact .base (.tup e)
    · exact .fTuple e
    · exact .kTuple e c
  have seqL : ∀ {a : Addr} {ys : List V}, SqL X.K H a ys → TyX X.K H (.ref a) (.type "list") := fun {a ys} e => by
    rcases e with (e | ⟨o, e⟩) | ⟨o, its, k, e, c, _⟩
    · exact .base (.lst e)
    · exact .base (.frz e)
    · exact .kList e c
  rcases okT_cases hm with rfl | rfl | rfl | rfl | rfl | rfl <;> cases kn
  all_goals first
    | exact base _ (.base .non) (by decide +kernel)
    | exact base _ (.base (.bl _)) (by decide +kernel)
    | exact base _ (.base (.int _)) (by decide +kernel)
    | exact base _ (.base (.str _)) (by decide +kernel)
    | exact base _ (seqL (by assumption)) (by decide +kernel)
    | exact base _ (seqT (by assumption)) (by decide +kernel)
    | exact base _ (.base (.dK (by assumption))) (by decide +kernel)
    | exact base _ (.base (.dT (by assumption))) (by decide +kernel)
    | (rename_i a f e c
       cases (show u1 = Value.ref a from r1)
       exact go "dict" _ PySem.W.kitx_dict (c _ (I.hok a _ e).1) (fun z => nomatch z) (by decide +kernel))
end

/-! ### a def whose code object's table is told -/
structure FunC (K : PySem.W.Frag) (x qual : Str) (st : Stmt) (f : Addr) (fd : FuncData) (c : Addr) : Prop where
  ex : ∃ (oc : Value) (od : Option Addr) (kV doc pm : Value) (an : Option Addr) (ct : Value) (osl : Array (Option Value)),
    fd = PySem.W.fnOf x qual (defArgs st) (defBody st) (defScope st) .none kV doc pm an (.ref c) ct ∧ K.lookup f = some ⟨oc, od, .func fd, osl⟩ ∧ PySem.W.codeIn K (.ref c) qual = true
  kp : PySem.W.keepIn K (.ref f) = true
theorem FunC.fn {K : PySem.W.Frag} {x qual : Str} {st : Stmt} {f c : Addr} {fd : FuncData} (F : FunC K x qual st f fd c) : Fun K x qual st f fd := by
  obtain ⟨oc, od, kV, doc, pm, an, ct, osl, e, l, h⟩ := F.ex
  exact ⟨⟨oc, od, kV, doc, pm, an, _, ct, osl, e, l, h⟩, F.kp⟩
section
variable {P : Program} {w : World} {K : PySem.W.Frag} {mg : Str → Option Value} {base : Heap}
theorem FunC.ok {x qual : Str} {st : Stmt} {f c : Addr} {fd : FuncData} {N ps : List Str} {k : Nat} {sp : Sp} (F : FunC K x qual st f fd c) (S : FnScope N ps (defScope st)) (len : ∀ vs H Q E, sp vs H Q E → vs.length = ps.length)
    (hbody : ∀ (A : Around) (outer : List Env) (s : Shared) (H : Hp) (vs : List V) (Q : VK) (E : XK), Room k (A.deeper (envOfC qual (defScope st) s.heap.objs.size f (.ref c))) → sp vs H Q E →
      ∃ t, PSs (cxOf CX0 P w K mg base N qual (defScope st) f (.ref c) A outer s H E).nox (defBody st) t ∧ t { nx := fun _ H' => Q .non H', rt := Q } (start N vs) H) :
    FnOk P w K mg base CX0 (k + 1) f fd ps sp := by
  obtain ⟨oc, od, kV, doc, pm, an, ct, osl, rfl, lk, hcd⟩ := F.ex
  refine fn_of lk hcd S len ?_
  intro A outer s H vs Q E hr hsp
  obtain ⟨t, h, q⟩ := hbody A outer s H vs Q E hr hsp
  exact ⟨t, h.nox, q⟩
end

/-! ### more operators -/
section
variable {X : Cx}
/-- xs[i], by values -/
theorem get_list : PGet X (rIxL X.K) := by
  intro pins s σ H x y v u Q I rx ry h
  obtain ⟨p, xs, i, z, rfl, rfl, hq, he, q⟩ := h
  cases rx
  obtain ⟨t, rfl⟩ := ry
  obtain ⟨its, r, pl, hz⟩ := I.list hq
  obtain ⟨j, h1, h2, h3, h4, h5⟩ := atI_get he
  obtain ⟨w, ew, rw'⟩ := r.get h2
  have hl := r.length
  have hn := line63
  have fin : EP X pins σ Q w s := ⟨z, H, I, rw', q⟩
  by_cases h0 : 0 ≤ i
  · have hj : i.toNat = j := by
      rw [seqIndex_of h0 h5] at h1
      exact Option.some.inj h1
    exact wpAny_getItem_list pl.isList h0 (by omega) (by rw [hj]; simpa using ew) fin
  · have hj : (i + (its.toArray.size : Int)).toNat = j := by
      rw [seqIndex_neg (by omega) h4] at h1
      rw [List.size_toArray, ← hl]
      exact Option.some.inj h1
    exact wpAny_getItem_list_neg pl.isList (by omega) (by rw [List.size_toArray] <;> omega) (by omega) (by rw [hj]; simpa using ew) fin
/-- a text times a number -/
theorem op_repS : OpR X (binaryOp .Mult) (fun x y H Q => ∃ (z : Str) (n : Int), x = .str z ∧ y = .int n ∧ MulOk z n ∧ Q (.str (Txt.mul z n)) H) := by
  intro pins s σ H x y v u Q I rx ry h
  obtain ⟨z, n, rfl, rfl, hm, q⟩ := h
  obtain ⟨t, rfl⟩ := rx
  obtain ⟨t', rfl⟩ := ry
  exact SB.mul hm fun t' k => ⟨.str _, H, I.tok _, ⟨_, rfl⟩, q⟩
end

/-! ### a generator's names, by computation -/
def gnB (N0 N : List Str) (sc scope : Scope) (x : Str) (pad j : Nat) : Bool :=
  (match scope.kind with | .function => true | _ => false) && (!scope.isCoroutine) && (scope.names.all fun y => !(y.2 == .cell)) &&
    decide (scope.names.lookup (".0" : Str) = some NameKind.local) && decide (scope.names.lookup x = some .local) &&
    (scope.names.all fun y => !(y.2 == .local) || decide (y.1 = x) || decide (y.1 ∉ N)) &&
    (scope.names.all fun y => !(y.2 == .free) || decide (sc.names.lookup y.1 = some .cell) || decide (sc.names.lookup y.1 = some .free)) &&
    decide N.Nodup && decide (N[j]? = some x) && decide (N.length = N0.length + pad) && decide (N.take N0.length = N0)
theorem gn_by {N0 N : List Str} {sc scope : Scope} {x : Str} {pad j : Nat} (h : gnB N0 N sc scope x pad j = true) : GN N0 sc scope x N pad j := by
  unfold gnB at h
  simp only [Bool.and_eq_true, decide_eq_true_eq, List.all_eq_true, Bool.or_eq_true, Bool.not_eq_true'] at h
  obtain ⟨⟨⟨⟨⟨⟨⟨⟨⟨⟨h1, h2⟩, h3⟩, h4⟩, h5⟩, h6⟩, h7⟩, h8⟩, h9⟩, h10⟩, h11⟩ := h
  refine ⟨?_, h2, ?_, h4, h5, ?_, ?_, h8, h9, h10, h11⟩
  · cases e : scope.kind <;> rw [e] at h1 <;> first | rfl | cases h1
  · intro y hy e
    have := h3 y hy
    rw [e] at this
    exact absurd this (by decide)
  · intro y hy e
    rcases h6 y hy with (z | z) | z
    · rw [e] at z
      exact absurd z (by decide)
    · exact Or.inl z
    · exact Or.inr z
  · intro y hy e
    rcases h7 y hy with (z | z) | z
    · rw [e] at z
      exact absurd z (by decide)
    · exact Or.inl z
    · exact Or.inr z

/-! ### names, paths, texts -/
def lettersS : Str := "abcdefghijklmnopqrstuvwxyz"
def signsS : Str := "abcdefghijklmnopqrstuvwxyz "
def allIn (z a : Str) : Bool := z.cps.toList.all fun c => decide (c ∈ a.cps.toList)
def nameB (z : Str) : Bool := decide (1 ≤ z.length) && decide (z.length ≤ 4) && allIn z lettersS
def textB (z : Str) : Bool := decide (z.length ≤ 40) && allIn z signsS
def isNameV : V → Bool
  | .str z => nameB z
  | _ => false
def isTextV : V → Bool
  | .str z => textB z
  | _ => false
/-- a thing that may be asked: of a known kind, a text not too long -/
def Asked (K : PySem.W.Frag) (H : Hp) (v : V) : Prop := ∃ n, Kn K H v n ∧ ∀ z, v = .str z → z.length ≤ sizeLine
theorem Asked.ex {K : PySem.W.Frag} {H H' : Hp} {v : V} (x : Ex H H') (h : Asked K H v) : Asked K H' v := by
  obtain ⟨n, k, z⟩ := h
  exact ⟨n, k.ex x, z⟩
theorem Kn.noName {K : PySem.W.Frag} {H : Hp} {v : V} {n : String} (h : Kn K H v n) (hn : n ≠ "str") : isNameV v = false := by
  cases h with
  | str z => exact absurd rfl hn
  | _ => rfl
theorem Kn.noText {K : PySem.W.Frag} {H : Hp} {v : V} {n : String} (h : Kn K H v n) (hn : n ≠ "str") : isTextV v = false := by
  cases h with
  | str z => exact absurd rfl hn
  | _ => rfl
/-- is the thing a path? -/
inductive PathB (K : PySem.W.Frag) (H : Hp) : V → Bool → Prop
  | tup {a : Addr} {xs : List V} (e : SqT K H a xs) (k : ∀ x ∈ xs, Asked K H x) : PathB K H (.ref a) (decide (xs.length ≤ 5) && xs.all isNameV)
  | oth {v : V} {n : String} (k : Kn K H v n) (h : n ≠ "tuple") : PathB K H v false
theorem PathB.ex {K : PySem.W.Frag} {H H' : Hp} {v : V} {b : Bool} (x : Ex H H') (h : PathB K H v b) : PathB K H' v b := by
  cases h with
  | tup e k => exact .tup (x.tup e) fun y hy => (k y hy).ex x
  | oth k h => exact .oth (k.ex x) h
/-- a path stands at a -/
def PathAt (K : PySem.W.Frag) (H : Hp) (a : Addr) (p : List Str) : Prop := SqT K H a (p.map V.str)
def goodPath (p : List Str) : Bool := decide (p.length ≤ 5) && p.all nameB
theorem nameB_small {z : Str} (h : nameB z = true) : z.length ≤ 4 := by
  unfold nameB at h
  simp only [Bool.and_eq_true, decide_eq_true_eq] at h
  exact h.1.2
theorem PathAt.b {K : PySem.W.Frag} {H : Hp} {a : Addr} {p : List Str} (h : PathAt K H a p) (hz : ∀ z ∈ p, z.length ≤ sizeLine) : PathB K H (.ref a) (goodPath p) := by
  have e : goodPath p = (decide ((p.map V.str).length ≤ 5) && (p.map V.str).all isNameV) := by
    unfold goodPath
    rw [List.length_map, List.all_map]
    rfl
  rw [e]
  refine .tup h fun x hx => ?_
  obtain ⟨z, hm, rfl⟩ := List.mem_map.mp hx
  exact ⟨"str", .str z, fun y e => by cases e; exact hz z hm⟩

def begs (p : List Str) : List (List Str) := (List.range (p.length + 1)).map fun i => p.take i
/-- a list of paths stands at l -/
def PathsAt (K : PySem.W.Frag) (H : Hp) (l : Addr) (ps : List (List Str)) : Prop := ∃ rs : List Addr, H l = some (.lst (rs.map V.ref)) ∧ Paired (fun r p => PathAt K H r p) rs ps
/-! ### walks by a generator -/
section
variable {J : It} {te : TE} {σ0 : L2.St} {j : Nat} {Q : Bool → Hp → Prop} {H0 : Hp}
/-- all of n answers f i; the heap may grow at each -/
theorem gw_all {n : Nat} (f : Nat → Bool) (st : ∀ H, Ex H0 H → J.stop n H) (gg : ∀ i H, i < n → Ex H0 H → J.go i H)
    (step : ∀ i H y H', i < n → Ex H0 H → J.yld i H y H' → ∀ R : VK, (∀ H3, Ex H0 H3 → R (.bl (f i)) H3) → te (σ0.set j (some y)) H' R)
    (fin : ∀ H, Ex H0 H → Q ((List.range n).all f) H) : GW J te σ0 j true Q H0 := by
  refine ⟨fun i m H => i ≤ n ∧ m = n - i ∧ Ex H0 H ∧ ∀ k, k < i → f k = true, ⟨n, Nat.zero_le _, rfl, Ex.refl _, fun k hk => absurd hk (Nat.not_lt_zero _)⟩, ?_⟩
  rintro i m H ⟨hi, rfl, x, hf⟩
  rcases Nat.lt_or_ge i n with h | h
  · refine Or.inr ⟨gg i H h x, fun y H' hy => step i H y H' h x hy _ fun H3 x3 => ⟨f i, rfl, fun e => ?_, fun e => ⟨n - (i + 1), by omega, h, rfl, x3, fun k hk => ?_⟩⟩⟩
    · have e2 : f i = false := by cases q : f i <;> simp_all
      have := fin H3 x3
      rwa [show (List.range n).all f = false from List.all_eq_false.mpr ⟨i, List.mem_range.mpr h, by rw [e2]; decide⟩] at this
    · by_cases hk2 : k = i
      · rw [hk2]; exact e
      · exact hf k (by omega)
  · have hin : i = n := by omega
    subst hin
    refine Or.inl ⟨st H x, ?_⟩
    have := fin H x
    rwa [show (List.range i).all f = true from List.all_eq_true.mpr fun k hk => hf k (List.mem_range.mp hk)] at this
theorem gw_any {n : Nat} (f : Nat → Bool) (st : ∀ H, Ex H0 H → J.stop n H) (gg : ∀ i H, i < n → Ex H0 H → J.go i H)
    (step : ∀ i H y H', i < n → Ex H0 H → J.yld i H y H' → ∀ R : VK, (∀ H3, Ex H0 H3 → R (.bl (f i)) H3) → te (σ0.set j (some y)) H' R)
    (fin : ∀ H, Ex H0 H → Q ((List.range n).any f) H) : GW J te σ0 j false Q H0 := by
  refine ⟨fun i m H => i ≤ n ∧ m = n - i ∧ Ex H0 H ∧ ∀ k, k < i → f k = false, ⟨n, Nat.zero_le _, rfl, Ex.refl _, fun k hk => absurd hk (Nat.not_lt_zero _)⟩, ?_⟩
  rintro i m H ⟨hi, rfl, x, hf⟩
  rcases Nat.lt_or_ge i n with h | h
  · refine Or.inr ⟨gg i H h x, fun y H' hy => step i H y H' h x hy _ fun H3 x3 => ⟨f i, rfl, fun e => ?_, fun e => ⟨n - (i + 1), by omega, h, rfl, x3, fun k hk => ?_⟩⟩⟩
    · have e2 : f i = true := by cases q : f i <;> simp_all
      have := fin H3 x3
      rwa [show (List.range n).any f = true from List.any_eq_true.mpr ⟨i, List.mem_range.mpr h, e2⟩] at this
    · by_cases hk2 : k = i
      · rw [hk2]; exact e
      · exact hf k (by omega)
  · have hin : i = n := by omega
    subst hin
    refine Or.inl ⟨st H x, ?_⟩
    have := fin H x
    rwa [show (List.range i).any f = false from List.any_eq_false.mpr fun k hk => by rw [hf k (List.mem_range.mp hk)]; decide] at this
theorem all_of_range {α : Type} (g : α → Bool) (l : List α) (f : Nat → Bool) (h : ∀ (i : Nat) x, l[i]? = some x → f i = g x) : (List.range l.length).all f = l.all g := by
  rw [Bool.eq_iff_iff, List.all_eq_true, List.all_eq_true]
  constructor
  · intro a x hx
    obtain ⟨i, hi, e⟩ := List.getElem_of_mem hx
    have e2 : l[i]? = some x := by rw [List.getElem?_eq_getElem hi, e]
    rw [← h i x e2]
    exact a i (List.mem_range.mpr hi)
  · intro a i hi
    have hl := List.mem_range.mp hi
    rw [h i l[i] (List.getElem?_eq_getElem hl)]
    exact a _ (List.getElem_mem hl)
theorem any_of_range {α : Type} (g : α → Bool) (l : List α) (f : Nat → Bool) (h : ∀ (i : Nat) x, l[i]? = some x → f i = g x) : (List.range l.length).any f = l.any g := by
  rw [Bool.eq_iff_iff, List.any_eq_true, List.any_eq_true]
  constructor
  · rintro ⟨i, hi, a⟩
    have hl := List.mem_range.mp hi
    exact ⟨l[i], List.getElem_mem hl, by rw [← h i l[i] (List.getElem?_eq_getElem hl)]; exact a⟩
  · rintro ⟨x, hx, a⟩
    obtain ⟨i, hi, e⟩ := List.getElem_of_mem hx
    exact ⟨i, List.mem_range.mpr hi, by rw [h i x (by rw [List.getElem?_eq_getElem hi, e])]; exact a⟩
/-- the signs of a text -/
theorem gw_str {z : Str} (g : Nat → Bool) (step : ∀ c H, Ex H0 H → ∀ R : VK, R (.bl (g c)) H → te (σ0.set j (some (.str ⟨#[c]⟩))) H R)
    (fin : ∀ H, Ex H0 H → Q (z.cps.toList.all g) H) : GW (Its z) te σ0 j true Q H0 := by
  refine gw_all (n := z.cps.size) (fun i => g (z.cps.toList.getD i 0)) (fun H _ => Nat.le_refl _) (fun i H h _ => h) ?_ ?_
  · rintro i H y H' h x ⟨rfl, c, hc, rfl⟩ R hR
    have e : z.cps.toList.getD i 0 = c := by
      rw [List.getD_eq_getElem?_getD, Array.getElem?_toList, hc]
      rfl
    exact step c H' x R (by have := hR H' x; rwa [e] at this)
  · intro H x
    have := fin H x
    rw [← all_of_range g z.cps.toList (fun i => g (z.cps.toList.getD i 0)) (fun i c e => by rw [List.getD_eq_getElem?_getD, e]; rfl)] at this
    simpa using this
/-- the items of a tuple -/
theorem gw_tup {K : PySem.W.Frag} {a : Addr} {xs : List V} (g : V → Bool) (ha : SqT K H0 a xs)
    (step : ∀ y H, y ∈ xs → Ex H0 H → ∀ R : VK, (∀ H3, Ex H0 H3 → R (.bl (g y)) H3) → te (σ0.set j (some y)) H R)
    (fin : ∀ H, Ex H0 H → Q (xs.all g) H) : GW (Itt K a) te σ0 j true Q H0 := by
  refine gw_all (n := xs.length) (fun i => (xs[i]?.map g).getD true) (fun H x => ⟨xs, x.tup ha, Nat.le_refl _⟩) (fun i H h x => ⟨xs, xs[i], x.tup ha, List.getElem?_eq_getElem h⟩) ?_ ?_
  · rintro i H y H' h x ⟨rfl, hy⟩ R hR
    have e : xs[i]? = some y := hy xs (x.tup ha)
    refine step y H' (List.mem_of_getElem? e) x R fun H3 x3 => ?_
    have := hR H3 x3
    rw [e] at this
    exact this
  · intro H x
    have := fin H x
    rwa [← all_of_range g xs (fun i => (xs[i]?.map g).getD true) (fun i c e => by rw [e]; rfl)] at this
end

/-! ### paths as data -/
theorem letters_ok : ∀ c ∈ lettersS.cps.toList, 32 ≤ c ∧ c < 127 := by decide +kernel
theorem signs_ok : ∀ c ∈ signsS.cps.toList, 32 ≤ c ∧ c < 127 := by decide +kernel
theorem str_ok {z : Str} (h : ∀ c ∈ z.cps.toList, 32 ≤ c ∧ c < 127) : PyData.strOk z = true := by
  unfold PyData.strOk
  rw [← Array.all_toList, List.all_eq_true]
  intro c hc
  exact decide_eq_true (Nat.lt_trans (h c hc).2 (by decide))
def pathD (p : List Str) : PyData := .tuple (p.map .str)
theorem eqvAll_strs : ∀ p q : List Str, PyData.eqvAll (p.map .str) (q.map .str) = decide (p = q)
  | [], [] => by simp [PyData.eqvAll]
  | [], y :: q => by simp [PyData.eqvAll]
  | x :: p, [] => by simp [PyData.eqvAll]
  | x :: p, y :: q => by
    simp only [List.map_cons, PyData.eqvAll, PyData.eqv, eqvAll_strs p q]
    by_cases h : x = y
    · subst h
      by_cases h2 : p = q <;> simp [h2]
    · rw [beq_false_of_ne h, Bool.false_and]
      exact (decide_eq_false fun e => h (List.cons.inj e).1).symm
theorem eqv_path (p q : List Str) : PyData.eqv (pathD p) (pathD q) = decide (p = q) := by
  show PyData.eqvAll _ _ = _
  exact eqvAll_strs p q
theorem name_ok {z : Str} (h : nameB z = true) : PyData.strOk z = true := by
  unfold nameB allIn at h
  simp only [Bool.and_eq_true, List.all_eq_true, decide_eq_true_eq] at h
  exact str_ok fun c hc => letters_ok c (h.2 c hc)
theorem canLay_strs : ∀ {p : List Str}, (∀ z ∈ p, PyData.strOk z = true) → PyData.canLayAll0 (p.map .str) = true
  | [], _ => by simp [PyData.canLayAll0]
  | x :: p, h => by
    simp only [List.map_cons, PyData.canLayAll0, PyData.canLay0, Bool.and_eq_true]
    exact ⟨h x (List.mem_cons_self ..), canLay_strs fun z hz => h z (List.mem_cons_of_mem _ hz)⟩
theorem depth_strs : ∀ p : List Str, PyData.depthAll (p.map .str) = 0
  | [] => by simp [PyData.depthAll]
  | x :: p => by
    simp only [List.map_cons, PyData.depthAll, PyData.depth, depth_strs p]
    rfl
theorem shaped_path {p : List Str} (h : ∀ z ∈ p, PyData.strOk z = true) : SeqAt.shaped (pathD p) = true := by
  unfold SeqAt.shaped pathD
  rw [Bool.and_eq_true]
  refine ⟨by simp only [PyData.canLay0]; exact canLay_strs h, ?_⟩
  simp only [PyData.depth, depth_strs]
  decide
theorem dpAll_strs {K : PySem.W.Frag} {H : Hp} : ∀ p : List Str, DpAll K H (p.map V.str) (p.map .str)
  | [] => .nil
  | x :: p => .cons (.str x) (dpAll_strs p)
theorem PathAt.dp {K : PySem.W.Frag} {H : Hp} {a : Addr} {p : List Str} (h : PathAt K H a p) : Dp K H (.ref a) (pathD p) := .tup h (dpAll_strs p)
theorem PathAt.ex {K : PySem.W.Frag} {H H' : Hp} {a : Addr} {p : List Str} (x : Ex H H') (h : PathAt K H a p) : PathAt K H' a p := Ex.tup x h
theorem goodPath_names {p : List Str} (h : goodPath p = true) : p.length ≤ 5 ∧ ∀ z ∈ p, nameB z = true := by
  unfold goodPath at h
  simp only [Bool.and_eq_true, decide_eq_true_eq, List.all_eq_true] at h
  exact h
theorem goodPath_ok {p : List Str} (h : goodPath p = true) : ∀ z ∈ p, PyData.strOk z = true := fun z hz => name_ok ((goodPath_names h).2 z hz)
theorem goodPath_small {p : List Str} (h : goodPath p = true) : ∀ z ∈ p, z.length ≤ sizeLine := fun z hz => Nat.le_trans (nameB_small ((goodPath_names h).2 z hz)) (by decide)
theorem goodPath_of {p q : List Str} (h : goodPath p = true) (hl : q.length ≤ p.length) (hm : ∀ z ∈ q, z ∈ p) : goodPath q = true := by
  obtain ⟨h1, h2⟩ := goodPath_names h
  unfold goodPath
  rw [Bool.and_eq_true, decide_eq_true_eq, List.all_eq_true]
  exact ⟨Nat.le_trans hl h1, fun z hz => h2 z (hm z hz)⟩
theorem goodPath_take {p : List Str} (h : goodPath p = true) (n : Nat) : goodPath (p.take n) = true :=
  goodPath_of h (by rw [List.length_take]; omega) fun z hz => List.mem_of_mem_take hz
theorem goodPath_drop {p : List Str} (h : goodPath p = true) (n : Nat) : goodPath (p.drop n) = true :=
  goodPath_of h (by rw [List.length_drop]; omega) fun z hz => List.mem_of_mem_drop hz

/-! ### a list of ours that grows -/
theorem Ex.put {H0 H : Hp} {D : Addr} {o : HO} (x : Ex H0 H) (h : H0 D = none) : Ex H0 (upd H D o) := by
  constructor
  · intro b u e n
    rw [upd_ne (ne_of_none e h)]
    exact x.keep b u e n
  · rintro b ⟨ps, e, t⟩
    obtain ⟨qs, e2, t2⟩ := x.tab b ⟨ps, e, t⟩
    exact ⟨qs, by rw [upd_ne (ne_of_none e h)]; exact e2, t2⟩
  · intro b e
    by_cases hb : b = D
    · rw [hb]; exact h
    · rw [upd_ne hb] at e
      exact x.free b e
theorem sqT_put {K : PySem.W.Frag} {H : Hp} {a D : Addr} {o : HO} {xs ys : List V} (h : SqT K H a xs) (hD : H D = some (.lst ys)) : SqT K (upd H D o) a xs := by
  rcases h with (h | ⟨u, h⟩) | h
  · refine Or.inl (Or.inl ?_)
    rw [upd_ne (ne_of h hD (fun z => by cases z))]
    exact h
  · refine Or.inl (Or.inr ⟨u, ?_⟩)
    rw [upd_ne (ne_of h hD (fun z => by cases z))]
    exact h
  · exact Or.inr h
theorem pairImp {α β : Type} {F G : α → β → Prop} (f : ∀ a b, F a b → G a b) : ∀ {l : List α} {m : List β}, Paired F l m → Paired G l m
  | _, _, .nil => .nil
  | _, _, .cons h t => .cons (f _ _ h) (pairImp f t)
theorem pairSnoc {α β : Type} {F : α → β → Prop} {a : α} {b : β} (h : F a b) : ∀ {l : List α} {m : List β}, Paired F l m → Paired F (l ++ [a]) (m ++ [b])
  | _, _, .nil => .cons h .nil
  | _, _, .cons x t => .cons x (pairSnoc h t)
theorem cutV_to {xs : List V} (n : Nat) : cutV xs none (some (n : Int)) = xs.take n := by
  unfold cutV
  rw [HT.sIx_none, HT.sIx_nat, List.drop_zero, Nat.sub_zero]
  rcases Nat.le_total n xs.length with h | h
  · rw [Nat.min_eq_left h]
  · rw [Nat.min_eq_right h, List.take_length, List.take_of_length_le h]
theorem sIx_last (n : Nat) : HT.sIx n n (some (-1)) = n - 1 := by
  show (if (-1 : Int) < 0 then ((-1 : Int) + (n : Int)).toNat else min (-1 : Int).toNat n) = n - 1
  rw [if_pos (show (-1 : Int) < 0 by decide)]
  omega
theorem cutV_last {xs : List V} : cutV xs none (some (-1)) = xs.dropLast := by
  unfold cutV
  rw [HT.sIx_none, List.drop_zero, Nat.sub_zero, List.dropLast_eq_take, sIx_last]
theorem cutV_from {xs : List V} (n : Nat) : cutV xs (some (n : Int)) none = xs.drop n := by
  unfold cutV
  rw [HT.sIx_none, HT.sIx_nat]
  rcases Nat.le_total n xs.length with h | h
  · rw [Nat.min_eq_left h]
    exact List.take_of_length_le (by rw [List.length_drop]; omega)
  · rw [Nat.min_eq_right h, List.drop_length, List.drop_of_length_le h, List.take_nil]

/-! ### the law's town: a list of two numbers that each draw changes -/
def Town (tw : Addr) (H : Hp) : Prop := ∃ t0 t1 : Int, 0 ≤ t0 ∧ H tw = some (.lst [.int t0, .int t1])
/-- as Ex, but for the town -/
structure Ev (tw : Addr) (H H' : Hp) : Prop where
  keep : ∀ b o, b ≠ tw → H b = some o → (∀ ps, o ≠ .tbl ps) → H' b = some o
  tab : ∀ b, TabG H b → TabG H' b
  free : ∀ b, H' b = none → H b = none
  town : Town tw H'
theorem Ev.refl {tw : Addr} {H : Hp} (h : Town tw H) : Ev tw H H := ⟨fun _ _ _ h _ => h, fun _ h => h, fun _ h => h, h⟩
theorem Ev.trans {tw : Addr} {H H1 H2 : Hp} (a : Ev tw H H1) (b : Ev tw H1 H2) : Ev tw H H2 :=
  ⟨fun c o z h n => b.keep c o z (a.keep c o z h n) n, fun c h => b.tab c (a.tab c h), fun c h => a.free c (b.free c h), b.town⟩
theorem Town.ex {tw : Addr} {H H' : Hp} (h : Town tw H) (x : Ex H H') : Town tw H' := by
  obtain ⟨t0, t1, h0, e⟩ := h
  exact ⟨t0, t1, h0, x.keep _ _ e (fun ps z => by cases z)⟩
theorem Ex.ev {tw : Addr} {H H' : Hp} (x : Ex H H') (h : Town tw H) : Ev tw H H' := ⟨fun b o _ e n => x.keep b o e n, x.tab, x.free, h.ex x⟩
/-- the town is written -/
theorem Ev.write {tw : Addr} {H : Hp} {t0 t1 : Int} (h : Town tw H) (h0 : 0 ≤ t0) : Ev tw H (upd H tw (.lst [.int t0, .int t1])) := by
  obtain ⟨u0, u1, _, e⟩ := h
  constructor
  · intro b o hb e2 _
    rw [upd_ne hb]; exact e2
  · rintro b ⟨ps, e2, t⟩
    exact ⟨ps, by rw [upd_ne (ne_of e2 e (fun z => by cases z))]; exact e2, t⟩
  · intro b e2
    by_cases hb : b = tw
    · rw [hb, upd_same] at e2; cases e2
    · rw [upd_ne hb] at e2; exact e2
  · exact ⟨t0, t1, h0, upd_same⟩
theorem Ev.rd {tw : Addr} {H H' : Hp} {a : Addr} {u : HO} (x : Ev tw H H') (ha : a ≠ tw) (h : Rd H a u) (n : ∀ ps, u ≠ .tbl ps) : Rd H' a u := by
  rcases h with h | ⟨o, h⟩
  · exact Or.inl (x.keep _ _ ha h n)
  · exact Or.inr ⟨o, x.keep _ _ ha h (fun ps z => by cases z)⟩
theorem Ev.lst {K : PySem.W.Frag} {tw : Addr} {H H' : Hp} {a : Addr} {xs : List V} (x : Ev tw H H') (ha : a ≠ tw) (h : SqL K H a xs) : SqL K H' a xs := by
  rcases h with h | h
  · exact Or.inl (x.rd ha h (fun ps z => by cases z))
  · exact Or.inr h
/-- a tuple that stands is not the town -/
theorem Ev.tup {K : PySem.W.Frag} {tw : Addr} {H H' : Hp} {a : Addr} {xs : List V} (ht : Town tw H) (x : Ev tw H H') (h : SqT K H a xs) : SqT K H' a xs := by
  obtain ⟨u0, u1, _, e⟩ := ht
  rcases h with (h | ⟨o, h⟩) | h
  · exact Or.inl (Or.inl (x.keep _ _ (ne_of h e (fun z => by cases z)) h (fun ps z => by cases z)))
  · exact Or.inl (Or.inr ⟨o, x.keep _ _ (ne_of h e (fun z => by cases z)) h (fun ps z => by cases z)⟩)
  · exact Or.inr h
/-- the script and the town -/
structure Lw (K : PySem.W.Frag) (H : Hp) (sc tw : Addr) (ns : List Int) : Prop where
  at_ : (Rd H sc (.lst (ns.map V.int)) ∧ sc ≠ tw) ∨ ∀ G : Hp, SqL K G sc (ns.map V.int)
  town : Town tw H
  len : ns.length ≤ 63
theorem Lw.sq {K : PySem.W.Frag} {H : Hp} {sc tw : Addr} {ns : List Int} (h : Lw K H sc tw ns) : SqL K H sc (ns.map V.int) := by
  rcases h.at_ with q | q
  · exact Or.inl q.1
  · exact q H
theorem Lw.ev {K : PySem.W.Frag} {H H' : Hp} {sc tw : Addr} {ns : List Int} (h : Lw K H sc tw ns) (x : Ev tw H H') : Lw K H' sc tw ns := by
  refine ⟨?_, x.town, h.len⟩
  rcases h.at_ with q | q
  · exact Or.inl ⟨x.rd q.2 q.1 (fun ps z => by cases z), q.2⟩
  · exact Or.inr q
theorem Lw.ex {K : PySem.W.Frag} {H H' : Hp} {sc tw : Addr} {ns : List Int} (h : Lw K H sc tw ns) (x : Ex H H') : Lw K H' sc tw ns := h.ev (x.ev h.town)
/-- the town is made -/
theorem Lw.make {K : PySem.W.Frag} {H : Hp} {sc tw : Addr} {ns : List Int} (h : SqL K H sc (ns.map V.int)) (hl : ns.length ≤ 63) (ht : H tw = none) :
    Lw K (upd H tw (.lst [.int 0, .int 0])) sc tw ns := by
  refine ⟨?_, ⟨0, 0, Int.le_refl 0, upd_same⟩, hl⟩
  rcases h with e | e
  · have hne : sc ≠ tw := by
      rcases e with e | ⟨o, e⟩
      · exact ne_of_none e ht
      · exact ne_of_none e ht
    exact Or.inl ⟨(Ex.new ht).rd e (fun ps z => by cases z), hne⟩
  · exact Or.inr fun G => Or.inr e
theorem dpAll_ints {K : PySem.W.Frag} {H : Hp} : ∀ p : List Int, DpAll K H (p.map V.int) (p.map .int)
  | [] => .nil
  | x :: p => .cons (.int x) (dpAll_ints p)
theorem canLay_ints : ∀ p : List Int, PyData.canLayAll0 (p.map .int) = true
  | [] => by simp [PyData.canLayAll0]
  | x :: p => by simp only [List.map_cons, PyData.canLayAll0, PyData.canLay0, canLay_ints p, Bool.and_self]
theorem depth_ints : ∀ p : List Int, PyData.depthAll (p.map .int) = 0
  | [] => by simp [PyData.depthAll]
  | x :: p => by
    simp only [List.map_cons, PyData.depthAll, PyData.depth, depth_ints p]
    rfl
theorem shaped_ints (p : List Int) : SeqAt.shaped (.list (p.map .int)) = true := by
  unfold SeqAt.shaped
  rw [Bool.and_eq_true]
  refine ⟨by simp only [PyData.canLay0]; exact canLay_ints p, ?_⟩
  simp only [PyData.depth, depth_ints]
  decide
theorem shaped_nil : SeqAt.shaped (.list []) = true := shaped_ints []
theorem eqv_nil (p : List Int) : PyData.eqv (.list (p.map .int)) (.list []) = decide (p = []) := by
  cases p with
  | nil => simp [PyData.eqv, PyData.eqvAll]
  | cons x p => simp [PyData.eqv, PyData.eqvAll]

theorem Town.ne {tw D : Addr} {H : Hp} (h : Town tw H) (hD : H D = none) : D ≠ tw := by
  obtain ⟨u0, u1, _, e⟩ := h
  intro z
  rw [z, e] at hD
  cases hD
theorem Ev.put {tw D : Addr} {H0 H : Hp} {o : HO} (h0 : Town tw H0) (x : Ev tw H0 H) (h : H0 D = none) : Ev tw H0 (upd H D o) := by
  constructor
  · intro b u hb e n
    rw [upd_ne (ne_of_none e h)]
    exact x.keep b u hb e n
  · rintro b ⟨ps, e, t⟩
    obtain ⟨qs, e2, t2⟩ := x.tab b ⟨ps, e, t⟩
    exact ⟨qs, by rw [upd_ne (ne_of_none e h)]; exact e2, t2⟩
  · intro b e
    by_cases hb : b = D
    · rw [hb]; exact h
    · rw [upd_ne hb] at e
      exact x.free b e
  · obtain ⟨t0, t1, q, e⟩ := x.town
    exact ⟨t0, t1, q, by rw [upd_ne (Ne.symm (h0.ne h))]; exact e⟩

theorem PathAt.yes {K : PySem.W.Frag} {H : Hp} {a : Addr} {p : List Str} (h : PathAt K H a p) (g : goodPath p = true) : PathB K H (.ref a) true := by
  have := h.b (goodPath_small g)
  rwa [g] at this
theorem PathAt.ev {K : PySem.W.Frag} {tw : Addr} {H H' : Hp} {a : Addr} {p : List Str} (h : PathAt K H a p) (ht : Town tw H) (x : Ev tw H H') : PathAt K H' a p := Ev.tup ht x h
/-- lists of paths as data -/
theorem dpAll_paths {K : PySem.W.Frag} {H : Hp} : ∀ {rs : List Addr} {ps : List (List Str)}, Paired (fun r p => PathAt K H r p) rs ps → DpAll K H (rs.map V.ref) (ps.map pathD)
  | _, _, .nil => .nil
  | _, _, .cons h t => .cons h.dp (dpAll_paths t)
theorem PathsAt.dp {K : PySem.W.Frag} {H : Hp} {l : Addr} {ps : List (List Str)} (h : PathsAt K H l ps) : Dp K H (.ref l) (.list (ps.map pathD)) := by
  obtain ⟨rs, e, q⟩ := h
  exact .lst (SqL.of e) (dpAll_paths q)
theorem pairEx {K : PySem.W.Frag} {H H' : Hp} (x : Ex H H') {rs : List Addr} {ps : List (List Str)} (h : Paired (fun r p => PathAt K H r p) rs ps) : Paired (fun r p => PathAt K H' r p) rs ps := pairImp (fun _ _ q => q.ex x) h
theorem PathsAt.ex {K : PySem.W.Frag} {H H' : Hp} {l : Addr} {ps : List (List Str)} (x : Ex H H') (h : PathsAt K H l ps) : PathsAt K H' l ps := by
  obtain ⟨rs, e, q⟩ := h
  exact ⟨rs, x.keep _ _ e (fun ps z => by cases z), pairEx x q⟩
theorem canLay_paths : ∀ {ps : List (List Str)}, (∀ p ∈ ps, ∀ z ∈ p, PyData.strOk z = true) → PyData.canLayAll0 (ps.map pathD) = true
  | [], _ => by simp [PyData.canLayAll0]
  | x :: p, h => by
    simp only [List.map_cons, PyData.canLayAll0, PyData.canLay0, pathD, Bool.and_eq_true]
    exact ⟨canLay_strs (h x (List.mem_cons_self ..)), canLay_paths fun z hz => h z (List.mem_cons_of_mem _ hz)⟩
theorem depth_paths : ∀ ps : List (List Str), PyData.depthAll (ps.map pathD) ≤ 1
  | [] => by simp [PyData.depthAll]
  | x :: p => by
    have := depth_paths p
    have e : PyData.depth (pathD x) = 1 := by
      simp only [pathD, PyData.depth, depth_strs]
    rw [List.map_cons, PyData.depthAll, e]
    omega
theorem shaped_paths {ps : List (List Str)} (h : ∀ p ∈ ps, goodPath p = true) : SeqAt.shaped (.list (ps.map pathD)) = true := by
  unfold SeqAt.shaped
  rw [Bool.and_eq_true]
  refine ⟨by simp only [PyData.canLay0]; exact canLay_paths fun p hp => goodPath_ok (h p hp), ?_⟩
  have := depth_paths ps
  simp only [PyData.depth]
  exact decide_eq_true (by omega)
theorem eqv_same (d : PyData) (h : SeqAt.shaped d = true) : PyData.eqv d d = true := by
  unfold SeqAt.shaped at h
  exact SeqAt.eqv_refl d (Bool.and_eq_true _ _ ▸ h).1
theorem begs_good {p : List Str} (g : goodPath p = true) : ∀ q ∈ begs p, goodPath q = true := by
  intro q hq
  obtain ⟨i, _, rfl⟩ := List.mem_map.mp hq
  exact goodPath_take g i

/-- lists of texts as data -/
theorem shaped_strs {p : List Str} (h : ∀ z ∈ p, PyData.strOk z = true) : SeqAt.shaped (.list (p.map .str)) = true := by
  unfold SeqAt.shaped
  rw [Bool.and_eq_true]
  refine ⟨by simp only [PyData.canLay0]; exact canLay_strs h, ?_⟩
  simp only [PyData.depth, depth_strs]
  decide
theorem eqv_strs (p q : List Str) : PyData.eqv (.list (p.map .str)) (.list (q.map .str)) = decide (p = q) := by
  show PyData.eqvAll _ _ = _
  exact eqvAll_strs p q
theorem within_eq (p q : List Str) : (decide (p ≠ q) && decide (p.take q.length = q)) = (decide (q.length < p.length) && decide (p.take q.length = q)) := by
  by_cases h : p.take q.length = q
  · rw [decide_eq_true h, Bool.and_true, Bool.and_true]
    have hl : q.length ≤ p.length := by
      have := congrArg List.length h
      rw [List.length_take] at this
      omega
    by_cases e : p = q
    · subst e
      simp
    · rw [decide_eq_true (p := p ≠ q) e, decide_eq_true]
      refine Nat.lt_of_le_of_ne hl fun z => e ?_
      rw [← h, z, List.take_length]
  · rw [decide_eq_false h, Bool.and_false, Bool.and_false]

/-- both ways of a conditional expression come to the same -/
theorem tIf_both {ta tb : TE} {σ : L2.St} {H : Hp} {R : VK} {c : Bool} (S : V → Hp → Prop) (h1 : c = true → ∀ R' : VK, (∀ u G, S u G → R' u G) → ta σ H R') (h2 : c = false → ∀ R' : VK, (∀ u G, S u G → R' u G) → tb σ H R')
    (h : ∀ u G, S u G → R u G) : if c = true then ta σ H R else tb σ H R := by
  cases c with
  | true => rw [if_pos rfl]; exact h1 rfl R h
  | false => rw [if_neg Bool.false_ne_true]; exact h2 rfl R h

mutual
theorem Dp_ex {K : PySem.W.Frag} {H H' : Hp} (x : Ex H H') : ∀ {d : PyData} {v : V}, Dp K H v d → Dp K H' v d
  | _, _, .non => .non
  | _, _, .bl b => .bl b
  | _, _, .int i => .int i
  | _, _, .str z => .str z
  | _, _, .lst h k => .lst (x.lst h) (DpAll_ex x k)
  | _, _, .tup h k => .tup (x.tup h) (DpAll_ex x k)
theorem DpAll_ex {K : PySem.W.Frag} {H H' : Hp} (x : Ex H H') : ∀ {ds : List PyData} {vs : List V}, DpAll K H vs ds → DpAll K H' vs ds
  | _, _, .nil => .nil
  | _, _, .cons h k => .cons (Dp_ex x h) (DpAll_ex x k)
end

theorem Kn.ev {K : PySem.W.Frag} {tw : Addr} {H H' : Hp} {v : V} {n : String} (ht : Town tw H) (x : Ev tw H H') (hv : v ≠ .ref tw) (h : Kn K H v n) : Kn K H' v n := by
  have hne : ∀ a, v = .ref a → a ≠ tw := fun a e z => hv (by rw [e, z])
  cases h with
  | non => exact .non
  | bl b => exact .bl b
  | int i => exact .int i
  | str z => exact .str z
  | lst e => exact .lst (x.lst (hne _ rfl) e)
  | tup e => exact .tup (x.tup ht e)
  | dK e => exact .dK (x.keep _ _ (hne _ rfl) e (fun ps z => by cases z))
  | dT e => exact .dT (x.keep _ _ (hne _ rfl) e (fun ps z => by cases z))
  | dX e c => exact .dX (x.keep _ _ (hne _ rfl) e (fun ps z => by cases z)) c
theorem Asked.ev {K : PySem.W.Frag} {tw : Addr} {H H' : Hp} {v : V} (ht : Town tw H) (x : Ev tw H H') (hv : v ≠ .ref tw) (h : Asked K H v) : Asked K H' v := by
  obtain ⟨n, k, z⟩ := h
  exact ⟨n, k.ev ht x hv, z⟩
/-- a small number of small texts in a row -/
theorem blanks_ok : ∀ j : Nat, j < 21 → MulOk "x " (j : Int) ∧ textB (Txt.mul "x " (j : Int)) = true := by
  simp only [MulOk]
  decide +kernel

/-! ### the end: where code objects have tables -/
/-- what the head tells of the tables -/
def TabsOf (q : Program) (K : PySem.W.Frag) (h : Heap) : Prop := ∀ (x : Str) (d : DefRec) (c P : Addr), (recsOf q).find? (fun e => e.name == x) = some d → PySem.W.tabIn K x = some (c, P) →
  PySem.W.CodeHd h c P ∧ h.get? P = some (PySem.W.tabObj #[])
theorem noTab {K : PySem.W.Frag} {h : Heap} {P : Addr} (X : K.In h) (nt : PySem.W.noTabs K = true) (hP : h.get? P = some (PySem.W.tabObj #[])) : K.lookup P = none := by
  cases e : K.lookup P with
  | none => rfl
  | some o =>
    have e2 := X P o e
    rw [hP] at e2
    cases e2
    have h2 := List.all_eq_true.mp nt (P, _) (PySem.W.mem_of_lookupK e)
    exact absurd (show false = true from h2) Bool.false_ne_true
theorem walk_tabs {l : PySem.W.OpenLaw} {n k : Nat} {q : Program} {loose : List Str} {XP : (Str → Option Value) → Heap → Prop} {YP : World → Heap → Prop} {d : DefRec} {K : Params → PySem.W.Frag} {CX : World → CXT} {x : Str}
    (hn : l.most = some n) (hn2 : n ≤ sizeLine) (hdf : d.params.defaults = []) (hr : Room k callerA) (hY : ∀ (w : World) (h : Heap), YP w h → (K w.params).In h)
    (F : ∀ (w : World) (mg : Str → Option Value) (fa : Addr) (h : Heap), (K w.params).In h → h.Ns mainGlobals mg → mg d.name = some (.ref fa) → TabsOf q (K w.params) h → LamX.LawAtS l w (K w.params) (CX w) k n x mg fa h)
    (hCX : ∀ (w : World) (H : Hp) (s : Shared) (e : Value) (s' : Shared), CX w [] H s (fun _ _ _ => False) e s' → False) :
    PySem.W.WalkO q loose XP YP l.row.toRowW d [] (fun f vs => PySem.call f vs) := by
  refine Att.attach_callB hn hdf ?_
  intro w s₀ s₁ mg mb fa o pm cd doc a vs ns G Y ho hd hcd hmg hobj hints hlen hbits hg
  have KX := hY w _ Y
  have tabs : TabsOf q (K w.params) s₁.heap := fun x d c P h1 h2 => PySem.W.tab_of G.T KX h1 h2
  obtain ⟨fd, cs, sp, hT, nT, C, hb, hsp, hF⟩ := F w mg fa _ KX G.T.g hmg tabs
  refine LamX.law_callTs KX G.T.g G.T.b G.T.builtins G.T.nolimit hg hT nT C G.T.bmain hobj hints (Nat.le_trans hlen hn2) hr hF hb ?_ ?_
  · intro H hH hS
    exact hsp H a ns hlen hbits hH hS
  · intro H e s'
    exact hCX w H s₁ e s'

theorem tab_in {K : PySem.W.Frag} {x : Str} {f c P : Addr} {oc e : Value} {od dd : Option Addr} {fd : FuncData} {sl s2 : Array (Option Value)} {vs : Array Value} (a : PySem.W.nsIn K mainGlobals x = some (some (.ref f)))
    (l : K.lookup f = some ⟨oc, od, .func fd, sl⟩) (u : K.lookup c = some ⟨e, dd, .fields vs, s2⟩) (i : (vs[11]? : Option Value) = some (.ref P)) (hc : fd.code = .ref c := by rfl) : PySem.W.tabIn K x = some (c, P) := by
  unfold PySem.W.tabIn
  rw [a]
  simp only
  rw [l]
  simp only
  rw [hc]
  simp only
  rw [u]
  simp only
  rw [i]
end LT

/-! A def that the suite of an except clause calls, and that is handed the exception. -/
namespace LE
open PySem PySem.Spec PyProof.Rows L2 L2H

/-- the exception at a, of class cls -/
structure Caught (a : Addr) (oe : Obj) (cls : Value) (d : Option Addr) : Prop where
  z : Zc cls d oe
  f : ∃ vs, oe.data = .fields vs
abbrev SpE := Addr → Value → Option Addr → Sp
/-- what such a def promises -/
structure FnE (P : Program) (w : World) (K : PySem.W.Frag) (mg : Str → Option Value) (base : Heap)
    (CX : CXT) (k : Nat) (f : Addr) (fd : FuncData) (ps : List Str) (sp : SpE) : Prop where
  len : ∀ a c d vs H Q E, sp a c d vs H Q E → vs.length = ps.length
  run : ∀ (A : Around) (outer : List Env) (s : Shared) (H : Hp) (args : Args) (us : List Value) (vs : List V)
    (Q : VK) (E : XK) (a : Addr) (oe : Obj) (c : Value) (d : Option Addr), RoomH k A → Caught a oe c d → PinOk outer H s (a, oe) →
    Env0 P w K mg base A outer s H → BindsTo s fd args (ps.zip us) → Vals vs us → sp a c d vs H Q E →
    codeAny (model P w) A (.call (.ref f) args) (CR CX outer P w H s Q E) s

section
variable {CX : CXT} {P : Program} {w : World} {K : PySem.W.Frag} {mg : Str → Option Value} {base : Heap}
theorem fn_ofE {k : Nat} {f : Addr} {name qual : Str} {params : Arguments} {body : List Stmt} {scope : Scope}
    {dV kV doc pm cdv ct oc : Value} {an od : Option Addr} {osl : Array (Option Value)} {N ps : List Str} {sp : SpE}
    (lk : K.lookup f = some ⟨oc, od, .func (PySem.W.fnOf name qual params body scope dV kV doc pm an cdv ct), osl⟩)
    (hcd : PySem.W.codeIn K cdv qual = true) (S : FnScope N ps scope) (len : ∀ a c d vs H Q E, sp a c d vs H Q E → vs.length = ps.length)
    (hbody : ∀ (A : Around) (outer : List Env) (s : Shared) (H : Hp) (vs : List V) (Q : VK) (E : XK) (a : Addr) (oe : Obj) (c : Value) (d : Option Addr),
      Caught a oe c d → RoomH k (A.deeper (envOfC qual scope s.heap.objs.size f cdv)) → sp a c d vs H Q E →
      ∃ t, PSs (cxH CX P w K mg base N qual scope f cdv A outer s H E (a, oe)) body t ∧ t { nx := fun _ G => Q .non G, rt := Q } (L2.start N vs) H) :
    FnE P w K mg base CX (k + 1) f (PySem.W.fnOf name qual params body scope dV kV doc pm an cdv ct) ps sp := by
  refine ⟨len, ?_⟩
  intro A outer s H args us vs Q E a oe c d hr hc hpin e0 hb r hsp
  have hl := len _ _ _ _ _ _ _ hsp
  have KX : K.In s.heap := e0.mod.kin.keeps fun b o e => (e0.bs b o e).1
  have lim := e0.mod.nolimit.keeps fun b o e => (e0.bs b o e).1
  have hkind : ∀ y ∈ ps.zip us, scope.names.lookup y.1 = some .local ∨
      (scope.names.lookup y.1 = some .cell ∧ ((cellsFrom (s.heap.objs.size + 1) scope.names []).lookup y.1).isSome = true) := by
    rintro ⟨n, v⟩ hy
    rcases S.par n (List.of_mem_zip hy).1 with q | q
    · exact Or.inl q
    · exact Or.inr ⟨q, PySem.W.cellsFrom_some _ _ _ (Or.inl q)⟩
  refine codeAny_call_function hr.depth (KX _ _ lk) rfl S.co S.gen rfl (PySem.W.codeRec_of KX hcd) ?_
  refine hb _ _ _ _ ?_
  refine wpAny_newFunctionEnv_cells S.kind hkind ?_
  intro env he s1 x
  subst he
  refine ⟨lim.keeps x.toInCall.keep, ?_⟩
  refine codeAny_func ?_
  obtain ⟨t, ht, hq⟩ := hbody A outer s H vs Q E a oe c d hc (hr.deeper _) hsp
  have I := inv_startH (CX := CX) (P := P) (w := w) (K := K) (mg := mg) (base := base) (N := N) (E := E) S hpin e0 hl r x
  have fin : ∀ {τ : L2.St} {G : Hp} {y : V} {u : Value} {s' : Shared}, Inv (cxH CX P w K mg base N qual scope f cdv A outer s H E (a, oe)) [] τ G s' →
      RelV y u → Q y G → CE outer P w H s Q u s' := by
    intro τ G y u s' J rv q
    exact ⟨y, G, J.os, J.bare, J.base, J.hok, rv, q⟩
  refine wpAny_mono (ht.run [] s1 (L2.start N vs) H _ I hq) ?_ (fun _ _ z => z)
  intro fl s' hs
  cases fl with
  | next =>
    obtain ⟨τ, G, J, q⟩ := hs
    exact fin (y := V.non) (u := Value.none) J rfl q
  | ret u =>
    obtain ⟨y, τ, G, J, rv, q⟩ := hs
    exact fin J rv q
  | brk =>
    obtain ⟨_, _, _, q⟩ := hs
    exact q.elim
  | cont =>
    obtain ⟨_, _, _, q⟩ := hs
    exact q.elim
theorem okE {x qual : Str} {st : Stmt} {f : Addr} {fd : FuncData} {N ps : List Str} {k : Nat} {sp : SpE} (F : Fun K x qual st f fd) (S : FnScope N ps (defScope st))
    (len : ∀ a c d vs H Q E, sp a c d vs H Q E → vs.length = ps.length)
    (hbody : ∀ (cdv : Value) (A : Around) (outer : List Env) (s : Shared) (H : Hp) (vs : List V) (Q : VK) (E : XK) (a : Addr) (oe : Obj) (c : Value) (d : Option Addr),
      Caught a oe c d → RoomH k (A.deeper (envOfC qual (defScope st) s.heap.objs.size f cdv)) → sp a c d vs H Q E →
      ∃ t, PSs (cxH CX P w K mg base N qual (defScope st) f cdv A outer s H E (a, oe)) (defBody st) t ∧ t { nx := fun _ G => Q .non G, rt := Q } (L2.start N vs) H) :
    FnE P w K mg base CX (k + 1) f fd ps sp := by
  obtain ⟨⟨oc, od, kV, doc, pm, an, cdv, ct, osl, rfl, lk, hcd⟩, _⟩ := F
  exact fn_ofE lk hcd S len fun A outer s H vs Q E a oe c d => hbody cdv A outer s H vs Q E a oe c d
end

section
variable {X : Cx} {CX : CXT} {k : Nat} {f : Addr} {fd : FuncData} {ps : List Str} {sp : SpE} {E : L2.St → XK} {x : Str} {q pos : Pos} {e : Expr} {es : List Expr} {t : TA}
  {a : Addr} {oe : Obj} {c : Value} {d : Option Addr}
theorem pe_callE (F : FnE X.prog X.w X.K X.mg X.base CX k f fd ps sp) (hr : RoomH k X.A) (hc : Caught a oe c d) (hp : (a, oe) ∈ X.pn) (hg : Gl X x)
    (hm : X.mg x = some (.ref f)) (hk : PySem.W.keepIn X.K (.ref f) = true) (hb : Binds X.K fd ps []) (hx : ∀ σ, PassesAt CX X σ (E σ)) (ha : PA X (e :: es) t)
    (hdb : (x == ("__debug__" : Str)) = false := by decide) (he : starEach (e :: es) X.env = (false, eval e X.env) :: starEach es X.env := by rfl)
    (hpl : (backTo pos (starEach es X.env)).any (·.1) = false := by rfl) : PE X (.Call (.Name x q) (e :: es) [] pos) (tCallS (sp a c d) E t) := by
  constructor
  intro pins s σ H Q I h
  refine wpAny_Call_Name_kw (ld_glob I hg hm ?_ hdb)
  refine PySem.W.callWith_K (h₀ := X.base) I.ok.mod.kin hk (thn (ha.run pos pins s σ H _ I h) ?_) he hpl
  rintro us s1 ⟨vs, H1, J, r, g⟩
  refine ⟨J.kIn, ?_⟩
  have hl : us.length = ps.length := by
    rw [← r.length]
    exact F.len _ _ _ _ _ _ _ g
  have b := hb s1 us J.kIn (by rw [List.append_nil]; exact hl)
  rw [List.append_nil] at b
  have pin := J.pin (a, oe) (List.mem_append_left _ hp)
  have hpin : PinOk X.stack H1 s1 (a, oe) := by
    refine ⟨pin.1, pin.2.1, fun hm => ?_, pin.2.2.2.2⟩
    exact (List.mem_cons.mp (J.stkSub a hm)).elim pin.2.2.1 pin.2.2.2.1
  refine wpAny_call (codeAny_mono (F.run X.A X.stack s1 H1 ⟨us, []⟩ us vs Q (E σ) a oe c d hr hc hpin J.env0 b r g) ?_)
  intro z s' hq
  cases z with
  | error u => exact hx σ pins H1 s1 u s' J hq
  | ok fl =>
    cases fl with
    | ret u => exact J.after hq
    | next => exact hq.elim
    | brk => exact hq.elim
    | cont => exact hq.elim
/-- isinstance of the exception that is pinned -/
theorem call_isP {D : Addr} (C : ExcC X.K D) (hc : Caught a oe (.ref D) none) (hp : (a, oe) ∈ X.pn) : CallR X (.builtin "isinstance") (rIsE X.K D a) := by
  rintro pins s σ H xs us Q I r ⟨y, yv, b, rfl, hy, e, g⟩
  obtain ⟨u1, u2, rfl, r1, r2⟩ := vals2 r
  obtain rfl : u1 = Value.ref a := r1
  obtain rfl := hy _ r2
  have pin := I.pin (a, oe) (List.mem_append_left _ hp)
  have J : PySem.W.InstAt s.heap a oe D none := by
    obtain ⟨⟨h1, h2⟩, vs, hv⟩ := hc
    have h0 := pin.1
    cases oe with
    | mk oc od oda osl =>
      dsimp only at h1 h2 hv
      subst h1 h2 hv
      exact ⟨h0, rfl, rfl, trivial⟩
  refine PySem.W.kia_one (PySem.W.handS_kitx_exc C.hg C.hk C.hs C.hd C.ha C.hn C.ht C.hm) I.kIn J e (fun z => nomatch z) ?_
  intro tk
  exact ⟨.bl b, H, I.tok tk, rfl, g⟩
end

/-! ### how often a flat thing stands in a list of flat things -/
def rCntF (K : PySem.W.Frag) : V → List V → Hp → VK → Prop := fun x xs H Q => ∃ (p : Addr) (ys : List V) (y : V), x = .ref p ∧ xs = [y] ∧
  SqL K H p ys ∧ flatV y = true ∧ ys.all flatV = true ∧ Q (.int (ys.countP fun z => eqV z y : Nat)) H
theorem countF {y : V} : ∀ {ys : List V} {us : List Value}, Vals ys us → ys.all flatV = true → us.countP (eqU y) = ys.countP fun z => eqV z y
  | [], [], _, _ => rfl
  | x :: ys, u :: us, h, f => by
    cases h with
    | cons r t =>
      rw [List.all_cons, Bool.and_eq_true] at f
      rw [List.countP_cons, List.countP_cons, eqU_of r f.1, countF t f.2]
theorem mt_countF {X : Cx} : MtR X "list.count" (rCntF X.K) := by
  rintro pins s σ H x xs v us Q I rx rxs ⟨p, ys, y, rfl, rfl, hs, fy, fys, g⟩
  cases rx
  obtain ⟨u, rfl, ru⟩ := rxs.one
  obtain ⟨its, rv, ⟨⟨cls, dd, data, sl⟩, n, ho, hc, hdn, hd⟩, _⟩ := I.list hs
  simp only at hc hd
  subst hc hd
  refine call_meets PySem.F.slot_list_count ⟨_, ho, rfl⟩ PySem.F.entry_list_count (PySem.F.args_list_count_2 _ _) (SeqAt.list_countAt p its.toArray n dd sl u (eqU y)) ?_
  refine ⟨ho, fun z hz => mem_eqAt ru fy rv fys z (by simpa using hz), ?_⟩
  refine ⟨.int (ys.countP fun z => eqV z y : Nat), H, I.tok _, ⟨s.toks, ?_⟩, g⟩
  show Value.int ((its.toArray.toList.countP (eqU y) : Nat) : Int) s.toks = _
  rw [show its.toArray.toList = its from rfl, countF rv fys]

/-! ### a call of what stands at a place: xs[i](...) -/
/-- what may stand there -/
structure HeldX (X : Cx) (CX : CXT) (k : Nat) (f : Addr) (sp : Sp) : Prop where
  ex : ∃ (fd : FuncData) (ps : List Str), FnOk X.prog X.w X.K X.mg X.base CX k f fd ps sp ∧ PySem.W.keepIn X.K (.ref f) = true ∧ Binds X.K fd ps []
def tCallC (S : Addr → Sp → Prop) (tc : TE) (E : L2.St → XK) (t : TA) : TE := fun σ H Q => tc σ H fun x H1 => ∃ f sp, x = .ref f ∧ S f sp ∧ t σ H1 fun vs H2 => sp vs H2 Q (E σ)
section
variable {X : Cx} {CX : CXT} {k : Nat} {S : Addr → Sp → Prop} {E : L2.St → XK} {p pos : Pos} {o i e : Expr} {es : List Expr} {tc : TE} {t : TA}
theorem pe_callC (A : ∀ f sp, S f sp → HeldX X CX k f sp) (hr : Room k X.A) (hc : PE X (.Subscript o i p) tc) (hx : ∀ σ, PassesAt CX X σ (E σ)) (ha : PA X (e :: es) t)
    (he : starEach (e :: es) X.env = (false, eval e X.env) :: starEach es X.env := by rfl) (hpl : (backTo pos (starEach es X.env)).any (·.1) = false := by rfl) :
    PE X (.Call (.Subscript o i p) (e :: es) [] pos) (tCallC S tc E t) := by
  constructor
  intro pins s σ H Q I h
  have ev : eval (.Call (.Subscript o i p) (e :: es) [] pos) X.env = (do
      let f ← eval (.Subscript o i p) X.env
      callWith pos f [] (backTo pos (starEach (e :: es) X.env)) (backToKw pos (keywordEach [] X.env))) := rfl
  rw [ev]
  refine wpAny_bind (thn (hc.run pins s σ H _ I h) ?_)
  rintro u s1 ⟨x, H1, J, r, f, sp, rfl, hs, ht⟩
  cases r
  obtain ⟨fd, ps, F, hk, hb⟩ := (A f sp hs).ex
  refine PySem.W.callWith_K (h₀ := X.base) J.ok.mod.kin hk (thn (ha.run pos pins s1 σ H1 _ J ht) ?_) he hpl
  rintro us s2 ⟨vs, H2, J2, r2, g⟩
  exact ⟨J2.kIn, run_fnS F hr hb (hx σ) J2 r2 g⟩
end
end LE

/-! Dicts whose keys are tuples: displays, copies, values, sorts, equality. -/
namespace LD
open PySem PySem.Spec PyProof.Rows L2 LT

/-! ### displays -/
/-- one store behind the other -/
def mergeT (kvs more : List (List L2.Key × V)) : List (List L2.Key × V) := more.foldl (fun acc kv => putK acc kv.1 kv.2) kvs
theorem mergeT_len : ∀ (more kvs : List (List L2.Key × V)), (mergeT kvs more).length ≤ kvs.length + more.length
  | [], kvs => Nat.le_refl _
  | p :: r, kvs => by
    have h1 := mergeT_len r (putK kvs p.1 p.2)
    have h2 := length_putK kvs p.1 p.2
    show (mergeT (putK kvs p.1 p.2) r).length ≤ _
    simp only [List.length_cons]
    omega
theorem KT_merge {H : Hp} : ∀ {more : List (List L2.Key × V)} {ps : List (List L2.Key × Addr × Value)} {kvs : List (List L2.Key × V)} {xs : List (List L2.Key × Addr × Value)},
    KT H more ps → KT H kvs xs → KT H (mergeT kvs more) (storedAllH xs ps)
  | [], _, _, _, .nil, q => q
  | p :: more, _, kvs, xs, .cons (b := y) h t, q => by
    have e : KT H (putK kvs p.1 p.2) (storedH xs y.1 y.2.1 y.2.2) := by
      have := q.put p.1 h.2.1 h.2.2
      rw [← h.1]
      exact this
    show KT H (mergeT (putK kvs p.1 p.2) more) (storedAllH (storedH xs y.1 y.2.1 y.2.2) _)
    exact KT_merge t e
/-- what the pairs of a display come to -/
def PairsT (H : Hp) : List (V × V) → List (List L2.Key × V) → Prop := Paired fun q kv => (∃ b, q.1 = .ref b ∧ H b = some (.tup (kv.1.map kV))) ∧ q.2 = kv.2
theorem carriesT {P : Program} {w : World} {H : Hp} {h : Heap} (ok : HOk P w H h) : ∀ {qs : List (V × V)} {kvs : List (List L2.Key × V)} {ws : List (Value × Value)},
    PairsT H qs kvs → VV qs ws → ∃ ps, CarriesH (tupleKind (mixKind P w)) h ws ps ∧ KT H kvs ps
  | _, _, _, .nil, r => by
    cases r
    exact ⟨[], trivial, .nil⟩
  | q :: qs, kv :: kvs, _, .cons a t, r => by
    cases r with
    | cons a' t' =>
      rename_i u us
      obtain ⟨⟨b, e1, e2⟩, e3⟩ := a
      obtain ⟨ps, c, k⟩ := carriesT ok t t'
      obtain ⟨r1, r2⟩ := a'
      rw [e1] at r1
      rw [e3] at r2
      refine ⟨(kv.1, b, u.2) :: ps, ⟨r1, rfl, key_of ok e2, c⟩, .cons ⟨rfl, e2, r2⟩ k⟩
/-- {k: v, ..}, each key a tuple; the new dict stands empty while the pairs are made -/
def tDispT (trs : List (TE × TE)) : TE := fun σ H Q => ∀ p, H p = none → tPairs trs σ (upd H p (.dT [])) fun qs G => G p = some (.dT []) ∧
  ∃ kvs : List (List L2.Key × V), PairsT G qs kvs ∧ kvs.length ≤ 15 ∧ Q (.ref p) (upd G p (.dT (mergeT [] kvs)))
section
variable {X : Cx} {pos : Pos} {keys : List (Option Expr)} {values : List Expr} {trs : List (TE × TE)}
theorem pe_dispT (hu : X.A.units + 1 < cLine) (h : PPs X pos keys values trs) (hall : keys.all (·.isSome) = true) (hl : keys.length = values.length) (h0 : keys ≠ []) (h15 : keys.length ≤ 15) :
    PE X (.Dict keys values pos) (tDispT trs) := by
  constructor
  intro pins s σ H Q I q
  have hn := I.hok.fresh (Nat.le_refl s.heap.objs.size)
  have I1 := I.laid (a := s.heap.objs.size) (o := .dT []) (h' := s.heap.push { cls := .type "dict", data := .dict #[] }) (t' := s.toks) (fun _ _ q => Heap.get?_push_of_some _ q) (Nat.le_refl _) (dt_empty s.heap I.big)
  have hpl := pairTrees_length keys values X.env pos hall hl
  have hne : pairTrees keys values X.env pos ≠ [] := by
    intro he
    rw [he] at hpl
    exact h0 (List.length_eq_zero_iff.mp hpl.symm)
  rw [arm_eval_Dict, zip_pairTrees keys values X.env pos hall hl, dictDisplay_pairs _ hne (by omega)]
  refine wpAny_bind (wpAny_standAt (wpAny_bind (wpAny_subDictH (knd := tupleKind (mixKind X.prog X.w)) (Q := fun d s' => wpAny (model X.prog X.w) X.A (pure (Value.ref d)) (EP X pins σ Q) X.xe s') (show X.A.units < cLine from Nat.lt_of_succ_lt hu) (by omega) ?_)))
  refine thn (h.run pins _ σ _ _ I1 (q _ hn)) ?_
  rintro ws s2 ⟨qs, H2, I2, rel, e, kvs, pt, lk, q2⟩
  obtain ⟨ps, c, k⟩ := carriesT I2.hok pt rel
  obtain ⟨z, hd, xs0, r0, dd⟩ := dt_of I2.hok e
  cases r0
  refine ⟨ps, c, dd, fun h' tk dd' hs => wpAny_pure ⟨.ref s.heap.objs.size, _, ?_, rfl, q2⟩⟩
  have hz : (mergeT [] kvs).length ≤ sizeLine := by
    have h1 := mergeT_len kvs []
    rw [List.length_nil] at h1
    rw [sizeLine_eq]; omega
  obtain ⟨o, es, ep, ho, h2, h3, h4, _, h5⟩ := dd'
  refine d_write I2 (by rw [e]; exact True.intro) hs ⟨o, ho⟩ ⟨hz, hd, _, (KT_merge k .nil).keeps fun c ys ec => ?_, o, es, ep, ho, h2, h3, h4, h5⟩
  rw [upd_ne (ne_of ec e (fun z => nomatch z))]
  exact ec
end

/-! ### d.setdefault(k, x), keys numbers or texts -/
def rSetDef : V → List V → Hp → VK → Prop := fun x xs H Q => ∃ (a : Addr) (kvs : List (L2.Key × V)) (k : L2.Key) (y : V), x = .ref a ∧ xs = [kV k, y] ∧ H a = some (.dK kvs) ∧ kvs.length < sizeLine ∧
  (∀ v, valV kvs k = some v → Q v H) ∧ (valV kvs k = none → Q y (upd H a (.dK (putK kvs k y))))
theorem mt_setDef {X : Cx} : MtR X "dict.setdefault" rSetDef := by
  rintro pins s σ H x xs v us Q I rx rxs ⟨a, kvs, k, y, rfl, rfl, ha, hl, q1, q2⟩
  cases rx
  obtain ⟨u1, u2, rfl, r1, r2⟩ := vals2 rxs
  obtain ⟨z, hd, vs, rel, dd⟩ := dk_of I.hok ha
  have hz : vs.length ≤ sizeLine := by rw [← rel.length]; exact z
  refine call_meetsIn PySem.F.slot_dict_setdefault dd.typeIs PySem.F.entry_dict_setdefault (PySem.F.args_dict_setdefault_3 _ _ _) (kt_meets_setdefault (mixKind X.prog X.w) a (kV_is r1) hd u2) ⟨vs, dd, hz, fun w hw => ?_, fun hn h' dd' hs => ?_⟩
  · have rl := rel.val k
    rw [hw] at rl
    cases hv : valV kvs k with
    | none =>
      rw [hv] at rl
      exact rl.elim
    | some y' =>
      rw [hv] at rl
      exact ⟨y', H, I.tok _, rl, q1 y' hv⟩
  · have rl := rel.val k
    rw [hn] at rl
    have hv : valV kvs k = none := by
      cases hv : valV kvs k with
      | none => rfl
      | some y' =>
        rw [hv] at rl
        exact rl.elim
    have hl2 : (putK kvs k y).length ≤ sizeLine := by
      have := length_putK kvs k y
      omega
    have he : ∃ q, h'.get? a = some q := let ⟨q, _, _, hq, _⟩ := dd'; ⟨q, hq⟩
    exact ⟨y, _, d_write I (by rw [ha]; exact True.intro) hs he (dk_new hl2 hd (rel.put k r2) dd'), r2, q2 hv⟩

/-! ### list(d.values()), keys tuples -/
/-- a view of the values of the dict at a -/
def valsO (p a : Addr) : HO := .ext fun h => h.IsValuesView p a
def tVals (to : TE) : TE := fun σ H Q => to σ H fun x H1 => ∃ (a : Addr) (kvs : List (List L2.Key × V)), x = .ref a ∧ Rd H1 a (.dT kvs) ∧ ∀ p, H1 p = none → Q (.ref p) (upd H1 p (valsO p a))
theorem pe_vals {X : Cx} {o : Expr} {to : TE} {apos cpos : Pos} (ho : PE X o to) (hbase : attributeBase o "values" X.env (eval o X.env) = eval o X.env := by rfl) (hline : (apos.endLine == cpos.line) = true := by rfl) :
    PE X (.Call (.Attribute o "values" apos) [] [] cpos) (tVals to) := by
  constructor
  intro pins s σ H Q I h
  refine wpAny_Call_method0_late hbase hline (thn (ho.run pins s σ H _ I h) ?_)
  rintro v s1 ⟨x, H1, I1, r1, a, kvs, rfl, hd, q⟩
  cases r1
  obtain ⟨hz, hs, xs, rel, ob, es, ep, hob, hx, hdt, he, _, _⟩ := dt_rd I1.hok hd
  refine ⟨"dict", "dict.values", PySem.F.plainAttrs_dict, PySem.F.slot_dict_values, PySem.F.type_dict_values, ⟨ob, hob, hx.1⟩, ?_, Calls.callWith_builtin rfl (PySem.evalArgs_none ?_)⟩
  · intro b e
    cases e
    exact ⟨ob, hob, hx.2.1⟩
  · refine call_meetsIn PySem.F.slot_dict_values ⟨ob, hob, hx.1⟩ PySem.F.entry_dict_values (PySem.F.args_dict_values_1 _) (meets_dict_values_raw a hs) ⟨⟨es, ep, ob, hob, hx, hdt⟩, ?_⟩
    refine ⟨.ref s1.heap.objs.size, _, I1.laid (a := s1.heap.objs.size) (o := valsO s1.heap.objs.size a) (t' := s1.toks) (fun _ _ e => Heap.get?_push_of_some _ e) (Nat.le_refl _) ?_, rfl, q _ (I1.hok.fresh (Nat.le_refl _))⟩
    refine ⟨⟨_, Heap.get?_push_size _ rfl, rfl, rfl⟩, ⟨_, Heap.get?_push_size _ rfl⟩, fun h1 h2 v k => ?_⟩
    obtain ⟨o', e1, e2⟩ := v
    exact ⟨o', k _ e1, e2⟩
def rListVals : List V → Hp → VK → Prop := fun xs H Q => ∃ (p a : Addr) (kvs : List (List L2.Key × V)), xs = [.ref p] ∧ H p = some (valsO p a) ∧ Rd H a (.dT kvs) ∧ ∀ l, H l = none → Q (.ref l) (upd H l (.lst (kvs.map (·.2))))
theorem KT_vals {H : Hp} : ∀ {kvs : List (List L2.Key × V)} {xs : List (List L2.Key × Addr × Value)}, KT H kvs xs → Vals (kvs.map (·.2)) (xs.map (·.2.2))
  | _, _, .nil => .nil
  | _, _, .cons a t => .cons a.2.2 (KT_vals t)
theorem call_listVals {X : Cx} (hc : X.calm = true) : CallR X (.type "list") rListVals := by
  rintro pins s σ H xs us Q I r ⟨p, a, kvs, rfl, hp, hd, q⟩
  obtain ⟨u, rfl, ru⟩ := vals1 r
  obtain rfl : u = Value.ref p := ru
  obtain ⟨hz, hs, ks, rel, ob, es, ep, hob, hx, hdt, he, _, _⟩ := dt_rd I.hok hd
  have l1 : es.size = ks.length := size_of_entries he
  have l2 : kvs.length = ks.length := Paired.length rel
  have view : s.heap.IsValuesView p a := (show ObjOk X.prog X.w H s.heap p (valsO p a) from I.hok p _ hp).1
  refine PySem.W.kdl_call (KdlSrc.rawValues (es := es) (ep := ep)) (I.ok.hd hc) ⟨view, ob, hob, hx, hdt⟩ (by omega) ?_
  intro h' tk acc c kp e it
  have ea : acc.toList = ks.map (·.2.2) := by
    apply List.ext_getElem?
    intro j
    rw [List.getElem?_map]
    by_cases hj : j < es.size
    · have hja : j < acc.size := by rw [it.1]; exact hj
      obtain ⟨hi, hv⟩ := it.2 j acc[j] (Array.getElem?_eq_getElem hja)
      rw [Array.getElem?_toList, Array.getElem?_eq_getElem hja, hv]
      have qe := entry_at he j
      rw [Array.getElem?_eq_getElem hi] at qe
      cases hb : ks[j]? with
      | none =>
        rw [hb] at qe
        exact nomatch (show some es[j] = none from qe)
      | some b =>
        rw [hb] at qe
        rw [show es[j] = entryOfKey (tupleKind (mixKind X.prog X.w)) b from Option.some.inj qe]
        rfl
    · rw [List.getElem?_eq_none (by rw [Array.length_toList, it.1]; omega), List.getElem?_eq_none (by omega)]
      rfl
  have rv : Vals (kvs.map (·.2)) acc.toList := by
    rw [ea]
    exact KT_vals rel
  refine ⟨.ref s.heap.objs.size, _, I.laid (t' := tk) (o := .lst (kvs.map (·.2))) kp (Nat.le_refl _) ⟨by rw [List.length_map]; exact hz, acc.toList, c, rv, by rw [Array.toArray_toList]; exact e⟩, rfl, q _ (I.hok.fresh (Nat.le_refl _))⟩

/-! ### len(d), isinstance(d, dict), the dict locked or not -/
def rLenR : List V → Hp → VK → Prop := fun xs H Q => ∃ (p : Addr) (kvs : List (List L2.Key × V)), xs = [.ref p] ∧ Rd H p (.dT kvs) ∧ Q (.int ((kvs.length : Nat) : Int)) H
theorem call_lenR {X : Cx} : CallR X (.builtin "len") rLenR := by
  rintro pins s σ H xs us Q I r ⟨p, kvs, rfl, hd, q⟩
  obtain ⟨u, rfl, ru⟩ := vals1 r
  obtain rfl : u = Value.ref p := ru
  obtain ⟨hz, hs, ks, rel, dd⟩ := dt_rd I.hok hd
  have l2 : kvs.length = ks.length := Paired.length rel
  have h63 := line63
  refine call_len_dictH hs dd (by omega) ?_
  rw [← l2]
  exact ⟨.int ((kvs.length : Nat) : Int), H, I.tok _, ⟨_, rfl⟩, q⟩
def rIsD : List V → Hp → VK → Prop := fun xs H Q => ∃ (d : Addr) (kvs : List (List L2.Key × V)), xs = [.ref d, .ty "dict"] ∧ Rd H d (.dT kvs) ∧ Q (.bl true) H
theorem call_isD {X : Cx} : CallR X (.builtin "isinstance") rIsD := by
  rintro pins s σ H xs us Q I r ⟨d, kvs, rfl, hd, q⟩
  obtain ⟨u1, u2, rfl, r1, r2⟩ := vals2 r
  obtain rfl : u1 = Value.ref d := r1
  obtain rfl : u2 = Value.type "dict" := r2
  obtain ⟨hz, hs, xs, rel, ob, es, ep, hob, hx, _⟩ := dt_rd I.hok hd
  exact PySem.W.kia_one PySem.W.kitx_dict I.kIn ⟨ob, hob, hx.1⟩ (kit_ty (show kitB "dict" "dict" = some true by decide +kernel)) (fun z => nomatch z) fun tk => ⟨.bl true, H, I.tok tk, rfl, q⟩
theorem call_isR {X : Cx} : CallR X (.builtin "isinstance") (fun xs H Q => rIs X.K xs H Q ∨ rIsD xs H Q) := by
  intro pins s σ H xs us Q I r h
  rcases h with h | h
  · exact call_is pins s σ H xs us Q I r h
  · exact call_isD pins s σ H xs us Q I r h
end LD

/-! sorted(..) of paths: tuples of texts, one of them perhaps empty. -/
namespace LS
open PySem PyProof.Rows SrtO

def rk (p : List Str) : List (List Nat) := p.map fun z => z.cps.toList
def ltP (p q : List Str) : Bool := decide (rk p < rk q)
theorem rk_cons {x : Str} {p : List Str} : rk (x :: p) = x.cps.toList :: rk p := rfl
theorem cps_inj {x y : Str} (h : x.cps.toList = y.cps.toList) : x = y := by
  cases x with
  | mk a =>
    cases y with
    | mk b =>
      obtain ⟨a⟩ := a
      obtain ⟨b⟩ := b
      simp only at h
      rw [h]
theorem rk_inj : ∀ {p q : List Str}, rk p = rk q → p = q
  | [], [], _ => rfl
  | [], _ :: _, h => by simp [rk] at h
  | _ :: _, [], h => by simp [rk] at h
  | x :: p, y :: q, h => by
    rw [rk_cons, rk_cons] at h
    injection h with h1 h2
    rw [cps_inj h1, rk_inj h2]
theorem ltP_cons {x y : Str} {p q : List Str} : ltP (x :: p) (y :: q) = if x = y then ltP p q else decide (x.cps.toList < y.cps.toList) := by
  unfold ltP
  rw [rk_cons, rk_cons]
  by_cases e : x = y
  · subst e
    rw [if_pos rfl]
    refine decide_eq_decide.mpr ?_
    rw [List.cons_lt_cons_iff]
    constructor
    · rintro (h | ⟨_, h⟩)
      · exact absurd h (List.lt_irrefl _)
      · exact h
    · exact fun h => Or.inr ⟨rfl, h⟩
  · rw [if_neg e]
    refine decide_eq_decide.mpr ?_
    rw [List.cons_lt_cons_iff]
    constructor
    · rintro (h | ⟨h, _⟩)
      · exact h
      · exact absurd (cps_inj h) e
    · exact Or.inl
theorem ltP_nil {p : List Str} : ltP p [] = false := by
  unfold ltP
  refine decide_eq_false ?_
  exact List.not_lt_nil _
theorem ltP_nil_cons {x : Str} {p : List Str} : ltP [] (x :: p) = true := by
  unfold ltP
  rw [rk_cons]
  refine decide_eq_true ?_
  exact List.nil_lt_cons _ _
theorem rk_asym {a b : List (List Nat)} (h : a < b) : ¬ b < a := List.lt_asymm h
theorem rk_tr {a b c : List (List Nat)} (h1 : ¬ b < a) (h2 : ¬ c < b) : ¬ c < a := by
  have h1' : a ≤ b := h1
  have h2' : b ≤ c := h2
  exact (List.le_trans h1' h2' : a ≤ c)
theorem swoP (k : Value → List Str) : Swo fun u v => ltP (k u) (k v) := by
  constructor
  · intro x y h
    exact decide_eq_false (rk_asym (of_decide_eq_true h))
  · intro x y z h1 h2
    exact decide_eq_false (rk_tr (of_decide_eq_false h1) (of_decide_eq_false h2))
theorem ltP_anti {p q : List Str} (h1 : ltP p q = false) (h2 : ltP q p = false) : p = q := by
  have a : ¬ rk p < rk q := of_decide_eq_false h1
  have b : ¬ rk q < rk p := of_decide_eq_false h2
  exact rk_inj (List.le_antisymm (b : rk p ≤ rk q) (a : rk q ≤ rk p))

/-! ### tuples of texts, compared -/
def TupS (h : Heap) (v : Value) (p : List Str) : Prop := ∃ (a : Addr) (xs : Array Value), v = .ref a ∧ h.IsTuple a xs ∧ StrsAre xs.toList p
theorem TupS.keeps {h h' : Heap} {v : Value} {p : List Str} (x : TupS h v p) (k : ∀ b o, h.get? b = some o → o.cls = .type "tuple" → h'.get? b = some o) : TupS h' v p := by
  obtain ⟨a, xs, e, ⟨o, ho, hc, hd⟩, i⟩ := x
  exact ⟨a, xs, e, ⟨o, k _ _ ho hc, hc, hd⟩, i⟩
theorem strs_at : ∀ {vs : List Value} {p : List Str}, StrsAre vs p → vs.length = p.length ∧ ∀ j (h : j < vs.length), ∃ t, vs[j] = .str (p.getD j "") t
  | _, _, .nil => ⟨rfl, fun j h => absurd h (Nat.not_lt_zero _)⟩
  | _, _, .cons y t r => by
    obtain ⟨h1, h2⟩ := strs_at r
    refine ⟨by rw [List.length_cons, List.length_cons, h1], fun j h => ?_⟩
    cases j with
    | zero => exact ⟨t, rfl⟩
    | succ j => exact h2 j (Nat.lt_of_succ_lt_succ h)
theorem lexAt_ltP : ∀ (p q : List Str) (e r : Nat → Bool) (i : Nat), (∀ j, j < min p.length q.length → e (i + j) = decide (p.getD j "" = q.getD j "")) →
    (∀ j, j < min p.length q.length → r (i + j) = decide ((p.getD j "").cps.toList < (q.getD j "").cps.toList)) →
    Ob.lexAt e r (decide (p.length < q.length)) i (min p.length q.length) = ltP p q
  | [], [], e, r, i, _, _ => by rw [ltP_nil]; rfl
  | [], y :: q, e, r, i, _, _ => by
    rw [ltP_nil_cons, List.length_nil, Nat.zero_min]
    exact decide_eq_true (by rw [List.length_cons]; omega)
  | x :: p, [], e, r, i, _, _ => by
    rw [ltP_nil, List.length_nil, Nat.min_zero]
    exact decide_eq_false (Nat.not_lt_zero _)
  | x :: p, y :: q, e, r, i, he, hr => by
    have hm : min (x :: p).length (y :: q).length = min p.length q.length + 1 := by
      rw [List.length_cons, List.length_cons]
      omega
    have e0 : e i = decide (x = y) := by
      have := he 0 (by rw [hm]; omega)
      exact this
    have r0 : r i = decide (x.cps.toList < y.cps.toList) := by
      have := hr 0 (by rw [hm]; omega)
      exact this
    rw [hm, Ob.lexAt_succ, e0, r0, ltP_cons]
    by_cases h : x = y
    · rw [decide_eq_true h, if_pos rfl, if_pos h]
      have hz : decide ((x :: p).length < (y :: q).length) = decide (p.length < q.length) := decide_eq_decide.mpr (by rw [List.length_cons, List.length_cons]; omega)
      rw [hz]
      refine lexAt_ltP p q e r (i + 1) (fun j hj => ?_) (fun j hj => ?_)
      · have := he (j + 1) (by rw [hm]; omega)
        rw [Nat.add_assoc, Nat.add_comm 1 j]
        exact this
      · have := hr (j + 1) (by rw [hm]; omega)
        rw [Nat.add_assoc, Nat.add_comm 1 j]
        exact this
    · rw [decide_eq_false h, if_neg Bool.false_ne_true, if_neg h]
section
variable {prog : Program} {w : World} {A : Around} {E : Value → Shared → Prop} {s : Shared} {u v : Value} {p q : List Str}
theorem eq_str {x y : Str} {t t' : Tok} {A : Around} : SeqAt.EqAt A s (.str x t) (.str y t') (decide (x = y)) := fun _ _ _ _ h => wpAny_eqBool_str h
theorem lt_str_rc {x y : Str} {t t' : Tok} {A : Around} : Ob.RcOp .Lt A s (.str x t) (.str y t') (decide (x.cps.toList < y.cps.toList)) := fun _ _ _ _ h => PyProof.Rows.lt_str h
/-- t < u of two tuples of texts -/
theorem rc_ltP (hu : A.units < cLine) (h1 : TupS s.heap u p) (h2 : TupS s.heap v q) : Ob.RcOp .Lt A s u v (ltP p q) := by
  obtain ⟨a, xs, rfl, t1, i1⟩ := h1
  obtain ⟨b, ys, rfl, t2, i2⟩ := h2
  obtain ⟨l1, g1⟩ := strs_at i1
  obtain ⟨l2, g2⟩ := strs_at i2
  rw [Array.length_toList] at l1 l2
  have R := Ob.RcOp.tuples_lt (A := A) (s := s) (e := fun j => decide (p.getD j "" = q.getD j "")) (r := fun j => decide ((p.getD j "").cps.toList < (q.getD j "").cps.toList)) t1 t2 hu
    (fun j h1 h2 => by
      obtain ⟨t, e1⟩ := g1 j (by rw [Array.length_toList]; exact h1)
      obtain ⟨t', e2⟩ := g2 j (by rw [Array.length_toList]; exact h2)
      rw [Array.getElem_toList] at e1 e2
      rw [e1, e2]
      exact eq_str)
    (fun j h1 h2 _ => by
      obtain ⟨t, e1⟩ := g1 j (by rw [Array.length_toList]; exact h1)
      obtain ⟨t', e2⟩ := g2 j (by rw [Array.length_toList]; exact h2)
      rw [Array.getElem_toList] at e1 e2
      rw [e1, e2]
      exact lt_str_rc)
  rw [l1, l2] at R
  rw [lexAt_ltP p q _ _ 0 (fun j _ => by rw [Nat.zero_add]) (fun j _ => by rw [Nat.zero_add])] at R
  exact R
/-- the same, by the slot of tuples -/
theorem slot_ltP {Q : Bool → Shared → Prop} (hu : A.units + 1 < cLine) (h1 : TupS s.heap u p) (h2 : TupS s.heap v q) (h : Q (ltP p q) s) : wpAny (model prog w) A (oneLt' true u v) Q E s := by
  obtain ⟨a, xs, rfl, t1, i1⟩ := h1
  obtain ⟨b, ys, rfl, t2, i2⟩ := h2
  obtain ⟨l1, g1⟩ := strs_at i1
  obtain ⟨l2, g2⟩ := strs_at i2
  rw [Array.length_toList] at l1 l2
  rw [oneLt'_eq]
  simp only [if_true]
  refine wpAny_bind (wpAny_cRoomFor (Nat.lt_of_succ_lt hu) ?_)
  obtain ⟨⟨cls, dd, data, sl⟩, ho, hc, n, hd⟩ := id t1
  obtain ⟨⟨cls2, dd2, data2, sl2⟩, ho2, hc2, n2, hd2⟩ := id t2
  simp only at hc hd hc2 hd2
  subst hc hd hc2 hd2
  refine wpAny_bind (wpAny_callSpecialIfBound?_slot (T := "tuple") ⟨_, ho, rfl⟩ PySem.F.slot_tuple_lt ?_)
  refine call_meets PySem.F.slot_tuple_lt ⟨_, ho, rfl⟩ PySem.F.entry_tuple_lt (PySem.F.args_tuple_lt_2 _ _)
    (Ob.tuple_ltAt a b xs ys n n2 dd dd2 sl sl2 (fun j => decide (p.getD j "" = q.getD j "")) (fun j => decide ((p.getD j "").cps.toList < (q.getD j "").cps.toList))) ⟨ho, ho2, ?_, ?_, ?_⟩
  · intro j h1 h2
    obtain ⟨t, e1⟩ := g1 j (by rw [Array.length_toList]; exact h1)
    obtain ⟨t', e2⟩ := g2 j (by rw [Array.length_toList]; exact h2)
    rw [Array.getElem_toList] at e1 e2
    rw [e1, e2]
    exact eq_str
  · intro j h1 h2 _
    obtain ⟨t, e1⟩ := g1 j (by rw [Array.length_toList]; exact h1)
    obtain ⟨t', e2⟩ := g2 j (by rw [Array.length_toList]; exact h2)
    rw [Array.getElem_toList] at e1 e2
    rw [e1, e2]
    exact lt_str_rc
  · rw [l1, l2, lexAt_ltP p q _ _ 0 (fun j _ => by rw [Nat.zero_add]) (fun j _ => by rw [Nat.zero_add])]
    exact wpAny_truthy_bool h
end

/-! ### the three ways in which a sort may compare them -/
section
variable {prog : Program} {w : World} {A : Around} {E : Value → Shared → Prop} {s : Shared} {vs : List Value} {k : Value → List Str}
theorem lex_kat {b fin : Bool} {Q : Bool → Shared → Prop} : ∀ {xs ys : List Value} {p q : List Str} (i : Nat), StrsAre xs p → StrsAre ys q → (fin = decide (p.length < q.length)) → Q (ltP p q) s →
    PySem.W.KatLex prog w A b fin Q (xs.zip ys) i s
  | _, _, _, _, i, .nil, .nil, hf, h => by
    rw [ltP_nil] at h
    refine PySem.W.kat_nil ?_
    rw [hf]
    exact h
  | _, _, _, _, i, .nil, .cons y t r, hf, h => by
    rw [ltP_nil_cons] at h
    refine PySem.W.kat_nil ?_
    rw [hf, decide_eq_true (by rw [List.length_cons, List.length_nil]; omega)]
    exact h
  | _, _, _, _, i, .cons x t r, .nil, hf, h => by
    rw [ltP_nil] at h
    refine PySem.W.kat_nil ?_
    rw [hf, decide_eq_false (show ¬ (x :: _).length < ([] : List Str).length from Nat.not_lt_zero _)]
    exact h
  | _, _, _, _, i, .cons (ys := p) x t r, .cons (ys := q) y t' r', hf, h => by
    rw [ltP_cons] at h
    refine PySem.W.kat_cons (wpAny_eqBool_str ?_)
    refine PySem.W.kat_go (fun e => ?_) (fun e => ?_)
    · rw [if_pos (of_decide_eq_true e)] at h
      refine PySem.W.kat_yes (lex_kat (i + 1) r r' ?_ h)
      rw [hf]
      exact decide_eq_decide.mpr (by rw [List.length_cons, List.length_cons]; omega)
    · rw [if_neg (of_decide_eq_false e)] at h
      refine PySem.W.kat_no ?_
      cases hb : (b && i == 0) with
      | true => exact oneLt_str h
      | false => exact PySem.W.kat_one _ _ (PyProof.Rows.lt_str (Q := PySem.W.BoolBack Q) h)
theorem cmp_tuples (hp : ∀ v ∈ vs, TupS s.heap v (k v)) : Cmp prog w A s (tuples' true) (fun p => p.1 ∈ vs) (lt2 fun u v => ltP (k u) (k v)) := by
  intro p q hm hm'
  obtain ⟨a, xs, e1, ⟨o, ho, hc, n, hd⟩, i1⟩ := hp _ hm
  obtain ⟨b, ys, e2, ⟨o2, ho2, hc2, n2, hd2⟩, i2⟩ := hp _ hm'
  show wpAny (model prog w) A (keyLt' (tuples' true) p.1 q.1) (fun r s' => s' = s ∧ r = ltP (k p.1) (k q.1)) (fun _ _ => False) s
  generalize k p.1 = P at i1 ⊢
  generalize k q.1 = R at i2 ⊢
  rw [e1, e2]
  have l1 := (strs_at i1).1
  have l2 := (strs_at i2).1
  rw [Array.length_toList] at l1 l2
  refine PySem.W.kat_lt ho hd ho2 hd2 (lex_kat 0 i1 i2 ?_ ⟨rfl, rfl⟩)
  rw [l1, l2]
theorem cmp_general (hu : A.units < cLine) (hp : ∀ v ∈ vs, TupS s.heap v (k v)) : Cmp prog w A s general' (fun p => p.1 ∈ vs) (lt2 fun u v => ltP (k u) (k v)) := by
  intro p q hm hm'
  show wpAny (model prog w) A (oneLt' false p.1 q.1) (fun r s' => s' = s ∧ r = ltP (k p.1) (k q.1)) (fun _ _ => False) s
  refine PySem.W.kat_one _ _ ?_
  exact rc_ltP hu (hp _ hm) (hp _ hm') prog w _ _ ⟨rfl, rfl⟩
theorem cmp_one (hu : A.units + 1 < cLine) (hp : ∀ v ∈ vs, TupS s.heap v (k v)) : Cmp prog w A s oneType' (fun p => p.1 ∈ vs) (lt2 fun u v => ltP (k u) (k v)) := by
  intro p q hm hm'
  show wpAny (model prog w) A (oneLt' true p.1 q.1) (fun r s' => s' = s ∧ r = ltP (k p.1) (k q.1)) (fun _ _ => False) s
  exact slot_ltP hu (hp _ hm) (hp _ hm') ⟨rfl, rfl⟩

/-! ### which way it is -/
theorem firsts_any : ∀ {vs : List Value} {Q : List (Option Value) → Shared → Prop}, (∀ v ∈ vs, TupS s.heap v (k v)) →
    (∀ fs : List (Option Value), fs.length = vs.length → (fs.map Option.isSome = vs.map fun v => !(k v).isEmpty) → (∀ f ∈ fs, ∀ x, f = some x → ∃ z t, x = Value.str z t) → Q fs s) → wpAny (model prog w) A (vs.mapM firstOfTuple') Q E s
  | [], Q, _, h => by
    rw [List.mapM_nil]
    exact wpAny_pure (h [] rfl rfl fun f hf => nomatch hf)
  | v :: vs, Q, hp, h => by
    obtain ⟨a, xs, e1, ⟨o, ho, hc, n, hd⟩, i1⟩ := hp v (List.mem_cons_self ..)
    rw [List.mapM_cons, e1]
    refine wpAny_bind ?_
    rw [PySem.W.kas_first_eq]
    refine wpAny_bind (PySem.W.Looks.here (show PySem.W.Looks (model prog w) s.heap (typeOf (.ref a)) o.cls from (PySem.W.Looks.ld ho).andThen .now) ?_)
    rw [hc, if_neg (by first | decide | simp)]
    refine wpAny_bind (listItems_at ho hd (wpAny_pure ?_))
    refine wpAny_bind (firsts_any (fun u hu => hp u (List.mem_cons_of_mem _ hu)) fun fs hl hs hf => wpAny_pure (h _ (by rw [List.length_cons, List.length_cons, hl]) ?_ fun f hm x e => ?_))
    · rw [List.map_cons, List.map_cons, hs]
      have l1 := (strs_at i1).1
      rw [Array.length_toList] at l1
      have e2 : (xs[0]?).isSome = !(k v).isEmpty := by
        cases hk : k v with
        | nil =>
          rw [hk, List.length_nil] at l1
          rw [Array.getElem?_eq_none (by omega)]
          rfl
        | cons z r =>
          rw [hk, List.length_cons] at l1
          rw [Array.getElem?_eq_getElem (by omega)]
          rfl
      rw [e2]
    rcases List.mem_cons.mp hm with rfl | hm
    · obtain ⟨l1, g1⟩ := strs_at i1
      have hx : xs.toList[0]? = some x := by rw [Array.getElem?_toList]; exact e
      obtain ⟨h0, e0⟩ := List.getElem?_eq_some_iff.mp hx
      obtain ⟨t, et⟩ := g1 0 h0
      exact ⟨_, t, e0.symm.trans et⟩
    · exact hf f hm x e
theorem one_type {T : Value} {gs : List Value} {Q : Option Value → Shared → Prop} (hne : gs ≠ []) (hT : ∀ v ∈ gs, PySem.W.Looks (model prog w) s.heap (typeOf v) T) (hTT : (T == T) = true) (h : Q (some T) s) :
    wpAny (model prog w) A (oneTypeOnly' gs.toArray) Q E s := by
  obtain ⟨g, gr, rfl⟩ : ∃ g gr, gs = g :: gr := by
    cases gs with
    | nil => exact absurd rfl hne
    | cons g gr => exact ⟨g, gr, rfl⟩
  rw [oneTypeOnly'_eq, List.mapM_toArray, map_eq_pure_bind]
  refine wpAny_bind (wpAny_bind (PySem.W.kas_mapM (r := T) _ (fun v hv Q' hq => (hT v hv).here hq) (wpAny_pure ?_)))
  have hall : ((List.map (fun _ => T) (g :: gr)).toArray.all fun x => x == T) = true := by
    simp only [List.all_toArray, List.all_map, List.all_eq_true]
    intro _ _
    exact hTT
  have h0 : (List.map (fun _ => T) (g :: gr)).toArray[0]? = some T := by simp
  rw [h0]
  simp only [hall, if_true]
  exact wpAny_pure h
/-- which of the three it is -/
def wayOf (k : Value → List Str) (vs : List Value) : SortKind := if (vs.all fun v => !(k v).isEmpty) = true then tuples' true else if ((vs.map fun v => !(k v).isEmpty)[0]? = some true) then general' else oneType'
theorem kind_any (h2 : 2 ≤ vs.length) (hp : ∀ v ∈ vs, TupS s.heap v (k v)) {Q : SortKind → Shared → Prop} (q : Q (wayOf k vs) s) :
    wpAny (model prog w) A (keyKind' vs.toArray) Q E s := by
  rw [kat_kind_eq, List.mapM_toArray, map_eq_pure_bind]
  refine wpAny_bind (wpAny_bind (firsts_any hp fun fs hl hs hf => wpAny_pure ?_))
  have hav : (fs.toArray.all fun x => x.isSome) = vs.all fun v => !(k v).isEmpty := by
    have e1 : (fs.toArray.all fun x => x.isSome) = (fs.map Option.isSome).all id := by
      rw [List.all_map, List.all_toArray]
      rfl
    rw [e1, hs, List.all_map]
    rfl
  have h0v : (fs.toArray[0]?.bind id).isSome = true ↔ (vs.map fun v => !(k v).isEmpty)[0]? = some true := by
    rw [← hs]
    cases fs with
    | nil => simp
    | cons f fr => cases f <;> simp
  unfold wayOf at q
  rw [← hav] at q
  by_cases hall : (fs.toArray.all fun x => x.isSome) = true
  · rw [if_pos hall] at q ⊢
    refine wpAny_bind (wpAny_rule ?_)
    have hfm : Array.filterMap id fs.toArray = (fs.filterMap id).toArray := by simp
    rw [hfm]
    have hgs : ∀ g ∈ fs.filterMap id, ∃ z t, g = Value.str z t := by
      intro g hg
      obtain ⟨f, hm, e⟩ := List.mem_filterMap.mp hg
      exact hf f hm g e
    have hne : fs.filterMap id ≠ [] := by
      intro e
      cases fs with
      | nil =>
        rw [List.length_nil] at hl
        omega
      | cons f fr =>
        cases f with
        | none => simp at hall
        | some x => simp at e
    refine wpAny_bind (one_type (T := .type "str") hne (fun v hv => ?_) (by rfl) (wpAny_pure ?_))
    · obtain ⟨z, t, rfl⟩ := hgs v hv
      exact PySem.W.Looks.of_pure rfl
    · have e : (Option.any (fun x => x != Value.type "tuple") (some (Value.type "str"))) = true := by first | decide +kernel | rfl
      rw [e]
      exact q
  · rw [if_neg hall] at q ⊢
    refine wpAny_ite_split (fun h => ?_) (fun h => ?_)
    · rw [if_pos (h0v.mp h)] at q
      exact wpAny_pure q
    rw [if_neg (fun z => h (h0v.mpr z))] at q
    have hne : vs ≠ [] := by
      intro e
      rw [e, List.length_nil] at h2
      omega
    refine wpAny_bind (one_type (T := .type "tuple") hne (fun v hv => ?_) (by rfl) (wpAny_pure q))
    obtain ⟨a, xs, rfl, ⟨o, ho, hc, n, hd⟩, i1⟩ := hp v hv
    rw [← hc]
    exact (PySem.W.Looks.ld ho).andThen .now
/-- paths can be sorted, whatever the way -/
theorem sortable {a : Addr} (hu : A.units + 1 < cLine) (h2 : 2 ≤ vs.length) (hp : ∀ v ∈ vs, TupS s.heap v (k v)) (ha : ∀ o, s.heap.get? a = some o → o.cls ≠ .type "tuple") :
    SortableO prog w A s a vs fun u v => ltP (k u) (k v) := by
  intro h' keep
  have hp' : ∀ v ∈ vs, TupS h' v (k v) := fun v hm => (hp v hm).keeps fun b o e c => keep b o (fun z => by subst z; exact ha o e c) e
  refine ⟨wayOf k vs, fun Q E hq => kind_any h2 hp' hq, ?_⟩
  unfold wayOf
  split
  · exact cmp_tuples hp'
  · split
    · exact cmp_general (Nat.lt_of_succ_lt hu) hp'
    · exact cmp_one hu hp'
end

/-! ### sorted(x), x anything that can be walked -/
section
variable {prog : Program} {w : World} {A : Around} {E : Value → Shared → Prop} {s : Shared} {T : String} {r d : Addr} {n : Nat} {P : Nat → Value → Prop} {OK : Heap → Prop}
theorem collect_src {R : List Value → Shared → Prop} (K : PySem.W.KdlSrc prog w T r d n P OK) (hh : A.handled = none) (hok : OK s.heap) (hn : n ≤ sizeLine)
    (h : ∀ (h' : Heap) (tk : Nat) (acc : Array Value), (∀ b o, s.heap.get? b = some o → h'.get? b = some o) → s.heap.objs.size < h'.objs.size → ItemsOf P acc n → R acc.toList { s with heap := h', toks := tk }) :
    wpAny (model prog w) A (collect (.ref r)) R E s := by
  have hlt := K.there _ hok
  have hS : (s.heap.push { cls := .type "list", data := .seq ([] : List Value).toArray }).get? s.heap.objs.size = some { cls := .type "list", data := .seq #[] } := Heap.get?_push_size _ rfl
  have key := PySem.W.kdl_extend (A := A) (s := { s with heap := s.heap.push { cls := .type "list", data := .seq ([] : List Value).toArray } })
    (R := fun (q : Result) (s' : Shared) => ∃ (h' : Heap) (tk : Nat) (acc : Array Value) (c : Nat), q = .ok (.ret (.ref s.heap.objs.size)) ∧ s' = { s with heap := h', toks := tk } ∧ (∀ b o, s.heap.get? b = some o → h'.get? b = some o) ∧
      h'.get? s.heap.objs.size = some { cls := .type "list", dict := none, data := .seq acc c, slots := #[] } ∧ ItemsOf P acc n)
    K hh (K.keep _ _ hok fun b _ o e => Heap.get?_push_of_some _ e) s.heap.objs.size (Nat.ne_of_gt hlt.1) (Nat.ne_of_gt hlt.2) (.ref s.heap.objs.size) 0 hS
    (fun h' tk acc c kp at_ it => ⟨h', tk, acc, c, rfl, rfl, fun b o e => kp b o (Nat.ne_of_lt (Heap.lt_size e)) (Heap.get?_push_of_some _ e), at_, it⟩) hn
  have fin : ∀ {s' : Shared} {h' : Heap} {tk : Nat} {acc : Array Value} {c : Nat}, s' = { s with heap := h', toks := tk } → (∀ b o, s.heap.get? b = some o → h'.get? b = some o) →
      h'.get? s.heap.objs.size = some { cls := .type "list", dict := none, data := .seq acc c, slots := #[] } → ItemsOf P acc n →
      wpAny (model prog w) A (load s.heap.objs.size >>= fun o => match o.data with
        | .seq xs _ => pure xs.toList
        | _ => unsupported "internal:collect") R E s' := by
    intro s' h' tk acc c e kp at_ it
    subst e
    refine wpAny_bind (wpAny_load at_ ?_)
    exact wpAny_pure (h h' tk acc kp (Heap.lt_size at_) it)
  unfold collect
  refine wpAny_bind (wpAny_runValue (codeAny_builtin entry_proto_collect' ?_))
  rw [Around.under_plainId PySem.F.plain_proto_collect _]
  refine wpAny_bind (m := newList []) (wpAny_newObj_type (wpAny_pure ⟨plainId_quiet PySem.F.plain_list_iadd _, codeAny_builtin entry_list_iadd' ?_⟩))
  rw [Around.under_plainId PySem.F.plain_list_iadd _]
  refine wpAny_mono key ?_ ?_
  · intro fl s' x
    cases fl with
    | again c₁ =>
      obtain ⟨x1, x2⟩ := x
      refine ⟨x1, codeAny_mono x2 ?_⟩
      rintro q s₂ ⟨h', tk, acc, c, rfl, e, kp, at_, it⟩
      exact fin e kp at_ it
    | done f =>
      obtain ⟨h', tk, acc, c, eq, e, kp, at_, it⟩ := x
      cases eq
      exact fin e kp at_ it
  · intro e s' x
    obtain ⟨_, _, _, _, e', _⟩ := x
    cases e'
/-- what a sort leaves -/
def Leaves (s : Shared) (ltv : Value → Value → Bool) (vs : List Value) (tk : Nat) (Q : Value → Shared → Prop) : Prop := ∀ (h2 : Heap) (l : Addr) (out : List Value), Srtd ltv out → Stb ltv out vs →
  (∀ b o, s.heap.get? b = some o → h2.get? b = some o) → s.heap.objs.size ≤ l → (∃ c, h2.get? l = some (seqObj "list" out.toArray c)) → Q (.ref l) { s with heap := h2, toks := tk }
theorem sorted_src {ltv : List Value → Value → Value → Bool} {Q : Value → Shared → Prop} (O : ∀ vs, Swo (ltv vs)) (K : PySem.W.KdlSrc prog w T r d n P OK) (hh : A.handled = none) (hok : OK s.heap) (hn : n ≤ sizeLine)
    (hS : ∀ (acc : Array Value) (tk : Nat), ItemsOf P acc n → 2 ≤ acc.size → ∀ (h₁ : Heap) (a : Addr), h₁.get? a = some (seqObj "list" acc 0) → (∀ b o, s.heap.get? b = some o → b ≠ a ∧ h₁.get? b = some o) →
      SortableO prog w A.in1.in1 { s with heap := h₁, toks := tk } a acc.toList (ltv acc.toList))
    (h : ∀ (acc : Array Value) (tk : Nat), ItemsOf P acc n → Leaves s (ltv acc.toList) acc.toList tk Q) :
    wpAny (model prog w) A (call (.builtin "sorted") [.ref r]) Q E s := by
  refine Calls.call_function_entry kind_sorted plain_sorted entry_sorted (args_sorted1 _) ?_
  unfold Builtin.«sorted»
  refine wpAny_bind (m := checkCount "sorted" 1 1 _) (wpAny_pure (wpAny_bind (collect_src (A := A.in1) K hh hok hn fun h' tk acc kp hlt it => ?_)))
  have hz : acc.toList.length ≤ sizeLine := by
    rw [Array.length_toList, it.1]
    exact hn
  refine wpAny_bind (wpAny_newList ?_ hz)
  have hL : (h'.push (seqObj "list" acc.toList.toArray 0)).get? h'.objs.size = some (seqObj "list" acc.toList.toArray 0) := Heap.get?_push_size _ rfl
  have keep : ∀ b o, s.heap.get? b = some o → b ≠ h'.objs.size ∧ (h'.push (seqObj "list" acc.toList.toArray 0)).get? b = some o := fun b o q =>
    ⟨Nat.ne_of_lt (Heap.lt_size (kp b o q)), Heap.get?_push_of_some _ (kp b o q)⟩
  show wpAny _ _ _ _ _ { s with heap := h'.push (seqObj "list" acc.toList.toArray 0), toks := tk }
  refine wpAny_bind (wpAny_holding (wpAny_call_entry slot_list_sort ⟨_, hL, rfl⟩ entry_list_sort (list_sort_ord (O acc.toList) hL hz (fun h2 => ?_) fun out hs hb => ⟨_, rfl, ?_⟩) (args_list_sort _)))
  · exact hS acc tk it (by rw [← Array.length_toList]; exact h2) _ _ hL keep
  · refine wpAny_pure ⟨_, rfl, h acc tk it _ h'.objs.size out hs hb (fun b o e => ?_) (Nat.le_of_lt hlt) ?_⟩
    · exact (PyProof.Rows.sortedHeap_old (keep b o e).1 (Heap.lt_size (keep b o e).2)).trans (keep b o e).2
    · obtain ⟨c, hc⟩ := PyProof.Rows.sortedHeap_at (n := 0) (vs := acc.toList) (out := out.toArray) hL
      exact ⟨c, hc⟩
end
end LS

namespace LS
open PySem PySem.Spec PyProof.Rows SrtO L2 LT
/-- the texts of a tuple, read off the heap -/
def strsOf (h : Heap) : Value → List Str
  | .ref a => match h.get? a with
    | some o => match o.data with
      | .seq xs _ => xs.toList.map fun v => match v with | .str z _ => z | _ => ""
      | _ => []
    | none => []
  | _ => []
theorem strs_back : ∀ {vs : List Value} {p : List Str}, StrsAre vs p → vs.map (fun v => match v with | .str z _ => z | _ => "") = p
  | _, _, .nil => rfl
  | _, _, .cons y t r => by
    rw [List.map_cons, strs_back r]
theorem TupS.of {h : Heap} {v : Value} {p : List Str} (x : TupS h v p) : strsOf h v = p := by
  obtain ⟨a, xs, rfl, ⟨o, ho, hc, n, hd⟩, i⟩ := x
  unfold strsOf
  simp only [ho, hd]
  exact strs_back i
theorem strs_of_vals : ∀ {p : List Str} {us : List Value}, Vals (p.map V.str) us → StrsAre us p
  | [], _, r => by
    cases r
    exact .nil
  | z :: p, _, r => by
    cases r with
    | cons r1 r2 =>
      obtain ⟨t, rfl⟩ := r1
      exact .cons z t (strs_of_vals r2)
theorem tupS_of {X : Cx} {pins : List (Addr × Obj)} {σ : L2.St} {H : Hp} {s : Shared} {a : Addr} {p : List Str} (I : Inv X pins σ H s) (h : PathAt X.K H a p) : TupS s.heap (.ref a) p := by
  obtain ⟨its, r, t, _⟩ := I.tuple h
  exact ⟨a, its.toArray, rfl, t, by simpa using strs_of_vals r⟩
abbrev Zs := List (Addr × List Str)
def addrs (zs : Zs) : List V := zs.map fun z => V.ref z.1
def Rising (zs : Zs) : Prop := zs.Pairwise fun x y => ltP y.2 x.2 = false
theorem addrs_back : ∀ {zs : Zs} {us : List Value}, Vals (addrs zs) us → us = zs.map fun z => Value.ref z.1
  | [], _, r => by
    cases r
    rfl
  | z :: zs, _, r => by
    cases r with
    | cons r1 r2 =>
      cases r1
      rw [addrs_back r2]
      rfl
theorem addrs_vals : ∀ zs : Zs, Vals (addrs zs) (zs.map fun z => Value.ref z.1)
  | [] => .nil
  | z :: zs => .cons rfl (addrs_vals zs)
/-- sorted(xs), xs a list of paths -/
def rSortL (K : PySem.W.Frag) : List V → Hp → VK → Prop := fun vs H Q => ∃ (a : Addr) (zs : Zs), vs = [V.ref a] ∧ SqL K H a (addrs zs) ∧ (∀ z ∈ zs, PathAt K H z.1 z.2) ∧
  ∀ l ys, ys.Perm zs → Rising ys → H l = none → Q (.ref l) (upd H l (.lst (addrs ys)))
section
variable {X : Cx}
theorem sort_end {pins : List (Addr × Obj)} {σ : L2.St} {H : Hp} {s : Shared} {Q : VK} {zs : Zs} {tk : Nat} {vs : List Value} (I : Inv X pins σ H s) (hz : zs.length ≤ sizeLine) (hp : ∀ z ∈ zs, PathAt X.K H z.1 z.2) (e : vs = zs.map fun z => Value.ref z.1)
    (q : ∀ l ys, ys.Perm zs → Rising ys → H l = none → Q (.ref l) (upd H l (.lst (addrs ys)))) : Leaves s (fun u v => ltP (strsOf s.heap u) (strsOf s.heap v)) vs tk (EP X pins σ Q) := by
  intro h2 l out hs hb kp hl hc
  subst e
  obtain ⟨ys, py, ey⟩ := L2.perm_lift (fun z : Addr × List Str => Value.ref z.1) hb.perm zs rfl
  have hlen : ys.length ≤ sizeLine := by rw [py.length_eq]; exact hz
  obtain ⟨c, hc⟩ := hc
  refine ⟨.ref l, upd H l (.lst (addrs ys)), I.laid (t' := tk) kp hl ⟨by unfold addrs; rw [List.length_map]; exact hlen, out, c, ?_, hc⟩, rfl, q l ys py ?_ (I.hok.fresh hl)⟩
  · rw [← ey]
    exact addrs_vals ys
  · rw [← ey] at hs
    have hs2 := List.pairwise_map.mp hs
    refine List.Pairwise.imp_of_mem (fun {x y} hx hy h => ?_) hs2
    have e1 := (tupS_of I (hp x (py.mem_iff.mp hx))).of
    have e2 := (tupS_of I (hp y (py.mem_iff.mp hy))).of
    have h' : ltP (strsOf s.heap (.ref y.1)) (strsOf s.heap (.ref x.1)) = false := h
    rw [e1, e2] at h'
    exact h'
theorem sort_able {pins : List (Addr × Obj)} {σ : L2.St} {H : Hp} {s : Shared} {zs : Zs} {tk : Nat} {vs : List Value} {A : Around} (I : Inv X pins σ H s) (hu : A.units + 1 < cLine) (hp : ∀ z ∈ zs, PathAt X.K H z.1 z.2) (e : vs = zs.map fun z => Value.ref z.1) (h2 : 2 ≤ vs.length)
    {h₁ : Heap} {a : Addr} (ha : h₁.get? a = some (seqObj "list" vs.toArray 0)) (kk : ∀ b o, s.heap.get? b = some o → b ≠ a ∧ h₁.get? b = some o) :
    SortableO X.prog X.w A { s with heap := h₁, toks := tk } a vs (fun u v => ltP (strsOf s.heap u) (strsOf s.heap v)) := by
  refine sortable (s := { s with heap := h₁, toks := tk }) hu h2 (fun v hv => ?_) fun o e1 => ?_
  · rw [e] at hv
    obtain ⟨z, hz, rfl⟩ := List.mem_map.mp hv
    have t := tupS_of I (hp z hz)
    rw [t.of]
    exact t.keeps fun b o e _ => (kk b o e).2
  · have e' : some o = some (seqObj "list" vs.toArray 0) := e1.symm.trans ha
    cases e'
    intro c
    exact absurd (Value.type.inj c) (by decide)
theorem cr_sortL (hu : X.A.units + 3 < cLine) : CallR X (.builtin "sorted") (rSortL X.K) := by
  rintro pins s σ H vs us Q I r ⟨a, zs, rfl, hs, hp, q⟩
  obtain ⟨its, rv, hl, hz⟩ := I.list hs
  obtain ⟨u, rfl, ru⟩ := vals1 r
  obtain rfl : u = Value.ref a := ru
  have e := addrs_back rv
  have hzs : zs.length ≤ sizeLine := by
    have := hz
    unfold addrs at this
    rw [List.length_map] at this
    exact this
  have L := sort_end (tk := s.toks) I hzs hp e q
  refine sorted_ord (swoP (strsOf s.heap)) hl.isList (by rw [← rv.length]; exact hz) (fun h2 h₁ a ha kk => ?_) fun out h1 h2 => ?_
  · exact sort_able (tk := s.toks) I (show X.A.units + 1 + 1 + 1 < cLine by omega) hp e h2 ha kk
  · exact L _ _ out h1 h2 (fun b o e => sortedAll_old e) (Nat.le_succ _) (sortedAll_at s.heap its out.toArray)
/-- the keys of a dict, each a path -/
def KeysP (kvs : List (List L2.Key × V)) (ps : List (List Str)) : Prop := kvs.map (·.1) = ps.map fun p => p.map Sum.inr
theorem kV_strs (p : List Str) : (p.map (Sum.inr : Str → L2.Key)).map kV = p.map V.str := by
  rw [List.map_map]
  rfl
theorem zs_of {H : Hp} : ∀ {kvs : List (List L2.Key × V)} {xs : List (List L2.Key × Addr × Value)} {ps : List (List Str)}, KT H kvs xs → KeysP kvs ps →
    ∃ zs : Zs, zs.map (·.2) = ps ∧ zs.map (fun z => Value.ref z.1) = xs.map (fun x => Value.ref x.2.1) ∧ ∀ z ∈ zs, H z.1 = some (.tup (z.2.map V.str))
  | [], _, ps, .nil, h => by
    have e : ps = [] := by
      cases ps with
      | nil => rfl
      | cons p ps => exact absurd h (by simp [KeysP])
    subst e
    exact ⟨[], rfl, rfl, fun z hz => nomatch hz⟩
  | kv :: kvs, _, ps, .cons (b := x) a t, h => by
    cases ps with
    | nil => exact absurd h (by simp [KeysP])
    | cons p ps =>
      unfold KeysP at h
      rw [List.map_cons, List.map_cons] at h
      injection h with h1 h2
      obtain ⟨zs, e1, e2, e3⟩ := zs_of t h2
      obtain ⟨a1, a2, a3⟩ := a
      refine ⟨(x.2.1, p) :: zs, by rw [List.map_cons, e1], by rw [List.map_cons, List.map_cons, e2], fun z hz => ?_⟩
      rcases List.mem_cons.mp hz with rfl | hz
      · rw [h1, kV_strs] at a2
        exact a2
      · exact e3 z hz
/-- sorted(d), d a dict whose keys are paths -/
def rSortD : List V → Hp → VK → Prop := fun vs H Q => ∃ (d : Addr) (kvs : List (List L2.Key × V)) (ps : List (List Str)), vs = [V.ref d] ∧ Rd H d (.dT kvs) ∧ KeysP kvs ps ∧
  ∀ l ys, (ys.map (·.2)).Perm ps → Rising ys → (∀ z ∈ ys, H z.1 = some (.tup (z.2.map V.str))) → H l = none → Q (.ref l) (upd H l (.lst (addrs ys)))
theorem cr_sortD (hc : X.calm = true) (hu : X.A.units + 3 < cLine) : CallR X (.builtin "sorted") rSortD := by
  rintro pins s σ H vs us Q I r ⟨d, kvs, ps, rfl, hd, hk, q⟩
  obtain ⟨u, rfl, ru⟩ := vals1 r
  obtain rfl : u = Value.ref d := ru
  obtain ⟨hz, hs, xs, rel, o, es, ep, ho, hx, hdt, he, _, _⟩ := dt_rd I.hok hd
  obtain ⟨zs, z1, z2, z3⟩ := zs_of rel hk
  have l1 : es.size = xs.length := size_of_entries he
  have l2 : kvs.length = xs.length := Paired.length rel
  have l3 : zs.length = xs.length := by
    have := congrArg List.length z2
    rw [List.length_map, List.length_map] at this
    exact this
  have hp : ∀ z ∈ zs, PathAt X.K H z.1 z.2 := fun z hz => SqT.of (z3 z hz)
  have ea : ∀ acc : Array Value, ItemsOf (fun i v => ∃ hi : i < es.size, v = es[i].key) acc es.size → acc.toList = zs.map fun z => Value.ref z.1 := by
    intro acc it
    rw [z2]
    apply List.ext_getElem?
    intro j
    rw [List.getElem?_map]
    by_cases hj : j < es.size
    · have hja : j < acc.size := by rw [it.1]; exact hj
      obtain ⟨hi, hv⟩ := it.2 j acc[j] (Array.getElem?_eq_getElem hja)
      rw [Array.getElem?_toList, Array.getElem?_eq_getElem hja, hv]
      have qe := entry_at he j
      rw [Array.getElem?_eq_getElem hi] at qe
      cases hb : xs[j]? with
      | none =>
        rw [hb] at qe
        exact nomatch (show some es[j] = none from qe)
      | some b =>
        rw [hb] at qe
        rw [show es[j] = entryOfKey (tupleKind (mixKind X.prog X.w)) b from Option.some.inj qe]
        rfl
    · rw [List.getElem?_eq_none (by rw [Array.length_toList, it.1]; omega), List.getElem?_eq_none (by omega)]
      rfl
  have hzs : zs.length ≤ sizeLine := by rw [l3, ← l2]; exact hz
  refine sorted_src (T := "dict") (ltv := fun _ u v => ltP (strsOf s.heap u) (strsOf s.heap v)) (fun _ => swoP (strsOf s.heap)) (KdlSrc.rawDict (es := es) (ep := ep) hs) (I.ok.hd hc) ⟨o, ho, hx, hdt⟩ (by rw [l1, ← l2]; exact hz) ?_ ?_
  · intro acc tk it h2 h₁ a ha kk
    exact sort_able I (show X.A.units + 1 + 1 + 1 < cLine by omega) hp (ea acc it) (by rw [Array.length_toList]; exact h2) (by rw [Array.toArray_toList]; exact ha) kk
  · intro acc tk it
    refine sort_end I hzs hp (ea acc it) fun l ys py hr hl => q l ys ?_ hr (fun z hz => z3 z (py.mem_iff.mp hz)) hl
    rw [← z1]
    exact py.map _
end
end LS

/-! Dicts of paths: locked or not, walked, looked up. -/
namespace LT
open PySem PySem.Spec PyProof.Rows L2 GA LD

/-! ### a lock where there is none yet -/
def tLockR (t : TE) : TE := fun σ H Q => tLockE t σ H Q ∨ t σ H Q
theorem pe_lockR {X : Cx} {e : Expr} {t : TE} (h : PE X e t) : PE X e (tLockR t) := by
  constructor
  intro pins s σ H Q I q
  rcases q with q | q
  · exact (pe_lock h).run pins s σ H Q I q
  · exact h.run pins s σ H Q I q
def tLockS (t : TS) : TS := fun D σ H => tLock t D σ H ∨ t D σ H
theorem ps_lockS {X : Cx} {st : Stmt} {t : TS} (h : PS X st t) : PS X st (tLockS t) := by
  constructor
  intro pins s σ H D I q
  rcases q with q | q
  · exact (ps_lock h).run pins s σ H D I q
  · exact h.run pins s σ H D I q
theorem Ex.unlock {H H' : Hp} {d : Addr} {od : Obj} {kvs : List (List L2.Key × V)} (hd : H d = some (.dT kvs)) (x : Ex (upd H d (.frz od (.dT kvs))) H') : Ex H (upd H' d (.dT kvs)) := by
  constructor
  · intro b o e n
    by_cases hb : b = d
    · rw [hb] at e ⊢
      rw [upd_same, ← hd, e]
    · rw [upd_ne hb]
      exact x.keep b o (by rw [upd_ne hb]; exact e) n
  · rintro b ⟨ps, e, t⟩
    have hb : b ≠ d := fun z => by
      rw [z, hd] at e
      cases e
    obtain ⟨qs, e2, t2⟩ := x.tab b ⟨ps, by rw [upd_ne hb]; exact e, t⟩
    exact ⟨qs, by rw [upd_ne hb]; exact e2, t2⟩
  · intro b e
    by_cases hb : b = d
    · rw [hb, upd_same] at e
      cases e
    · rw [upd_ne hb] at e
      have := x.free b e
      rwa [upd_ne hb] at this
/-- what a walk over a dict at d does: it is locked there (H1), and the answer is told of the heap with the dict as it was -/
theorem lock_go {t : TE} {σ : L2.St} {H : Hp} {Q : VK} {d : Addr} {kvs : List (List L2.Key × V)} (hd : Rd H d (.dT kvs))
    (h : ∀ (H1 : Hp) (od : Obj) (R : VK), (∀ b o, H b = some o → b ≠ d → H1 b = some o) → (∀ b, TabG H b → TabG H1 b) → (∀ b, H1 b = none → H b = none) → H1 d = some (.frz od (.dT kvs)) →
      (∀ v H', Ex H1 H' → (∀ H2, Ex H H2 → (∀ b o, H' b = some o → b ≠ d → H2 b = some o) → Q v H2) → R v H') → t σ H1 R) : tLockR t σ H Q := by
  rcases hd with hd | ⟨od, hd⟩
  · refine Or.inl ⟨d, _, hd, trivial, fun od => ?_⟩
    refine h _ od _ (fun b o e hb => by rw [upd_ne hb]; exact e) (fun b => ?_) (fun b e => ?_) upd_same fun v H' x q => ⟨x.keep _ _ upd_same (fun ps z => by cases z), q _ (Ex.unlock hd x) fun b o e hb => by rw [upd_ne hb]; exact e⟩
    · rintro ⟨ps, e, t⟩
      refine ⟨ps, ?_, t⟩
      rw [upd_ne (fun z => by
        rw [z, hd] at e
        cases e)]
      exact e
    · by_cases hb : b = d
      · rw [hb, upd_same] at e
        cases e
      · rwa [upd_ne hb] at e
  · exact Or.inr (h H od Q (fun b o e _ => e) (fun b t => t) (fun b e => e) hd fun v H' x q => q H' x fun b o e _ => e)

/-! ### walks of keys and lists by a generator -/
section
variable {J : It} {te : TE} {σ0 : L2.St} {j : Nat} {Q : Bool → Hp → Prop} {H0 : Hp}
theorem gw_keysT {d : Addr} {o : Obj} {kvs : List (List L2.Key × V)} (g : List L2.Key × V → Bool) (hd : H0 d = some (.frz o (.dT kvs)))
    (step : ∀ kv q H, kv ∈ kvs → Ex H0 H → H q = some (.tup (kv.1.map kV)) → ∀ R : VK, (∀ H3, Ex H0 H3 → R (.bl (g kv)) H3) → te (σ0.set j (some (.ref q))) H R)
    (fin : ∀ H, Ex H0 H → Q (kvs.all g) H) : GW (Itkt d o kvs) te σ0 j true Q H0 := by
  have at_ : ∀ H, Ex H0 H → H d = some (.frz o (.dT kvs)) := fun H x => x.keep _ _ hd fun ps z => by cases z
  refine gw_all (n := kvs.length) (fun i => (kvs[i]?.map g).getD true) (fun H x => ⟨at_ H x, Nat.le_refl _⟩) (fun i H h x => ⟨at_ H x, h⟩) ?_ ?_
  · rintro i H y H' h x ⟨rfl, k, v, q, hk, rfl, hq⟩ R hR
    refine step (k, v) q H' (List.mem_of_getElem? hk) x hq R fun H3 x3 => ?_
    have := hR H3 x3
    rw [hk] at this
    exact this
  · intro H x
    have := fin H x
    rwa [← all_of_range g kvs (fun i => (kvs[i]?.map g).getD true) (fun i c e => by rw [e]; rfl)] at this
theorem gw_lst {K : PySem.W.Frag} {a : Addr} {xs : List V} (g : Nat → Bool) (ha : SqL K H0 a xs) (hl : ∀ H, Ex H0 H → SqL K H a xs)
    (step : ∀ i y H, xs[i]? = some y → Ex H0 H → ∀ R : VK, (∀ H3, Ex H0 H3 → R (.bl (g i)) H3) → te (σ0.set j (some y)) H R)
    (fin : ∀ H, Ex H0 H → Q ((List.range xs.length).all g) H) : GW (Itl K a) te σ0 j true Q H0 := by
  refine gw_all (n := xs.length) g (fun H x => ⟨xs, hl H x, Nat.le_refl _⟩) (fun i H h x => ⟨xs, xs[i], hl H x, List.getElem?_eq_getElem h⟩) ?_ fin
  rintro i H y H' h x ⟨rfl, hy⟩ R hR
  exact step i y H' (hy xs (hl H' x)) x R hR
end

/-! ### a tree, or what looks like one: a dict of paths -/
abbrev Ents := List (List Str × PyData)
def RowE (K : PySem.W.Frag) (H : Hp) (kvs : List (List L2.Key × V)) (es : Ents) : Prop := Paired (fun kv e => kv.1 = e.1.map Sum.inr ∧ Dp K H kv.2 e.2) kvs es
def TrAt (K : PySem.W.Frag) (H : Hp) (d : Addr) (es : Ents) : Prop := ∃ kvs, Rd H d (.dT kvs) ∧ RowE K H kvs es
theorem RowE.ex {K : PySem.W.Frag} {H H' : Hp} {kvs : List (List L2.Key × V)} {es : Ents} (x : Ex H H') (h : RowE K H kvs es) : RowE K H' kvs es := pairImp (fun _ _ q => ⟨q.1, Dp_ex x q.2⟩) h
theorem TrAt.ex {K : PySem.W.Frag} {H H' : Hp} {d : Addr} {es : Ents} (x : Ex H H') (h : TrAt K H d es) : TrAt K H' d es := by
  obtain ⟨kvs, hd, r⟩ := h
  exact ⟨kvs, x.rd hd (fun ps z => by cases z), r.ex x⟩
def valE (es : Ents) (p : List Str) : Option PyData := (es.find? fun e => decide (e.1 = p)).map (·.2)
theorem inr_inj : ∀ {p q : List Str}, p.map (Sum.inr : Str → L2.Key) = q.map Sum.inr → p = q
  | [], [], _ => rfl
  | [], _ :: _, h => by cases h
  | _ :: _, [], h => by cases h
  | x :: p, y :: q, h => by
    rw [List.map_cons, List.map_cons] at h
    injection h with h1 h2
    injection h1 with h1
    rw [h1, inr_inj h2]
theorem RowE.val {K : PySem.W.Frag} {H : Hp} {p : List Str} : ∀ {kvs : List (List L2.Key × V)} {es : Ents}, RowE K H kvs es →
    (valV kvs (p.map Sum.inr) = none ∧ valE es p = none) ∨ ∃ v d, valV kvs (p.map Sum.inr) = some v ∧ valE es p = some d ∧ Dp K H v d
  | _, _, .nil => Or.inl ⟨rfl, rfl⟩
  | kv :: kvs, e :: es, .cons a t => by
    obtain ⟨a1, a2⟩ := a
    by_cases h : e.1 = p
    · refine Or.inr ⟨kv.2, e.2, valV_pos (by rw [a1, h]), ?_, a2⟩
      unfold valE
      rw [List.find?_cons, decide_eq_true h]
      rfl
    · have h2 : ¬ kv.1 = p.map Sum.inr := fun z => h (inr_inj (a1.symm.trans z))
      have e1 : valE (e :: es) p = valE es p := by
        unfold valE
        rw [List.find?_cons, decide_eq_false h]
      rw [valV_neg h2, e1]
      exact RowE.val t
theorem RowE.keys {K : PySem.W.Frag} {H : Hp} : ∀ {kvs : List (List L2.Key × V)} {es : Ents}, RowE K H kvs es → LS.KeysP kvs (es.map (·.1))
  | _, _, .nil => rfl
  | kv :: kvs, e :: es, .cons a t => by
    have := RowE.keys t
    unfold LS.KeysP at this ⊢
    rw [List.map_cons, List.map_cons, List.map_cons, this, a.1]
theorem RowE.get {K : PySem.W.Frag} {H : Hp} {kvs : List (List L2.Key × V)} {es : Ents} (h : RowE K H kvs es) {i : Nat} {kv : List L2.Key × V} (e : kvs[i]? = some kv) : ∃ en, es[i]? = some en ∧ kv.1 = en.1.map Sum.inr ∧ Dp K H kv.2 en.2 := by
  obtain ⟨en, h1, h2⟩ := paired_get h e
  exact ⟨en, h1, h2⟩
theorem RowE.len {K : PySem.W.Frag} {H : Hp} {kvs : List (List L2.Key × V)} {es : Ents} (h : RowE K H kvs es) : kvs.length = es.length := Paired.length h
theorem RowE.all {K : PySem.W.Frag} {H : Hp} (g : List L2.Key × V → Bool) (f : List Str × PyData → Bool) (hg : ∀ kv e, kv.1 = e.1.map Sum.inr → Dp K H kv.2 e.2 → g kv = f e) : ∀ {kvs : List (List L2.Key × V)} {es : Ents}, RowE K H kvs es → kvs.all g = es.all f
  | _, _, .nil => rfl
  | kv :: kvs, e :: es, .cons a t => by
    rw [List.all_cons, List.all_cons, hg kv e a.1 a.2, RowE.all g f hg t]
/-- a path that stands as a tracked tuple: it may be asked as a key -/
def PathX (H : Hp) (a : Addr) (p : List Str) : Prop := H a = some (.tup (p.map V.str))
theorem PathX.at {K : PySem.W.Frag} {H : Hp} {a : Addr} {p : List Str} (h : PathX H a p) : PathAt K H a p := SqT.of h
theorem PathX.ex {H H' : Hp} {a : Addr} {p : List Str} (x : Ex H H') (h : PathX H a p) : PathX H' a p := x.keep _ _ h fun ps z => by cases z
theorem PathX.key {H : Hp} {a : Addr} {p : List Str} (h : PathX H a p) : H a = some (.tup ((p.map Sum.inr).map kV)) := by
  rw [LS.kV_strs]
  exact h
theorem PathX.of_key {H : Hp} {a : Addr} {p : List Str} (h : H a = some (.tup ((p.map Sum.inr).map kV))) : PathX H a p := by
  rw [LS.kV_strs] at h
  exact h
theorem get_tr {H : Hp} {d a : Addr} {kvs : List (List L2.Key × V)} {p : List Str} (hd : Rd H d (.dT kvs)) (ha : PathX H a p) : DGet H d (.ref a) (valV kvs (p.map Sum.inr)) := Or.inr ⟨kvs, _, a, hd, rfl, ha.key, rfl⟩
/-! ### what stays while a dict is locked -/
theorem lk_sqT {K : PySem.W.Frag} {H H1 : Hp} {d a : Addr} {kvs : List (List L2.Key × V)} {xs : List V} (hd : Rd H d (.dT kvs)) (k : ∀ b o, H b = some o → b ≠ d → H1 b = some o) (h : SqT K H a xs) : SqT K H1 a xs := by
  have ne : ∀ o, H a = some o → (∀ kvs, o ≠ .dT kvs) → (∀ ob kvs, o ≠ .frz ob (.dT kvs)) → a ≠ d := fun o e h1 h2 z => by
    rw [z] at e
    rcases hd with hd | ⟨ob, hd⟩
    · rw [hd] at e
      cases e
      exact h1 _ rfl
    · rw [hd] at e
      cases e
      exact h2 _ _ rfl
  rcases h with (h | ⟨o, h⟩) | h
  · exact Or.inl (Or.inl (k a _ h (ne _ h (fun _ z => by cases z) (fun _ _ z => by cases z))))
  · exact Or.inl (Or.inr ⟨o, k a _ h (ne _ h (fun _ z => by cases z) (fun _ _ z => by cases z))⟩)
  · exact Or.inr h
theorem lk_sqL {K : PySem.W.Frag} {H H1 : Hp} {d a : Addr} {kvs : List (List L2.Key × V)} {xs : List V} (hd : Rd H d (.dT kvs)) (k : ∀ b o, H b = some o → b ≠ d → H1 b = some o) (h : SqL K H a xs) : SqL K H1 a xs := by
  have ne : ∀ o, H a = some o → (∀ kvs, o ≠ .dT kvs) → (∀ ob kvs, o ≠ .frz ob (.dT kvs)) → a ≠ d := fun o e h1 h2 z => by
    rw [z] at e
    rcases hd with hd | ⟨ob, hd⟩
    · rw [hd] at e
      cases e
      exact h1 _ rfl
    · rw [hd] at e
      cases e
      exact h2 _ _ rfl
  rcases h with (h | ⟨o, h⟩) | h
  · exact Or.inl (Or.inl (k a _ h (ne _ h (fun _ z => by cases z) (fun _ _ z => by cases z))))
  · exact Or.inl (Or.inr ⟨o, k a _ h (ne _ h (fun _ z => by cases z) (fun _ _ z => by cases z))⟩)
  · exact Or.inr h
mutual
theorem lk_dp {K : PySem.W.Frag} {H H1 : Hp} {d : Addr} {kvs : List (List L2.Key × V)} (hd : Rd H d (.dT kvs)) (k : ∀ b o, H b = some o → b ≠ d → H1 b = some o) : ∀ {D : PyData} {v : V}, Dp K H v D → Dp K H1 v D
  | _, _, .non => .non
  | _, _, .bl b => .bl b
  | _, _, .int i => .int i
  | _, _, .str z => .str z
  | _, _, .lst h t => .lst (lk_sqL hd k h) (lk_dpAll hd k t)
  | _, _, .tup h t => .tup (lk_sqT hd k h) (lk_dpAll hd k t)
theorem lk_dpAll {K : PySem.W.Frag} {H H1 : Hp} {d : Addr} {kvs : List (List L2.Key × V)} (hd : Rd H d (.dT kvs)) (k : ∀ b o, H b = some o → b ≠ d → H1 b = some o) : ∀ {ds : List PyData} {vs : List V}, DpAll K H vs ds → DpAll K H1 vs ds
  | _, _, .nil => .nil
  | _, _, .cons h t => .cons (lk_dp hd k h) (lk_dpAll hd k t)
end
theorem RowE.lk {K : PySem.W.Frag} {H H1 : Hp} {d : Addr} {kvs kvs' : List (List L2.Key × V)} {es : Ents} (hd : Rd H d (.dT kvs)) (k : ∀ b o, H b = some o → b ≠ d → H1 b = some o) (h : RowE K H kvs' es) : RowE K H1 kvs' es := pairImp (fun _ _ q => ⟨q.1, lk_dp hd k q.2⟩) h
/-- a condition that is a value's truth -/
def tTru (K : PySem.W.Frag) (ta : TE) : TT := fun σ H Q => ta σ H fun x H' => ∃ k, TruV K x H' k ∧ Q k H'
theorem pts_truth {X : Cx} {a : Expr} {ta : TE} (ha : PE X a ta) (he : ∀ whole, isTrue a X.env whole = (do let v ← whole; standAt a.pos; holding [v] (truthy v))) : PTs X [a] (tTru X.K ta) := pts_one (pt_truth ha he)
theorem pts_cmp {X : Cx} {op : CmpOp} {r : R2} {a b : Expr} {ta tb : TE} {pos : Pos} (ho : OpR X (compareOp op) r) (ha : PE X a ta) (hb : PE X b tb) (hm : lastMarks [op] [b] = false) : PTs X [.Compare a [op] [b] pos] (tTest (tOp r ta tb)) := pts_one (pt_cmpR ho ha hb hm)
end LT

/-! sorted(..) of lists of paths. -/
namespace LT
open PySem PySem.Spec PyProof.Rows L2 GA LD SrtO
def PathsX (H : Hp) (l : Addr) (ps : List (List Str)) : Prop := ∃ rs : List Addr, H l = some (.lst (rs.map V.ref)) ∧ Paired (fun r q => PathX H r q) rs ps
theorem PathsX.at {K : PySem.W.Frag} {H : Hp} {l : Addr} {ps : List (List Str)} (h : PathsX H l ps) : PathsAt K H l ps := by
  obtain ⟨rs, e, q⟩ := h
  exact ⟨rs, e, pairImp (fun _ _ h => h.at) q⟩
theorem PathsX.ex {H H' : Hp} {l : Addr} {ps : List (List Str)} (x : Ex H H') (h : PathsX H l ps) : PathsX H' l ps := by
  obtain ⟨rs, e, q⟩ := h
  exact ⟨rs, x.keep _ _ e (fun ps z => by cases z), pairImp (fun _ _ h => h.ex x) q⟩
theorem strs_inj : ∀ {p q : List Str}, p.map V.str = q.map V.str → p = q
  | [], [], _ => rfl
  | [], _ :: _, h => by cases h
  | _ :: _, [], h => by cases h
  | x :: p, y :: q, h => by
    rw [List.map_cons, List.map_cons] at h
    injection h with h1 h2
    injection h1 with h1
    rw [h1, strs_inj h2]
theorem PathX.uniq {H : Hp} {a : Addr} {p q : List Str} (h1 : PathX H a p) (h2 : PathX H a q) : p = q := by
  have e : some (HO.tup (p.map V.str)) = some (HO.tup (q.map V.str)) := h1.symm.trans h2
  injection e with e
  injection e with e
  exact strs_inj e
theorem paired_uniq {H : Hp} : ∀ {rs : List Addr} {ps qs : List (List Str)}, Paired (fun r q => PathX H r q) rs ps → Paired (fun r q => PathX H r q) rs qs → ps = qs
  | _, _, _, .nil, .nil => rfl
  | _, _, _, .cons a t, .cons b u => by rw [PathX.uniq a b, paired_uniq t u]
theorem refs_inj : ∀ {p q : List Addr}, p.map V.ref = q.map V.ref → p = q
  | [], [], _ => rfl
  | [], _ :: _, h => by cases h
  | _ :: _, [], h => by cases h
  | x :: p, y :: q, h => by
    rw [List.map_cons, List.map_cons] at h
    injection h with h1 h2
    injection h1 with h1
    rw [h1, refs_inj h2]
theorem PathsX.uniq {H : Hp} {l : Addr} {ps qs : List (List Str)} (h1 : PathsX H l ps) (h2 : PathsX H l qs) : ps = qs := by
  obtain ⟨rs, e1, p1⟩ := h1
  obtain ⟨rs', e2, p2⟩ := h2
  rw [e1] at e2
  injection e2 with e2
  injection e2 with e2
  have := refs_inj e2
  subst this
  exact paired_uniq p1 p2
def groupD (ps : List (List Str)) : PyData := .list (ps.map pathD)
theorem alike_strs : ∀ p q : List Str, PySem.W.alikeAll (p.map .str) (q.map .str) = true
  | [], _ => by rw [List.map_nil, PySem.W.alikeAll]
  | _ :: _, [] => by rw [List.map_cons, List.map_nil, PySem.W.alikeAll]
  | x :: p, y :: q => by rw [List.map_cons, List.map_cons, PySem.W.alikeAll, PySem.W.alike, alike_strs p q, Bool.true_and]
theorem alike_paths : ∀ p q : List (List Str), PySem.W.alikeAll (p.map pathD) (q.map pathD) = true
  | [], _ => by rw [List.map_nil, PySem.W.alikeAll]
  | _ :: _, [] => by rw [List.map_cons, List.map_nil, PySem.W.alikeAll]
  | x :: p, y :: q => by
    have : PySem.W.alike (pathD x) (pathD y) = true := by
      unfold pathD
      rw [PySem.W.alike]
      exact alike_strs x y
    rw [List.map_cons, List.map_cons, PySem.W.alikeAll, this, alike_paths p q, Bool.true_and]
theorem alike_group (p q : List (List Str)) : PySem.W.alike (groupD p) (groupD q) = true := by
  unfold groupD
  rw [PySem.W.alike]
  exact alike_paths p q
theorem depth_group (ps : List (List Str)) : (groupD ps).depth ≤ 2 := by
  have := depth_paths ps
  unfold groupD
  simp only [PyData.depth]
  omega
theorem swoD (k : Value → PyData) : Swo fun u v => PySem.W.dataLt (k u) (k v) := by
  constructor
  · intro x y h
    cases hq : PySem.W.dataLt (k y) (k x) with
    | false => rfl
    | true =>
      have := lex_trans _ _ _ h hq
      rw [lex_irrefl] at this
      cases this
  · intro x y z h1 h2
    cases hq : PySem.W.dataLt (k z) (k x) with
    | false => rfl
    | true =>
      rcases lex_negTrans (O := itemOrd) (PySem.W.keyToks (k z)) (PySem.W.keyToks (k y)) (PySem.W.keyToks (k x)) hq with h | h
      · rw [show PySem.W.dataLt (k z) (k y) = true from h] at h2
        cases h2
      · rw [show PySem.W.dataLt (k y) (k x) = true from h] at h1
        cases h1
abbrev Gs := List (Addr × List (List Str))
def gAddrs (gs : Gs) : List V := gs.map fun g => V.ref g.1
theorem gAddrs_back : ∀ {gs : Gs} {us : List Value}, Vals (gAddrs gs) us → us = gs.map fun g => Value.ref g.1
  | [], _, r => by
    cases r
    rfl
  | z :: gs, _, r => by
    cases r with
    | cons r1 r2 =>
      cases r1
      rw [gAddrs_back r2]
      rfl
theorem gAddrs_vals : ∀ gs : Gs, Vals (gAddrs gs) (gs.map fun g => Value.ref g.1)
  | [] => .nil
  | z :: gs => .cons rfl (gAddrs_vals gs)
def RisingG (gs : Gs) : Prop := gs.Pairwise fun x y => PySem.W.dataLt (groupD y.2) (groupD x.2) = false
/-- the data of a list of paths, by its address -/
def dataOf (gs : Gs) : Value → PyData
  | .ref a => match gs.find? fun g => g.1 == a with
    | some g => groupD g.2
    | none => .none
  | _ => .none
theorem dataOf_mem {H : Hp} {gs : Gs} (hg : ∀ g ∈ gs, PathsX H g.1 g.2) {g : Addr × List (List Str)} (hm : g ∈ gs) : dataOf gs (.ref g.1) = groupD g.2 := by
  unfold dataOf
  cases h : gs.find? fun x => x.1 == g.1 with
  | none =>
    have := List.find?_eq_none.mp h g hm
    simp at this
  | some x =>
    have h1 : x.1 = g.1 := by simpa using List.find?_some h
    have h2 := hg x (List.mem_of_find?_eq_some h)
    rw [h1] at h2
    simp only [h]
    rw [h2.uniq (hg g hm)]
/-- sorted(xs), xs a list of lists of paths -/
def rSortG (K : PySem.W.Frag) : List V → Hp → VK → Prop := fun vs H Q => ∃ (a : Addr) (gs : Gs), vs = [V.ref a] ∧ SqL K H a (gAddrs gs) ∧ (∀ g ∈ gs, PathsX H g.1 g.2) ∧
  ∀ l ys, ys.Perm gs → RisingG ys → H l = none → Q (.ref l) (upd H l (.lst (gAddrs ys)))
section
variable {X : Cx}
theorem cr_sortG (hu : X.A.units + 64 < cLine) : CallR X (.builtin "sorted") (rSortG X.K) := by
  rintro pins s σ H vs us Q I r ⟨a, gs, rfl, hs, hg, q⟩
  obtain ⟨its, rv, hl, hz⟩ := I.list hs
  obtain ⟨u, rfl, ru⟩ := vals1 r
  obtain rfl : u = Value.ref a := ru
  have e := gAddrs_back rv
  have hgs : gs.length ≤ sizeLine := by
    have := hz
    unfold gAddrs at this
    rw [List.length_map] at this
    exact this
  refine sorted_ord (swoD (dataOf gs)) hl.isList (by rw [← rv.length]; exact hz) (fun h2 h₁ b hb kk => ?_) fun out hs hb => ?_
  · intro h' keep
    have hlist : ∀ g ∈ gs, ∃ (d : PyData) (as : List Addr), Reads h' (.ref g.1) d as ∧ d = groupD g.2 ∧ ∃ o, h'.get? g.1 = some o ∧ o.cls = .type "list" := by
      intro g hm
      obtain ⟨as, r⟩ := Dp.reads I (groupD g.2) (.ref g.1) (.ref g.1) (hg g hm).at.dp rfl
      have kp : ∀ b o, s.heap.get? b = some o → h'.get? b = some o := fun b o e => keep b o (kk b o e).1 (kk b o e).2
      obtain ⟨rs, eg, _⟩ := hg g hm
      obtain ⟨_, its', n', _, _, eo⟩ := I.lstM eg
      exact ⟨_, as, Reads.keeps kp r, rfl, _, kp _ _ eo, rfl⟩
    refine ⟨oneType', fun Q' E hq => ?_, ?_⟩
    · refine PySem.W.kas_kind (T := .type "list") h2 (fun v hv => ?_) (by first | decide +kernel | rfl) (by rfl) hq
      rw [e] at hv
      obtain ⟨g, hm, rfl⟩ := List.mem_map.mp hv
      obtain ⟨d, as, _, _, o, ho, hc⟩ := hlist g hm
      rw [← hc]
      exact (PySem.W.Looks.ld ho).andThen .now
    · intro p q hp hq
      have hp : p.1 ∈ its := hp
      have hq : q.1 ∈ its := hq
      show wpAny (model X.prog X.w) X.A.in1.in1 (oneLt' true p.1 q.1) (fun r s' => s' = { s with heap := h' } ∧ r = PySem.W.dataLt (dataOf gs p.1) (dataOf gs q.1)) (fun _ _ => False) { s with heap := h' }
      rw [e] at hp hq
      obtain ⟨g1, m1, e1⟩ := List.mem_map.mp hp
      obtain ⟨g2, m2, e2⟩ := List.mem_map.mp hq
      obtain ⟨d1, as1, r1, rfl, _⟩ := hlist g1 m1
      obtain ⟨d2, as2, r2, rfl, _⟩ := hlist g2 m2
      rw [← e1, ← e2, dataOf_mem hg m1, dataOf_mem hg m2]
      refine PySem.W.oneLt_alike (fun _ xs z => by cases z) r1 r2 (alike_group _ _) (by intro z; cases z) ?_ ⟨rfl, rfl⟩
      have := depth_group g1.2
      show X.A.units + 1 + 1 + min (groupD g1.2).depth (groupD g2.2).depth < cLine
      omega
  · obtain ⟨ys, py, ey⟩ := perm_lift (fun z : Addr × List (List Str) => Value.ref z.1) hb.perm gs e.symm
    have hlen : ys.length ≤ sizeLine := by rw [py.length_eq]; exact hgs
    have hfr : s.heap.objs.size ≤ s.heap.objs.size + 1 := Nat.le_succ _
    obtain ⟨c, hc⟩ := sortedAll_at s.heap its out.toArray
    refine ⟨.ref (s.heap.objs.size + 1), upd H (s.heap.objs.size + 1) (.lst (gAddrs ys)), I.laid (t' := s.toks) (fun b o e => sortedAll_old e) hfr ⟨by unfold gAddrs; rw [List.length_map]; exact hlen, out, c, ?_, hc⟩, rfl, q _ ys py ?_ (I.hok.fresh hfr)⟩
    · rw [← ey]
      exact gAddrs_vals ys
    · rw [← ey] at hs
      have hs2 := List.pairwise_map.mp hs
      refine List.Pairwise.imp_of_mem (fun {x y} hx hy h => ?_) hs2
      have h' : PySem.W.dataLt (dataOf gs (.ref y.1)) (dataOf gs (.ref x.1)) = false := h
      rw [dataOf_mem hg (py.mem_iff.mp hx), dataOf_mem hg (py.mem_iff.mp hy)] at h'
      exact h'
end
end LT

/-! for k, v in d.items(), keys tuples. -/
namespace LD
open PySem PySem.Spec PyProof.Rows L2 LT
/-- the pairs of the locked dict at d, each a new tuple; keys are tuples -/
def Itit (d : Addr) (o : Obj) (kvs : List (List L2.Key × V)) : It :=
  ⟨fun i H => H d = some (.frz o (.dT kvs)) ∧ i < kvs.length, fun i H x H' => ∃ T k v q, kvs[i]? = some (k, v) ∧ x = .ref T ∧ H T = none ∧ H q = some (.tup (k.map kV)) ∧ H' = upd H T (.tup [.ref q, v]),
    fun i H => H d = some (.frz o (.dT kvs)) ∧ kvs.length ≤ i⟩
section
variable {P : Program} {w : World} {K : PySem.W.Frag} {d : Addr} {o : Obj} {es : Array DictEntry} {ep : Nat}
theorem frzT_raw {X : Cx} {pins : List (Addr × Obj)} {σ : L2.St} {H : Hp} {s : Shared} {kvs : List (List L2.Key × V)} (I : Inv X pins σ H s) (h : H d = some (.frz o (.dT kvs))) :
    (d == sysModules) = false ∧ s.heap.get? d = some o ∧ o.ExactDict ∧ ∃ (es : Array DictEntry) (ep : Nat), o.data = .dict es ep ∧ es.size = kvs.length ∧
      ∀ (i : Nat) (k : List L2.Key) (v : V), kvs[i]? = some (k, v) → ∃ (en : DictEntry) (q : Addr), es[i]? = some en ∧ en.key = .ref q ∧ H q = some (.tup (k.map kV)) ∧ RelV v en.val := by
  obtain ⟨hd, z, hs, xs, pr, o', es, ep, ho, hx, hdt, he, _⟩ := I.hok d _ h
  rw [hd] at ho
  cases ho
  refine ⟨hs, hd, hx, es, ep, hdt, ?_, fun i k v e => ?_⟩
  · have l1 : es.size = xs.length := size_of_entries he
    have l2 : kvs.length = xs.length := Paired.length pr
    omega
  · obtain ⟨b, hb, e1, e2, e3⟩ := paired_get pr e
    have q := entry_at he i
    rw [hb] at q
    exact ⟨_, b.2.1, q, rfl, e2, e3⟩
theorem turn_itemsT {kvs : List (List L2.Key × V)} {elts : List Expr} {kk : Nat} {tpos : Pos} (it : Addr) (hod : o.data = .dict es ep) :
    Turn P w K (.Tuple elts kk tpos) (Itit d o kvs) [it] it (fun i h => ∃ ok ov, IsItemIter h it d i kvs.length ep ok ov) where
  mem := by simp
  obj := fun i h st b hb => by
    have e : b = it := by simpa using hb
    subst e
    obtain ⟨ok, ov, e⟩ := st
    exact ⟨_, e, fun v z => nomatch z⟩
  keep := fun i h h' st k => let ⟨ok, ov, e⟩ := st; ⟨ok, ov, k it (by simp) _ e⟩
  item := by
    intro X hP hw hK hc i pins s σ H E I hf st hg
    subst hP hw hK
    obtain ⟨hd, hi⟩ := hg
    obtain ⟨hs, hgd, hx, es', ep', hdt, hsz, ent⟩ := frzT_raw I hd
    obtain ⟨rfl, rfl⟩ := dict_ep hod hdt
    obtain ⟨⟨k, v⟩, hkv⟩ : ∃ p, kvs[i]? = some p := ⟨kvs[i], List.getElem?_eq_getElem hi⟩
    obtain ⟨en, q, hen, hkey, hq, rv⟩ := ent i k v hkv
    obtain ⟨ok, ov, he⟩ := st
    rw [← hsz] at he
    have hlt : it < s.heap.objs.size := Heap.lt_size he
    have hi2 : i < es'.size := by omega
    have hen2 : es'[i] = en := by
      rw [Array.getElem?_eq_getElem hi2] at hen
      exact Option.some.inj hen
    refine wpAny_pyNext_items_item_raw he ⟨_, hgd, hx, hdt⟩ hi2 fun h' ho hT hz hk => ?_
    rw [hen2, hkey] at ho hT
    refine ⟨_, rfl, wpAny_letOwnedTupleGo_items (s := { s with heap := h' }) ho fun h'' he' sb => ?_⟩
    have hT2 : h''.get? s.heap.objs.size = some { cls := .type "tuple", data := .seq #[.ref q, en.val] } := (sb.2 _ (Nat.ne_of_gt hlt)).trans hT
    have new : ObjOk X.prog X.w (upd H s.heap.objs.size (.tup [.ref q, v])) h'' s.heap.objs.size (.tup [.ref q, v]) :=
      ⟨by show 2 ≤ sizeLine; decide, [.ref q, en.val], .cons rfl (.cons rv .nil), ⟨_, hT2, rfl, _, rfl⟩⟩
    have I1 : Inv X pins σ (upd H s.heap.objs.size (.tup [.ref q, v])) { s with heap := h'' } :=
      I.turnedNew (t' := s.toks) (ch := [it]) (fun b ob hb e => (sb.2 b (by simpa using hb)).trans (hk b ob (by simpa using hb) e)) hf (Nat.le_refl _) new
    refine ⟨.ref s.heap.objs.size, _, I1, rfl, ⟨_, k, v, q, hkv, rfl, I.hok.fresh (Nat.le_refl _), hq, rfl⟩, ⟨.ref q, en.val, ?_⟩, fun b hb => ?_⟩
    · rw [← hsz]; exact he'
    · have e : b = it := by simpa using hb
      rw [e, upd_ne (Nat.ne_of_lt hlt)]
      exact (hf it (by simp)).1
  done := by
    intro X hP hw hK hc i pins s σ H E I hf st hg
    subst hP hw hK
    obtain ⟨hd, hi⟩ := hg
    obtain ⟨f0, f1, f2, f3, f4, f5⟩ := hf it (by simp)
    obtain ⟨hs, hgd, hx, es', ep', hdt, hsz, ent⟩ := frzT_raw I hd
    obtain ⟨rfl, rfl⟩ := dict_ep hod hdt
    obtain ⟨ok, ov, he⟩ := st
    rw [← hsz] at he
    exact wpAny_pyNext_items_end_raw (I.ok.hd hc) he ⟨_, hgd, hx, hdt⟩ (by omega) fun h' eb => ⟨rfl, I.turned (t' := s.toks) (fun b ob hb e => eb b ob hb e) f0 f1 f3 f4 f5⟩
  self := fun A i s Q E st h => let ⟨_, _, e⟩ := st; PySem.W.kcp_self e h
end
def iItemsT (td : TE) : TI := fun σ H R => td σ H fun x H1 => ∃ d o kvs, x = .ref d ∧ H1 d = some (.frz o (.dT kvs)) ∧ R (Itit d o kvs) H1
section
variable {X : Cx} {tg e : Expr} {td : TE} {apos cpos : Pos}
theorem pi_itemsT {elts : List Expr} {kk : Nat} {tpos : Pos} (he : PE X e td) (hbase : attributeBase e "items" X.env (eval e X.env) = eval e X.env := by rfl) (hline : (apos.endLine == cpos.line) = true := by rfl) :
    PI X (.Tuple elts kk tpos) (.Call (.Attribute e "items" apos) [] [] cpos) (iItemsT td) := by
  refine ⟨fun pins s σ H R I h => ?_⟩
  refine wpAny_Call_method (T := "dict") (id := "dict.items") hbase rfl hline PySem.F.plainAttrs_dict PySem.F.slot_dict_items PySem.F.type_dict_items (thn (he.run pins s σ H _ I h) fun u s1 ⟨x, H1, I1, rx, d, o, kvs, ex, hd, q⟩ => ?_)
  subst ex
  obtain rfl : u = Value.ref d := rx
  obtain ⟨hs, hgd, hx, es, ep, hdt, hsz, ent⟩ := frzT_raw I1 hd
  refine ⟨⟨_, hgd, hx.1⟩, fun b e => by cases e; exact ⟨_, hgd, hx.2.1⟩, ?_⟩
  have I2 : Inv X pins σ H1 { s1 with heap := s1.heap.push { cls := .type "dict_items", data := .fields #[.ref d] } } := I1.kept (t' := s1.toks) fun b ob q => Heap.get?_push_of_some _ q
  have fin : wpAny (model X.prog X.w) X.A (pyIter (.ref s1.heap.objs.size)) (PIE X pins σ (.Tuple elts kk tpos) R) X.xe { s1 with heap := s1.heap.push { cls := .type "dict_items", data := .fields #[.ref d] } } := by
    refine wpAny_pyIter_items_raw (d := d) ⟨_, Heap.get?_push_size _ rfl, rfl, rfl⟩ ⟨_, Heap.get?_push_of_some _ hgd, hx, hdt⟩ (pi_one (tk := s1.toks) I2 _ (turn_itemsT _ hdt) ⟨.none, .none, ?_⟩ q)
    rw [← hsz]
    exact Heap.get?_push_size _ rfl
  show wpAny _ _ (callWith cpos (.builtin "dict.items") [.ref d] [] []) _ X.xe s1
  exact method_meetsIn PySem.F.slot_dict_items PySem.F.entry_dict_items rfl (PySem.evalArgs_none ⟨rfl, ⟨_, hgd, hx.1⟩, PySem.F.args_dict_items_1 _, _, meets_dict_items_raw d hs, ⟨es, ep, _, hgd, hx, hdt⟩, fin⟩)
theorem walk_itemsT {d : Addr} {o : Obj} {kvs : List (List L2.Key × V)} : Walk (Itit d o kvs) kvs.length (fun H => H d = some (.frz o (.dT kvs)))
    (fun i H x H' => ∃ T k v q, kvs[i]? = some (k, v) ∧ x = .ref T ∧ H T = none ∧ H q = some (.tup (k.map kV)) ∧ H' = upd H T (.tup [.ref q, v])) :=
  ⟨fun _ _ hi q => ⟨q, hi⟩, fun _ q => ⟨q, Nat.le_refl _⟩, fun _ _ _ _ _ _ y => y⟩
end
end LD

/-! A dict display of two pairs, the first key a tuple, the second a text. -/
namespace LD
open PySem PySem.Spec PyProof.Rows L2 LT
section
variable {prog : Program} {w : World} {A : Around} {E : Value → Shared → Prop} {s : Shared}
theorem tell_mix {q : Addr} {z : Str} {t : Tok} {k : List L2.Key} {Q : Bool → Shared → Prop} (hq : (tupleKind (mixKind prog w)).is s.heap k q) (h : Q false s) : wpAny (model prog w) A (tableMayTell (.str z t) [.ref q]) Q E s := by
  unfold tableMayTell
  rw [if_neg (by simp)]
  rw [eqIsQuiet_byValue _ (by rfl)]
  refine wpAny_bind (wpAny_pure ?_)
  simp only [Bool.not_true, Bool.false_eq_true, if_false]
  refine wpAny_bind ?_
  rw [List.forIn_cons]
  refine wpAny_bind (wpAny_bind ((tupleKind (mixKind prog w)).quiet hq ?_))
  simp only [Bool.not_true, Bool.false_eq_true, if_false]
  refine wpAny_pure ?_
  dsimp only
  rw [List.forIn_nil]
  exact wpAny_pure (wpAny_pure h)
theorem find_mix {d q : Addr} {o : Obj} {ep : Nat} {h0 : Int} {v0 : Value} {z : Str} {t : Tok} {h : Int} {k : List L2.Key} {Q : Option Nat → Shared → Prop} (hu : A.units < cLine) (ho : s.heap.get? d = some o) (hd : o.data = .dict #[⟨h0, .ref q, v0⟩] ep)
    (hq : (tupleKind (mixKind prog w)).is s.heap k q) (hQ : Q none s) : wpAny (model prog w) A (dictFind d (.str z t) h) Q E s := by
  unfold dictFind
  try with_reducible refine wpAny_holding ?_
  refine wpAny_bind (wpAny_dictEntries ho hd ?_)
  dsimp only
  rw [if_neg (show ¬ ((#[(⟨h0, .ref q, v0⟩ : DictEntry)].all fun e => isExactStrKey e.key) = true) by simp [isExactStrKey])]
  by_cases hh : h0 = h
  · subst hh
    have hp : placesWithHash (#[(⟨h0, .ref q, v0⟩ : DictEntry)] : Array DictEntry).size (fun i => (#[(⟨h0, .ref q, v0⟩ : DictEntry)] : Array DictEntry)[i]?.map (·.hash)) h0 = [0] := by
      simp [placesWithHash, List.range_succ]
    rw [hp]
    rw [show List.filterMap (fun i => Option.map (fun x => x.key) (#[(⟨h0, .ref q, v0⟩ : DictEntry)] : Array DictEntry)[i]?) [0] = [Value.ref q] from rfl]
    rw [if_neg (show ¬ ((Value.str z t :: [Value.ref q]).all carriedByValue) = true by simp [carriedByValue])]
    rw [if_neg (show ¬ (([Value.ref q] == [Value.str z t]) = true) from Bool.false_ne_true)]
    refine wpAny_bind (tell_mix hq ?_)
    rw [if_neg (by simp)]
    refine wpAny_bind ?_
    rw [List.forIn_cons]
    refine wpAny_bind ?_
    dsimp only
    rw [show (#[(⟨h0, .ref q, v0⟩ : DictEntry)] : Array DictEntry)[0]? = some ⟨h0, .ref q, v0⟩ from rfl]
    dsimp only
    rw [if_pos (by simp)]
    obtain ⟨o', items, n, g1, g2, g3, _⟩ := hq
    have hi : s.heap.IsTuple q items := ⟨o', g1, g2, n, g3⟩
    refine wpAny_bind (wpAny_dictEpoch ho hd (wpAny_bind (SeqAt.EqAt.tuple_str z t hi hu _ _ _ _ (wpAny_bind (wpAny_dictEpoch ho hd ?_)))))
    show wpAny _ _ (if (ep != ep) = true then _ else _) _ E _
    rw [if_neg (by simp)]
    simp only [Bool.false_eq_true, if_false]
    refine wpAny_bind (wpAny_rule ?_)
    first | rw [if_neg (by simp)] | skip
    refine wpAny_pure ?_
    dsimp only
    rw [List.forIn_nil]
    exact wpAny_pure (wpAny_pure hQ)
  · have hp : placesWithHash (#[(⟨h0, .ref q, v0⟩ : DictEntry)] : Array DictEntry).size (fun i => (#[(⟨h0, .ref q, v0⟩ : DictEntry)] : Array DictEntry)[i]?.map (·.hash)) h = [] := by
      simp [placesWithHash, List.range_succ, hh]
    rw [hp]
    rw [List.filterMap_nil]
    rw [if_pos (show ((Value.str z t :: []).all carriedByValue) = true by simp [carriedByValue])]
    unfold dictWalkPlain
    rw [List.forIn_nil]
    exact wpAny_bind (wpAny_pure (wpAny_pure hQ))
theorem set_mix {d q : Addr} {o : Obj} {ep : Nat} {h0 : Int} {v0 v1 : Value} {z : Str} {t : Tok} {k : List L2.Key} {Q : Unit → Shared → Prop} (hu : A.units < cLine) (ho : s.heap.get? d = some o) (hx : o.ExactDict) (hd : o.data = .dict #[⟨h0, .ref q, v0⟩] ep)
    (hq : (tupleKind (mixKind prog w)).is s.heap k q)
    (hQ : ∀ h' tk o' h1 ep', h'.get? d = some o' → o'.ExactDict → o'.data = .dict #[⟨h0, .ref q, v0⟩, ⟨h1, .str z t, v1⟩] ep' → Heap.SameBut d s.heap h' → Q () { s with heap := h', toks := tk }) :
    wpAny (model prog w) A (dictSet d (.str z t) v1) Q E s := by
  unfold dictSet
  try with_reducible refine wpAny_holding ?_
  refine wpAny_bind (wpAny_pyHash_str ?_)
  unfold dictSetHashed
  try with_reducible refine wpAny_holding ?_
  refine wpAny_bind (find_mix (s := { s with toks := s.toks + 1 }) hu ho hd hq ?_)
  refine wpAny_bind (wpAny_rule (wpAny_updateDictKeys (hz := by show 1 ≤ sizeLine; decide) (s := { s with toks := s.toks + 1 }) ho hd (hQ _ _ _ _ _ (Heap.get?_update_self _ ho (Obj.isFreed_of_dict (Obj.data_mapDictKeys hd _))) (hx.mapDictKeys _) (Obj.data_mapDictKeys hd _) (Heap.SameBut.update ..))))
end

/-! ### the thing -/
def mixO (d : Addr) (ob : Obj) (q : Addr) (z : Str) : HO := .ext fun h => h.get? d = some ob ∧ (d == sysModules) = false ∧ ob.ExactDict ∧ ∃ (h0 h1 : Int) (v0 v1 : Value) (t : Tok) (ep : Nat), ob.data = .dict #[⟨h0, .ref q, v0⟩, ⟨h1, .str z t, v1⟩] ep
theorem mixO_dict {d : Addr} {ob : Obj} {q : Addr} {z : Str} {h : Heap} (x : h.get? d = some ob ∧ (d == sysModules) = false ∧ ob.ExactDict ∧ ∃ (h0 h1 : Int) (v0 v1 : Value) (t : Tok) (ep : Nat), ob.data = .dict #[⟨h0, .ref q, v0⟩, ⟨h1, .str z t, v1⟩] ep) : ∃ o, h.get? d = some o ∧ o.cls = .type "dict" := ⟨ob, x.1, x.2.2.1.1⟩
section
variable {prog : Program} {w : World} {A : Around} {E : Value → Shared → Prop} {s : Shared}
theorem subDict_mix {pairs : List (Sem Value × Sem Value)} {Q : Addr → Shared → Prop} (hu : A.units < cLine) (hlen : pairs.length ≤ 15)
    (h : wpAny (model prog w) A (evalPairs pairs) (fun vs s₁ => ∃ k q v0 z t v1, vs = [(.ref q, v0), (.str z t, v1)] ∧ (tupleKind (mixKind prog w)).is s₁.heap k q ∧ s₁.heap.DictOfH (tupleKind (mixKind prog w)) s.heap.objs.size [] ∧
      ∀ h' tk o h0 h1 ep, h'.get? s.heap.objs.size = some o → o.ExactDict → o.data = .dict #[⟨h0, .ref q, v0⟩, ⟨h1, .str z t, v1⟩] ep → Heap.SameBut s.heap.objs.size s₁.heap h' → Q s.heap.objs.size { s₁ with heap := h', toks := tk }) E
      { s with heap := s.heap.push { cls := .type "dict", data := .dict #[] } }) :
    wpAny (model prog w) A (subDict pairs) Q E s := by
  unfold subDict
  refine wpAny_bind (wpAny_alloc ?_)
  refine wpAny_bind (wpAny_holding ?_)
  rw [if_pos hlen]
  refine wpAny_bind (wpAny_mono (wpAny_evalPairs_len h) (fun vs s₁ h₁ => ?_) fun _ _ e => e)
  obtain ⟨hvl, k, q, v0, z, t, v1, rfl, hq, hm, hQ⟩ := h₁
  refine wpAny_holding ?_
  refine wpAny_bind ?_
  rw [List.forIn_cons]
  refine wpAny_bind (wpAny_bind (wpAny_dictSet_heap (knd := tupleKind (mixKind prog w)) (hsz := by simp) hu hq hm fun h₁ hm₁ hs₁ => wpAny_pure ?_))
  obtain ⟨o, es, ep, ho, hx, hd, he, his, _⟩ := hm₁
  have he : es = #[entryOfKey (tupleKind (mixKind prog w)) (k, q, v0)] := by
    apply Array.toList_inj.mp
    rw [he]
    rfl
  subst he
  have hq1 : (tupleKind (mixKind prog w)).is h₁ k q := his (k, q, v0) (by simp [storedH, atKey])
  dsimp only
  rw [List.forIn_cons]
  refine wpAny_bind (wpAny_bind (set_mix (s := { s₁ with heap := h₁, toks := s₁.toks + (tupleKind (mixKind prog w)).draws k }) (k := k) hu ho hx hd hq1 fun h' tk o' h1 ep' g1 g2 g3 g4 => wpAny_pure ?_))
  dsimp only
  rw [List.forIn_nil]
  exact wpAny_pure (wpAny_pure (wpAny_pure (hQ h' tk o' _ h1 ep' g1 g2 g3 (hs₁.trans g4))))
end
/-- {k: v, t: u}: k a tuple, t a text -/
def tDispM (trs : List (TE × TE)) : TE := fun σ H Q => ∀ p, H p = none → tPairs trs σ (upd H p (.dT [])) fun qs G => G p = some (.dT []) ∧
  ∃ (q : Addr) (z : Str) (k : List L2.Key) (v0 v1 : V), qs = [(.ref q, v0), (.str z, v1)] ∧ G q = some (.tup (k.map kV)) ∧ ∀ ob, Q (.ref p) (upd G p (mixO p ob q z))
section
variable {X : Cx} {pos : Pos} {keys : List (Option Expr)} {values : List Expr} {trs : List (TE × TE)}
theorem pe_dispM (hu : X.A.units + 1 < cLine) (h : PPs X pos keys values trs) (hall : keys.all (·.isSome) = true) (hl : keys.length = values.length) (h0 : keys ≠ []) (h15 : keys.length ≤ 15) :
    PE X (.Dict keys values pos) (tDispM trs) := by
  constructor
  intro pins s σ H Q I q
  have hn := I.hok.fresh (Nat.le_refl s.heap.objs.size)
  have I1 := I.laid (a := s.heap.objs.size) (o := .dT []) (h' := s.heap.push { cls := .type "dict", data := .dict #[] }) (t' := s.toks) (fun _ _ q => Heap.get?_push_of_some _ q) (Nat.le_refl _) (dt_empty s.heap I.big)
  have hpl := pairTrees_length keys values X.env pos hall hl
  have hne : pairTrees keys values X.env pos ≠ [] := by
    intro he
    rw [he] at hpl
    exact h0 (List.length_eq_zero_iff.mp hpl.symm)
  rw [arm_eval_Dict, zip_pairTrees keys values X.env pos hall hl, dictDisplay_pairs _ hne (by omega)]
  refine wpAny_bind (wpAny_standAt (wpAny_bind (subDict_mix (Q := fun d s' => wpAny (model X.prog X.w) X.A (pure (Value.ref d)) (EP X pins σ Q) X.xe s') (Nat.lt_of_succ_lt hu) (by omega) ?_)))
  refine thn (h.run pins _ σ _ _ I1 (q _ hn)) ?_
  rintro ws s2 ⟨qs, H2, I2, rel, e, qa, z, k, v0, v1, rfl, hq, q2⟩
  obtain ⟨hz0, hd, xs0, r0, dd⟩ := dt_of I2.hok e
  cases r0
  cases rel with
  | cons a t =>
    cases t with
    | cons a' t' =>
      cases t'
      rename_i u1 u2
      obtain ⟨u1a, u1b⟩ := u1
      obtain ⟨u2a, u2b⟩ := u2
      obtain ⟨ra, rb⟩ := a
      obtain ⟨ra', rb'⟩ := a'
      cases ra
      obtain ⟨tk0, rfl⟩ := ra'
      refine ⟨k, qa, u1b, z, tk0, u2b, rfl, key_of I2.hok hq, dd, fun h' tk o h0' h1' ep g1 g2 g3 g4 => wpAny_pure ⟨.ref s.heap.objs.size, _, ?_, rfl, q2 o⟩⟩
      refine d_write I2 (by rw [e]; exact True.intro) g4 ⟨o, g1⟩ ⟨⟨g1, hd, g2, h0', h1', u1b, u2b, tk0, ep, g3⟩, ⟨o, g1⟩, fun a b c d => ?_⟩
      obtain ⟨c1, c2⟩ := c
      exact ⟨d _ c1, c2⟩
end
/-! ### len, isinstance, the walk -/
section
variable {prog : Program} {w : World} {A : Around} {E : Value → Shared → Prop} {s : Shared}
theorem call_len_rawB {d : Addr} {es : Array DictEntry} {ep : Nat} {Q : Value → Shared → Prop} (hd : (d == sysModules) = false) (hm : s.heap.DictRaw d es ep) (hfit : (es.size : Int) < 2 ^ 63)
    (h : Q (.int es.size (s.toks + 1)) { s with toks := s.toks + 1 + 1 }) : wpAny (model prog w) A (call (.builtin "len") [.ref d]) Q E s := by
  refine Calls.call_function_entry kind_len plain_len entry_len (args_len1 _) ?_
  unfold Builtin.«len»
  refine wpAny_bind (m := oneArg "len" _) (wpAny_pure ?_)
  refine wpAny_bind (m := callSpecial? (.ref d) (Str.ofString "__len__")) (wpAny_callSpecial?_slot (name := Str.ofString "__len__") hm.typeIs PySem.F.slot_dict_len
    (call_meetsIn PySem.F.slot_dict_len hm.typeIs PySem.F.entry_dict_len (PySem.F.args_dict_len_1 _) (meets_dict_len_raw d hd) ⟨es, ep, hm, ?_⟩))
  show wpAny _ _ _ _ _ { s with toks := s.toks + 1 }
  refine wpAny_bind (wpAny_holding (wpAny_pure ?_))
  refine wpAny_bind (wpAny_letGo ?_)
  show wpAny _ _ (if ((es.size : Nat) : Int) < 0 then _ else _) _ _ _
  rw [if_neg (by omega)]
  show wpAny _ _ (if ((es.size : Nat) : Int) ≥ 2 ^ 63 then _ else _) _ _ _
  rw [if_neg (by omega)]
  exact wpAny_bind (wpAny_mkInt (wpAny_pure ⟨_, rfl, h⟩))
end
def rLenM : List V → Hp → VK → Prop := fun xs H Q => ∃ (p : Addr) (ob : Obj) (q : Addr) (z : Str), xs = [.ref p] ∧ H p = some (mixO p ob q z) ∧ Q (.int 2) H
theorem call_lenM {X : Cx} : CallR X (.builtin "len") rLenM := by
  rintro pins s σ H xs us Q I r ⟨p, ob, q, z, rfl, hp, g⟩
  obtain ⟨u, rfl, ru⟩ := vals1 r
  obtain rfl : u = Value.ref p := ru
  obtain ⟨g1, g2, g3, h0, h1, v0, v1, t, ep, g4⟩ := (I.hok p _ hp).1
  refine call_len_rawB g2 ⟨ob, g1, g3, g4⟩ (by show (2 : Int) < 2 ^ 63; decide) ?_
  exact ⟨.int 2, H, I.tok _, ⟨_, rfl⟩, g⟩
/-- the keys -/
def Itm (d : Addr) (ob : Obj) (q : Addr) (z : Str) : It :=
  ⟨fun i H => H d = some (mixO d ob q z) ∧ i < 2, fun i H x H' => H' = H ∧ ((i = 0 ∧ x = .ref q) ∨ (i = 1 ∧ x = .str z)), fun i H => H d = some (mixO d ob q z) ∧ 2 ≤ i⟩
section
variable {P : Program} {w : World} {K : PySem.W.Frag} {tg : Expr} {d q : Addr} {z : Str} {o : Obj} {es : Array DictEntry} {ep : Nat}
theorem turn_mix (it : Addr) (hod : o.data = .dict es ep) : Turn P w K tg (Itm d o q z) [it] it (fun i h => h.IsKeyIter it d i 2 ep) where
  mem := by simp
  obj := fun i h st b hb => by
    have e : b = it := by simpa using hb
    subst e
    obtain ⟨oi, e, c, dd⟩ := st
    exact ⟨oi, e, fun v z => by rw [dd] at z; cases z⟩
  keep := fun i h h' st k => st.at fun oi e => k it (by simp) oi e
  item := by
    intro X hP hw hK hc i pins s σ H E I hf st hg
    subst hP hw hK
    obtain ⟨hd, hi⟩ := hg
    obtain ⟨f0, f1, f2, f3, f4, f5⟩ := hf it (by simp)
    obtain ⟨hgd, hs, hx, h0, h1, v0, v1, t, ep', hdt⟩ := (I.hok d _ hd).1
    obtain ⟨rfl, rfl⟩ := dict_ep hod hdt
    match i, hi with
    | 0, _ =>
      refine next_key_item st hgd hdt rfl (en := ⟨h0, .ref q, v0⟩) rfl fun h' st' sb => ?_
      have I1 : Inv X pins σ H { s with heap := h' } := I.turned (t' := s.toks) (fun b ob hb e => (sb.2 b hb).trans e) f0 f1 f3 f4 f5
      obtain ⟨oi, e, c, dd⟩ := id st'
      exact ⟨_, rfl, go_of (s := { s with heap := h' }) e c dd (by decide) ⟨.ref q, H, I1, rfl, ⟨rfl, Or.inl ⟨rfl, rfl⟩⟩, st', fun b hb => (hf b hb).1⟩⟩
    | 1, _ =>
      refine next_key_item st hgd hdt rfl (en := ⟨h1, .str z t, v1⟩) rfl fun h' st' sb => ?_
      have I1 : Inv X pins σ H { s with heap := h' } := I.turned (t' := s.toks) (fun b ob hb e => (sb.2 b hb).trans e) f0 f1 f3 f4 f5
      obtain ⟨oi, e, c, dd⟩ := id st'
      exact ⟨_, rfl, go_of (s := { s with heap := h' }) e c dd (by decide) ⟨.str z, H, I1, ⟨t, rfl⟩, ⟨rfl, Or.inr ⟨rfl, rfl⟩⟩, st', fun b hb => (hf b hb).1⟩⟩
    | i + 2, h => exact absurd h (by omega)
  done := by
    intro X hP hw hK hc i pins s σ H E I hf st hg
    subst hP hw hK
    obtain ⟨hd, hi⟩ := hg
    obtain ⟨f0, f1, f2, f3, f4, f5⟩ := hf it (by simp)
    obtain ⟨hgd, hs, hx, h0, h1, v0, v1, t, ep', hdt⟩ := (I.hok d _ hd).1
    obtain ⟨rfl, rfl⟩ := dict_ep hod hdt
    exact next_key_end (I.ok.hd hc) st hgd hdt rfl hi fun h' eb => ⟨rfl, I.turned (t' := s.toks) (fun b ob hb e => eb b ob hb e) f0 f1 f3 f4 f5⟩
  self := fun A i s Q E st h => by
    refine wpAny_pyIter_slot st.typeIs PySem.F.slot_dict_keyiterator_iter (wpAny_call_entry PySem.F.slot_dict_keyiterator_iter st.typeIs PySem.F.entry_dict_keyiterator_iter ?_ (PySem.F.args_dict_keyiterator_iter_1 _))
    show wpAny _ _ (ret (.ref it)) _ _ s
    exact wpAny_pure ⟨_, rfl, "dict_keyiterator", _, st.typeIs, PySem.F.slot_dict_keyiterator_next.lookup, h⟩
end
/-- a walk over a dict: of keys that are tuples, or of a mixed one -/
def iKeysX (td : TE) : TI := fun σ H R => iKeys td σ H R ∨ td σ H fun x H1 => ∃ d ob q z, x = .ref d ∧ H1 d = some (mixO d ob q z) ∧ R (Itm d ob q z) H1
theorem pi_keysX {X : Cx} {tg e : Expr} {td : TE} (he : PE X e td) : PI X tg e (iKeysX td) := by
  refine ⟨fun pins s σ H R I h => ?_⟩
  rcases h with h | h
  · exact (pi_keys he).run pins s σ H R I h
  · refine thn (he.run pins s σ H _ I h) fun u s1 ⟨x, H1, I1, rx, d, ob, qa, z, ex, hd, q⟩ => ?_
    subst ex
    obtain rfl : u = Value.ref d := rx
    obtain ⟨hgd, hs, hx, h0, h1, v0, v1, t, ep', hdt⟩ := (I1.hok d _ hd).1
    exact iter_keys hs hgd hx hdt (pi_one (tk := s1.toks) I1 _ (turn_mix _ hdt) ⟨_, Heap.get?_push_size _ rfl, rfl, rfl⟩ q)
end LD

/-! == and != of dicts whose keys are tuples. -/
namespace LD
open PySem PySem.Spec PyProof.Rows L2 LT
open PySem.Calls PyProof.V
section
variable {prog : Program} {w : World} {A : Around} {E : Value → Shared → Prop} {s : Shared}
abbrev Es := List (List L2.Key × Addr × Value)
inductive HitsT (prog : Program) (w : World) (A : Around) (s : Shared) (kb : Es) : Es → Bool → Prop
  | nil : HitsT prog w A s kb [] true
  | miss {k : List L2.Key} {a : Addr} {v : Value} {r : Es} : atKey kb k = none → HitsT prog w A s kb ((k, a, v) :: r) false
  | hit {k : List L2.Key} {a b : Addr} {v y : Value} {r : Es} {e b' : Bool} : atKey kb k = some (b, y) → SeqAt.EqP prog w A s v y e → HitsT prog w A s kb r b' → HitsT prog w A s kb ((k, a, v) :: r) (e && b')
theorem HitsT.inv {kb : Es} {k : List L2.Key} {a : Addr} {v : Value} {r : Es} {b : Bool} (h : HitsT prog w A s kb ((k, a, v) :: r) b) :
    (atKey kb k = none ∧ b = false) ∨ ∃ q y e b', atKey kb k = some (q, y) ∧ SeqAt.EqP prog w A s v y e ∧ HitsT prog w A s kb r b' ∧ b = (e && b') := by
  cases h with
  | miss hn => exact .inl ⟨hn, rfl⟩
  | hit hy he hr => exact .inr ⟨_, _, _, _, hy, he, hr, rfl⟩
theorem samePairsT {nm : String} {a b : Addr} {ka kb : Es} {r : Bool} {Q : Bool → Shared → Prop} (hu : A.units < cLine) (ha : (a == sysModules) = false) (hb : (b == sysModules) = false)
    (da : s.heap.DictOfH (tupleKind (mixKind prog w)) a ka) (db : s.heap.DictOfH (tupleKind (mixKind prog w)) b kb) (hits : ka.length = kb.length → HitsT prog w A s kb ka r) (h : Q (ka.length == kb.length && r) s) :
    wpAny (model prog w) A (Builtin.Dict.samePairs nm a b) Q E s := by
  obtain ⟨oa, es, ep, hoa, _, hda, hea, hisa, hna⟩ := da
  obtain ⟨ob, es', ep', hob, _, hdb, heb, hisb, hnb⟩ := db
  have hla : ka.length = es.size := (size_of_entries hea).symm
  have hlb : kb.length = es'.size := (size_of_entries heb).symm
  rw [hla, hlb] at h
  unfold Builtin.Dict.samePairs Builtin.Dict.showsAll
  rw [if_neg (show ¬ (a == sysModules) = true by rw [ha]; exact Bool.false_ne_true), if_neg (show ¬ (b == sysModules) = true by rw [hb]; exact Bool.false_ne_true)]
  refine wpAny_bind (wpAny_pure (wpAny_bind (wpAny_pure ?_)))
  refine wpAny_bind (wpAny_dictEntries hoa hda ?_)
  dsimp only
  refine wpAny_bind (wpAny_dictEntries hob hdb ?_)
  by_cases hsz : es.size = es'.size
  case neg =>
    rw [if_pos (by simpa using hsz)]
    have hbf : (es.size == es'.size) = false := by simpa using hsz
    rw [hbf, Bool.false_and] at h
    exact wpAny_bind (wpAny_rule (wpAny_pure h))
  case pos =>
    have h' : Q r s := by simpa [hsz] using h
    have hits' := hits (by rw [hla, hlb]; exact hsz)
    rw [if_neg (by rw [hsz]; simp)]
    refine wpAny_bind (wpAny_dictEpoch hoa hda ?_)
    refine wpAny_bind ?_
    rw [Std.Legacy.Range.forIn_eq_forIn_range']
    simp only [Std.Legacy.Range.size, Nat.sub_zero, Nat.add_sub_cancel, Nat.div_one]
    refine wpAny_forIn_list _
      (fun rest q s' => s' = s ∧ q = (none, ()) ∧ ∃ i, rest = List.range' i (es.size - i) ∧ i ≤ es.size ∧ HitsT prog w A s kb (ka.drop i) r)
      _ ?_ ?_ _ _ ⟨rfl, rfl, 0, by simp, Nat.zero_le _, hits'⟩
    · rintro x rest q s' ⟨rfl, rfl, i, hr, hi, hpre⟩
      have hlt : i < es.size := by
        rcases Nat.lt_or_ge i es.size with h | h
        · exact h
        · rw [Nat.sub_eq_zero_of_le h] at hr; simp at hr
      obtain ⟨rfl, hrest⟩ : x = i ∧ rest = List.range' (i + 1) (es.size - (i + 1)) := by
        have e : es.size - i = (es.size - (i + 1)) + 1 := by omega
        rw [e, List.range'_succ] at hr
        injection hr with h1 h2
        exact ⟨h1, h2⟩
      refine wpAny_bind (wpAny_dictEntries hoa hda ?_)
      rw [Array.getElem?_eq_getElem hlt]
      have hlt' : x < ka.length := by rw [hla]; exact hlt
      obtain ⟨k, qa, v, hkv⟩ : ∃ k qa v, ka[x] = (k, qa, v) := ⟨_, _, _, rfl⟩
      have hdrop : ka.drop x = (k, qa, v) :: ka.drop (x + 1) := by rw [← hkv]; exact List.drop_eq_getElem_cons hlt'
      have hex : es[x] = entryOfKey (tupleKind (mixKind prog w)) (k, qa, v) := by
        have q := entry_at hea x
        rw [Array.getElem?_eq_getElem hlt, List.getElem?_eq_getElem hlt', hkv] at q
        exact Option.some.inj q
      have hkey : (tupleKind (mixKind prog w)).is s'.heap k qa := hisa (k, qa, v) (by rw [← hkv]; exact List.getElem_mem hlt')
      rw [hdrop] at hpre
      show wpAny _ _ (holding [es[x].key, es[x].val] _ >>= _) _ _ _
      rw [hex]
      refine wpAny_bind (wpAny_holding (wpAny_bind (wpAny_dictFind_heap (knd := tupleKind (mixKind prog w)) (k := k) (a := qa) hu hkey hob hdb heb hisb hnb ?_ ?_)))
      · intro hno
        have hn := atKey_none_of_get hno
        rcases hpre.inv with ⟨_, er⟩ | ⟨q, y, _, _, hy, _⟩
        · rw [er] at h'
          refine wpAny_pure ?_
          show wpAny _ _ (if (!false) = true then _ else _) _ _ _
          rw [if_pos (by decide)]
          exact wpAny_pure (wpAny_pure h')
        · rw [hn] at hy; exact nomatch hy
      · intro j p hj
        have hv' := atKey_of_get hnb hj
        have hjl : j < es'.size := by
          rw [← hlb]
          rcases Nat.lt_or_ge j kb.length with h | h
          · exact h
          · rw [List.getElem?_eq_none h] at hj; exact nomatch hj
        have hejx : es'[j] = entryOfKey (tupleKind (mixKind prog w)) (k, p) := by
          have q := entry_at heb j
          rw [Array.getElem?_eq_getElem hjl, hj] at q
          exact Option.some.inj q
        refine wpAny_bind (wpAny_dictEntries hob hdb ?_)
        rw [Array.getElem?_eq_getElem hjl]
        rcases hpre.inv with ⟨hn, _⟩ | ⟨q, y, e, b', hy, he, hrr, er⟩
        · rw [hv'] at hn; exact nomatch hn
        · have ey : p = (q, y) := Option.some.inj (hv'.symm.trans hy)
          rw [hejx, ey]
          refine wpAny_holding (he _ _ ?_)
          cases e with
          | false =>
            rw [er, Bool.false_and] at h'
            show wpAny _ _ (if (!false) = true then _ else _) _ _ _
            rw [if_pos (by decide)]
            exact wpAny_pure (wpAny_pure h')
          | true =>
            rw [Bool.true_and] at er
            rw [← er] at hrr
            show wpAny _ _ (if (!true) = true then _ else _) _ _ _
            rw [if_neg (by decide)]
            refine wpAny_bind (wpAny_dictEpoch hoa hda ?_)
            rw [if_neg (by simp)]
            exact wpAny_pure ⟨rfl, rfl, x + 1, hrest, hlt, hrr⟩
    · rintro q s' ⟨rfl, rfl, i, hr, hi, hpre⟩
      have hin : i = es.size := by
        rcases Nat.lt_or_ge i es.size with h | h
        · have e : es.size - i = (es.size - (i + 1)) + 1 := by omega
          rw [e, List.range'_succ] at hr; exact nomatch hr
        · exact Nat.le_antisymm hi h
      refine wpAny_pure ?_
      rw [hin, ← hla, List.drop_length] at hpre
      cases hpre
      exact h'
theorem eq_dT {a b : Addr} {ka kb : Es} {r : Bool} {Q : Value → Shared → Prop} (ha : (a == sysModules) = false) (hb : (b == sysModules) = false)
    (da : s.heap.DictOfH (tupleKind (mixKind prog w)) a ka) (db : s.heap.DictOfH (tupleKind (mixKind prog w)) b kb) (hu : A.units < cLine) (hu1 : A.in1.units < cLine) (hits : ka.length = kb.length → HitsT prog w A.in1 s kb ka r) (h : Q (.bool (ka.length == kb.length && r)) s) :
    wpAny (model prog w) A (compareOp .Eq (.ref a) (.ref b)) Q E s := by
  refine wpAny_richCompare_same_room (op := .Eq) da.typeIs db.typeIs PySem.F.slot_dict_eq (wpAny_call_entry PySem.F.slot_dict_eq da.typeIs PySem.F.entry_dict_eq ?_ (PySem.F.args_dict_eq_2 _ _)) hu
  show wpAny _ _ (Builtin.Dict.dictSlotArgs "__eq__" ⟨[.ref a, .ref b], []⟩ >>= _) _ _ s
  refine wpAny_bind ?_
  unfold Builtin.Dict.dictSlotArgs
  refine wpAny_bind (wpAny_notOrdered_dict da.typeIs ?_)
  show wpAny _ _ (pure (Value.ref a, Value.ref b)) _ _ s
  refine wpAny_pure ?_
  refine wpAny_bind (wpAny_isInstance (T := "dict") db.typeIs PySem.F.sub_dict_dict ?_)
  simp only [Bool.not_true, Bool.false_eq_true, if_false]
  refine wpAny_bind (wpAny_pure (wpAny_bind (wpAny_pure ?_)))
  refine wpAny_bind (samePairsT hu1 ha hb da db hits ?_)
  refine wpAny_pure ⟨_, rfl, ?_, ?_⟩
  · exact fun x => nomatch x
  · simpa using h
theorem ne_dT {a b : Addr} {ka kb : Es} {r : Bool} {Q : Value → Shared → Prop} (ha : (a == sysModules) = false) (hb : (b == sysModules) = false)
    (da : s.heap.DictOfH (tupleKind (mixKind prog w)) a ka) (db : s.heap.DictOfH (tupleKind (mixKind prog w)) b kb) (hu : A.units < cLine) (hu1 : A.in1.units < cLine) (hits : ka.length = kb.length → HitsT prog w A.in1 s kb ka r) (h : Q (.bool (!(ka.length == kb.length && r))) s) :
    wpAny (model prog w) A (compareOp .NotEq (.ref a) (.ref b)) Q E s := by
  refine wpAny_richCompare_same_room (op := .NotEq) da.typeIs db.typeIs PySem.F.slot_dict_ne (wpAny_call_entry PySem.F.slot_dict_ne da.typeIs PySem.F.entry_dict_ne ?_ (PySem.F.args_dict_ne_2 _ _)) hu
  show wpAny _ _ (Builtin.Dict.dictSlotArgs "__ne__" ⟨[.ref a, .ref b], []⟩ >>= _) _ _ s
  refine wpAny_bind ?_
  unfold Builtin.Dict.dictSlotArgs
  refine wpAny_bind (wpAny_notOrdered_dict da.typeIs ?_)
  show wpAny _ _ (pure (Value.ref a, Value.ref b)) _ _ s
  refine wpAny_pure ?_
  refine wpAny_bind (wpAny_isInstance (T := "dict") db.typeIs PySem.F.sub_dict_dict ?_)
  simp only [Bool.not_true, Bool.false_eq_true, if_false]
  refine wpAny_bind (wpAny_pure (wpAny_bind (wpAny_pure ?_)))
  refine wpAny_bind (samePairsT hu1 ha hb da db hits ?_)
  refine wpAny_pure ⟨_, rfl, ?_, ?_⟩
  · exact fun x => nomatch x
  · simpa using h
end
/-! ### as rules: dicts of paths as data -/
def eqvE (es fs : Ents) : Bool := es.all fun e => match valE fs e.1 with
  | some d => PyData.eqv e.2 d
  | none => false
def sameE (es fs : Ents) : Bool := (es.length == fs.length) && eqvE es fs
section
variable {X : Cx} {pins : List (Addr × Obj)} {σ : L2.St} {H : Hp} {s : Shared}
theorem KT_at {H : Hp} {k : List L2.Key} : ∀ {kvs : List (List L2.Key × V)} {xs : Es}, KT H kvs xs →
    (valV kvs k = none ∧ atKey xs k = none) ∨ ∃ v q u, valV kvs k = some v ∧ atKey xs k = some (q, u) ∧ RelV v u
  | [], _, .nil => Or.inl ⟨rfl, rfl⟩
  | kv :: kvs, x :: xs, .cons a t => by
    obtain ⟨a1, a2, a3⟩ := a
    by_cases h : kv.1 = k
    · refine Or.inr ⟨kv.2, x.2.1, x.2.2, valV_pos h, ?_, a3⟩
      unfold atKey
      rw [List.find?_cons, decide_eq_true (a1.symm.trans h)]
      rfl
    · have e1 : atKey (x :: xs) k = atKey xs k := by
        unfold atKey
        rw [List.find?_cons, decide_eq_false (fun e => h (a1.trans e))]
      rw [valV_neg h, e1]
      exact KT_at t
theorem hits_of {A : Around} (I : Inv X pins σ H s) (hu : A.in1.units + 64 < cLine) {ls : List (List L2.Key × V)} {kb : Es} {fs : Ents} (rb : KT H ls kb) (rf : RowE X.K H ls fs) (sf : ∀ f ∈ fs, SeqAt.shaped f.2 = true) :
    ∀ {ks : List (List L2.Key × V)} {ka : Es} {es : Ents}, KT H ks ka → RowE X.K H ks es → (∀ e ∈ es, SeqAt.shaped e.2 = true) → HitsT X.prog X.w A.in1 s kb ka (eqvE es fs)
  | [], _, _, .nil, .nil, _ => .nil
  | kv :: ks, (k, q, v) :: ka, e :: es, .cons a t, .cons b t', se => by
    obtain ⟨a1, a2, a3⟩ := a
    obtain ⟨b1, b2⟩ := b
    have a1 : kv.1 = k := a1
    have a3 : RelV kv.2 v := a3
    have ih := hits_of I hu rb rf sf t t' fun e he => se e (List.mem_cons_of_mem _ he)
    have hk : k = e.1.map Sum.inr := a1.symm.trans b1
    have hv := KT_at (k := e.1.map Sum.inr) rb
    have hr := RowE.val (p := e.1) rf
    have heq : eqvE (e :: es) fs = ((match valE fs e.1 with | some d => PyData.eqv e.2 d | none => false) && eqvE es fs) := rfl
    rw [heq]
    rcases hv with ⟨v1, v2⟩ | ⟨vv, qq, u, v1, v2, v3⟩
    · rcases hr with ⟨r1, r2⟩ | ⟨_, _, r1, _, _⟩
      · rw [r2]
        exact .miss (by rw [hk]; exact v2)
      · rw [v1] at r1
        cases r1
    · rcases hr with ⟨r1, _⟩ | ⟨v', d, r1, r2, dv⟩
      · rw [v1] at r1
        cases r1
      · rw [v1] at r1
        cases r1
        rw [r2]
        obtain ⟨as, g1⟩ := Dp.reads I e.2 kv.2 v b2 a3
        obtain ⟨bs, g2⟩ := Dp.reads I d vv u dv v3
        have hsf : SeqAt.shaped d = true := by
          unfold valE at r2
          obtain ⟨x, h1, h2⟩ := Option.map_eq_some_iff.mp r2
          rw [← h2]
          exact sf x (List.mem_of_find?_eq_some h1)
        exact .hit (by rw [hk]; exact v2) (PySem.W.keq_at g1 g2 (se e (List.mem_cons_self ..)) hsf hu).eqP ih
def EqArg (K : PySem.W.Frag) (H : Hp) (x : V) (es : Ents) : Prop := ∃ a ks, x = .ref a ∧ Rd H a (.dT ks) ∧ RowE K H ks es ∧ ∀ e ∈ es, SeqAt.shaped e.2 = true
def rEqT (K : PySem.W.Frag) : R2 := fun x y H Q => ∃ es fs, EqArg K H x es ∧ EqArg K H y fs ∧ Q (.bl (sameE es fs)) H
def rNeT (K : PySem.W.Frag) : R2 := fun x y H Q => ∃ es fs, EqArg K H x es ∧ EqArg K H y fs ∧ Q (.bl (!sameE es fs)) H
theorem op_eqT (hu : X.A.units + 66 < cLine) : OpR X (compareOp .Eq) (rEqT X.K) := by
  intro pins s σ H x y v u Q I rx ry h
  obtain ⟨es, fs, ⟨a, ks, rfl, ha, ra, sa⟩, ⟨b, ls, rfl, hb, rb, sb⟩, q⟩ := h
  obtain rfl : v = Value.ref a := rx
  obtain rfl : u = Value.ref b := ry
  obtain ⟨_, ya, va, ka, da⟩ := dt_rd I.hok ha
  obtain ⟨_, yb, vb, kb, db⟩ := dt_rd I.hok hb
  have h1 : X.A.in1.units ≤ X.A.units + 1 := by exact Nat.le_refl _
  have e1 : va.length = es.length := (Paired.length ka).symm.trans ra.len
  have e2 : vb.length = fs.length := (Paired.length kb).symm.trans rb.len
  refine eq_dT (r := eqvE es fs) ya yb da db (by omega) (by omega) (fun _ => hits_of I (by omega) kb rb sb ka ra sa) (fin_bl I q ?_)
  unfold sameE
  rw [e1, e2]
theorem op_neT (hu : X.A.units + 66 < cLine) : OpR X (compareOp .NotEq) (rNeT X.K) := by
  intro pins s σ H x y v u Q I rx ry h
  obtain ⟨es, fs, ⟨a, ks, rfl, ha, ra, sa⟩, ⟨b, ls, rfl, hb, rb, sb⟩, q⟩ := h
  obtain rfl : v = Value.ref a := rx
  obtain rfl : u = Value.ref b := ry
  obtain ⟨_, ya, va, ka, da⟩ := dt_rd I.hok ha
  obtain ⟨_, yb, vb, kb, db⟩ := dt_rd I.hok hb
  have h1 : X.A.in1.units ≤ X.A.units + 1 := by exact Nat.le_refl _
  have e1 : va.length = es.length := (Paired.length ka).symm.trans ra.len
  have e2 : vb.length = fs.length := (Paired.length kb).symm.trans rb.len
  refine ne_dT (r := eqvE es fs) ya yb da db (by omega) (by omega) (fun _ => hits_of I (by omega) kb rb sb ka ra sa) (fin_bl I q ?_)
  unfold sameE
  rw [e1, e2]
end
end LD

/-! dict comprehensions whose keys are tuples -/
namespace L2
open PySem PySem.Spec PyProof.Rows
section
variable {X : Cx}
theorem setT_comp {ps : List (Addr × Obj)} {τ : St} {F : Hp} {t : Shared} {E : Value → Shared → Prop} {D b : Addr} {kvs : List (List Key × V)} {k : List Key} {z : V} {r : Value} {Q : Unit → Shared → Prop}
    (hu : X.A.units < cLine) (J : Inv X ps τ F t) (eD : F D = some (.dT kvs)) (eb : F b = some (.tup (k.map kV))) (room : kvs.length < sizeLine) (rz : RelV z r)
    (go : ∀ t', Inv X ps τ (upd F D (.dT (putK kvs k z))) t' → Q () t') : wpAny (model X.prog X.w) X.A (dictSet D (.ref b) r) Q E t := by
  obtain ⟨n0, nD, xs, rel, dd⟩ := dt_of J.hok eD
  have small : (putK kvs k z).length ≤ sizeLine := Nat.le_trans (length_putK kvs k z) (by omega)
  have rl := Paired.length rel
  refine wpAny_dictSet_heap (hsz := by rw [← rl]; exact n0) (show (tupleKind _).room X.A from hu) (key_of J.hok eb) dd fun heap2 dd2 same => go _ ?_
  obtain ⟨o, es, ep, got, f1, f2, f3, _, f5⟩ := dd2
  refine d_write J (by rw [eD]; trivial) same ⟨o, got⟩ ⟨small, nD, _, (rel.put k eb rz).keeps fun c ys ec => ?_, o, es, ep, got, f1, f2, f3, f5⟩
  have ne : c ≠ D := ne_of ec eD fun q => nomatch q
  exact (upd_ne ne).trans ec
/-- {k: v for target in iter if ..}: D the new dict, its keys tuples -/
def tDcT (wi : TI) (g : TG) (tt : TT) (tk tv : TE) (vs : List Nat) : TE := fun σ H Q => wi σ H fun J G => ∀ D, G D = none →
  ∃ Wh : Nat → Nat → Hp → Prop, (∃ m, Wh 0 m (upd G D (.dT []))) ∧ ∀ i m F, Wh i m F →
    (J.stop i F ∧ Q (.ref D) F) ∨
    (J.go i F ∧ ∃ Nx : Hp → Prop, (∀ F', Nx F' → ∃ m', m' < m ∧ Wh (i + 1) m' F') ∧
      ∀ x F', J.yld i F x F' → g x (wipe σ vs) F' fun τ F2 => wipe τ vs = wipe σ vs ∧ tt τ F2 fun yes F3 =>
        if yes = true then tk τ F3 fun y F4 => tv τ F4 fun z F5 => ∃ b kvs k, y = .ref b ∧ F5 b = some (.tup (k.map kV)) ∧ F5 D = some (.dT kvs) ∧ kvs.length < sizeLine ∧ Nx (upd F5 D (.dT (putK kvs k z)))
        else Nx F3)
/-- what holds between two turns of the block -/
def Between (X : Cx) (Y : Cx) (σ : St) (tn : Nat → Heap → Prop) (fp : List Addr) (Wh : Nat → Nat → Hp → Prop) (n : Nat) (t : Shared) : Prop :=
  ∃ i F, Inv Y [] σ F t ∧ tn i t.heap ∧ (∀ b ∈ fp, F b = none) ∧ Wh i n F
theorem dcT_core {use : Option (Value → Sem Unit)} {Post : Value → Shared → Prop} {lpos : Pos} {ps : List (Addr × Obj)} {s0 : Shared} {σ : St} {H : Hp} {Q : VK} {kx vx tg iter : Expr} {ifs : List Expr} {scope : Scope} {own : List (Str × Nat)} {pos : Pos} {wi : TI} {g : TG} {tt : TT} {tk tv : TE} (hu : X.A.units < cLine) (calm : X.calm = true) (nd : X.N.Nodup) (src : PI X tg iter wi) (blk : BlkOk X.N X.env.scope scope own)
    (pTarget : ∀ (t : Shared) (F : Hp) (C : Addr) (cl : List (Str × Addr)) (fp : List Addr), PG (X.blk t F scope (compEnvC scope cl C X.env) fp) tg g)
    (pTest : ∀ (t : Shared) (F : Hp) (C : Addr) (cl : List (Str × Addr)) (fp : List Addr), PTs (X.blk t F scope (compEnvC scope cl C X.env) fp) ifs tt)
    (pKey : ∀ (t : Shared) (F : Hp) (C : Addr) (cl : List (Str × Addr)) (fp : List Addr), PE (X.blk t F scope (compEnvC scope cl C X.env) fp) kx tk)
    (pVal : ∀ (t : Shared) (F : Hp) (C : Addr) (cl : List (Str × Addr)) (fp : List Addr), PE (X.blk t F scope (compEnvC scope cl C X.env) fp) vx tv)
    (plainSet : ∀ x, foldedSetIterable iter X.env x = pure x) (I0 : Inv X ps σ H s0) (asked : tDcT wi g tt tk tv (own.map (·.2)) σ H Q)
    (after : ∀ D C t m F, Inv X ps σ F t → Q (.ref D) F → t.heap.Ns C m → FpOk X ps F C → compPost (model X.prog X.w) X.A X.xe use Post (.ref D) C (.ok .next) t) :
    wpAny (model X.prog X.w) X.A (comprehension (.DictComp kx vx [⟨tg, iter, ifs, 0⟩] scope pos) scope X.env lpos newDict false (eval iter X.env) use) Post X.xe s0 := by
  have cellsOf : ∀ y ∈ scope.names, y.2 = .free → ∃ c, X.env.cells.lookup y.1 = some c := by
    intro y hy free
    exact I0.ok.has _ (blk.free y hy free)
  refine wpAny_comprehension_free rfl plainSet (closure_ok cellsOf) blk.kind (fun y hy loc => (blk.uniq y hy).trans (by rw [loc])) ?_
  refine thn (src.run ps s0 σ H _ I0 asked) fun sv s1 found => thn found fun itv s2 turns => ?_
  obtain ⟨it, fp, tn, J, G, rfl, I2, T, at0, apart, q⟩ := turns
  refine wpAny_newObj_type (newEnv_comp ?_)
  -- the dict
  have fresh : G s2.heap.objs.size = none := I2.hok.fresh (Nat.le_refl _)
  obtain ⟨Wh, ⟨m0, start⟩, turn⟩ := q _ fresh
  have lower : ∀ b ∈ fp, b < s2.heap.objs.size := by
    intro b hb
    obtain ⟨o, got, _⟩ := T.obj _ _ at0 b hb
    exact Heap.lt_size got
  generalize eD : s2.heap.objs.size = D at fresh start turn lower ⊢
  have Inew : Inv X ps σ (upd G D (.dT [])) { s2 with heap := s2.heap.push { cls := .type "dict", data := .dict #[] } } := by
    rw [← eD]
    exact I2.laid (t' := s2.toks) (fun _ _ got => Heap.get?_push_of_some _ got) (Nat.le_refl _) (dt_empty s2.heap I2.big)
  have grown : ∀ b o, s2.heap.get? b = some o → (s2.heap.push { cls := .type "dict", data := .dict #[] }).get? b = some o := fun _ _ got => Heap.get?_push_of_some _ got
  have size3 : (s2.heap.push { cls := .type "dict", data := .dict #[] }).objs.size = D + 1 := by rw [Heap.size_push, eD]
  have at3 := T.keep _ _ _ at0 fun b _ o got => grown b o got
  generalize hs3 : ({ s2 with heap := s2.heap.push { cls := .type "dict", data := .dict #[] } } : Shared) = s3 at Inew
  have h3 : s3.heap = s2.heap.push { cls := .type "dict", data := .dict #[] } := by rw [← hs3]
  rw [← h3] at at3 size3
  have apart3 : ∀ b ∈ fp, FpOk X ps (upd G D (.dT [])) b ∧ b < s3.heap.objs.size := by
    intro b hb
    have lt := lower b hb
    refine ⟨⟨?_, (apart b hb).2⟩, by rw [size3]; exact Nat.lt_succ_of_lt lt⟩
    rw [upd_ne (Nat.ne_of_lt lt)]
    exact (apart b hb).1
  have Istart := block_start Inew blk nd apart3
  have emp3 : ∀ b ∈ fp, (upd G D (.dT [])) b = none := fun b hb => (apart3 b hb).1.1
  generalize upd G D (.dT []) = G3 at Inew Istart apart3 emp3 start
  -- the block's rules
  have ruleG := pTarget s3 G3 s3.heap.objs.size (cellsFrom (s3.heap.objs.size + 1) scope.names (cloFrom X.env.cells scope.names [])) fp
  have ruleT := pTest s3 G3 s3.heap.objs.size (cellsFrom (s3.heap.objs.size + 1) scope.names (cloFrom X.env.cells scope.names [])) fp
  have ruleK := pKey s3 G3 s3.heap.objs.size (cellsFrom (s3.heap.objs.size + 1) scope.names (cloFrom X.env.cells scope.names [])) fp
  have ruleV := pVal s3 G3 s3.heap.objs.size (cellsFrom (s3.heap.objs.size + 1) scope.names (cloFrom X.env.cells scope.names [])) fp
  show codeAny _ X.A (.compStart _ 0 (.ref it) (.ref D) (compEnvC scope (cellsFrom (s3.heap.objs.size + 1) scope.names (cloFrom X.env.cells scope.names [])) s3.heap.objs.size X.env)) (compPost _ X.A X.xe use Post (.ref D) s3.heap.objs.size) _
  generalize eB : compEnvC scope (cellsFrom (s3.heap.objs.size + 1) scope.names (cloFrom X.env.cells scope.names [])) s3.heap.objs.size X.env = B at Istart ruleG ruleT ruleK ruleV ⊢
  have locB : B.locals = s3.heap.objs.size := by rw [← eB]; rfl
  have at4 : tn 0 (pushCells (s3.heap.push { cls := .type "dict", data := .dict #[] }) scope.names) :=
    T.keep _ _ _ at3 fun b _ o got => pushCells_keeps _ _ _ _ (Heap.get?_push_of_some _ got)
  generalize hs4 : ({ s3 with heap := pushCells (s3.heap.push { cls := .type "dict", data := .dict #[] }) scope.names } : Shared) = s4 at Istart ⊢
  have at5 : tn 0 s4.heap := by rw [← hs4]; exact at4
  have away : ∀ {τ : St} {F : Hp} {t : Shared}, Inv (X.blk s3 G3 scope B fp) [] τ F t → (∀ b ∈ fp, F b = Option.none) → ∀ b ∈ fp, FpOk (X.blk s3 G3 scope B fp) [] F b := by
    intro τ F t K empt b hb
    refine ⟨empt b hb, (K.ok.exf b hb).1, K.ok.exfs b hb, .inl hb, fun x c got => (K.ok.exf b hb).2 x c got, fun p hp => ?_⟩
    cases (show p ∈ ([] : List (Addr × Obj)) from hp)
  have whole : codeAny (model X.prog X.w) X.A (.compLoop (.DictComp kx vx [⟨tg, iter, ifs, 0⟩] scope pos) 0 (.ref it) (.ref D) B) (compPost (model X.prog X.w) X.A X.xe use Post (.ref D) s3.heap.objs.size) s4 := by
    refine compLoop_anyD (Between X (X.blk s3 G3 scope B fp) (wipe σ (own.map (·.2))) tn fp Wh) (fun n t st => ?_) m0 ⟨0, G3, Istart, at5, emp3, start⟩
    obtain ⟨i, F, K, here, empt, wh⟩ := st
    rcases turn i n F wh with ⟨over, last⟩ | ⟨more, Nx, less, step⟩
    · refine thnF (T.done (X.blk s3 G3 scope B fp) rfl rfl rfl calm i [] t _ F (fun _ _ => False) K (away K empt) here over) fun r t1 ⟨er, K1⟩ => ?_
      subst er
      have home : Inv X ps σ F t1 := Inew.call' (ch := fp) K1.os K1.base K1.hok K1.bare fun b hb => by
        obtain ⟨_, g1, g2, g3, g4, g5⟩ := (apart3 b hb).1
        exact ⟨g3, g1, g4, g5⟩
      have noLoc : F s3.heap.objs.size = none := by
        rw [← locB]
        exact K1.free
      obtain ⟨m, spaces, _⟩ := K1.loc
      have spaces : t1.heap.Ns s3.heap.objs.size m := by
        rw [← locB]
        exact spaces
      exact after D s3.heap.objs.size t1 m F home last spaces (Inew.fpOk (Nat.le_refl _) noLoc)
    · refine thnF (T.item (X.blk s3 G3 scope B fp) rfl rfl rfl calm i [] t _ F (fun _ _ => False) K (away K empt) here more) fun r t1 ⟨u, er, rest⟩ => ?_
      subst er
      refine thnF rest fun _ t2 ⟨x, F2, K2, rx, yielded, here2, none2⟩ => ?_
      have pinned := K2.pinned (away K2 none2) (T.obj _ _ here2)
      -- a turn's end
      have again : ∀ {τ : St} {t' : Shared} {F' : Hp}, wipe τ (own.map (·.2)) = wipe σ (own.map (·.2)) → Inv (X.blk s3 G3 scope B fp) ([] ++ pinsAt fp t2.heap) τ F' t' → Nx F' →
          ∃ m, m < n ∧ Between X (X.blk s3 G3 scope B fp) (wipe σ (own.map (·.2))) tn fp Wh m t' := by
        intro τ t' F' same K' nx
        obtain ⟨m, lt, wh'⟩ := less F' nx
        have still : ∀ b ∈ fp, ∀ o, t2.heap.get? b = some o → t'.heap.get? b = some o ∧ F' b = Option.none := by
          intro b hb o got
          obtain ⟨e1, e2, _⟩ := K'.pin (b, o) (List.mem_append_right _ (List.mem_append_right _ (mem_pinsAt hb got)))
          exact ⟨e1, e2⟩
        refine ⟨m, lt, i + 1, F', K'.unpinned.weak ?_ fun j v got => ?_, T.keep _ _ _ here2 fun b hb o got => (still b hb o got).1, fun b hb => ?_, wh'⟩
        · rw [← same, wipe_length]
        · rw [← same] at got
          exact (wipe_some got).1
        · obtain ⟨o, got, _⟩ := T.obj _ _ here2 b hb
          exact (still b hb o got).2
      refine thnF (ruleG.run _ t2 _ F2 x u _ pinned rx (step x F2 yielded)) fun _ t3 ⟨τ, F3, K3, same, q3⟩ => ?_
      refine thnF (ruleT.run _ t3 τ F3 _ K3 q3) fun yes t4 ⟨F4, K4, q4⟩ => ?_
      cases yes with
      | false => exact again same K4 q4
      | true =>
        refine thnF (ruleK.run _ t4 τ F4 _ K4 q4) fun kw t5 ⟨y, F5, K5, ry, q5⟩ => ?_
        refine thnF (ruleV.run _ t5 τ F5 _ K5 q5) fun vw t6 ⟨z, F6, K6, rz, b, kvs, k, ey, eb, eD6, room, nx⟩ => ?_
        subst ey
        cases (show kw = Value.ref b from ry)
        exact setT_comp (X := X.blk s3 G3 scope B fp) hu K6 eD6 eb room rz fun t7 K7 => again same K7 nx
  exact codeAny_compStart_dict whole (T.self X.A 0 _ _ _ at5 whole)
/-- as a value -/
theorem pe_dcT {kx vx tg iter : Expr} {ifs : List Expr} {scope : Scope} {own : List (Str × Nat)} {pos : Pos} {wi : TI} {g : TG} {tt : TT} {tk tv : TE} (hu : X.A.units < cLine) (calm : X.calm = true) (nd : X.N.Nodup) (src : PI X tg iter wi) (blk : BlkOk X.N X.env.scope scope own)
    (pTarget : ∀ (t : Shared) (F : Hp) (C : Addr) (cl : List (Str × Addr)) (fp : List Addr), PG (X.blk t F scope (compEnvC scope cl C X.env) fp) tg g)
    (pTest : ∀ (t : Shared) (F : Hp) (C : Addr) (cl : List (Str × Addr)) (fp : List Addr), PTs (X.blk t F scope (compEnvC scope cl C X.env) fp) ifs tt)
    (pKey : ∀ (t : Shared) (F : Hp) (C : Addr) (cl : List (Str × Addr)) (fp : List Addr), PE (X.blk t F scope (compEnvC scope cl C X.env) fp) kx tk)
    (pVal : ∀ (t : Shared) (F : Hp) (C : Addr) (cl : List (Str × Addr)) (fp : List Addr), PE (X.blk t F scope (compEnvC scope cl C X.env) fp) vx tv)
    (plainSet : ∀ x, foldedSetIterable iter X.env x = pure x := by intro _; rfl) :
    PE X (.DictComp kx vx [⟨tg, iter, ifs, 0⟩] scope pos) (tDcT wi g tt tk tv (own.map (·.2))) := by
  refine ⟨fun ps s0 σ H Q I0 asked => ?_⟩
  rw [arm_eval_DictComp]
  refine dcT_core hu calm nd src blk pTarget pTest pKey pVal plainSet I0 asked fun D C t m F home last spaces away => ?_
  obtain ⟨c0, c1, _, c3, c4, c5⟩ := away
  refine ⟨m, spaces, fun heap3 same => ⟨.ref D, F, ?_, rfl, last⟩⟩
  exact home.turned (t' := t.toks) (fun b o ne got => (same.2 b ne).trans got) c0 c1 c3 c4 c5
/-- y = {k: v for ..}, y a local that the block does not read -/
theorem ps_setDcT {i : Nat} {y : Str} {py : Pos} {kx vx tg iter : Expr} {ifs : List Expr} {scope : Scope} {own : List (Str × Nat)} {pos spos : Pos} {wi : TI} {g : TG} {tt : TT} {tk tv : TE} (hu : X.A.units < cLine) (calm : X.calm = true) (nd : X.N.Nodup) (at_ : X.N[i]? = some y) (loc : X.env.scope.names.lookup y = some .local)
    (swaps : swapsWith (.DictComp kx vx [⟨tg, iter, ifs, 0⟩] scope pos) (some (.Name y py)) spos.line X.env = pure true) (src : PI X tg iter wi) (blk : BlkOk X.N X.env.scope scope own)
    (pTarget : ∀ (t : Shared) (F : Hp) (C : Addr) (cl : List (Str × Addr)) (fp : List Addr), PG (X.blk t F scope (compEnvC scope cl C X.env) fp) tg g)
    (pTest : ∀ (t : Shared) (F : Hp) (C : Addr) (cl : List (Str × Addr)) (fp : List Addr), PTs (X.blk t F scope (compEnvC scope cl C X.env) fp) ifs tt)
    (pKey : ∀ (t : Shared) (F : Hp) (C : Addr) (cl : List (Str × Addr)) (fp : List Addr), PE (X.blk t F scope (compEnvC scope cl C X.env) fp) kx tk)
    (pVal : ∀ (t : Shared) (F : Hp) (C : Addr) (cl : List (Str × Addr)) (fp : List Addr), PE (X.blk t F scope (compEnvC scope cl C X.env) fp) vx tv)
    (plainSet : ∀ x, foldedSetIterable iter X.env x = pure x := by intro _; rfl) :
    PS X (.Assign [.Name y py] (.DictComp kx vx [⟨tg, iter, ifs, 0⟩] scope pos) spos) (tAsg (tDcT wi g tt tk tv (own.map (·.2))) (gName i)) := by
  refine ⟨fun ps s0 σ H D0 I0 asked => ?_⟩
  rw [exec_Assign_Name_used _ _ _ _ swaps]
  refine wpAny_bind (wpAny_standAt (wpAny_bind ?_))
  show wpAny _ X.A (do let _ ← comprehension (.DictComp kx vx [⟨tg, iter, ifs, 0⟩] scope pos) scope X.env (firstIterPos [⟨tg, iter, ifs, 0⟩] pos) newDict false (eval iter X.env) (some (assign (.Name y py) X.env))) _ _ s0
  have asked : tDcT wi g tt tk tv (own.map (·.2)) σ H (fun x F => gName i x σ F D0.nx) := asked
  refine wpAny_bind (thn (dcT_core (Post := fun _ t => SP X ps D0 .next t) hu calm nd src blk pTarget pTest pKey pVal plainSet I0 asked fun D C t m F home last spaces away => ?_) fun _ t done => wpAny_pure (wpAny_pure done))
  show wpAny _ _ (assign (.Name y py) X.env (.ref D)) _ _ _
  obtain ⟨c0, c1, _, c3, c4, c5⟩ := away
  refine wpAny_assign_Name (store_ok2 (v := V.ref D) home nd at_ (.inl loc) rfl (fun t2 I2 ⟨a, sb, ha⟩ => ?_) (.inr loc))
  have ne : C ≠ a := ha.elim (fun z => z ▸ c1) fun z e => c4 y a z e.symm
  refine ⟨m, spaces.sameBut sb ne, fun heap3 same => ⟨_, F, ?_, last⟩⟩
  exact I2.turned (t' := t2.toks) (fun b o nb got => (same.2 b nb).trans got) c0 c1 c3 c4 c5
theorem swapsDc {kx vx : Expr} {gs : List Comprehension} {scope : Scope} {pos py : Pos} {y : Str} {l : Nat} {env : Env} (kind : env.scope.kind = .function) (loc : env.scope.names.lookup y = some .local) (row : (py.line == pos.line) = true)
    (other : (scope.names.any fun (n, k) => n == y && (k == .local || k == .cell)) = false) : swapsWith (.DictComp kx vx gs scope pos) (some (.Name y py)) l env = pure true := by
  have k1 : env.blockKind = .function := by unfold Env.blockKind; rw [kind]; rfl
  have k2 : env.kindOf y = some .local := loc
  unfold swapsWith
  simp only [k1, k2, other, row, Expr.pos]
  rfl
/-- the turns of such a comprehension, by what holds before each -/
theorem dcT_it {J : It} {n : Nat} {Gd : Hp → Prop} {Y : Nat → Hp → V → Hp → Prop} (wk : Walk J n Gd Y) {g : TG} {tt : TT} {tk tv : TE} {vs : List Nat} {σ : St} {D : Addr} {S : Hp} {Qd : Hp → Prop} (Pv : Nat → Hp → Prop)
    (first : Pv 0 S) (served : ∀ i F, i ≤ n → Pv i F → Gd F)
    (each : ∀ i x F F', i < n → Pv i F → Y i F x F' → g x (wipe σ vs) F' fun τ F2 => wipe τ vs = wipe σ vs ∧ tt τ F2 fun yes F3 =>
      if yes = true then tk τ F3 fun y F4 => tv τ F4 fun z F5 => ∃ b kvs k, y = .ref b ∧ F5 b = some (.tup (k.map kV)) ∧ F5 D = some (.dT kvs) ∧ kvs.length < sizeLine ∧ Pv (i + 1) (upd F5 D (.dT (putK kvs k z)))
      else Pv (i + 1) F3) (done : ∀ F, Pv n F → Qd F) :
    ∃ Wh : Nat → Nat → Hp → Prop, (∃ m, Wh 0 m S) ∧ ∀ i m F, Wh i m F → (J.stop i F ∧ Qd F) ∨
      (J.go i F ∧ ∃ Nx : Hp → Prop, (∀ F', Nx F' → ∃ m', m' < m ∧ Wh (i + 1) m' F') ∧
        ∀ x F', J.yld i F x F' → g x (wipe σ vs) F' fun τ F2 => wipe τ vs = wipe σ vs ∧ tt τ F2 fun yes F3 =>
          if yes = true then tk τ F3 fun y F4 => tv τ F4 fun z F5 => ∃ b kvs k, y = .ref b ∧ F5 b = some (.tup (k.map kV)) ∧ F5 D = some (.dT kvs) ∧ kvs.length < sizeLine ∧ Nx (upd F5 D (.dT (putK kvs k z)))
          else Nx F3) := by
  refine ⟨fun i m F => i + m = n ∧ Pv i F, ⟨n, by omega, first⟩, ?_⟩
  rintro i m F ⟨sum, now⟩
  have ok := served i F (by omega) now
  cases m with
  | zero =>
    have e : i = n := by omega
    subst e
    exact Or.inl ⟨wk.stops F ok, done F now⟩
  | succ m =>
    have lt : i < n := by omega
    exact Or.inr ⟨wk.goes i F lt ok, Pv (i + 1), fun F' nx => ⟨m, Nat.lt_succ_self m, by omega, nx⟩, fun x F' yl => each i x F F' lt now (wk.yields i F x F' lt ok yl)⟩
end
end L2

/-! *d in a display, d a dict whose keys are paths. -/
namespace LS
open PySem PySem.W PySem.Spec PyProof.Rows SrtO L2 LT
section
variable {X : Cx} {pins : List (Addr × Obj)} {σ : L2.St} {H : Hp} {s : Shared}
theorem star_dt {d : Addr} {kvs : List (List L2.Key × V)} {ps : List (List Str)} {E : Value → Shared → Prop} {Q : List Value → Shared → Prop} (hc : X.calm = true) (I : Inv X pins σ H s) (hd : Rd H d (.dT kvs)) (hk : KeysP kvs ps)
    (hQ : ∀ zs : Zs, zs.map (·.2) = ps → (∀ z ∈ zs, H z.1 = some (.tup (z.2.map V.str))) → ∀ us s', Inv X pins σ H s' → Vals (addrs zs) us → Q us s') : PySem.W.StarOf (model X.prog X.w) X.A E (.ref d) Q s := by
  obtain ⟨hz, hs, xs, rel, o, es, ep, ho, hx, hdt, he, _, _⟩ := dt_rd I.hok hd
  obtain ⟨zs, z1, z2, z3⟩ := zs_of rel hk
  have l1 : es.size = xs.length := size_of_entries he
  have l2 : kvs.length = xs.length := Paired.length rel
  have l3 : zs.length = xs.length := by
    have := congrArg List.length z2
    rw [List.length_map, List.length_map] at this
    exact this
  have ea : ∀ acc : Array Value, ItemsOf (fun i v => ∃ hi : i < es.size, v = es[i].key) acc es.size → acc.toList = zs.map fun z => Value.ref z.1 := by
    intro acc it
    rw [z2]
    apply List.ext_getElem?
    intro j
    rw [List.getElem?_map]
    by_cases hj : j < es.size
    · have hja : j < acc.size := by rw [it.1]; exact hj
      obtain ⟨hi, hv⟩ := it.2 j acc[j] (Array.getElem?_eq_getElem hja)
      rw [Array.getElem?_toList, Array.getElem?_eq_getElem hja, hv]
      have qe := entry_at he j
      rw [Array.getElem?_eq_getElem hi] at qe
      cases hb : xs[j]? with
      | none =>
        rw [hb] at qe
        exact nomatch (show some es[j] = none from qe)
      | some b =>
        rw [hb] at qe
        rw [show es[j] = entryOfKey (tupleKind (mixKind X.prog X.w)) b from Option.some.inj qe]
        rfl
    · rw [List.getElem?_eq_none (by rw [Array.length_toList, it.1]; omega), List.getElem?_eq_none (by omega)]
      rfl
  have hT : s.TypeIs (.ref d) "dict" := (show Heap.DictRaw s.heap d es ep from ⟨o, ho, hx, hdt⟩).typeIs
  have z : wpAny (model X.prog X.w) X.A (collect (.ref d)) Q E s := by
    refine collect_src (T := "dict") (KdlSrc.rawDict (es := es) (ep := ep) hs) (I.ok.hd hc) ⟨o, ho, hx, hdt⟩ (by rw [l1, ← l2]; exact hz) fun h' tk acc kp hlt it => ?_
    rw [ea acc it]
    exact hQ zs z1 z3 _ _ (I.kept (t' := tk) kp) (addrs_vals zs)
  unfold PySem.W.StarOf notIterableAtAll
  exact wpAny_bind (wpAny_specialOf hT PySem.F.slot_dict_iter.lookup (wpAny_pure ⟨rfl, z⟩))
end
/-- *e in a display: a dict of paths, its keys -/
def tStarD (te : TE) (t : TA) : TA := fun σ H Q => te σ H fun x H1 => ∃ d kvs ps, x = V.ref d ∧ Rd H1 d (.dT kvs) ∧ KeysP kvs ps ∧ ∀ zs : Zs, zs.map (·.2) = ps → (∀ z ∈ zs, H1 z.1 = some (.tup (z.2.map V.str))) → t σ H1 fun ys H2 => Q (addrs zs ++ ys) H2
theorem pa_starD {X : Cx} {e : Expr} {es : List Expr} {te : TE} {t : TA} {p : Pos} (hc : X.calm = true) (he : PE X e te) (hr : PA X es t) (hs : starEach (.Starred e p :: es) X.env = (true, eval e X.env) :: starEach es X.env := by rfl) : PA X (.Starred e p :: es) (tStarD te t) := by
  refine ⟨fun pos pins s σ H Q I h => ?_⟩
  refine PySem.W.items_star (thn (he.run pins s σ H _ I h) fun v s1 ⟨y, H1, I1, ry, d, kvs, ps, ey, hd, hk, q⟩ => ?_) hs
  subst ey
  obtain rfl : v = Value.ref d := ry
  refine star_dt hc I1 hd hk fun zs hz hp us s2 I2 rv => ?_
  exact thn (hr.run pos pins s2 σ H1 _ I2 (q zs hz hp)) fun ws s3 ⟨vs, H3, I3, r3, q3⟩ => ⟨addrs zs ++ vs, H3, I3, rv.append r3, q3⟩
end LS

/-! dict comprehensions of two clauses whose keys are tuples -/
namespace L2
open PySem PySem.Spec PyProof.Rows
/-- the tests of a clause -/
abbrev FitT (e : Env) (fs : List Expr) : Sem Bool := forIn fs true fun b r => if r = true then do let z ← isTrue b e (eval b e); pure (ForInStep.yield z) else pure (ForInStep.yield r)
section
variable (kE vE t0 i0 t1 i1 : Expr) (fs0 fs1 : List Expr) (sco : Scope) (at_ : Pos)
abbrev dcE : Expr := .DictComp kE vE [⟨t0, i0, fs0, 0⟩, ⟨t1, i1, fs1, 0⟩] sco at_
theorem dc2_turn0 (src acc : Value) (e : Env) :
    compTurn (dcE kE vE t0 i0 t1 i1 fs0 fs1 sco at_) 0 src acc e = (do
      standAt i0.pos
      match ← pyNext src with
      | none => pure (.done .next)
      | some got =>
        letOwnedTupleGo t0 src got
        assign t0 e got
        let mut fit := true
        for b in fs0 do
          if fit then fit ← isTrue b e (eval b e)
        if fit then
          let y ← eval i1 e
          standAt i1.pos
          let y ← foldedSetIterable i1 e y
          let _ ← runOwn (.compStart (dcE kE vE t0 i0 t1 i1 fs0 fs1 sco at_) 1 (← holding [y] (pyIter y)) acc e) e
        again (.compLoop (dcE kE vE t0 i0 t1 i1 fs0 fs1 sco at_) 0 src acc e)) := by rfl
theorem dc2_turn1 (src : Value) (D : Addr) (e : Env) :
    compTurn (dcE kE vE t0 i0 t1 i1 fs0 fs1 sco at_) 1 src (.ref D) e = (do
      standAt i1.pos
      match ← pyNext src with
      | none => pure (.done .next)
      | some got =>
        letOwnedTupleGo t1 src got
        assign t1 e got
        let mut fit := true
        for b in fs1 do
          if fit then fit ← isTrue b e (eval b e)
        if fit then
          (do
            let kq ← eval kE e
            let vq ← holding [kq] (eval vE e)
            standAt { kE.pos with endLine := vE.pos.endLine, endCol := vE.pos.endCol }
            holding [kq, vq] (dictSet D kq vq))
        again (.compLoop (dcE kE vE t0 i0 t1 i1 fs0 fs1 sco at_) 1 src (.ref D) e)) := by rfl
end
section
variable {prog : Program} {w : World} {A : Around} {R : Result → Shared → Prop} {s : Shared} {kE vE t0 i0 t1 i1 : Expr} {fs0 fs1 : List Expr} {sco : Scope} {at_ : Pos} {src acc : Value} {D : Addr} {e : Env}
abbrev NbR (prog : Program) (w : World) (A : Around) (e : Env) (R : Result → Shared → Prop) : Value → Shared → Prop := notedBy (model prog w) A e fun x s' => R (.error x) s'
theorem dc2_loop0 (flat : ∀ x, foldedSetIterable i1 e x = pure x) (J : Nat → Shared → Prop)
    (step : ∀ n s, J n s → wpAny (model prog w) A (pyNext src) (fun r s1 => match r with
      | none => R (.ok .next) s1
      | some got => wpAny (model prog w) A (letOwnedTupleGo t0 src got) (fun _ s2 => wpAny (model prog w) A (assign t0 e got) (fun _ s3 => wpAny (model prog w) A (FitT e fs0) (fun fit s4 =>
          if fit = true then wpAny (model prog w) A (eval i1 e) (fun y s5 => wpAny (model prog w) A (pyIter y) (fun src1 s6 =>
              codeAny (model prog w) A (.compStart (dcE kE vE t0 i0 t1 i1 fs0 fs1 sco at_) 1 src1 acc e) (fun r s' => match r with
                | .ok _ => ∃ m, m < n ∧ J m s'
                | .error _ => False) s6) (NbR prog w A e R) s5) (NbR prog w A e R) s4
          else ∃ m, m < n ∧ J m s4) (NbR prog w A e R) s3) (NbR prog w A e R) s2) (NbR prog w A e R) s1) (NbR prog w A e R) s)
    (n : Nat) (h : J n s) :
    codeAny (model prog w) A (.compLoop (dcE kE vE t0 i0 t1 i1 fs0 fs1 sco at_) 0 src acc e) R s := by
  refine codeAny_loop rfl J (fun n s now => ?_) n h
  show wpAny _ A ((compTurn (dcE kE vE t0 i0 t1 i1 fs0 fs1 sco at_) 0 src acc e).onRaise (fun x => do noteFrame x e; theTreesLotGoes x)) _ _ s
  refine wpAny_noted ?_
  rw [dc2_turn0]
  refine wpAny_bind (wpAny_standAt (wpAny_bind (wpAny_mono (step n s now) (fun r s1 h1 => ?_) fun _ _ z => z)))
  cases r with
  | none => exact wpAny_pure h1
  | some got =>
    refine wpAny_bind (wpAny_mono h1 (fun _ s2 h2 => ?_) fun _ _ z => z)
    refine wpAny_bind (wpAny_mono h2 (fun _ s3 h3 => wpAny_bind (wpAny_mono h3 (fun fit s4 h4 => ?_) fun _ _ z => z)) fun _ _ z => z)
    cases fit with
    | false => exact wpAny_pure ⟨rfl, h4⟩
    | true =>
      refine wpAny_bind (wpAny_mono h4 (fun y s5 h5 => ?_) fun _ _ z => z)
      refine wpAny_bind (wpAny_standAt (wpAny_bind (wpAny_of_eq (flat y) (wpAny_bind (wpAny_holding (wpAny_mono h5 (fun src1 s6 h6 => ?_) fun _ _ z => z))))))
      refine wpAny_bind (wpAny_runOwn ?_)
      rw [Around.mark_none]
      refine codeAny_mono h6 fun r s' hr => ?_
      cases r with
      | ok f =>
        first
          | exact wpAny_pure ⟨rfl, hr⟩
          | exact wpAny_bind (wpAny_pure (wpAny_pure ⟨rfl, hr⟩))
      | error x => exact hr.elim
theorem dc2_loop1 (J : Nat → Shared → Prop)
    (step : ∀ n s, J n s → wpAny (model prog w) A (pyNext src) (fun r s1 => match r with
      | none => R (.ok .next) s1
      | some got => wpAny (model prog w) A (letOwnedTupleGo t1 src got) (fun _ s2 => wpAny (model prog w) A (assign t1 e got) (fun _ s3 => wpAny (model prog w) A (FitT e fs1) (fun fit s4 =>
          if fit = true then wpAny (model prog w) A (eval kE e) (fun kq s5 => wpAny (model prog w) A (eval vE e) (fun vq s6 =>
              wpAny (model prog w) A (dictSet D kq vq) (fun _ s7 => ∃ m, m < n ∧ J m s7) (NbR prog w A e R) s6) (NbR prog w A e R) s5) (NbR prog w A e R) s4
          else ∃ m, m < n ∧ J m s4) (NbR prog w A e R) s3) (NbR prog w A e R) s2) (NbR prog w A e R) s1) (NbR prog w A e R) s)
    (n : Nat) (h : J n s) :
    codeAny (model prog w) A (.compLoop (dcE kE vE t0 i0 t1 i1 fs0 fs1 sco at_) 1 src (.ref D) e) R s := by
  refine codeAny_loop rfl J (fun n s now => ?_) n h
  show wpAny _ A ((compTurn (dcE kE vE t0 i0 t1 i1 fs0 fs1 sco at_) 1 src (.ref D) e).onRaise (fun x => do noteFrame x e; theTreesLotGoes x)) _ _ s
  refine wpAny_noted ?_
  rw [dc2_turn1]
  refine wpAny_bind (wpAny_standAt (wpAny_bind (wpAny_mono (step n s now) (fun r s1 h1 => ?_) fun _ _ z => z)))
  cases r with
  | none => exact wpAny_pure h1
  | some got =>
    refine wpAny_bind (wpAny_mono h1 (fun _ s2 h2 => ?_) fun _ _ z => z)
    refine wpAny_bind (wpAny_mono h2 (fun _ s3 h3 => wpAny_bind (wpAny_mono h3 (fun fit s4 h4 => ?_) fun _ _ z => z)) fun _ _ z => z)
    cases fit with
    | false => exact wpAny_pure ⟨rfl, h4⟩
    | true =>
      exact wpAny_bind (wpAny_bind (wpAny_mono h4 (fun kq s5 h5 => wpAny_bind (wpAny_holding (wpAny_mono h5 (fun vq s6 h6 => wpAny_bind (wpAny_standAt (wpAny_holding (wpAny_mono h6 (fun _ s7 h7 => wpAny_pure ⟨rfl, h7⟩) fun _ _ z => z)))) fun _ _ z => z))) fun _ _ z => z))
theorem dc2_start1 (direct : codeAny (model prog w) A (.compLoop (dcE kE vE t0 i0 t1 i1 fs0 fs1 sco at_) 1 src acc e) R s)
    (again_ : wpAny (model prog w) A (pyIter src) (fun src' s' => codeAny (model prog w) A (.compLoop (dcE kE vE t0 i0 t1 i1 fs0 fs1 sco at_) 1 src' acc e) R s') (NbR prog w A e R) s) :
    codeAny (model prog w) A (.compStart (dcE kE vE t0 i0 t1 i1 fs0 fs1 sco at_) 1 src acc e) R s := by
  refine codeAny_of_tree ?_
  show wpAny _ _ ((compStart (dcE kE vE t0 i0 t1 i1 fs0 fs1 sco at_) 1 src acc e).onRaise (fun x => do noteFrame x e; standAt theWindowsPlace)) _ _ s
  refine wpAny_notedAt ?_
  unfold compStart
  show wpAny _ _ (ask >>= _) _ _ s
  refine wpAny_bind (wpAny_askSetting (wpAny_ite ?_))
  split
  · first
      | exact wpAny_bind (wpAny_pure (wpAny_pure (And.intro rfl direct)))
      | exact wpAny_pure (And.intro rfl direct)
  · first
      | exact wpAny_bind (wpAny_rule (wpAny_bind (wpAny_standAt (wpAny_bind (wpAny_mono again_ (fun _ s' z => wpAny_pure (And.intro rfl z)) fun _ _ z => z)))))
      | (refine wpAny_bind (wpAny_rule ?_); show wpAny _ _ (standAt i1.pos >>= _) _ _ s; exact wpAny_bind (wpAny_standAt (wpAny_bind (wpAny_mono again_ (fun _ s' z => wpAny_pure (And.intro rfl z)) fun _ _ z => z))))
end
section
variable {X : Cx}
/-- {k: v for target in iter if .. for target1 in iter1 if ..}: D the new dict, its keys tuples -/
def tDcT2 (wi : TI) (g : TG) (tt : TT) (wi1 : TI) (g1 : TG) (tt1 : TT) (tk tv : TE) (vs vs1 : List Nat) : TE := fun σ H Q => wi σ H fun J G => ∀ D, G D = none →
  ∃ Wh : Nat → Nat → Hp → Prop, (∃ m, Wh 0 m (upd G D (.dT []))) ∧ ∀ i m F, Wh i m F →
    (J.stop i F ∧ Q (.ref D) F) ∨
    (J.go i F ∧ ∃ Nx : Hp → Prop, (∀ F', Nx F' → ∃ m', m' < m ∧ Wh (i + 1) m' F') ∧
      ∀ x F', J.yld i F x F' → g x (wipe σ vs) F' fun τ F2 => wipe τ vs = wipe σ vs ∧ tt τ F2 fun yes F3 =>
        if yes = true then wi1 τ F3 fun J1 F4 => ∃ W1 : Nat → Nat → Hp → Prop, (∃ k, W1 0 k F4) ∧ ∀ j k F, W1 j k F →
          (J1.stop j F ∧ Nx F) ∨
          (J1.go j F ∧ ∃ Nx1 : Hp → Prop, (∀ F', Nx1 F' → ∃ k', k' < k ∧ W1 (j + 1) k' F') ∧
            ∀ x F', J1.yld j F x F' → g1 x (wipe τ vs1) F' fun τ2 F5 => wipe τ2 vs1 = wipe τ vs1 ∧ tt1 τ2 F5 fun yes1 F6 =>
              if yes1 = true then tk τ2 F6 fun y F7 => tv τ2 F7 fun z F8 => ∃ b kvs k, y = .ref b ∧ F8 b = some (.tup (k.map kV)) ∧ F8 D = some (.dT kvs) ∧ kvs.length < sizeLine ∧ Nx1 (upd F8 D (.dT (putK kvs k z)))
              else Nx1 F6)
        else Nx F3)
theorem dcT2_core {use : Option (Value → Sem Unit)} {Post : Value → Shared → Prop} {lpos : Pos} {ps : List (Addr × Obj)} {s0 : Shared} {σ : St} {H : Hp} {Q : VK} {kx vx tg iter tg1 iter1 : Expr} {ifs ifs1 : List Expr} {scope : Scope} {own : List (Str × Nat)} {vs1 : List Nat} {pos : Pos} {wi wi1 : TI} {g g1 : TG} {tt tt1 : TT} {tk tv : TE} (hu : X.A.units < cLine) (calm : X.calm = true) (nd : X.N.Nodup) (src : PI X tg iter wi) (blk : BlkOk X.N X.env.scope scope own) (ownV : ∀ i ∈ vs1, i ∈ own.map (·.2))
    (pTarget : ∀ (t : Shared) (F : Hp) (C : Addr) (cl : List (Str × Addr)) (fp : List Addr), PG (X.blk t F scope (compEnvC scope cl C X.env) fp) tg g)
    (pTest : ∀ (t : Shared) (F : Hp) (C : Addr) (cl : List (Str × Addr)) (fp : List Addr), PTs (X.blk t F scope (compEnvC scope cl C X.env) fp) ifs tt)
    (src1 : ∀ (t : Shared) (F : Hp) (C : Addr) (cl : List (Str × Addr)) (fp : List Addr), PI (X.blk t F scope (compEnvC scope cl C X.env) fp) tg1 iter1 wi1)
    (pTarget1 : ∀ (t : Shared) (F : Hp) (C : Addr) (cl : List (Str × Addr)) (fp : List Addr), PG (X.blk t F scope (compEnvC scope cl C X.env) fp) tg1 g1)
    (pTest1 : ∀ (t : Shared) (F : Hp) (C : Addr) (cl : List (Str × Addr)) (fp : List Addr), PTs (X.blk t F scope (compEnvC scope cl C X.env) fp) ifs1 tt1)
    (pKey : ∀ (t : Shared) (F : Hp) (C : Addr) (cl : List (Str × Addr)) (fp : List Addr), PE (X.blk t F scope (compEnvC scope cl C X.env) fp) kx tk)
    (pVal : ∀ (t : Shared) (F : Hp) (C : Addr) (cl : List (Str × Addr)) (fp : List Addr), PE (X.blk t F scope (compEnvC scope cl C X.env) fp) vx tv)
    (plainSet : ∀ x, foldedSetIterable iter X.env x = pure x) (plainSet1 : ∀ e x, foldedSetIterable iter1 e x = pure x) (I0 : Inv X ps σ H s0) (asked : tDcT2 wi g tt wi1 g1 tt1 tk tv (own.map (·.2)) vs1 σ H Q)
    (after : ∀ D C t m F, Inv X ps σ F t → Q (.ref D) F → t.heap.Ns C m → FpOk X ps F C → compPost (model X.prog X.w) X.A X.xe use Post (.ref D) C (.ok .next) t) :
    wpAny (model X.prog X.w) X.A (comprehension (dcE kx vx tg iter tg1 iter1 ifs ifs1 scope pos) scope X.env lpos newDict false (eval iter X.env) use) Post X.xe s0 := by
  have cellsOf : ∀ y ∈ scope.names, y.2 = .free → ∃ c, X.env.cells.lookup y.1 = some c := by
    intro y hy free
    rcases blk.free y hy free with k | k
    · exact I0.ok.has _ (.inl k)
    · exact I0.ok.has _ (.inr k)
  refine wpAny_comprehension_free rfl plainSet (closure_ok cellsOf) blk.kind (fun y hy loc => (blk.uniq y hy).trans (by rw [loc])) ?_
  refine thn (src.run ps s0 σ H _ I0 asked) fun sv s1 found => thn found fun itv s2 turns => ?_
  obtain ⟨it, fp, tn, J, G, rfl, I2, T, at0, apart, q⟩ := turns
  refine wpAny_newObj_type (newEnv_comp ?_)
  -- the dict
  have fresh : G s2.heap.objs.size = none := I2.hok.fresh (Nat.le_refl _)
  obtain ⟨Wh, ⟨m0, start⟩, turn⟩ := q _ fresh
  have lower : ∀ b ∈ fp, b < s2.heap.objs.size := by
    intro b hb
    obtain ⟨o, got, _⟩ := T.obj _ _ at0 b hb
    exact Heap.lt_size got
  generalize eD : s2.heap.objs.size = D at fresh start turn lower ⊢
  have Inew : Inv X ps σ (upd G D (.dT [])) { s2 with heap := s2.heap.push { cls := .type "dict", data := .dict #[] } } := by
    rw [← eD]
    exact I2.laid (t' := s2.toks) (fun _ _ got => Heap.get?_push_of_some _ got) (Nat.le_refl _) (dt_empty s2.heap I2.big)
  have grown : ∀ b o, s2.heap.get? b = some o → (s2.heap.push { cls := .type "dict", data := .dict #[] }).get? b = some o := fun _ _ got => Heap.get?_push_of_some _ got
  have size3 : (s2.heap.push { cls := .type "dict", data := .dict #[] }).objs.size = D + 1 := by rw [Heap.size_push, eD]
  have at3 := T.keep _ _ _ at0 fun b _ o got => grown b o got
  generalize hs3 : ({ s2 with heap := s2.heap.push { cls := .type "dict", data := .dict #[] } } : Shared) = s3 at Inew
  have h3 : s3.heap = s2.heap.push { cls := .type "dict", data := .dict #[] } := by rw [← hs3]
  rw [← h3] at at3 size3
  have apart3 : ∀ b ∈ fp, FpOk X ps (upd G D (.dT [])) b ∧ b < s3.heap.objs.size := by
    intro b hb
    have lt := lower b hb
    refine ⟨⟨?_, (apart b hb).2⟩, by rw [size3]; exact Nat.lt_succ_of_lt lt⟩
    rw [upd_ne (Nat.ne_of_lt lt)]
    exact (apart b hb).1
  have Istart := block_start Inew blk nd apart3
  have emp3 : ∀ b ∈ fp, (upd G D (.dT [])) b = none := fun b hb => (apart3 b hb).1.1
  generalize upd G D (.dT []) = G3 at Inew Istart apart3 emp3 start
  -- the block's rules
  have ruleG := pTarget s3 G3 s3.heap.objs.size (cellsFrom (s3.heap.objs.size + 1) scope.names (cloFrom X.env.cells scope.names [])) fp
  have ruleT := pTest s3 G3 s3.heap.objs.size (cellsFrom (s3.heap.objs.size + 1) scope.names (cloFrom X.env.cells scope.names [])) fp
  have ruleI1 := src1 s3 G3 s3.heap.objs.size (cellsFrom (s3.heap.objs.size + 1) scope.names (cloFrom X.env.cells scope.names [])) fp
  have ruleG1 := pTarget1 s3 G3 s3.heap.objs.size (cellsFrom (s3.heap.objs.size + 1) scope.names (cloFrom X.env.cells scope.names [])) fp
  have ruleT1 := pTest1 s3 G3 s3.heap.objs.size (cellsFrom (s3.heap.objs.size + 1) scope.names (cloFrom X.env.cells scope.names [])) fp
  have ruleK := pKey s3 G3 s3.heap.objs.size (cellsFrom (s3.heap.objs.size + 1) scope.names (cloFrom X.env.cells scope.names [])) fp
  have ruleV := pVal s3 G3 s3.heap.objs.size (cellsFrom (s3.heap.objs.size + 1) scope.names (cloFrom X.env.cells scope.names [])) fp
  show codeAny _ X.A (.compStart _ 0 (.ref it) (.ref D) (compEnvC scope (cellsFrom (s3.heap.objs.size + 1) scope.names (cloFrom X.env.cells scope.names [])) s3.heap.objs.size X.env)) (compPost _ X.A X.xe use Post (.ref D) s3.heap.objs.size) _
  generalize eB : compEnvC scope (cellsFrom (s3.heap.objs.size + 1) scope.names (cloFrom X.env.cells scope.names [])) s3.heap.objs.size X.env = B at Istart ruleG ruleT ruleI1 ruleG1 ruleT1 ruleK ruleV ⊢
  have locB : B.locals = s3.heap.objs.size := by rw [← eB]; rfl
  have at4 : tn 0 (pushCells (s3.heap.push { cls := .type "dict", data := .dict #[] }) scope.names) :=
    T.keep _ _ _ at3 fun b _ o got => pushCells_keeps _ _ _ _ (Heap.get?_push_of_some _ got)
  generalize hs4 : ({ s3 with heap := pushCells (s3.heap.push { cls := .type "dict", data := .dict #[] }) scope.names } : Shared) = s4 at Istart ⊢
  have at5 : tn 0 s4.heap := by rw [← hs4]; exact at4
  have away : ∀ {τ : St} {F : Hp} {t : Shared}, Inv (X.blk s3 G3 scope B fp) [] τ F t → (∀ b ∈ fp, F b = Option.none) → ∀ b ∈ fp, FpOk (X.blk s3 G3 scope B fp) [] F b := by
    intro τ F t K empt b hb
    refine ⟨empt b hb, (K.ok.exf b hb).1, K.ok.exfs b hb, .inl hb, fun x c got => (K.ok.exf b hb).2 x c got, fun p hp => ?_⟩
    cases (show p ∈ ([] : List (Addr × Obj)) from hp)
  have whole : codeAny (model X.prog X.w) X.A (.compLoop (dcE kx vx tg iter tg1 iter1 ifs ifs1 scope pos) 0 (.ref it) (.ref D) B) (compPost (model X.prog X.w) X.A X.xe use Post (.ref D) s3.heap.objs.size) s4 := by
    refine dc2_loop0 (plainSet1 B) (Between X (X.blk s3 G3 scope B fp) (wipe σ (own.map (·.2))) tn fp Wh) (fun n t st => ?_) m0 ⟨0, G3, Istart, at5, emp3, start⟩
    obtain ⟨i, F, K, here, empt, wh⟩ := st
    rcases turn i n F wh with ⟨over, last⟩ | ⟨more, Nx, less, step⟩
    · refine thnF (T.done (X.blk s3 G3 scope B fp) rfl rfl rfl calm i [] t _ F (fun _ _ => False) K (away K empt) here over) fun r t1 ⟨er, K1⟩ => ?_
      subst er
      have home : Inv X ps σ F t1 := Inew.call' (ch := fp) K1.os K1.base K1.hok K1.bare fun b hb => by
        obtain ⟨_, g1, g2, g3, g4, g5⟩ := (apart3 b hb).1
        exact ⟨g3, g1, g4, g5⟩
      have noLoc : F s3.heap.objs.size = none := by
        rw [← locB]
        exact K1.free
      obtain ⟨m, spaces, _⟩ := K1.loc
      have spaces : t1.heap.Ns s3.heap.objs.size m := by
        rw [← locB]
        exact spaces
      exact after D s3.heap.objs.size t1 m F home last spaces (Inew.fpOk (Nat.le_refl _) noLoc)
    · refine thnF (T.item (X.blk s3 G3 scope B fp) rfl rfl rfl calm i [] t _ F (fun _ _ => False) K (away K empt) here more) fun r t1 ⟨u, er, rest⟩ => ?_
      subst er
      refine thnF rest fun _ t2 ⟨x, F2, K2, rx, yielded, here2, none2⟩ => ?_
      have pinned := K2.pinned (away K2 none2) (T.obj _ _ here2)
      refine thnF (ruleG.run _ t2 _ F2 x u _ pinned rx (step x F2 yielded)) fun _ t3 ⟨τ, F3, K3, same, q3⟩ => ?_
      refine thnF (ruleT.run _ t3 τ F3 _ K3 q3) fun yes t4 ⟨F4, K4, q4⟩ => ?_
      -- a turn's end, from slots that know what the block knew
      have again : ∀ {υ : St} {t' : Shared} {F' : Hp}, (wipe σ (own.map (·.2))).length = υ.length → (∀ (j : Nat) v, (wipe σ (own.map (·.2)))[j]? = some (some v) → υ[j]? = some (some v)) → Inv (X.blk s3 G3 scope B fp) ([] ++ pinsAt fp t2.heap) υ F' t' → Nx F' →
          ∃ m, m < n ∧ Between X (X.blk s3 G3 scope B fp) (wipe σ (own.map (·.2))) tn fp Wh m t' := by
        intro υ t' F' long known K' nx
        obtain ⟨m, lt, wh'⟩ := less F' nx
        have still : ∀ b ∈ fp, ∀ o, t2.heap.get? b = some o → t'.heap.get? b = some o ∧ F' b = Option.none := by
          intro b hb o got
          obtain ⟨e1, e2, _⟩ := K'.pin (b, o) (List.mem_append_right _ (List.mem_append_right _ (mem_pinsAt hb got)))
          exact ⟨e1, e2⟩
        refine ⟨m, lt, i + 1, F', (K'.unpinned (pins := [])).weak long known, T.keep _ _ _ here2 fun b hb o got => (still b hb o got).1, fun b hb => ?_, wh'⟩
        obtain ⟨o, got, _⟩ := T.obj _ _ here2 b hb
        exact (still b hb o got).2
      have long3 : (wipe σ (own.map (·.2))).length = τ.length := by rw [← same, wipe_length]
      have known3 : ∀ (j : Nat) v, (wipe σ (own.map (·.2)))[j]? = some (some v) → τ[j]? = some (some v) := by
        intro j v got
        rw [← same] at got
        exact (wipe_some got).1
      have known4 : ∀ (j : Nat) v, (wipe σ (own.map (·.2)))[j]? = some (some v) → (wipe τ vs1)[j]? = some (some v) := by
        intro j v got
        rw [← same] at got
        obtain ⟨e1, e2⟩ := wipe_some got
        rw [wipe_out fun z => e2 (ownV j z)]
        exact e1
      cases yes with
      | false =>
        simp only [Bool.false_eq_true, if_false] at q4 ⊢
        exact again long3 known3 K4 q4
      | true =>
        simp only [if_true] at q4 ⊢
        refine thnF (ruleI1.run _ t4 τ F4 _ K4 q4) fun sv1 t5 found1 => thnF found1 fun itv1 t6 turns1 => ?_
        obtain ⟨it1, fp1, tn1, J1, F6, rfl, K6, T1, at6, apart6, W1, ⟨k0, start1⟩, turn1⟩ := turns1
        have away1 : ∀ {F' : Hp}, (∀ b ∈ fp1, F' b = Option.none) → ∀ b ∈ fp1, FpOk (X.blk s3 G3 scope B fp) ([] ++ pinsAt fp t2.heap) F' b := fun empt b hb => ⟨empt b hb, (apart6 b hb).2⟩
        have inner : codeAny (model X.prog X.w) X.A (.compLoop (dcE kx vx tg iter tg1 iter1 ifs ifs1 scope pos) 1 (.ref it1) (.ref D) B)
            (fun r t' => match r with
              | .ok _ => ∃ m, m < n ∧ Between X (X.blk s3 G3 scope B fp) (wipe σ (own.map (·.2))) tn fp Wh m t'
              | .error _ => False) t6 := by
          refine dc2_loop1 (fun k t' => ∃ j F', Inv (X.blk s3 G3 scope B fp) ([] ++ pinsAt fp t2.heap) (wipe τ vs1) F' t' ∧ tn1 j t'.heap ∧ (∀ b ∈ fp1, F' b = Option.none) ∧ W1 j k F') (fun k t7 st7 => ?_) k0
            ⟨0, F6, K6.weak (wipe_length _ _) (fun j v got => (wipe_some got).1), at6, fun b hb => (apart6 b hb).1, start1⟩
          obtain ⟨j, F7, K7, here7, empt7, wh7⟩ := st7
          rcases turn1 j k F7 wh7 with ⟨over1, nx⟩ | ⟨more1, Nx1, less1, step1⟩
          · refine thnF (T1.done (X.blk s3 G3 scope B fp) rfl rfl rfl calm j _ t7 (wipe τ vs1) F7 (fun _ _ => False) K7 (away1 empt7) here7 over1) fun r t8 ⟨er, K8⟩ => ?_
            subst er
            exact again (long3.trans (wipe_length τ vs1).symm) known4 K8 nx
          · refine thnF (T1.item (X.blk s3 G3 scope B fp) rfl rfl rfl calm j _ t7 (wipe τ vs1) F7 (fun _ _ => False) K7 (away1 empt7) here7 more1) fun r t8 ⟨u1, er, rest1⟩ => ?_
            subst er
            refine thnF rest1 fun _ t9 ⟨x1, F9, K9, rx1, yielded1, here9, none9⟩ => ?_
            have pinned1 := K9.pinned (away1 none9) (T1.obj _ _ here9)
            refine thnF (ruleG1.run _ t9 (wipe τ vs1) F9 x1 u1 _ pinned1 rx1 (step1 x1 F9 yielded1)) fun _ ta ⟨τ2, Fa, Ka, same1, qa⟩ => ?_
            refine thnF (ruleT1.run _ ta τ2 Fa _ Ka qa) fun yes1 tb ⟨Fb, Kb, qb⟩ => ?_
            have again1 : ∀ {t' : Shared} {F' : Hp}, Inv (X.blk s3 G3 scope B fp) (([] ++ pinsAt fp t2.heap) ++ pinsAt fp1 t9.heap) τ2 F' t' → Nx1 F' →
                ∃ m, m < k ∧ ∃ j F', Inv (X.blk s3 G3 scope B fp) ([] ++ pinsAt fp t2.heap) (wipe τ vs1) F' t' ∧ tn1 j t'.heap ∧ (∀ b ∈ fp1, F' b = Option.none) ∧ W1 j m F' := by
              intro t' F' K' nx
              obtain ⟨m, lt, wh'⟩ := less1 F' nx
              have still : ∀ b ∈ fp1, ∀ o, t9.heap.get? b = some o → t'.heap.get? b = some o ∧ F' b = Option.none := by
                intro b hb o got
                obtain ⟨e1, e2, _⟩ := K'.pin (b, o) (List.mem_append_right _ (List.mem_append_right _ (mem_pinsAt hb got)))
                exact ⟨e1, e2⟩
              refine ⟨m, lt, j + 1, F', K'.unpinned.weak (by rw [← same1, wipe_length]) (fun j v got => by rw [← same1] at got; exact (wipe_some got).1), T1.keep _ _ _ here9 fun b hb o got => (still b hb o got).1, fun b hb => ?_, wh'⟩
              obtain ⟨o, got, _⟩ := T1.obj _ _ here9 b hb
              exact (still b hb o got).2
            cases yes1 with
            | false =>
              simp only [Bool.false_eq_true, if_false] at qb ⊢
              exact again1 Kb qb
            | true =>
              simp only [if_true] at qb ⊢
              refine thnF (ruleK.run _ tb τ2 Fb _ Kb qb) fun kw tc ⟨y, Fc, Kc, ry, qc⟩ => ?_
              refine thnF (ruleV.run _ tc τ2 Fc _ Kc qc) fun vw td ⟨z, Fd, Kd, rz, b, kvs, k, ey, eb, eDd, room, nx⟩ => ?_
              subst ey
              cases (show kw = Value.ref b from ry)
              exact setT_comp (X := X.blk s3 G3 scope B fp) hu Kd eDd eb room rz fun te Ke => again1 Ke nx
        exact dc2_start1 inner (T1.self X.A 0 _ _ _ at6 inner)
  exact codeAny_compStart_dict whole (T.self X.A 0 _ _ _ at5 whole)
/-- as a value -/
theorem pe_dcT2 {kx vx tg iter tg1 iter1 : Expr} {ifs ifs1 : List Expr} {scope : Scope} {own : List (Str × Nat)} {vs1 : List Nat} {pos : Pos} {wi wi1 : TI} {g g1 : TG} {tt tt1 : TT} {tk tv : TE} (hu : X.A.units < cLine) (calm : X.calm = true) (nd : X.N.Nodup) (src : PI X tg iter wi) (blk : BlkOk X.N X.env.scope scope own) (ownV : ∀ i ∈ vs1, i ∈ own.map (·.2))
    (pTarget : ∀ (t : Shared) (F : Hp) (C : Addr) (cl : List (Str × Addr)) (fp : List Addr), PG (X.blk t F scope (compEnvC scope cl C X.env) fp) tg g)
    (pTest : ∀ (t : Shared) (F : Hp) (C : Addr) (cl : List (Str × Addr)) (fp : List Addr), PTs (X.blk t F scope (compEnvC scope cl C X.env) fp) ifs tt)
    (src1 : ∀ (t : Shared) (F : Hp) (C : Addr) (cl : List (Str × Addr)) (fp : List Addr), PI (X.blk t F scope (compEnvC scope cl C X.env) fp) tg1 iter1 wi1)
    (pTarget1 : ∀ (t : Shared) (F : Hp) (C : Addr) (cl : List (Str × Addr)) (fp : List Addr), PG (X.blk t F scope (compEnvC scope cl C X.env) fp) tg1 g1)
    (pTest1 : ∀ (t : Shared) (F : Hp) (C : Addr) (cl : List (Str × Addr)) (fp : List Addr), PTs (X.blk t F scope (compEnvC scope cl C X.env) fp) ifs1 tt1)
    (pKey : ∀ (t : Shared) (F : Hp) (C : Addr) (cl : List (Str × Addr)) (fp : List Addr), PE (X.blk t F scope (compEnvC scope cl C X.env) fp) kx tk)
    (pVal : ∀ (t : Shared) (F : Hp) (C : Addr) (cl : List (Str × Addr)) (fp : List Addr), PE (X.blk t F scope (compEnvC scope cl C X.env) fp) vx tv)
    (plainSet : ∀ x, foldedSetIterable iter X.env x = pure x := by intro _; rfl) (plainSet1 : ∀ e x, foldedSetIterable iter1 e x = pure x := by intro _ _; rfl) :
    PE X (.DictComp kx vx [⟨tg, iter, ifs, 0⟩, ⟨tg1, iter1, ifs1, 0⟩] scope pos) (tDcT2 wi g tt wi1 g1 tt1 tk tv (own.map (·.2)) vs1) := by
  refine ⟨fun ps s0 σ H Q I0 asked => ?_⟩
  rw [arm_eval_DictComp]
  refine dcT2_core hu calm nd src blk ownV pTarget pTest src1 pTarget1 pTest1 pKey pVal plainSet plainSet1 I0 asked fun D C t m F home last spaces away => ?_
  obtain ⟨c0, c1, _, c3, c4, c5⟩ := away
  refine ⟨m, spaces, fun heap3 same => ⟨.ref D, F, ?_, rfl, last⟩⟩
  exact home.turned (t' := t.toks) (fun b o ne got => (same.2 b ne).trans got) c0 c1 c3 c4 c5
/-- the inner loop's turns, by what holds before each -/
theorem dcT2_it {J1 : It} {n : Nat} {Gd : Hp → Prop} {Y : Nat → Hp → V → Hp → Prop} (wk : Walk J1 n Gd Y) {g1 : TG} {tt1 : TT} {tk tv : TE} {vs1 : List Nat} {τ : St} {D : Addr} {S : Hp} {Nx : Hp → Prop} (Pv : Nat → Hp → Prop)
    (first : Pv 0 S) (served : ∀ i F, i ≤ n → Pv i F → Gd F)
    (each : ∀ i x F F', i < n → Pv i F → Y i F x F' → g1 x (wipe τ vs1) F' fun τ2 F5 => wipe τ2 vs1 = wipe τ vs1 ∧ tt1 τ2 F5 fun yes1 F6 =>
      if yes1 = true then tk τ2 F6 fun y F7 => tv τ2 F7 fun z F8 => ∃ b kvs k, y = .ref b ∧ F8 b = some (.tup (k.map kV)) ∧ F8 D = some (.dT kvs) ∧ kvs.length < sizeLine ∧ Pv (i + 1) (upd F8 D (.dT (putK kvs k z)))
      else Pv (i + 1) F6) (done : ∀ F, Pv n F → Nx F) :
    ∃ W1 : Nat → Nat → Hp → Prop, (∃ k, W1 0 k S) ∧ ∀ j k F, W1 j k F →
          (J1.stop j F ∧ Nx F) ∨
          (J1.go j F ∧ ∃ Nx1 : Hp → Prop, (∀ F', Nx1 F' → ∃ k', k' < k ∧ W1 (j + 1) k' F') ∧
            ∀ x F', J1.yld j F x F' → g1 x (wipe τ vs1) F' fun τ2 F5 => wipe τ2 vs1 = wipe τ vs1 ∧ tt1 τ2 F5 fun yes1 F6 =>
              if yes1 = true then tk τ2 F6 fun y F7 => tv τ2 F7 fun z F8 => ∃ b kvs k, y = .ref b ∧ F8 b = some (.tup (k.map kV)) ∧ F8 D = some (.dT kvs) ∧ kvs.length < sizeLine ∧ Nx1 (upd F8 D (.dT (putK kvs k z)))
              else Nx1 F6) := dcT_it wk Pv first served each done
end
end L2
namespace L2
open PySem PySem.Spec PyProof.Rows
/-- the outer loop's turns, by what holds before each -/
theorem dcT2_out {J : It} {n : Nat} {Gd : Hp → Prop} {Y : Nat → Hp → V → Hp → Prop} (wk : Walk J n Gd Y) {g : TG} {tt : TT} {vs : List Nat} {σ : St} {S : Hp} {Qd : Hp → Prop} {body : St → Hp → (Hp → Prop) → Prop} (Pv : Nat → Hp → Prop)
    (first : Pv 0 S) (served : ∀ i F, i ≤ n → Pv i F → Gd F)
    (each : ∀ i x F F', i < n → Pv i F → Y i F x F' → g x (wipe σ vs) F' fun τ F2 => wipe τ vs = wipe σ vs ∧ tt τ F2 fun yes F3 => if yes = true then body τ F3 (Pv (i + 1)) else Pv (i + 1) F3) (done : ∀ F, Pv n F → Qd F) :
    ∃ Wh : Nat → Nat → Hp → Prop, (∃ m, Wh 0 m S) ∧ ∀ i m F, Wh i m F → (J.stop i F ∧ Qd F) ∨
      (J.go i F ∧ ∃ Nx : Hp → Prop, (∀ F', Nx F' → ∃ m', m' < m ∧ Wh (i + 1) m' F') ∧
        ∀ x F', J.yld i F x F' → g x (wipe σ vs) F' fun τ F2 => wipe τ vs = wipe σ vs ∧ tt τ F2 fun yes F3 => if yes = true then body τ F3 Nx else Nx F3) := by
  refine ⟨fun i m F => i + m = n ∧ Pv i F, ⟨n, by omega, first⟩, ?_⟩
  rintro i m F ⟨sum, now⟩
  have ok := served i F (by omega) now
  cases m with
  | zero =>
    have e : i = n := by omega
    subst e
    exact Or.inl ⟨wk.stops F ok, done F now⟩
  | succ m =>
    have lt : i < n := by omega
    exact Or.inr ⟨wk.goes i F lt ok, Pv (i + 1), fun F' nx => ⟨m, Nat.lt_succ_self m, by omega, nx⟩, fun x F' yl => each i x F F' lt now (wk.yields i F x F' lt ok yl)⟩
end L2

/-! d.setdefault(k, x), d.pop(k) of a dict whose keys are tuples; what stays beside one dict. -/
namespace LD
open PySem PySem.Spec PyProof.Rows L2 LT L2.DX
def rSetDefT : V → List V → Hp → VK → Prop := fun x xs H Q => ∃ (a b : Addr) (kvs : List (List L2.Key × V)) (k : List L2.Key) (y : V), x = .ref a ∧ xs = [.ref b, y] ∧ H b = some (.tup (k.map kV)) ∧ H a = some (.dT kvs) ∧ kvs.length < sizeLine ∧
  (∀ v, valV kvs k = some v → Q v H) ∧ (valV kvs k = none → Q y (upd H a (.dT (putK kvs k y))))
theorem mt_setDefT {X : Cx} (hu : X.A.units + 1 < cLine) : MtR X "dict.setdefault" rSetDefT := by
  rintro pins s σ H x xs v us Q I rx rxs ⟨a, b, kvs, k, y, rfl, rfl, hb, ha, hl, q1, q2⟩
  cases rx
  obtain ⟨u1, u2, rfl, r1, r2⟩ := vals2 rxs
  cases r1
  obtain ⟨z, nD, ys, rel, dd⟩ := dt_of I.hok ha
  have hz : ys.length ≤ sizeLine := by rw [← Paired.length rel]; exact z
  refine call_setdefault_heap (hsz := hz) (tupleKind_room_in1 hu) (key_of I.hok hb) nD dd (fun p hp => ?_) fun hn heap2 dd2 same => ?_
  · have rl := rel.val k
    rw [hp] at rl
    cases hv : valV kvs k with
    | none =>
      rw [hv] at rl
      exact (show False from rl).elim
    | some y' =>
      rw [hv] at rl
      exact ⟨y', H, I.tok _, rl, q1 y' hv⟩
  · have rl := rel.val k
    rw [hn] at rl
    have hv : valV kvs k = none := by
      cases hv : valV kvs k with
      | none => rfl
      | some y' =>
        rw [hv] at rl
        exact (show False from rl).elim
    have small : (putK kvs k y).length ≤ sizeLine := Nat.le_trans (length_putK kvs k y) (by omega)
    obtain ⟨o, es, ep, got, f1, f2, f3, _, f5⟩ := dd2
    have I2 : Inv X pins σ (upd H a (.dT (putK kvs k y))) { s with heap := heap2, toks := s.toks + (tupleKind (mixKind X.prog X.w)).draws k } := by
      refine d_write I (by rw [ha]; trivial) same ⟨o, got⟩ ⟨small, nD, _, (rel.put k hb r2).keeps fun c ws ec => ?_, o, es, ep, got, f1, f2, f3, f5⟩
      rw [upd_ne (ne_of ec ha fun z => nomatch z)]
      exact ec
    exact ⟨y, _, I2, r2, q2 hv⟩
/-- d.pop(k), the key there -/
def rPop1T : V → List V → Hp → VK → Prop := fun x xs H Q => ∃ (a b : Addr) (kvs : List (List L2.Key × V)) (k : List L2.Key) (v : V), x = .ref a ∧ xs = [.ref b] ∧ H b = some (.tup (k.map kV)) ∧ H a = some (.dT kvs) ∧
  valV kvs k = some v ∧ Q v (upd H a (.dT (dropK kvs k)))
theorem mt_pop1T {X : Cx} (hu : X.A.units + 1 < cLine) : MtR X "dict.pop" rPop1T := by
  rintro pins s σ H x xs v us Q I rx rxs ⟨a, b, kvs, k, y, rfl, rfl, hb, ha, hv, q⟩
  cases rx
  obtain ⟨u1, rfl, r1⟩ := vals1 rxs
  cases r1
  obtain ⟨z, nD, ys, rel, dd⟩ := dt_of I.hok ha
  have hz : ys.length ≤ sizeLine := by rw [← Paired.length rel]; exact z
  have rl := rel.val k
  rw [hv] at rl
  obtain ⟨p, hp, rp⟩ : ∃ p, atKey ys k = some p ∧ RelV y p.2 := by
    cases hp : atKey ys k with
    | none =>
      rw [hp] at rl
      exact (show False from rl).elim
    | some p =>
      rw [hp] at rl
      exact ⟨p, rfl, rl⟩
  refine call_pop_heap (hsz := hz) (more := []) (Or.inl rfl) (PySem.F.args_dict_pop_2 _ _) (tupleKind_room_in1 hu) (key_of I.hok hb) nD dd hp fun heap2 dd2 same => ?_
  obtain ⟨o, es, ep, got, f1, f2, f3, _, f5⟩ := dd2
  have I2 : Inv X pins σ (upd H a (.dT (dropK kvs k))) { s with heap := heap2, toks := s.toks + (tupleKind (mixKind X.prog X.w)).draws k } := by
    refine d_write I (by rw [ha]; trivial) same ⟨o, got⟩ ⟨Nat.le_trans (dropK_le kvs k) z, nD, _, (KT_drop k rel).keeps fun c ws ec => ?_, o, es, ep, got, f1, f2, f3, f5⟩
    rw [upd_ne (ne_of ec ha fun z => nomatch z)]
    exact ec
  exact ⟨y, _, I2, rp, q⟩
end LD

/-! a dict and a tuple compared -/
namespace LD
open PySem PySem.Spec PyProof.Rows L2 LT
section
variable {prog : Program} {w : World} {A : Around} {E : Value → Shared → Prop} {s : Shared}
theorem dict_ne_decl {a b : Addr} {Q : Value → Shared → Prop} (ta : s.TypeIs (.ref a) "dict") (tb : s.TypeIs (.ref b) "tuple") (q : Q .notImplemented s) :
    wpAny (model prog w) A (call (.builtin "dict.__ne__") [.ref a, .ref b]) Q E s := by
  refine wpAny_call_entry PySem.F.slot_dict_ne ta PySem.F.entry_dict_ne ?_ (PySem.F.args_dict_ne_2 _ _)
  show wpAny _ _ (Builtin.Dict.dictSlotArgs "__ne__" ⟨[.ref a, .ref b], []⟩ >>= _) _ _ s
  refine wpAny_bind ?_
  unfold Builtin.Dict.dictSlotArgs
  refine wpAny_bind (wpAny_notOrdered_dict ta ?_)
  show wpAny _ _ (pure (Value.ref a, Value.ref b)) _ _ s
  refine wpAny_pure ?_
  refine wpAny_bind (wpAny_isInstance (T := "tuple") tb PySem.F.sub_tuple_dict ?_)
  refine wpAny_ite_true rfl ?_
  exact wpAny_bind (wpAny_rule (wpAny_pure ⟨_, rfl, q⟩))
theorem tuple_ne_decl {a b : Addr} {Q : Value → Shared → Prop} (ta : s.TypeIs (.ref a) "dict") (tb : s.TypeIs (.ref b) "tuple") (q : Q .notImplemented s) :
    wpAny (model prog w) A (call (.builtin "tuple.__ne__") [.ref b, .ref a]) Q E s := by
  refine wpAny_call_entry PySem.F.slot_tuple_ne_refl tb PySem.F.entry_tuple_ne ?_ (PySem.F.args_tuple_ne_2 _ _)
  show wpAny _ _ (slotArgs "__ne__" 1 ⟨[.ref b, .ref a], []⟩ >>= _) _ _ s
  refine wpAny_bind ?_
  unfold slotArgs
  refine wpAny_ite_false rfl (wpAny_ite_false rfl (wpAny_pure ?_))
  show wpAny _ _ (isInstance (.ref a) (.type "tuple") >>= _) _ _ s
  refine wpAny_bind (wpAny_isInstance (T := "dict") ta PySem.F.sub_dict_tuple ?_)
  refine wpAny_ite_true rfl ?_
  exact wpAny_pure ⟨_, rfl, q⟩
theorem ne_dict_tuple {a b : Addr} {oa ob : Obj} {Q : Value → Shared → Prop} (ha : s.heap.get? a = some oa) (ca : oa.cls = .type "dict") (hb : s.heap.get? b = some ob) (cb : ob.cls = .type "tuple") (hu : A.units < cLine)
    (q : Q (.bool true) s) : wpAny (model prog w) A (compareOp .NotEq (.ref a) (.ref b)) Q E s := by
  have ta : s.TypeIs (.ref a) "dict" := ⟨oa, ha, ca⟩
  have tb : s.TypeIs (.ref b) "tuple" := ⟨ob, hb, cb⟩
  have hab : a ≠ b := fun z => by
    rw [z, hb] at ha
    cases ha
    rw [cb] at ca
    exact absurd ca (by decide)
  show wpAny _ _ (richCompare .NotEq (.ref a) (.ref b)) _ _ _
  have h1 := PySem.F.slot_dict_ne
  have h2 := PySem.F.slot_tuple_ne_refl
  unfold richCompare
  rw [oneThing_ref]
  obtain ⟨⟨sym, f, r⟩, hi⟩ : ∃ x, cmpInfo .NotEq = x := ⟨_, rfl⟩
  rw [hi] at h1 h2 ⊢
  refine wpAny_holding (wpAny_bind (wpAny_cRoomFor hu ?_))
  refine wpAny_bind (wpAny_typeOf ta (wpAny_bind (wpAny_typeOf tb ?_)))
  rw [if_pos (show (Value.type "dict" != Value.type "tuple") = true by decide)]
  refine wpAny_bind (wpAny_of_eq PySem.F.sub_tuple_dict ?_)
  simp only [Bool.false_eq_true, if_false, Bool.not_false, if_true]
  refine wpAny_bind (wpAny_tryCompare_declines ta h1 (dict_ne_decl ta tb ⟨rfl, ?_⟩))
  refine wpAny_bind (wpAny_tryCompare_declines tb h2 (tuple_ne_decl ta tb ⟨rfl, ?_⟩))
  refine wpAny_bind (wpAny_rule (wpAny_bind (wpAny_isSame_ref_other hab ha hb (by rw [ca]; decide) (wpAny_pure q))))
end
section
variable {X : Cx}
/-- a dict of paths against a tuple -/
def rNeDT (K : PySem.W.Frag) : R2 := fun x y H Q => ∃ a b ks xs, x = .ref a ∧ y = .ref b ∧ Rd H a (.dT ks) ∧ SqT K H b xs ∧ Q (.bl true) H
theorem op_neDT (hu : X.A.units < cLine) : OpR X (compareOp .NotEq) (rNeDT X.K) := by
  intro pins s σ H x y v u Q I rx ry h
  obtain ⟨a, b, ks, xs, rfl, rfl, ha, hb, q⟩ := h
  obtain rfl : v = Value.ref a := rx
  obtain rfl : u = Value.ref b := ry
  obtain ⟨_, _, _, _, da⟩ := dt_rd I.hok ha
  obtain ⟨oa, ha1, ca⟩ : ∃ o, s.heap.get? a = some o ∧ o.cls = .type "dict" := da.typeIs
  obtain ⟨its, _, hb1, _⟩ := I.tuple hb
  obtain ⟨ob, hb2, cb⟩ : ∃ o, s.heap.get? b = some o ∧ o.cls = .type "tuple" := by
    obtain ⟨o, h1, h2, _⟩ := hb1
    exact ⟨o, h1, h2⟩
  exact ne_dict_tuple ha1 ca hb2 cb hu ⟨.bl true, H, I, rfl, q⟩
/-- one of two rules of a comparison -/
theorem op_or {op : Value → Value → Sem Value} {r r' : R2} (h : OpR X op r) (h' : OpR X op r') : OpR X op (fun x y H Q => r x y H Q ∨ r' x y H Q) := by
  intro pins s σ H x y v u Q I rx ry q
  rcases q with q | q
  · exact h pins s σ H x y v u Q I rx ry q
  · exact h' pins s σ H x y v u Q I rx ry q
end
end LD

/-! a dict and a tuple compared by == -/
namespace LD
open PySem PySem.Spec PyProof.Rows L2 LT
section
variable {prog : Program} {w : World} {A : Around} {E : Value → Shared → Prop} {s : Shared}
theorem dict_eq_decl {a b : Addr} {Q : Value → Shared → Prop} (ta : s.TypeIs (.ref a) "dict") (tb : s.TypeIs (.ref b) "tuple") (q : Q .notImplemented s) :
    wpAny (model prog w) A (call (.builtin "dict.__eq__") [.ref a, .ref b]) Q E s := by
  refine wpAny_call_entry PySem.F.slot_dict_eq ta PySem.F.entry_dict_eq ?_ (PySem.F.args_dict_eq_2 _ _)
  show wpAny _ _ (Builtin.Dict.dictSlotArgs "__eq__" ⟨[.ref a, .ref b], []⟩ >>= _) _ _ s
  refine wpAny_bind ?_
  unfold Builtin.Dict.dictSlotArgs
  refine wpAny_bind (wpAny_notOrdered_dict ta ?_)
  show wpAny _ _ (pure (Value.ref a, Value.ref b)) _ _ s
  refine wpAny_pure ?_
  refine wpAny_bind (wpAny_isInstance (T := "tuple") tb PySem.F.sub_tuple_dict ?_)
  refine wpAny_ite_true rfl ?_
  exact wpAny_bind (wpAny_rule (wpAny_pure ⟨_, rfl, q⟩))
theorem tuple_eq_decl {a b : Addr} {Q : Value → Shared → Prop} (ta : s.TypeIs (.ref a) "dict") (tb : s.TypeIs (.ref b) "tuple") (q : Q .notImplemented s) :
    wpAny (model prog w) A (call (.builtin "tuple.__eq__") [.ref b, .ref a]) Q E s := by
  refine wpAny_call_entry PySem.F.slot_tuple_eq_refl tb PySem.F.entry_tuple_eq ?_ (PySem.F.args_tuple_eq_2 _ _)
  show wpAny _ _ (slotArgs "__eq__" 1 ⟨[.ref b, .ref a], []⟩ >>= _) _ _ s
  refine wpAny_bind ?_
  unfold slotArgs
  refine wpAny_ite_false rfl (wpAny_ite_false rfl (wpAny_pure ?_))
  show wpAny _ _ (isInstance (.ref a) (.type "tuple") >>= _) _ _ s
  refine wpAny_bind (wpAny_isInstance (T := "dict") ta PySem.F.sub_dict_tuple ?_)
  refine wpAny_ite_true rfl ?_
  exact wpAny_pure ⟨_, rfl, q⟩
theorem eq_dict_tuple {a b : Addr} {oa ob : Obj} {Q : Value → Shared → Prop} (ha : s.heap.get? a = some oa) (ca : oa.cls = .type "dict") (hb : s.heap.get? b = some ob) (cb : ob.cls = .type "tuple") (hu : A.units < cLine)
    (q : Q (.bool false) s) : wpAny (model prog w) A (compareOp .Eq (.ref a) (.ref b)) Q E s := by
  have ta : s.TypeIs (.ref a) "dict" := ⟨oa, ha, ca⟩
  have tb : s.TypeIs (.ref b) "tuple" := ⟨ob, hb, cb⟩
  have hab : a ≠ b := fun z => by
    rw [z, hb] at ha
    cases ha
    rw [cb] at ca
    exact absurd ca (by decide)
  show wpAny _ _ (richCompare .Eq (.ref a) (.ref b)) _ _ _
  have h1 := PySem.F.slot_dict_eq
  have h2 := PySem.F.slot_tuple_eq_refl
  unfold richCompare
  rw [oneThing_ref]
  obtain ⟨⟨sym, f, r⟩, hi⟩ : ∃ x, cmpInfo .Eq = x := ⟨_, rfl⟩
  rw [hi] at h1 h2 ⊢
  refine wpAny_holding (wpAny_bind (wpAny_cRoomFor hu ?_))
  refine wpAny_bind (wpAny_typeOf ta (wpAny_bind (wpAny_typeOf tb ?_)))
  rw [if_pos (show (Value.type "dict" != Value.type "tuple") = true by decide)]
  refine wpAny_bind (wpAny_of_eq PySem.F.sub_tuple_dict ?_)
  simp only [Bool.false_eq_true, if_false, Bool.not_false, if_true]
  refine wpAny_bind (wpAny_tryCompare_declines ta h1 (dict_eq_decl ta tb ⟨rfl, ?_⟩))
  refine wpAny_bind (wpAny_tryCompare_declines tb h2 (tuple_eq_decl ta tb ⟨rfl, ?_⟩))
  refine wpAny_bind (wpAny_rule (wpAny_bind (wpAny_isSame_ref_other hab ha hb (by rw [ca]; decide) (wpAny_pure q))))
end
section
variable {X : Cx}
def rEqDT (K : PySem.W.Frag) : R2 := fun x y H Q => ∃ a b ks xs, x = .ref a ∧ y = .ref b ∧ Rd H a (.dT ks) ∧ SqT K H b xs ∧ Q (.bl false) H
theorem op_eqDT (hu : X.A.units < cLine) : OpR X (compareOp .Eq) (rEqDT X.K) := by
  intro pins s σ H x y v u Q I rx ry h
  obtain ⟨a, b, ks, xs, rfl, rfl, ha, hb, q⟩ := h
  obtain rfl : v = Value.ref a := rx
  obtain rfl : u = Value.ref b := ry
  obtain ⟨_, _, _, _, da⟩ := dt_rd I.hok ha
  obtain ⟨oa, ha1, ca⟩ : ∃ o, s.heap.get? a = some o ∧ o.cls = .type "dict" := da.typeIs
  obtain ⟨its, _, hb1, _⟩ := I.tuple hb
  obtain ⟨ob, hb2, cb⟩ : ∃ o, s.heap.get? b = some o ∧ o.cls = .type "tuple" := by
    obtain ⟨o, h1, h2, _⟩ := hb1
    exact ⟨o, h1, h2⟩
  exact eq_dict_tuple ha1 ca hb2 cb hu ⟨.bl false, H, I, rfl, q⟩
end
end LD

/-! del d[k] of a dict whose keys are numbers or texts. -/
namespace LD
open PySem PySem.Spec PyProof.Rows L2 LT L2.DX
def sDel (td ty : TE) : TS := fun D σ H => td σ H fun x H1 => ty σ H1 fun y H2 => ∃ a kvs k, x = .ref a ∧ H2 a = some (.dK kvs) ∧ y = kV k ∧ (valV kvs k).isSome = true ∧ D.nx σ (upd H2 a (.dK (dropK kvs k)))
theorem ps_del {X : Cx} {o i : Expr} {td ty : TE} {pos tpos : Pos} (ho : PE X o td) (hi : PE X i ty) : PS X (Stmt.Delete [o.Subscript i tpos] pos) (sDel td ty) := by
  refine ⟨fun pins s σ H D I h => wpAny_Delete ?_⟩
  rw [PySem.deleteEach.eq_2, PySem.delete.eq_3, PySem.deleteEach.eq_1]
  refine wpAny_bind (wpAny_bind (wpAny_mono (ho.run pins s σ H _ I h) (fun v s1 h1 => ?_) fun _ _ z => z))
  obtain ⟨x, H1, I1, rx, h1⟩ := h1
  refine wpAny_bind (wpAny_holding (wpAny_mono (hi.run pins s1 σ H1 _ I1 h1) (fun u s2 h2 => ?_) fun _ _ z => z))
  obtain ⟨y, H2, I2, ry, h2⟩ := h2
  obtain ⟨a, kvs, k, rfl, ha, rfl, hv, q⟩ := h2
  cases rx
  refine wpAny_bind (wpAny_standAt (wpAny_bind (wpAny_holding (d_delItem I2 ha ry hv fun s3 I3 => ?_))))
  refine wpAny_release (wpAny_pure ?_)
  exact ⟨σ, _, I3, q⟩
end LD

/-! range(n) as an object; list(range(n)). -/
namespace LD
open PySem PySem.Spec PyProof.Rows L2 LT L2.DX
theorem cr_range1 {X : Cx} : CallR X (.type "range") fun vs H Q => ∃ j, vs = [.int j] ∧ ∀ p, H p = none → Q (.ref p) (upd H p (.rng 0 j)) := by
  rintro pins s σ H xs us Q I r ⟨j, rfl, q⟩
  obtain ⟨u1, rfl, r1⟩ := vals1 r
  obtain ⟨t, rfl⟩ := r1
  refine call_range_1 ⟨.ref s.heap.objs.size, _, ?_, rfl, q _ (I.hok.fresh (Nat.le_refl _))⟩
  exact I.laid (a := s.heap.objs.size) (o := .rng 0 j) (fun _ _ q => Heap.get?_push_of_some _ q) (Nat.le_refl _) ⟨_, _, _, Heap.get?_push_size _ rfl⟩
theorem call_list_rng {X : Cx} (hc : X.calm = true) : CallR X (.type "list") fun xs H Q => ∃ (r : Addr) (n : Nat), xs = [.ref r] ∧ H r = some (.rng 0 n) ∧ n ≤ 1000 ∧ ∀ p, H p = none → Q (.ref p) (upd H p (.lst ((List.range n).map fun i => V.int (i : Nat)))) := by
  rintro pins s σ H xs us Q I rx ⟨r, n, rfl, hr, hn, q⟩
  obtain ⟨u1, rfl, r1⟩ := vals1 rx
  obtain rfl : u1 = Value.ref r := r1
  obtain ⟨t, u, v, ho⟩ := I.hok r _ hr
  have hsz : Builtin.Range.rangeSize 0 n 1 = (n : Nat) := by
    unfold Builtin.Range.rangeSize
    simp
    omega
  refine call_list_range (I.ok.hd hc) ho ?_ hsz (by omega) fun h' tk acc c keep hl items => ⟨.ref s.heap.objs.size, _, ?_, rfl, q _ (I.hok.fresh (Nat.le_refl _))⟩
  · unfold Builtin.Range.small
    rw [hsz]
    unfold Builtin.Range.rangeFitsLong
    simp
    omega
  · refine I.laid (a := s.heap.objs.size) keep (Nat.le_refl _) ⟨by rw [List.length_map, List.length_range, sizeLine_eq]; omega, acc.toList, c, ?_, by rw [Array.toArray_toList]; exact hl⟩
    obtain ⟨hs, hi⟩ := items
    have key : ∀ (k : Nat) (l : List Value), l.length = k → ∀ o : Nat, (∀ (j : Nat) (w : Value), l[j]? = some w → ∃ t, w = Value.int ((o + j : Nat) : Int) t) → Vals ((List.range' o k).map fun i => V.int (i : Nat)) l := by
      intro k
      induction k with
      | zero =>
        intro l hl o _
        rw [List.length_eq_zero_iff.mp hl]
        exact .nil
      | succ k ih =>
        intro l hl o h
        cases l with
        | nil => cases hl
        | cons w l =>
          rw [List.range'_succ]
          refine .cons ?_ (ih l (Nat.succ.inj hl) (o + 1) fun j x hx => ?_)
          · obtain ⟨t, e⟩ := h 0 w rfl
            exact ⟨t, by rw [e]; rfl⟩
          · obtain ⟨t, e⟩ := h (j + 1) x hx
            exact ⟨t, by rw [e, show o + (j + 1) = o + 1 + j by omega]⟩
    have := key n acc.toList (by rw [Array.length_toList]; exact hs) 0 fun j w hw => by
      obtain ⟨t, e⟩ := hi j w (by rw [← Array.getElem?_toList]; exact hw)
      exact ⟨t, by rw [e]; congr 1; omega⟩
    rw [List.range_eq_range']
    exact this
end LD

namespace LK
open PySem PySem.Spec PyProof.Rows L2 GA LT LE L2H LD
def topS (i : Nat) : Stmt := PySem.Challenge.pw_laidtrees_k42_handles_refused.main.body.getD i (.Pass ⟨0, 0, 0, 0⟩)
abbrev sIsName : Stmt := topS 26
abbrev sIsPath : Stmt := topS 27
abbrev sIsText : Stmt := topS 28
abbrev sCheckPath : Stmt := topS 29
abbrev sCheckText : Stmt := topS 30
abbrev sAbove : Stmt := topS 31
abbrev sBeginnings : Stmt := topS 32
abbrev sIsNumber : Stmt := topS 37
abbrev sIsKind : Stmt := topS 38
abbrev sIsDrawer : Stmt := topS 39
abbrev sIsFile : Stmt := topS 40
abbrev sHasDrawers : Stmt := topS 41
abbrev sHasOneText : Stmt := topS 42
abbrev sIsTree : Stmt := topS 43
abbrev sCheckTree : Stmt := topS 44
abbrev sRenumbered : Stmt := topS 45
abbrev sPlain : Stmt := topS 46
abbrev sIsEntry : Stmt := topS 52
abbrev sIsLayer : Stmt := topS 53
abbrev sIsStack : Stmt := topS 54
abbrev sCheckLayer : Stmt := topS 55
abbrev sCheckStack : Stmt := topS 56
abbrev sPutEntry : Stmt := topS 57
abbrev sApart : Stmt := topS 58
abbrev sLongest : Stmt := topS 59
abbrev sLetsThrough : Stmt := topS 60
abbrev sAsSeen : Stmt := topS 61
abbrev sLaidOver : Stmt := topS 62
abbrev sWithRoom : Stmt := topS 63
abbrev sLaidP : Stmt := topS 64
abbrev sOfFile : Stmt := topS 66
abbrev sNotRoot : Stmt := topS 69
abbrev sCheckFew : Stmt := topS 74
abbrev sOver : Stmt := topS 75
abbrev sTogether : Stmt := topS 76
abbrev sCopied : Stmt := topS 78
abbrev sDraw : Stmt := topS 81
abbrev sPick : Stmt := topS 82
abbrev sNoPath : Stmt := topS 83
abbrev sWhich : Stmt := topS 84
abbrev sHandled : Stmt := topS 85
abbrev sLaw : Stmt := topS 86
abbrev mInit : Stmt := inClass (topS 70) 0
abbrev mMake : Stmt := inClass (topS 70) 1
abbrev mWrite : Stmt := inClass (topS 70) 2
abbrev mAdd : Stmt := inClass (topS 70) 3
abbrev mRemove : Stmt := inClass (topS 70) 4
abbrev mClear : Stmt := inClass (topS 70) 5
abbrev mMove : Stmt := inClass (topS 70) 6
abbrev mTie : Stmt := inClass (topS 70) 7
abbrev mKind : Stmt := inClass (topS 70) 8
abbrev mRead : Stmt := inClass (topS 70) 9
abbrev mListed : Stmt := inClass (topS 70) 10
abbrev mTied : Stmt := inClass (topS 70) 11
abbrev mTree : Stmt := inClass (topS 70) 12
abbrev mTwin : Stmt := inClass (topS 70) 13
abbrev mLen : Stmt := inClass (topS 70) 14
abbrev mThere : Stmt := inClass (topS 70) 15
abbrev mAboveOk : Stmt := inClass (topS 70) 16
abbrev mPlace : Stmt := inClass (topS 70) 17
abbrev mRoom : Stmt := inClass (topS 70) 18
abbrev mFileAt : Stmt := inClass (topS 70) 19
abbrev mPut : Stmt := inClass (topS 70) 20
abbrev mGive : Stmt := inClass (topS 70) 21
abbrev mTakeAway : Stmt := inClass (topS 70) 22
abbrev dInit : Stmt := inClass (topS 67) 0
abbrev dMake : Stmt := inClass (topS 67) 1
abbrev dGive : Stmt := inClass (topS 67) 2
abbrev dTie : Stmt := inClass (topS 67) 3
abbrev dMove : Stmt := inClass (topS 67) 4
abbrev dTakeAway : Stmt := inClass (topS 67) 5
abbrev dChanges : Stmt := inClass (topS 67) 6
abbrev dIsGone : Stmt := inClass (topS 67) 7
abbrev dNewFile : Stmt := inClass (topS 67) 8
abbrev dTakeUp : Stmt := inClass (topS 67) 9
abbrev dTakeUpFile : Stmt := inClass (topS 67) 10
abbrev rInit : Stmt := inClass (topS 72) 0
abbrev rFollow : Stmt := inClass (topS 72) 1
abbrev rTwin : Stmt := inClass (topS 72) 2
abbrev uInit : Stmt := inClass (topS 79) 0
abbrev uMake : Stmt := inClass (topS 79) 1
abbrev uWrite : Stmt := inClass (topS 79) 2
abbrev uAdd : Stmt := inClass (topS 79) 3
abbrev uRemove : Stmt := inClass (topS 79) 4
abbrev uClear : Stmt := inClass (topS 79) 5
abbrev uMove : Stmt := inClass (topS 79) 6
abbrev uTie : Stmt := inClass (topS 79) 7
abbrev uKind : Stmt := inClass (topS 79) 8
abbrev uRead : Stmt := inClass (topS 79) 9
abbrev uListed : Stmt := inClass (topS 79) 10
abbrev uTied : Stmt := inClass (topS 79) 11
abbrev uTree : Stmt := inClass (topS 79) 12
abbrev uMany : Stmt := inClass (topS 79) 13
abbrev uUpper : Stmt := inClass (topS 79) 14
abbrev uBelow : Stmt := inClass (topS 79) 15
abbrev uBroken : Stmt := inClass (topS 79) 16
abbrev uFreeze : Stmt := inClass (topS 79) 17
abbrev uJoin : Stmt := inClass (topS 79) 18
abbrev uOpened : Stmt := inClass (topS 79) 19
abbrev uTextOf : Stmt := inClass (topS 79) 20
abbrev uIsStale : Stmt := inClass (topS 79) 21
abbrev uShut : Stmt := inClass (topS 79) 22
abbrev uPower : Stmt := inClass (topS 79) 23
abbrev uSteps : Stmt := inClass (topS 79) 24
abbrev uIsDark : Stmt := inClass (topS 79) 25
abbrev uMend : Stmt := inClass (topS 79) 26
abbrev uTwin : Stmt := inClass (topS 79) 27
abbrev uCheckLight : Stmt := inClass (topS 79) 28
abbrev uHouse : Stmt := inClass (topS 79) 29
abbrev uDraft : Stmt := inClass (topS 79) 30
abbrev uReader : Stmt := inClass (topS 79) 31
abbrev uDoAway : Stmt := inClass (topS 79) 32
abbrev uDo : Stmt := inClass (topS 79) 33
abbrev uBreakOff : Stmt := inClass (topS 79) 34
abbrev uSettle : Stmt := inClass (topS 79) 35
/-- what the module's names hold: those that paths.py asks -/
structure Mg (mg : Str → Option Value) : Prop where
  isinstance : mg "isinstance" = none
  str : mg "str" = none
  tuple : mg "tuple" = none
  len : mg "len" = none
  all : mg "all" = none
  range : mg "range" = none
  letters : ∃ t, mg "LETTERS" = some (.str lettersS t)
  mostLetters : ∃ t, mg "MOST_LETTERS" = some (.int 4 t)
  mostNames : ∃ t, mg "MOST_NAMES" = some (.int 5 t)

def spIsName (K : PySem.W.Frag) (P1 : Addr) : Sp := fun vs H Q _ => ∃ v, vs = [v] ∧ Asked K H v ∧ TabG H P1 ∧ ∀ H', Ex H H' → Q (.bl (isNameV v)) H'
/-- a call that is handed a thing: it is a path or not -/
def spIsPath (K : PySem.W.Frag) (P1 P2 : Addr) : Sp := fun vs H Q _ => ∃ v b, vs = [v] ∧ PathB K H v b ∧ TabG H P1 ∧ TabG H P2 ∧ ∀ H', Ex H H' → Q (.bl b) H'
/-- C: the class that is raised -/
def spCheck (K : PySem.W.Frag) (P1 P2 C : Addr) : Sp := fun vs H Q E => ∃ v b, vs = [v] ∧ PathB K H v b ∧ TabG H P1 ∧ TabG H P2 ∧
  (b = true → ∀ H', Ex H H' → Q .non H') ∧ (b = false → ∀ H', Ex H H' → E (.ref C) none H')
/-- the thing is no path, and is refused; or it is the path p, of which R holds -/
def PathOr (K : PySem.W.Frag) (H : Hp) (v : V) (bad : Prop) (R : Addr → List Str → Prop) : Prop :=
  (PathB K H v false ∧ bad) ∨ ∃ a p, v = .ref a ∧ PathAt K H a p ∧ goodPath p = true ∧ R a p
def Refused (H : Hp) (E : XK) (C : Addr) : Prop := ∀ H', Ex H H' → E (.ref C) none H'
def spAbove (K : PySem.W.Frag) (P1 P2 C : Addr) : Sp := fun vs H Q E => ∃ v, vs = [v] ∧ TabG H P1 ∧ TabG H P2 ∧
  PathOr K H v (Refused H E C) fun _ p => ∀ H' r, Ex H H' → (p = [] ∧ r = .non ∨ p ≠ [] ∧ ∃ q, r = .ref q ∧ PathAt K H' q p.dropLast) → Q r H'
def beginsB (p q : List Str) : Bool := decide (p.take q.length = q)
def withinB (p q : List Str) : Bool := decide (p ≠ q) && beginsB p q
def spBegins (K : PySem.W.Frag) : Sp := fun vs H Q _ => ∃ a b p q, vs = [.ref a, .ref b] ∧ PathAt K H a p ∧ PathAt K H b q ∧ goodPath p = true ∧ goodPath q = true ∧ ∀ H', Ex H H' → Q (.bl (beginsB p q)) H'
def spWithin (K : PySem.W.Frag) (P1 P2 C : Addr) : Sp := fun vs H Q E => ∃ u v, vs = [u, v] ∧ TabG H P1 ∧ TabG H P2 ∧
  PathOr K H u (Refused H E C) fun _ p => PathOr K H v (Refused H E C) fun _ q => ∀ H', Ex H H' → Q (.bl (withinB p q)) H'
def spBeginnings (K : PySem.W.Frag) (P1 P2 C : Addr) : Sp := fun vs H Q E => ∃ v, vs = [v] ∧ TabG H P1 ∧ TabG H P2 ∧
  PathOr K H v (Refused H E C) fun _ p => ∀ H' l, Ex H H' → PathsAt K H' l (begs p) → Q (.ref l) H'
/-- a class of refusals -/
structure Ref (K : PySem.W.Frag) (mg : Str → Option Value) (nm : Str) (C : Addr) : Prop where
  g : mg nm = some (.ref C)
  x : PySem.W.excIn K C [.type "ValueError", .type "Exception", .type "BaseException", .type "object"] "ValueError.__new__" = true
  k : PySem.W.keepIn K (.ref C) = true
  b : PySem.W.subIn K (.ref C) (.type "BaseException") = some true
  t : PySem.W.typeIn K (.ref C) = some (.type "type")

section
variable {P : Program} {w : World} {K : PySem.W.Frag} {mg : Str → Option Value} {base : Heap}
theorem scIsName : FnScope ["thing"] ["thing"] (defScope sIsName) := ⟨rfl, rfl, rfl, by decide +kernel, rfl, by decide +kernel, by decide +kernel⟩
theorem ok_isName {f c P1 : Addr} {fd : FuncData} (F : FunC K "is_name" "is_name" sIsName f fd c) (M : Mg mg) (TB : LamX.TabB base mg c P1) : FnOk P w K mg base CX0 3 f fd ["thing"] (spIsName K P1) := by
  refine F.ok scIsName (fun vs H Q E h => ?_) (fun A outer s H vs Q E hr h => ?_)
  · obtain ⟨v, rfl, _⟩ := h
    rfl
  · obtain ⟨v, rfl, ⟨n, kn, hz⟩, hT, k⟩ := h
    obtain ⟨tl, hl⟩ := M.letters
    obtain ⟨tm, hm⟩ := M.mostLetters
    refine ⟨_, pss_cons (ps_if (PW.pt (pw_or (pt_not (pt_val (pe_callB call_is (by rfl) M.isinstance boot_isinstance (pa_cons (pv 0) (pa_cons (pe_bltn (v := .ty "str") (by rfl) M.str (by decide +kernel) rfl) pa_nil)))))
        (pw_or1 (pt_not (pt_chain op_le op_le pe_int (pe_callB call_len_str (by rfl) M.len PySem.boot_len (pa_cons (pv 0) pa_nil)) (pe_glob (v := .int 4) (by rfl) hm ⟨_, rfl⟩)))))) (pss_one (ps_ret pe_bl)) pss_nil)
      (pss_one (ps_ret (pe_all (k := 1) (N := ["thing", "letter"]) (pad := 1) (j := 1) (x := "letter") (P := P1) hr rfl (by rfl) M.all TB rfl (gn_by (N0 := ["thing"]) (sc := defScope sIsName) (by decide +kernel)) (pi_str (pv 0))
        (fun A s H cl C code fp pn hr => pe_cmpR op_in_sign (pv 1) (pe_glob (v := .str lettersS) (by rfl) hl ⟨_, rfl⟩) (by rfl))))), ?_⟩
    refine ⟨_, rfl, v, n, "str", rfl, kn, rfl, _, rfl, ?_⟩
    have done : isNameV v = false → Q (.bl false) H := fun e => by
      have := k H (Ex.refl H)
      rwa [e] at this
    by_cases hs : n = "str"
    · subst hs
      obtain ⟨z, rfl⟩ : ∃ z, v = .str z := kn.isStr
      rw [show isB "str" "str" = true by decide]
      refine iteF ?_
      refine ⟨_, rfl, z, rfl, hz z rfl, _, _, rfl, rfl, _, rfl, ?_⟩
      by_cases h1 : (1 : Int) ≤ z.length
      · rw [decide_eq_true h1]
        refine iteT ⟨_, _, rfl, rfl, _, rfl, ?_⟩
        by_cases h4 : (z.length : Int) ≤ 4
        · rw [decide_eq_true h4]
          refine iteF ⟨_, rfl, z, rfl, hT, fun H2 hT2 => gw_str (fun c => decide (c ∈ lettersS.cps.toList)) (fun c H3 x R hR => ⟨_, rfl, c, lettersS, rfl, rfl, hR⟩) fun H3 x => ?_⟩
          have := k H3 ((Ex.tabd hT2 hT).trans x)
          rwa [show isNameV (.str z) = z.cps.toList.all (fun c => decide (c ∈ lettersS.cps.toList)) by
            show (decide (1 ≤ z.length) && decide (z.length ≤ 4) && allIn z lettersS) = _
            rw [decide_eq_true (by omega), decide_eq_true (by omega)]
            rfl] at this
        · rw [decide_eq_false h4]
          refine iteT (done ?_)
          show (decide (1 ≤ z.length) && decide (z.length ≤ 4) && allIn z lettersS) = _
          rw [decide_eq_false (p := z.length ≤ 4) (by omega), Bool.and_false, Bool.false_and]
      · rw [decide_eq_false h1]
        refine iteF ⟨_, rfl, iteT (done ?_)⟩
        show (decide (1 ≤ z.length) && decide (z.length ≤ 4) && allIn z lettersS) = _
        rw [decide_eq_false (p := 1 ≤ z.length) (by omega), Bool.false_and, Bool.false_and]
    · rw [kn.notStr hs]
      refine iteT ?_
      exact done (kn.noName hs)
theorem scIsPath : FnScope ["thing"] ["thing"] (defScope sIsPath) := ⟨rfl, rfl, rfl, by decide +kernel, rfl, by decide +kernel, by decide +kernel⟩
theorem ok_isPath {f c f1 P1 P2 : Addr} {fd fd1 : FuncData} (F : FunC K "is_path" "is_path" sIsPath f fd c) (M : Mg mg) (TB : LamX.TabB base mg c P2)
    (G1 : FnOk P w K mg base CX0 3 f1 fd1 ["thing"] (spIsName K P1)) (m1 : mg "is_name" = some (.ref f1)) (k1 : PySem.W.keepIn K (.ref f1) = true) (b1 : Binds K fd1 ["thing"] []) :
    FnOk P w K mg base CX0 5 f fd ["thing"] (spIsPath K P1 P2) := by
  refine F.ok scIsPath (fun vs H Q E h => ?_) (fun A outer s H vs Q E hr h => ?_)
  · obtain ⟨v, b, rfl, _⟩ := h
    rfl
  · obtain ⟨v, b, rfl, pb, hT1, hT2, k⟩ := h
    obtain ⟨tm, hm⟩ := M.mostNames
    refine ⟨_, pss_cons (ps_if (PW.pt (pw_or (pt_not (pt_val (pe_callB call_is (by rfl) M.isinstance boot_isinstance (pa_cons (pv 0) (pa_cons (pe_bltn (v := .ty "tuple") (by rfl) M.tuple (by decide +kernel) rfl) pa_nil)))))
        (pw_or1 (pt_cmpR op_gt (pe_callB call_len_seq (by rfl) M.len PySem.boot_len (pa_cons (pv 0) pa_nil)) (pe_glob (v := .int 5) (by rfl) hm ⟨_, rfl⟩) (nomark _))))) (pss_one (ps_ret pe_bl)) pss_nil)
      (pss_one (ps_ret (pe_all (k := 3) (N := ["thing", "name"]) (pad := 1) (j := 1) (x := "name") (P := P2) hr rfl (by rfl) M.all TB rfl (gn_by (N0 := ["thing"]) (sc := defScope sIsPath) (by decide +kernel)) (pi_tup (pv 0))
        (fun A s H cl C code fp pn hr => pe_call (E := E0) G1 hr (by rfl) m1 k1 b1 .nil pass0 (pa_cons (pv 1) pa_nil))))), ?_⟩
    cases pb with
    | oth kn hn =>
      rename_i n
      refine ⟨_, rfl, v, n, "tuple", rfl, kn, rfl, _, rfl, ?_⟩
      rw [kn.notTup hn]
      exact iteT (k H (Ex.refl H))
    | tup e q =>
      rename_i a xs
      refine ⟨_, rfl, .ref a, "tuple", "tuple", rfl, .tup e, rfl, _, rfl, ?_⟩
      rw [show isB "tuple" "tuple" = true by decide]
      refine iteF ⟨_, rfl, a, xs, rfl, .inr e, _, _, rfl, rfl, _, rfl, ?_⟩
      by_cases h5 : (5 : Int) < xs.length
      · rw [decide_eq_true h5]
        refine iteT ?_
        have := k H (Ex.refl H)
        rwa [decide_eq_false (p := xs.length ≤ 5) (by omega), Bool.false_and] at this
      · rw [decide_eq_false h5]
        refine iteF ⟨_, rfl, a, rfl, ⟨xs, e⟩, hT2, fun H2 hT => ?_⟩
        have x2 := Ex.tabd hT hT2
        refine gw_tup isNameV (x2.tup e) (fun y H3 hy x3 R hR => ?_) fun H3 x3 => ?_
        · exact ⟨_, rfl, y, rfl, (q y hy).ex (x2.trans x3), (x2.trans x3).tab _ hT1, fun H4 x4 => hR H4 (x3.trans x4)⟩
        · have := k H3 (x2.trans x3)
          rwa [decide_eq_true (p := xs.length ≤ 5) (by omega), Bool.true_and] at this
theorem scCheckPath : FnScope ["thing"] ["thing"] (defScope sCheckPath) := ⟨rfl, rfl, rfl, by decide +kernel, rfl, by decide +kernel, by decide +kernel⟩
theorem ok_checkPath {f f2 P1 P2 C : Addr} {fd fd2 : FuncData} (F : Fun K "check_path" "check_path" sCheckPath f fd) (R : Ref K mg "NoPath" C)
    (G2 : FnOk P w K mg base CX0 5 f2 fd2 ["thing"] (spIsPath K P1 P2)) (m2 : mg "is_path" = some (.ref f2)) (k2 : PySem.W.keepIn K (.ref f2) = true) (b2 : Binds K fd2 ["thing"] []) :
    FnOk P w K mg base (L2.CX P w) 6 f fd ["thing"] (spCheck K P1 P2 C) := by
  refine F.okX scCheckPath (fun vs H Q E h => ?_) (fun cdv A outer s H vs Q E hr h => ?_)
  · obtain ⟨v, b, rfl, _⟩ := h
    rfl
  · obtain ⟨v, b, rfl, pb, hT1, hT2, kt, kf⟩ := h
    refine ⟨_, pss_one (ps_if (pt_not (pt_val (pe_call (E := E0) G2 hr (by rfl) m2 k2 b2 .nil pass0 (pa_cons (pv 0) pa_nil))))
      (pss_one (ps_raise rfl (takes_of rfl rfl rfl rfl) (pmk_own PySem.F.excBase_ValueError R.x R.g R.k (raises_own R.b R.t) rfl))) pss_nil), ?_⟩
    refine ⟨_, rfl, v, b, rfl, pb, hT1, hT2, fun H' x => ⟨_, rfl, ?_⟩⟩
    cases b with
    | true => exact iteF (kt rfl H' x)
    | false => exact iteT (kf rfl H' x)
end
/-- above, its answer a tuple that may be asked as a key -/
def spAboveX (K : PySem.W.Frag) (P1 P2 C : Addr) : Sp := fun vs H Q E => ∃ v, vs = [v] ∧ TabG H P1 ∧ TabG H P2 ∧
  PathOr K H v (Refused H E C) fun _ p => ∀ H' r, Ex H H' → (p = [] ∧ r = .non ∨ p ≠ [] ∧ ∃ q, r = .ref q ∧ PathX H' q p.dropLast) → Q r H'
section
variable {P : Program} {w : World} {K : PySem.W.Frag} {mg : Str → Option Value} {base : Heap}
theorem scAboveX : FnScope ["path"] ["path"] (defScope sAbove) := ⟨rfl, rfl, rfl, by decide +kernel, rfl, by decide +kernel, by decide +kernel⟩
theorem ok_aboveX {f f3 P1 P2 C : Addr} {fd fd3 : FuncData} (F : Fun K "above" "above" sAbove f fd)
    (G3 : FnOk P w K mg base (L2.CX P w) 6 f3 fd3 ["thing"] (spCheck K P1 P2 C)) (m3 : mg "check_path" = some (.ref f3)) (k3 : PySem.W.keepIn K (.ref f3) = true) (b3 : Binds K fd3 ["thing"] []) :
    FnOk P w K mg base (L2.CX P w) 7 f fd ["path"] (spAboveX K P1 P2 C) := by
  refine F.okX scAboveX (fun vs H Q E h => ?_) (fun cdv A outer s H vs Q E hr h => ?_)
  · obtain ⟨v, rfl, _⟩ := h
    rfl
  · obtain ⟨v, rfl, hT1, hT2, h⟩ := h
    refine ⟨_, pss_cons (ps_expr (pe_call (E := E) G3 hr (by rfl) m3 k3 b3 .nil (passes_call (takes_of rfl rfl rfl rfl) (fun _ _ _ _ h => h)) (pa_cons (pv 0) pa_nil)))
      (pss_one (ps_ret (pe_ifExp (pt_truth (pv 0) (by intro _; rfl)) (pe_slice sl_tupA (pv 0) po_none (po_some (pe_un un_neg pe_int))) pe_non))), ?_⟩
    rcases h with ⟨pb, hbad⟩ | ⟨a, p, rfl, pa, gp, k⟩
    · exact ⟨_, rfl, v, false, rfl, pb, hT1, hT2, (fun z => nomatch z), fun _ => hbad⟩
    · have pb := pa.b (goodPath_small gp)
      rw [gp] at pb
      refine ⟨_, rfl, .ref a, true, rfl, pb, hT1, hT2, fun _ H' x => ?_, fun z => nomatch z⟩
      have pa' := pa.ex x
      refine ⟨_, rfl, _, .inr (.inl ⟨p.map V.str, pa', rfl⟩), ?_⟩
      cases p with
      | nil => exact iteF (k H' _ x (.inl ⟨rfl, rfl⟩))
      | cons z q =>
        refine iteT ⟨_, rfl, 1, rfl, _, rfl, a, _, rfl, pa', fun hw => ?_, fun _ r hr => ?_⟩
        · exfalso
          have h2 := hw.2
          rw [sIx_last] at h2
          simp only [List.length_map, List.length_cons] at h2
          omega
        · have x2 := Ex.new (o := .tup (cutV ((z :: q).map V.str) none (some (-1)))) hr
          refine k _ _ (x.trans x2) (.inr ⟨by simp, r, rfl, ?_⟩)
          show _ = some (HO.tup ((z :: q).dropLast.map V.str))
          rw [upd_same]
          have e : cutV ((z :: q).map V.str) none (some (-1)) = (z :: q).dropLast.map V.str := by rw [cutV_last, List.map_dropLast]
          exact congrArg (fun l => some (HO.tup l)) e
end
section
variable {P : Program} {w : World} {K : PySem.W.Frag} {mg : Str → Option Value} {base : Heap}
/-- path[:n] -/
theorem slice_to {H : Hp} {a : Addr} {p : List Str} (n : Nat) (pa : PathAt K H a p) {R : VK} (h : ∀ H' r, Ex H H' → PathAt K H' r (p.take n) → R (.ref r) H') : rSlA K (.ref a) none (some (n : Int)) H R := by
  refine ⟨a, _, rfl, pa, fun hw => h H a (Ex.refl H) ?_, fun _ r hr => h _ r (Ex.new hr) ?_⟩
  · have h2 := hw.2
    rw [HT.sIx_nat, List.length_map] at h2
    rw [List.take_of_length_le (by omega)]
    exact pa
  · refine SqT.of ?_
    rw [upd_same, cutV_to, List.map_take]
theorem slice_from {H : Hp} {a : Addr} {p : List Str} (n : Nat) (pa : PathAt K H a p) {R : VK} (h : ∀ H' r, Ex H H' → PathAt K H' r (p.drop n) → R (.ref r) H') : rSlA K (.ref a) (some (n : Int)) none H R := by
  refine ⟨a, _, rfl, pa, fun hw => h H a (Ex.refl H) ?_, fun _ r hr => h _ r (Ex.new hr) ?_⟩
  · have h2 := hw.1
    rw [HT.sIx_nat, List.length_map] at h2
    cases n with
    | zero => exact pa
    | succ n =>
      have hp : p = [] := by
        cases p with
        | nil => rfl
        | cons z q => simp at h2
      subst hp
      exact pa
  · refine SqT.of ?_
    rw [upd_same, cutV_from, List.map_drop]
theorem slice_fromN {H : Hp} {a : Addr} {p : List Str} {σ : L2.St} (n : Nat) (pa : PathAt K H a p) {R : VK} (h : ∀ H' r, Ex H H' → PathAt K H' r (p.drop n) → R (.ref r) H') :
    tNoPart σ H (fun u H3 => rSlA K (.ref a) (some (n : Int)) u H3 R) := slice_from n pa h
end
/-! ### is_text -/
structure MgT (mg : Str → Option Value) : Prop where
  signs : ∃ t, mg "SIGNS" = some (.str signsS t)
  mostSigns : ∃ t, mg "MOST_SIGNS" = some (.int 40 t)
def spIsText (K : PySem.W.Frag) (P1 : Addr) : Sp := fun vs H Q _ => ∃ v, vs = [v] ∧ Asked K H v ∧ TabG H P1 ∧ ∀ H', Ex H H' → Q (.bl (isTextV v)) H'
section
variable {P : Program} {w : World} {K : PySem.W.Frag} {mg : Str → Option Value} {base : Heap}
theorem scIsText : FnScope ["thing"] ["thing"] (defScope sIsText) := ⟨rfl, rfl, rfl, by decide +kernel, rfl, by decide +kernel, by decide +kernel⟩
theorem ok_isText {f c P1 : Addr} {fd : FuncData} (F : FunC K "is_text" "is_text" sIsText f fd c) (M : Mg mg) (MT : MgT mg) (TB : LamX.TabB base mg c P1) : FnOk P w K mg base CX0 3 f fd ["thing"] (spIsText K P1) := by
  refine F.ok scIsText (fun vs H Q E h => ?_) (fun A outer s H vs Q E hr h => ?_)
  · obtain ⟨v, rfl, _⟩ := h
    rfl
  · obtain ⟨v, rfl, ⟨n, kn, hz⟩, hT, k⟩ := h
    obtain ⟨tl, hl⟩ := MT.signs
    obtain ⟨tm, hm⟩ := MT.mostSigns
    refine ⟨_, pss_cons (ps_if (PW.pt (pw_or (pt_not (pt_val (pe_callB call_is (by rfl) M.isinstance boot_isinstance (pa_cons (pv 0) (pa_cons (pe_bltn (v := .ty "str") (by rfl) M.str (by decide +kernel) rfl) pa_nil)))))
        (pw_or1 (pt_cmpR op_gt (pe_callB call_len_str (by rfl) M.len PySem.boot_len (pa_cons (pv 0) pa_nil)) (pe_glob (v := .int 40) (by rfl) hm ⟨_, rfl⟩) (nomark _))))) (pss_one (ps_ret pe_bl)) pss_nil)
      (pss_one (ps_ret (pe_all (k := 1) (N := ["thing", "sign"]) (pad := 1) (j := 1) (x := "sign") (P := P1) hr rfl (by rfl) M.all TB rfl (gn_by (N0 := ["thing"]) (sc := defScope sIsText) (by decide +kernel)) (pi_str (pv 0))
        (fun A s H cl C code fp pn hr => pe_cmpR op_in_sign (pv 1) (pe_glob (v := .str signsS) (by rfl) hl ⟨_, rfl⟩) (by rfl))))), ?_⟩
    refine ⟨_, rfl, v, n, "str", rfl, kn, rfl, _, rfl, ?_⟩
    have done : isTextV v = false → Q (.bl false) H := fun e => by
      have := k H (Ex.refl H)
      rwa [e] at this
    by_cases hs : n = "str"
    · subst hs
      obtain ⟨z, rfl⟩ : ∃ z, v = .str z := kn.isStr
      rw [show isB "str" "str" = true by decide]
      refine iteF ⟨_, rfl, z, rfl, hz z rfl, _, _, rfl, rfl, _, rfl, ?_⟩
      by_cases h4 : (40 : Int) < z.length
      · rw [decide_eq_true h4]
        refine iteT (done ?_)
        show (decide (z.length ≤ 40) && allIn z signsS) = _
        rw [decide_eq_false (by omega), Bool.false_and]
      · rw [decide_eq_false h4]
        refine iteF ⟨_, rfl, z, rfl, hT, fun H2 hT2 => gw_str (fun c => decide (c ∈ signsS.cps.toList)) (fun c H3 x R hR => ⟨_, rfl, c, signsS, rfl, rfl, hR⟩) fun H3 x => ?_⟩
        have := k H3 ((Ex.tabd hT2 hT).trans x)
        rwa [show isTextV (.str z) = z.cps.toList.all (fun c => decide (c ∈ signsS.cps.toList)) by
          show (decide (z.length ≤ 40) && allIn z signsS) = _
          rw [decide_eq_true (by omega)]
          rfl] at this
    · rw [kn.notStr hs]
      refine iteT ?_
      exact done (kn.noText hs)
end
/-! ### things of a tree, as data -/
mutual
/-- no text is longer than a line -/
def smallD : PyData → Bool
  | .str z => decide (z.length ≤ sizeLine)
  | .list xs => smallAll xs
  | .tuple xs => smallAll xs
  | _ => true
def smallAll : List PyData → Bool
  | [] => true
  | x :: xs => smallD x && smallAll xs
end
def numB : PyData → Bool
  | .int n => decide (0 ≤ n) && decide (n ≤ 999)
  | _ => false
def textDB : PyData → Bool
  | .str z => textB z
  | _ => false
def headIs (word : Str) : PyData → Bool
  | .str z => decide (z = word)
  | _ => false
def kindB (word : Str) (many : Nat) : PyData → Bool
  | .tuple xs => decide (xs.length = many) && headIs word (xs.getD 0 .none)
  | _ => false
def partD (i : Nat) : PyData → PyData
  | .tuple xs => xs.getD i .none
  | _ => .none
def drawerB (d : PyData) : Bool := kindB "drawer" 1 d
def fileB (d : PyData) : Bool := kindB "file" 3 d && (numB (partD 1 d) && textDB (partD 2 d))
theorem Dp_kn {K : PySem.W.Frag} {H : Hp} {v : V} {d : PyData} (h : Dp K H v d) : ∃ n, Kn K H v n := by
  cases h with
  | non => exact ⟨_, .non⟩
  | bl b => exact ⟨_, .bl b⟩
  | int i => exact ⟨_, .int i⟩
  | str z => exact ⟨_, .str z⟩
  | lst e _ => exact ⟨_, .lst e⟩
  | tup e _ => exact ⟨_, .tup e⟩
theorem Dp_asked {K : PySem.W.Frag} {H : Hp} {v : V} {d : PyData} (h : Dp K H v d) (s : smallD d = true) : Asked K H v := by
  obtain ⟨n, k⟩ := Dp_kn h
  refine ⟨n, k, fun z e => ?_⟩
  subst e
  cases h with
  | str z =>
    unfold smallD at s
    exact of_decide_eq_true s
theorem Dp_text {K : PySem.W.Frag} {H : Hp} {v : V} {d : PyData} (h : Dp K H v d) : isTextV v = textDB d := by
  cases h <;> rfl
theorem dpAll_len {K : PySem.W.Frag} {H : Hp} : ∀ {vs : List V} {ds : List PyData}, DpAll K H vs ds → vs.length = ds.length
  | _, _, .nil => rfl
  | _, _, .cons _ t => by rw [List.length_cons, List.length_cons, dpAll_len t]
theorem dpAll_get {K : PySem.W.Frag} {H : Hp} : ∀ {vs : List V} {ds : List PyData} (i : Nat), DpAll K H vs ds → i < ds.length → ∃ v, vs[i]? = some v ∧ Dp K H v (ds.getD i .none)
  | _, _, i, .nil, h => absurd h (Nat.not_lt_zero _)
  | _, _, 0, .cons a _, _ => ⟨_, rfl, a⟩
  | _, _, i + 1, .cons _ t, h => dpAll_get i t (Nat.lt_of_succ_lt_succ h)
theorem smallAll_get : ∀ {ds : List PyData} (i : Nat), smallAll ds = true → i < ds.length → smallD (ds.getD i .none) = true
  | [], i, _, h => absurd h (Nat.not_lt_zero _)
  | d :: ds, 0, s, _ => by
    unfold smallAll at s
    exact (Bool.and_eq_true _ _ ▸ s).1
  | d :: ds, i + 1, s, h => by
    unfold smallAll at s
    exact smallAll_get i (Bool.and_eq_true _ _ ▸ s).2 (Nat.lt_of_succ_lt_succ h)
/-- the module's names that trees.py asks -/
structure MgR (mg : Str → Option Value) : Prop where
  int : mg "int" = none
  bool : mg "bool" = none
  dict : mg "dict" = none
  list : mg "list" = none
  lastNumber : ∃ t, mg "LAST_NUMBER" = some (.int 999 t)
  mostPaths : ∃ t, mg "MOST_PATHS" = some (.int 80 t)
def spIsNumber (K : PySem.W.Frag) : Sp := fun vs H Q _ => ∃ v d, vs = [v] ∧ Dp K H v d ∧ Q (.bl (numB d)) H
def spIsKind (K : PySem.W.Frag) : Sp := fun vs H Q _ => ∃ v d word many, vs = [v, .str word, .int (many : Nat)] ∧ 0 < many ∧ Dp K H v d ∧ Q (.bl (kindB word many d)) H
def spIsDrawer (K : PySem.W.Frag) : Sp := fun vs H Q _ => ∃ v d, vs = [v] ∧ Dp K H v d ∧ Q (.bl (drawerB d)) H
def spIsFile (K : PySem.W.Frag) (P3 : Addr) : Sp := fun vs H Q _ => ∃ v d, vs = [v] ∧ Dp K H v d ∧ smallD d = true ∧ TabG H P3 ∧ ∀ H', Ex H H' → Q (.bl (fileB d)) H'
section
variable {P : Program} {w : World} {K : PySem.W.Frag} {mg : Str → Option Value} {base : Heap}
theorem scIsNumber : FnScope ["thing"] ["thing"] (defScope sIsNumber) := ⟨rfl, rfl, rfl, by decide +kernel, rfl, by decide +kernel, by decide +kernel⟩
theorem ok_isNumber {f : Addr} {fd : FuncData} (F : Fun K "is_number" "is_number" sIsNumber f fd) (M : Mg mg) (R : MgR mg) : FnOk P w K mg base CX0 1 f fd ["thing"] (spIsNumber K) := by
  refine F.ok scIsNumber (fun vs H Q E h => ?_) (fun cdv A outer s H vs Q E hr h => ?_)
  · obtain ⟨v, d, rfl, _⟩ := h
    rfl
  · obtain ⟨v, d, rfl, hd, k⟩ := h
    obtain ⟨tl, hl⟩ := R.lastNumber
    refine ⟨_, pss_cons (ps_if (PW.pt (pw_or (pt_not (pt_val (pe_callB call_is (by rfl) M.isinstance boot_isinstance (pa_cons (pv 0) (pa_cons (pe_bltn (v := .ty "int") (by rfl) R.int (by decide +kernel) rfl) pa_nil)))))
        (pw_or1 (pt_val (pe_callB call_is (by rfl) M.isinstance boot_isinstance (pa_cons (pv 0) (pa_cons (pe_bltn (v := .ty "bool") (by rfl) R.bool (by decide +kernel) rfl) pa_nil))))))) (pss_one (ps_ret pe_bl)) pss_nil)
      (pss_one (ps_ret (pe_chain op_le op_le pe_int (pv 0) (pe_glob (v := .int 999) (by rfl) hl ⟨_, rfl⟩)))), ?_⟩
    obtain ⟨n, kn⟩ := Dp_kn hd
    refine ⟨_, rfl, v, n, "int", rfl, kn, rfl, _, rfl, ?_⟩
    have no : numB d = false → Q (.bl false) H := fun e => by rwa [e] at k
    cases hd with
    | int i =>
      cases kn
      rw [show isB "int" "int" = true by decide]
      refine iteF ⟨_, rfl, .int i, "int", "bool", rfl, .int i, rfl, _, rfl, ?_⟩
      rw [show isB "int" "bool" = false by decide]
      refine iteF ⟨_, rfl, 0, i, rfl, rfl, _, rfl, ?_⟩
      by_cases h0 : 0 ≤ i
      · rw [decide_eq_true h0]
        refine iteT ⟨i, 999, rfl, rfl, ?_⟩
        have : numB (.int i) = decide (i ≤ 999) := by
          show (decide (0 ≤ i) && decide (i ≤ 999)) = _
          rw [decide_eq_true h0, Bool.true_and]
        rwa [this] at k
      · rw [decide_eq_false h0]
        refine iteF (no ?_)
        show (decide (0 ≤ i) && decide (i ≤ 999)) = _
        rw [decide_eq_false h0, Bool.false_and]
    | bl b =>
      cases kn
      rw [show isB "bool" "int" = true by decide]
      refine iteF ⟨_, rfl, .bl b, "bool", "bool", rfl, .bl b, rfl, _, rfl, ?_⟩
      rw [show isB "bool" "bool" = true by decide]
      exact iteT (no rfl)
    | non =>
      cases kn
      exact iteT (no rfl)
    | str z =>
      cases kn
      exact iteT (no rfl)
    | lst e _ =>
      have : isB n "int" = false := kn.is (fun z => by
        subst z
        generalize hq : "int" = q at kn
        cases kn <;> exact absurd hq (by decide)) (fun z => by
        subst z
        generalize hq : "bool" = q at kn
        cases kn <;> exact absurd hq (by decide))
      rw [this]
      exact iteT (no rfl)
    | tup e _ =>
      have : isB n "int" = false := kn.is (fun z => by
        subst z
        generalize hq : "int" = q at kn
        cases kn <;> exact absurd hq (by decide)) (fun z => by
        subst z
        generalize hq : "bool" = q at kn
        cases kn <;> exact absurd hq (by decide))
      rw [this]
      exact iteT (no rfl)
end
/-! ### drawers and files -/
theorem kn_tuple {K : PySem.W.Frag} {H : Hp} {v : V} {d : PyData} (h : Dp K H v d) : (∃ a xs ds, v = .ref a ∧ d = .tuple ds ∧ SqT K H a xs ∧ DpAll K H xs ds) ∨ ((∀ ds, d ≠ .tuple ds) ∧ ∃ n, Kn K H v n ∧ n ≠ "tuple") := by
  cases h with
  | non => exact Or.inr ⟨fun ds z => (by cases z), _, .non, by decide⟩
  | bl b => exact Or.inr ⟨fun ds z => (by cases z), _, .bl b, by decide⟩
  | int i => exact Or.inr ⟨fun ds z => (by cases z), _, .int i, by decide⟩
  | str z => exact Or.inr ⟨fun ds z => (by cases z), _, .str z, by decide⟩
  | lst e _ => exact Or.inr ⟨fun ds z => (by cases z), _, .lst e, by decide⟩
  | tup e k => exact Or.inl ⟨_, _, _, rfl, rfl, e, k⟩
theorem kindB_not {word : Str} {many : Nat} {d : PyData} (h : ∀ ds, d ≠ .tuple ds) : kindB word many d = false := by
  cases d with
  | tuple xs => exact absurd rfl (h xs)
  | _ => rfl
section
variable {P : Program} {w : World} {K : PySem.W.Frag} {mg : Str → Option Value} {base : Heap}
theorem scIsKind : FnScope ["thing", "word", "many"] ["thing", "word", "many"] (defScope sIsKind) := ⟨rfl, rfl, rfl, by decide +kernel, rfl, by decide +kernel, by decide +kernel⟩
theorem ok_isKind {f : Addr} {fd : FuncData} (F : Fun K "is_kind" "is_kind" sIsKind f fd) (M : Mg mg) : FnOk P w K mg base CX0 1 f fd ["thing", "word", "many"] (spIsKind K) := by
  refine F.ok scIsKind (fun vs H Q E h => ?_) (fun cdv A outer s H vs Q E hr h => ?_)
  · obtain ⟨v, d, word, many, rfl, _⟩ := h
    rfl
  · obtain ⟨v, d, word, many, rfl, hm, hd, k⟩ := h
    refine ⟨_, pss_cons (ps_if (PW.pt (pw_or (pt_not (pt_val (pe_callB call_is (by rfl) M.isinstance boot_isinstance (pa_cons (pv 0) (pa_cons (pe_bltn (v := .ty "tuple") (by rfl) M.tuple (by decide +kernel) rfl) pa_nil)))))
        (pw_or1 (pt_cmpR op_ne (pe_callB call_len_seq (by rfl) M.len PySem.boot_len (pa_cons (pv 0) pa_nil)) (pv 2) (nomark _))))) (pss_one (ps_ret pe_bl)) pss_nil)
      (pss_one (ps_ret (pe_and (pe_callB call_is (by rfl) M.isinstance boot_isinstance (pa_cons (pe_ix ix_tup (pv 0) pe_int (fun _ _ => rfl)) (pa_cons (pe_bltn (v := .ty "str") (by rfl) M.str (by decide +kernel) rfl) pa_nil)))
        (pe_one (pe_cmpR op_eq (pe_ix ix_tup (pv 0) pe_int (fun _ _ => rfl)) (pv 1) (nomark _)))))), ?_⟩
    rcases kn_tuple hd with ⟨a, xs, ds, rfl, rfl, ha, hx⟩ | ⟨hn, n, kn, hnt⟩
    · refine ⟨_, rfl, .ref a, "tuple", "tuple", rfl, .tup ha, rfl, _, rfl, ?_⟩
      rw [show isB "tuple" "tuple" = true by decide]
      refine iteF ⟨_, rfl, a, xs, rfl, .inr ha, _, rfl, rfl, _, rfl, ?_⟩
      have hl := dpAll_len hx
      rw [dec_int]
      have kb : kindB word many (.tuple ds) = (decide (ds.length = many) && headIs word (ds.getD 0 .none)) := rfl
      rw [kb] at k
      by_cases e : ds.length = many
      · have e2 : (!((xs.length : Int) == (many : Int))) = false := by
          rw [hl, e, beq_self_eq_true]
          rfl
        rw [e2]
        rw [decide_eq_true e, Bool.true_and] at k
        obtain ⟨v0, h0, d0⟩ := dpAll_get 0 hx (by omega)
        have at0 : atI xs 0 = some v0 := at_of (j := 0) rfl h0
        refine iteF ⟨_, rfl, a, xs, 0, v0, rfl, rfl, ha, at0, ?_⟩
        generalize ds.getD 0 .none = dd at d0 k
        by_cases hs : ∃ z, dd = .str z
        · obtain ⟨z, rfl⟩ := hs
          cases d0
          refine ⟨.str z, "str", "str", rfl, .str z, rfl, _, rfl, ?_⟩
          rw [show isB "str" "str" = true by decide]
          refine iteT ⟨_, rfl, a, xs, 0, .str z, rfl, rfl, ha, at0, _, rfl, rfl, ?_⟩
          have e3 : headIs word (.str z) = decide (V.str z = V.str word) := decide_eq_decide.mpr ⟨fun e => by rw [e], fun e => by injection e⟩
          rwa [e3] at k
        · have hne : ∀ z, v0 ≠ .str z := fun z e => by
            subst e
            cases d0 with
            | str _ => exact hs ⟨_, rfl⟩
          have hk : headIs word dd = false := by
            cases dd with
            | str z => exact absurd ⟨z, rfl⟩ hs
            | _ => rfl
          obtain ⟨n, kn⟩ := Dp_kn d0
          refine ⟨v0, n, "str", rfl, kn, rfl, _, rfl, ?_⟩
          rw [kn.notStr (fun z => by
            subst z
            obtain ⟨y, e⟩ := kn.isStr
            exact hne y e)]
          refine iteF ?_
          rwa [hk] at k
      · have e2 : (!((xs.length : Int) == (many : Int))) = true := by
          have : ((xs.length : Int) == (many : Int)) = false := beq_eq_false_iff_ne.mpr (by omega)
          rw [this]
          rfl
        rw [e2]
        refine iteT ?_
        rwa [decide_eq_false e, Bool.false_and] at k
    · refine ⟨_, rfl, v, n, "tuple", rfl, kn, rfl, _, rfl, ?_⟩
      rw [kn.notTup hnt]
      refine iteT ?_
      rwa [kindB_not hn] at k
theorem scIsDrawer : FnScope ["thing"] ["thing"] (defScope sIsDrawer) := ⟨rfl, rfl, rfl, by decide +kernel, rfl, by decide +kernel, by decide +kernel⟩
theorem ok_isDrawer {f f1 : Addr} {fd fd1 : FuncData} (F : Fun K "is_drawer" "is_drawer" sIsDrawer f fd)
    (G1 : FnOk P w K mg base CX0 1 f1 fd1 ["thing", "word", "many"] (spIsKind K)) (m1 : mg "is_kind" = some (.ref f1)) (k1 : PySem.W.keepIn K (.ref f1) = true) (b1 : Binds K fd1 ["thing", "word", "many"] []) :
    FnOk P w K mg base CX0 2 f fd ["thing"] (spIsDrawer K) := by
  refine F.ok scIsDrawer (fun vs H Q E h => ?_) (fun cdv A outer s H vs Q E hr h => ?_)
  · obtain ⟨v, d, rfl, _⟩ := h
    rfl
  · obtain ⟨v, d, rfl, hd, k⟩ := h
    exact ⟨_, pss_one (ps_ret (pe_call (E := E0) G1 hr (by rfl) m1 k1 b1 .nil pass0 (pa_cons (pv 0) (pa_cons pe_str (pa_cons pe_int pa_nil))))), _, rfl, v, d, "drawer", 1, rfl, by decide, hd, k⟩
theorem scIsFile : FnScope ["thing"] ["thing"] (defScope sIsFile) := ⟨rfl, rfl, rfl, by decide +kernel, rfl, by decide +kernel, by decide +kernel⟩
theorem ok_isFile {f f1 f2 f3 P3 : Addr} {fd fd1 fd2 fd3 : FuncData} (F : Fun K "is_file" "is_file" sIsFile f fd)
    (G1 : FnOk P w K mg base CX0 1 f1 fd1 ["thing", "word", "many"] (spIsKind K)) (m1 : mg "is_kind" = some (.ref f1)) (k1 : PySem.W.keepIn K (.ref f1) = true) (b1 : Binds K fd1 ["thing", "word", "many"] [])
    (G2 : FnOk P w K mg base CX0 1 f2 fd2 ["thing"] (spIsNumber K)) (m2 : mg "is_number" = some (.ref f2)) (k2 : PySem.W.keepIn K (.ref f2) = true) (b2 : Binds K fd2 ["thing"] [])
    (G3 : FnOk P w K mg base CX0 3 f3 fd3 ["thing"] (spIsText K P3)) (m3 : mg "is_text" = some (.ref f3)) (k3 : PySem.W.keepIn K (.ref f3) = true) (b3 : Binds K fd3 ["thing"] []) :
    FnOk P w K mg base CX0 4 f fd ["thing"] (spIsFile K P3) := by
  refine F.ok scIsFile (fun vs H Q E h => ?_) (fun cdv A outer s H vs Q E hr h => ?_)
  · obtain ⟨v, d, rfl, _⟩ := h
    rfl
  · obtain ⟨v, d, rfl, hd, sd, hT, k⟩ := h
    have r1 := hr.mono (show 1 ≤ 3 by decide)
    refine ⟨_, pss_one (ps_ret (pe_and (pe_call (E := E0) G1 r1 (by rfl) m1 k1 b1 .nil pass0 (pa_cons (pv 0) (pa_cons pe_str (pa_cons pe_int pa_nil))))
      (pe_and (pe_call (E := E0) G2 r1 (by rfl) m2 k2 b2 .nil pass0 (pa_cons (pe_ix ix_tup (pv 0) pe_int (fun _ _ => rfl)) pa_nil))
      (pe_one (pe_call (E := E0) G3 hr (by rfl) m3 k3 b3 .nil pass0 (pa_cons (pe_ix ix_tup (pv 0) pe_int (fun _ _ => rfl)) pa_nil)))))), ?_⟩
    refine ⟨_, rfl, v, d, "file", 3, rfl, by decide, hd, _, rfl, ?_⟩
    have fb : fileB d = (kindB "file" 3 d && (numB (partD 1 d) && textDB (partD 2 d))) := rfl
    rw [fb] at k
    cases hk : kindB "file" 3 d with
    | false =>
      rw [hk, Bool.false_and] at k
      exact iteF (k H (Ex.refl H))
    | true =>
      rw [hk, Bool.true_and] at k
      rcases kn_tuple hd with ⟨a, xs, ds, rfl, rfl, ha, hx⟩ | ⟨hn, _⟩
      · have hl : ds.length = 3 := by
          have : (decide (ds.length = 3) && headIs "file" (ds.getD 0 .none)) = true := hk
          rw [Bool.and_eq_true] at this
          exact of_decide_eq_true this.1
        have hs : smallAll ds = true := by
          unfold smallD at sd
          exact sd
        obtain ⟨v1, h1, d1⟩ := dpAll_get 1 hx (by omega)
        obtain ⟨v2, h2, d2⟩ := dpAll_get 2 hx (by omega)
        refine iteT ⟨_, rfl, a, xs, 1, v1, rfl, rfl, ha, at_of (j := 1) rfl h1, v1, ds.getD 1 .none, rfl, d1, _, rfl, ?_⟩
        have p1 : partD 1 (.tuple ds) = ds.getD 1 .none := rfl
        have p2 : partD 2 (.tuple ds) = ds.getD 2 .none := rfl
        rw [p1, p2] at k
        cases hn1 : numB (ds.getD 1 .none) with
        | false =>
          rw [hn1, Bool.false_and] at k
          exact iteF (k H (Ex.refl H))
        | true =>
          rw [hn1, Bool.true_and] at k
          refine iteT ⟨_, rfl, a, xs, 2, v2, rfl, rfl, ha, at_of (j := 2) rfl h2, v2, rfl, Dp_asked d2 (smallAll_get 2 hs (by omega)), hT, fun H' x => ?_⟩
          rw [Dp_text d2]
          exact k H' x
      · rw [kindB_not hn] at hk
        cases hk
end
/-! ### drawers above, one text each -/
def drawerAt (es : Ents) (p : List Str) : Bool := match valE es p with
  | some d => drawerB d
  | none => false
def roofB (es : Ents) : Bool := drawerAt es [] && es.all fun e => decide (e.1 = []) || drawerAt es e.1.dropLast
/-- a tuple that begins with a text -/
def headedD (d : PyData) : Prop := ∃ w ds, d = .tuple (.str w :: ds)
def dirD (d : PyData) : Bool := headIs "drawer" (partD 0 d)
def dirAt (es : Ents) (p : List Str) : Bool := match valE es p with
  | some d => dirD d
  | none => false
def roofH (es : Ents) : Bool := dirAt es [] && es.all fun e => decide (e.1 = []) || dirAt es e.1.dropLast
theorem valE_mem {es : Ents} {p : List Str} {D : PyData} (h : valE es p = some D) : ∃ e ∈ es, e.1 = p ∧ e.2 = D := by
  unfold valE at h
  obtain ⟨e, h1, h2⟩ := Option.map_eq_some_iff.mp h
  exact ⟨e, List.mem_of_find?_eq_some h1, of_decide_eq_true (List.find?_some (p := fun e : List Str × PyData => decide (e.1 = p)) h1), h2⟩
theorem kind_headed {word : Str} {many : Nat} {d : PyData} (hm : 0 < many) (h : kindB word many d = true) : ∃ ds, d = .tuple (.str word :: ds) := by
  cases d with
  | tuple ds =>
    have : (decide (ds.length = many) && headIs word (ds.getD 0 .none)) = true := h
    rw [Bool.and_eq_true] at this
    obtain ⟨h1, h2⟩ := this
    have hl := of_decide_eq_true h1
    cases ds with
    | nil => exact absurd hl (by show ¬ (0 = many); omega)
    | cons x ds =>
      cases x with
      | str z =>
        have : z = word := of_decide_eq_true h2
        exact ⟨ds, by rw [this]⟩
      | _ => exact absurd (show false = true from h2) Bool.false_ne_true
  | _ => exact absurd (show false = true from h) Bool.false_ne_true
theorem file_kind {d : PyData} (h : fileB d = true) : kindB "file" 3 d = true := by
  unfold fileB at h
  exact (Bool.and_eq_true _ _ ▸ h).1
theorem tree_headed {d : PyData} (h : drawerB d = true ∨ fileB d = true) : headedD d := by
  rcases h with h | h
  · obtain ⟨ds, e⟩ := kind_headed (by decide) (show kindB "drawer" 1 d = true from h)
    exact ⟨_, _, e⟩
  · obtain ⟨ds, e⟩ := kind_headed (by decide) (file_kind h)
    exact ⟨_, _, e⟩
theorem dir_tree {d : PyData} (h : drawerB d = true ∨ fileB d = true) : dirD d = drawerB d := by
  rcases h with h | h
  · obtain ⟨ds, e⟩ := kind_headed (by decide) (show kindB "drawer" 1 d = true from h)
    rw [h, e]
    rfl
  · obtain ⟨ds, e⟩ := kind_headed (by decide) (file_kind h)
    have : drawerB d = false := by
      rw [e]
      show (decide _ && headIs "drawer" (.str "file")) = false
      rw [show headIs "drawer" (.str "file") = false by decide +kernel, Bool.and_false]
    rw [this, e]
    show headIs "drawer" (.str "file") = false
    decide +kernel
theorem roof_tree {es : Ents} (h : ∀ e ∈ es, drawerB e.2 = true ∨ fileB e.2 = true) : roofH es = roofB es := by
  have e : dirAt es = drawerAt es := by
    funext p
    unfold dirAt drawerAt
    cases hv : valE es p with
    | none => rfl
    | some d =>
      obtain ⟨x, hx, _, rfl⟩ := valE_mem hv
      exact dir_tree (h x hx)
  unfold roofH roofB
  rw [e]
/-- the places that are asked: the root, and what is above each path -/
def topsOf (es : Ents) : List (List Str) := [] :: (es.filter fun e => !decide (e.1 = [])).map fun e => e.1.dropLast
theorem topsOf_allF (es : Ents) (f : List Str → Bool) : (topsOf es).all f = (f [] && es.all fun e => decide (e.1 = []) || f e.1.dropLast) := by
  unfold topsOf
  rw [List.all_cons]
  congr 1
  induction es with
  | nil => rfl
  | cons e es ih =>
    rw [List.all_cons, ← ih]
    by_cases h : e.1 = []
    · rw [List.filter_cons_of_neg (by rw [decide_eq_true h]; decide), decide_eq_true h, Bool.true_or, Bool.true_and]
    · rw [List.filter_cons_of_pos (by rw [decide_eq_false h]; rfl), List.map_cons, List.all_cons, decide_eq_false h, Bool.false_or]
theorem topsOf_all (es : Ents) : (topsOf es).all (dirAt es) = roofH es := topsOf_allF es _
/-- what is above the first n paths -/
def aboveOf (es : Ents) : List (List Str) := (es.filter fun e => !decide (e.1 = [])).map fun e => e.1.dropLast
theorem aboveOf_snoc (es : Ents) (e : List Str × PyData) : aboveOf (es ++ [e]) = if e.1 = [] then aboveOf es else aboveOf es ++ [e.1.dropLast] := by
  unfold aboveOf
  by_cases h : e.1 = []
  · rw [if_pos h, List.filter_append, List.filter_cons_of_neg (by rw [decide_eq_true h]; decide), List.filter_nil, List.append_nil]
  · rw [if_neg h, List.filter_append, List.filter_cons_of_pos (by rw [decide_eq_false h]; rfl), List.filter_nil, List.map_append]
    rfl
def spHasDrawers (K : PySem.W.Frag) (P1 P2 P4 : Addr) : Sp := fun vs H Q _ => ∃ d es, vs = [.ref d] ∧ TrAt K H d es ∧ (∀ e ∈ es, goodPath e.1 = true ∧ headedD e.2) ∧ es.length ≤ 1000 ∧ TabG H P1 ∧ TabG H P2 ∧ TabG H P4 ∧ ∀ H', Ex H H' → Q (.bl (roofH es)) H'
section
variable {P : Program} {w : World} {K : PySem.W.Frag} {mg : Str → Option Value} {base : Heap}
abbrev hdN : List Str := ["tree", "tops", "path"]
theorem scHasDrawers : FnScope hdN ["tree"] (defScope sHasDrawers) := ⟨rfl, rfl, rfl, by decide +kernel, rfl, by decide +kernel, by decide +kernel⟩
theorem ok_hasDrawers {f c fA P1 P2 P4 C : Addr} {fd fdA : FuncData} (F : FunC K "has_drawers_above" "has_drawers_above" sHasDrawers f fd c) (M : Mg mg) (TB : LamX.TabB base mg c P4)
    (GA : FnOk P w K mg base (L2.CX P w) 7 fA fdA ["path"] (spAboveX K P1 P2 C)) (mA : mg "above" = some (.ref fA)) (kA : PySem.W.keepIn K (.ref fA) = true) (bA : Binds K fdA ["path"] []) :
    FnOk P w K mg base CX0 8 f fd ["tree"] (spHasDrawers K P1 P2 P4) := by
  refine F.ok scHasDrawers (fun vs H Q E h => ?_) (fun A outer s H vs Q E hr h => ?_)
  · obtain ⟨d, es, rfl, _⟩ := h
    rfl
  · obtain ⟨d, es, rfl, ⟨kvs, hd, row⟩, hg, hl, hT1, hT2, hT4, k⟩ := h
    have r4 := hr.mono (show 4 ≤ 7 by decide)
    refine ⟨_, pss_cons (ps_set (i := 1) scHasDrawers.nd rfl (Or.inl rfl) (pe_op op_cat (pe_lst (pa_cons (pe_tup pa_nil) pa_nil))
        (pe_lockR (pe_lc (own := [("path", 2)]) (g := gName 2) (tt := tTru K (tVar 2)) rfl scHasDrawers.nd (pi_keys (pv 0)) (blkOk_by (N := hdN) (sc := defScope sHasDrawers) (by decide +kernel)) (fun _ _ _ _ _ => pg_name (i := 2) scHasDrawers.nd rfl (Or.inl rfl))
          (fun _ _ _ _ _ => pts_truth (pv 2) (by intro _; rfl)) (fun _ _ _ _ _ => pe_call (E := E0) GA hr (by rfl) mA kA bA .nil passL (pa_cons (pv 2) pa_nil))))))
      (pss_one (ps_ret (pe_all (k := 3) (N := ["tree", "tops", "path", "top"]) (pad := 1) (j := 3) (x := "top") (P := P4) r4 rfl (by rfl) M.all TB rfl (gn_by (N0 := hdN) (sc := defScope sHasDrawers) (by decide +kernel)) (pi_list (pv 1))
        (fun A s H cl C code fp pn hr => pe_and (pe_cmp (pc_din (by have := hr.units; show A.units + 1 < cLine; omega) (pv 3) (pv 0))) (pe_one (pe_cmpR op_eq (pe_ix (r := rIxT K) ix_tup (pe_dget (by have := hr.units; show A.units + 1 < cLine; omega) (pv 0) (pv 3) (fun _ _ => rfl)) pe_int (fun _ _ => rfl)) pe_str (nomark _))))))), ?_⟩
    -- the root in a list
    refine ⟨Nat.zero_le _, fun p0 h0 => ⟨(by show 1 ≤ sizeLine; decide), fun p1 h1 => ?_⟩⟩
    have xa := (Ex.new (o := .tup []) h0).trans (Ex.new (o := .lst [.ref p0]) h1)
    have t0 : PathX (upd (upd H p0 (.tup [])) p1 (.lst [.ref p0])) p0 [] := PathX.ex (Ex.new h1) upd_same
    have l1 : (upd (upd H p0 (.tup [])) p1 (.lst [.ref p0])) p1 = some (.lst [.ref p0]) := upd_same
    generalize upd (upd H p0 (.tup [])) p1 (.lst [.ref p0]) = Ha at xa t0 l1 ⊢
    have hd1 : Rd Ha d (.dT kvs) := xa.rd hd (fun ps z => by cases z)
    -- what is above each path
    refine lock_go hd1 fun H1 od R lk lt lf ld hR => ⟨_, rfl, d, od, rfl, .inr ⟨kvs, ld, fun D hD => ?_⟩⟩
    have hDd : D ≠ d := fun z => by
      rw [z, ld] at hD
      cases hD
    refine lc_it walk_keysT (fun i G => Ex H1 G ∧ ∃ rs : List Addr, G D = some (.lst (rs.map V.ref)) ∧ rs.length ≤ i ∧ Paired (fun r p => PathX G r p) rs (aboveOf (es.take i)))
      ⟨Ex.new hD, [], upd_same, Nat.le_refl _, .nil⟩ (fun i G _ h => h.1.keep _ _ ld (fun ps z => by cases z)) ?_ ?_
    · rintro i x G G' hi ⟨xg, rs, hrs, hlen, hp⟩ ⟨rfl, kk, v, q, hk, rfl, hq⟩
      obtain ⟨en, hen, ek, _⟩ := row.get hk
      have ek : kk = en.1.map Sum.inr := ek
      rw [ek] at hq
      have pq : PathX G' q en.1 := PathX.of_key hq
      have hes : i < es.length := by rw [← row.len]; exact hi
      have etake : es.take (i + 1) = es.take i ++ [en] := by rw [List.take_add_one, hen]; rfl
      have hgo := (hg en (List.mem_of_getElem? hen)).1
      by_cases hn : en.1 = []
      · rw [hn] at pq
        refine ⟨rfl, _, rfl, false, .inr (.inl ⟨[], SqT.of pq, rfl⟩), ?_⟩
        refine iteF ⟨xg, rs, hrs, by omega, ?_⟩
        rw [etake, aboveOf_snoc, if_pos hn]
        exact hp
      · refine ⟨rfl, _, rfl, true, .inr (.inl ⟨en.1.map V.str, SqT.of pq, ?_⟩), ?_⟩
        · cases h : en.1 with
          | nil => exact absurd h hn
          | cons z r => rfl
        refine iteT ⟨_, rfl, .ref q, rfl, xg.tab _ (lt _ (xa.tab _ hT1)), xg.tab _ (lt _ (xa.tab _ hT2)), .inr ⟨q, en.1, rfl, pq.at, hgo, fun G2 r x2 hr2 => ?_⟩⟩
        rcases hr2 with ⟨h, _⟩ | ⟨_, r, rfl, pr⟩
        · exact absurd h hn
        have hrs2 := x2.keep _ _ hrs (fun ps z => by cases z)
        have stay : ∀ {u : Addr} {t : List Str}, PathX G2 u t → PathX (upd G2 D (.lst (rs.map V.ref ++ [.ref r]))) u t := fun {u t} h => by
          show upd _ _ _ _ = _
          rw [upd_ne (ne_of h hrs2 (fun z => by cases z))]
          exact h
        refine ⟨rs.map V.ref, hrs2, ?_, (xg.trans x2).put hD, rs ++ [r], ?_, ?_, ?_⟩
        · rw [List.length_map, sizeLine_eq]
          omega
        · rw [upd_same, List.map_append]
          rfl
        · rw [List.length_append, List.length_singleton]
          omega
        · rw [etake, aboveOf_snoc, if_neg hn]
          exact pairSnoc (F := fun r q => PathX _ r q) (stay pr) (pairImp (fun u t h => stay (PathX.ex x2 h)) hp)
    · rintro G ⟨xg, rs, hrs, hlen, hp⟩
      refine hR (.ref D) G xg fun H2 x2 kp => ?_
      have hrs2 := kp D _ hrs hDd
      have hp2 : Paired (fun r p => PathX H2 r p) rs (aboveOf (es.take kvs.length)) := pairImp (fun u t h => kp u _ h fun z => by
        have hdG := xg.keep _ _ ld (fun ps z => by cases z)
        have h' : G u = some (.tup (t.map V.str)) := h
        rw [z, hdG] at h'
        cases h') hp
      rw [row.len, List.take_length] at hp2
      have l2 := x2.keep _ _ l1 (fun ps z => by cases z)
      refine ⟨p1, D, [.ref p0], rs.map V.ref, rfl, rfl, l2, hrs2, ?_, fun p hp3 => ?_⟩
      · rw [List.length_map, sizeLine_eq, row.len] at *
        show 1 + rs.length ≤ _
        omega
      have x3 := Ex.new (o := .lst ([.ref p0] ++ rs.map V.ref)) hp3
      have all3 : Paired (fun u t => PathX (upd H2 p (.lst ([.ref p0] ++ rs.map V.ref))) u t) (p0 :: rs) (topsOf es) := .cons ((t0.ex x2).ex x3) (pairImp (fun _ _ h => PathX.ex x3 h) hp2)
      have l3 : (upd H2 p (.lst ([.ref p0] ++ rs.map V.ref))) p = some (.lst ((p0 :: rs).map V.ref)) := upd_same
      have x0 := (xa.trans x2).trans x3
      generalize upd H2 p (.lst ([.ref p0] ++ rs.map V.ref)) = H3 at all3 l3 x0 ⊢
      refine ⟨_, rfl, p, rfl, ⟨_, SqL.of l3⟩, x0.tab _ hT4, fun H4 hT => ?_⟩
      have x4 := x0.trans (Ex.tabd hT (x0.tab _ hT4))
      have xt := Ex.tabd hT (x0.tab _ hT4)
      have l4 := xt.keep _ _ l3 (fun ps z => by cases z)
      refine gw_lst (xs := (p0 :: rs).map V.ref) (fun i => dirAt es ((topsOf es).getD i [])) (SqL.of l4) (fun G x => SqL.of (x.keep _ _ l4 (fun ps z => by cases z))) ?_ ?_
      · intro i y G5 hy x5 R5 hR5
        rw [List.getElem?_map] at hy
        obtain ⟨r, hr5, rfl⟩ := Option.map_eq_some_iff.mp hy
        obtain ⟨t, ht, pt⟩ := paired_get all3 hr5
        have px : PathX G5 r t := (PathX.ex xt pt).ex x5
        have hd5 : Rd G5 d (.dT kvs) := (x4.trans x5).rd hd (fun ps z => by cases z)
        have row5 := row.ex (x4.trans x5)
        have et : (topsOf es).getD i [] = t := by rw [List.getD_eq_getElem?_getD, ht]; rfl
        rw [et] at hR5
        refine ⟨_, rfl, _, rfl, d, _, rfl, get_tr hd5 px, _, rfl, ?_⟩
        rcases row5.val (p := t) with ⟨e1, e2⟩ | ⟨v, D0, e1, e2, dv⟩
        · rw [e1]
          refine iteF ?_
          have := hR5 G5 x5
          rwa [show dirAt es t = false by unfold dirAt; rw [e2]] at this
        · rw [e1]
          obtain ⟨en, hen, _, rfl⟩ := valE_mem e2
          obtain ⟨wd, ds, ed⟩ := (hg en hen).2
          rw [ed] at dv
          rcases kn_tuple dv with ⟨a0, ys, ds', rfl, ed', ha, hy⟩ | ⟨hn, _⟩
          rotate_left
          · exact absurd rfl (hn _)
          cases ed'
          obtain ⟨w0, at0, d0⟩ := dpAll_get 0 hy (by simp)
          cases d0
          refine iteT ⟨_, rfl, _, rfl, d, .ref a0, rfl, by have := get_tr hd5 px; rwa [e1] at this, a0, ys, 0, .str wd, rfl, rfl, ha, at_of (j := 0) rfl at0, rfl, ?_⟩
          have := hR5 G5 x5
          rwa [show dirAt es t = decide (V.str wd = V.str "drawer") by
            unfold dirAt
            rw [e2, ed]
            exact decide_eq_decide.mpr ⟨fun e => by rw [e], fun e => by injection e⟩] at this
      · intro G5 x5
        have := k G5 (x4.trans x5)
        have e : (List.range ((p0 :: rs).map V.ref).length).all (fun i => dirAt es ((topsOf es).getD i [])) = roofH es := by
          rw [List.length_map, all3.length, ← topsOf_all]
          exact all_of_range (dirAt es) (topsOf es) _ fun i x e => by rw [List.getD_eq_getElem?_getD, e]; rfl
        rwa [e]
end
/-! ### one text to each number -/
def textsGo : List (L2.Key × V) → List PyData → Bool
  | _, [] => true
  | seen, d :: ds => if fileB d = true then
      (match partD 1 d, partD 2 d with
      | .int n, .str z => match valV seen (Sum.inl n) with
        | some (.str y) => if y = z then textsGo seen ds else false
        | some _ => false
        | none => textsGo (putK seen (Sum.inl n) (.str z)) ds
      | _, _ => false)
    else textsGo seen ds
def oneTextB (ds : List PyData) : Bool := textsGo [] ds
def spOneText (K : PySem.W.Frag) (P3 : Addr) : Sp := fun vs H Q _ => ∃ l xs ds, vs = [.ref l] ∧ SqL K H l xs ∧ (∀ H', Ex H H' → SqL K H' l xs) ∧ DpAll K H xs ds ∧ smallAll ds = true ∧ ds.length ≤ 1000 ∧ TabG H P3 ∧ ∀ H', Ex H H' → Q (.bl (oneTextB ds)) H'
theorem file_parts {d : PyData} (h : fileB d = true) : ∃ ds n z, d = .tuple ds ∧ ds.length = 3 ∧ partD 1 d = .int n ∧ partD 2 d = .str z ∧ ds.getD 1 .none = .int n ∧ ds.getD 2 .none = .str z := by
  unfold fileB at h
  simp only [Bool.and_eq_true] at h
  obtain ⟨h1, h2, h3⟩ := h
  cases d with
  | tuple ds =>
    have hl : ds.length = 3 := by
      have : (decide (ds.length = 3) && headIs "file" (ds.getD 0 .none)) = true := h1
      rw [Bool.and_eq_true] at this
      exact of_decide_eq_true this.1
    have p1 : partD 1 (.tuple ds) = ds.getD 1 .none := rfl
    have p2 : partD 2 (.tuple ds) = ds.getD 2 .none := rfl
    rw [p1] at h2
    rw [p2] at h3
    cases e1 : ds.getD 1 .none with
    | int n =>
      cases e2 : ds.getD 2 .none with
      | str z => exact ⟨ds, n, z, rfl, hl, p1.trans e1, p2.trans e2, e1, e2⟩
      | _ => rw [e2] at h3; exact absurd (show false = true from h3) Bool.false_ne_true
    | _ => rw [e1] at h2; exact absurd (show false = true from h2) Bool.false_ne_true
  | _ => exact absurd (show false = true from h1) Bool.false_ne_true
theorem textsGo_not {seen : List (L2.Key × V)} {d : PyData} {ds : List PyData} (h : fileB d = false) : textsGo seen (d :: ds) = textsGo seen ds := by
  rw [textsGo, if_neg (by rw [h]; decide)]
theorem textsGo_new {seen : List (L2.Key × V)} {d : PyData} {ds : List PyData} {n : Int} {z : Str} (h : fileB d = true) (h1 : partD 1 d = .int n) (h2 : partD 2 d = .str z) (hn : valV seen (Sum.inl n) = none) :
    textsGo seen (d :: ds) = textsGo (putK seen (Sum.inl n) (.str z)) ds := by
  rw [textsGo, if_pos h, h1, h2]
  simp only [hn]
theorem textsGo_old {seen : List (L2.Key × V)} {d : PyData} {ds : List PyData} {n : Int} {z y : Str} (h : fileB d = true) (h1 : partD 1 d = .int n) (h2 : partD 2 d = .str z) (hn : valV seen (Sum.inl n) = some (.str y)) :
    textsGo seen (d :: ds) = if y = z then textsGo seen ds else false := by
  rw [textsGo, if_pos h, h1, h2]
  simp only [hn]
section
variable {P : Program} {w : World} {K : PySem.W.Frag} {mg : Str → Option Value} {base : Heap}
abbrev otN : List Str := ["things", "texts", "thing"]
theorem scHasOneText : FnScope otN ["things"] (defScope sHasOneText) := ⟨rfl, rfl, rfl, by decide +kernel, rfl, by decide +kernel, by decide +kernel⟩
theorem ok_hasOneText {f fF P3 : Addr} {fd fdF : FuncData} (F : Fun K "has_one_text_each" "has_one_text_each" sHasOneText f fd)
    (GF : FnOk P w K mg base CX0 4 fF fdF ["thing"] (spIsFile K P3)) (mF : mg "is_file" = some (.ref fF)) (kF : PySem.W.keepIn K (.ref fF) = true) (bF : Binds K fdF ["thing"] []) :
    FnOk P w K mg base CX0 5 f fd ["things"] (spOneText K P3) := by
  refine F.ok scHasOneText (fun vs H Q E h => ?_) (fun cdv A outer s H vs Q E hr h => ?_)
  · obtain ⟨l, xs, ds, rfl, _⟩ := h
    rfl
  · obtain ⟨l, xs, ds, rfl, hl, hst, hx, hsm, hlen, hT, k⟩ := h
    refine ⟨_, pss_cons (ps_set (i := 1) scHasOneText.nd rfl (Or.inl rfl) pe_dnewK)
      (pss_cons (ps_for PassesOwn.never rfl (pi_list (pv 0)) (pg_name (i := 2) scHasOneText.nd rfl (Or.inl rfl))
        (pss_one (ps_if (PW.pt (pw_and (pt_val (pe_call (E := E0) GF hr (by rfl) mF kF bF .nil pass0 (pa_cons (pv 2) pa_nil)))
          (pw_and1 (pt_cmpR op_ne (pe_bm PySem.F.plainAttrs_dict PySem.F.slot_dict_setdefault PySem.F.type_dict_setdefault mt_setDef (pv 1) (pa_cons (pe_ix ix_tup (pv 2) pe_int (fun _ _ => rfl)) (pa_cons (pe_ix ix_tup (pv 2) pe_int (fun _ _ => rfl)) pa_nil)))
            (pe_ix ix_tup (pv 2) pe_int (fun _ _ => rfl)) (nomark _))))) (pss_one (ps_ret pe_bl)) pss_nil)))
      (pss_one (ps_ret pe_bl))), ?_⟩
    intro p hp
    have hld := dpAll_len hx
    have xp := Ex.new (o := .dK []) hp
    refine ⟨_, rfl, l, rfl, ⟨xs, hst _ xp⟩, for_it walk_list (fun i σ G => (∃ v, σ = [some (.ref l), some (.ref p), v]) ∧ Ex H G ∧ ∃ seen : List (L2.Key × V), G p = some (.dK seen) ∧ seen.length ≤ i ∧ (∀ k v, valV seen k = some v → ∃ z, v = .str z) ∧
      textsGo seen (ds.drop i) = oneTextB ds) ⟨⟨none, rfl⟩, xp, [], upd_same, Nat.le_refl _, (fun k v h => by cases h), rfl⟩ (fun i σ G _ h => hst G h.2.1) ?_ ?_⟩
    · rintro i x σ G G' hi ⟨⟨v, rfl⟩, xg, seen, hs, hsl, hstr, hgo⟩ ⟨rfl, hxi⟩
      obtain ⟨v', hv', dv⟩ := dpAll_get i hx (by rw [← hld]; exact hi)
      rw [hxi] at hv'
      cases hv'
      have hdrop : ds.drop i = ds.getD i .none :: ds.drop (i + 1) := by
        have hi2 : i < ds.length := by rw [← hld]; exact hi
        rw [List.drop_eq_getElem_cons hi2, List.getD_eq_getElem?_getD, List.getElem?_eq_getElem hi2]
        rfl
      have sm := smallAll_get i hsm (by rw [← hld]; exact hi)
      rw [hdrop] at hgo
      generalize ds.getD i .none = d at dv sm hgo
      have dv := Dp_ex xg dv
      refine ⟨_, rfl, x, d, rfl, dv, sm, xg.tab _ hT, fun G1 x1 => ?_⟩
      have hs1 := x1.keep _ _ hs (fun ps z => by cases z)
      have x01 := xg.trans x1
      cases hf : fileB d with
      | false =>
        rw [textsGo_not hf] at hgo
        refine ⟨_, rfl, iteF (iteF ⟨⟨_, rfl⟩, x01, seen, hs1, by omega, hstr, hgo⟩)⟩
      | true =>
        obtain ⟨fs, n, z, rfl, hl3, e1, e2, g1, g2⟩ := file_parts hf
        obtain ⟨a, ys, ds', rfl, ed, ha, hy⟩ | ⟨hn, _⟩ := kn_tuple (Dp_ex x1 dv)
        · cases ed
          obtain ⟨v1, at1, d1⟩ := dpAll_get 1 hy (by omega)
          obtain ⟨v2, at2, d2⟩ := dpAll_get 2 hy (by omega)
          rw [g1] at d1
          rw [g2] at d2
          cases d1
          cases d2
          have a1 : atI ys 1 = some (.int n) := at_of (j := 1) rfl at1
          have a2 : atI ys 2 = some (.str z) := at_of (j := 2) rfl at2
          have hl4 : seen.length < sizeLine := by
            rw [sizeLine_eq]
            omega
          refine ⟨_, rfl, iteT ⟨_, rfl, .inr (.inr (.inl ⟨rfl, .inl ⟨_, hs1⟩⟩)), _, rfl, a, ys, 1, .int n, rfl, rfl, ha, a1, _, rfl, a, ys, 2, .str z, rfl, rfl, ha, a2, p, seen, .inl n, .str z, rfl, rfl, hs1, hl4, fun y hyv => ?_, fun hnv => ?_⟩⟩
          · obtain ⟨y, rfl⟩ := hstr _ _ hyv
            rw [textsGo_old hf e1 e2 hyv] at hgo
            refine ⟨_, rfl, a, ys, 2, .str z, rfl, rfl, ha, a2, rfl, _, rfl, ?_⟩
            by_cases hyz : y = z
            · subst hyz
              rw [if_pos rfl] at hgo
              rw [decide_eq_true rfl]
              exact iteF ⟨⟨_, rfl⟩, x01, seen, hs1, by omega, hstr, hgo⟩
            · rw [if_neg hyz] at hgo
              rw [decide_eq_false (fun e => hyz (by injection e))]
              refine iteT ?_
              have := k G1 x01
              rwa [← hgo] at this
          · rw [textsGo_new hf e1 e2 hnv] at hgo
            have put : Ex H (upd G1 p (.dK (putK seen (Sum.inl n) (.str z)))) := x01.put hp
            have ha2 : SqT K (upd G1 p (.dK (putK seen (Sum.inl n) (.str z)))) a ys := by
              have hd1 : Rd G1 p (.dK seen) := Or.inl hs1
              rcases ha with (h | ⟨o, h⟩) | h
              · exact Or.inl (Or.inl (by rw [upd_ne (ne_of h hs1 (fun z => by cases z))]; exact h))
              · exact Or.inl (Or.inr ⟨o, by rw [upd_ne (ne_of h hs1 (fun z => by cases z))]; exact h⟩)
              · exact Or.inr h
            refine ⟨_, rfl, a, ys, 2, .str z, rfl, rfl, ha2, a2, rfl, _, rfl, ?_⟩
            rw [decide_eq_true rfl]
            refine iteF ⟨⟨_, rfl⟩, put, putK seen (Sum.inl n) (.str z), upd_same, ?_, fun k v hkv => ?_, hgo⟩
            · have := length_putK seen (Sum.inl n) (V.str z)
              omega
            · rw [valV_put] at hkv
              split at hkv
              · exact ⟨z, (Option.some.inj hkv).symm⟩
              · exact hstr k v hkv
        · exact absurd rfl (hn fs)
    · rintro σ G ⟨⟨v, rfl⟩, xg, seen, hs, hsl, hstr, hgo⟩
      have : ds.drop xs.length = [] := by rw [hld, List.drop_length]
      rw [this] at hgo
      have hk := k G xg
      rwa [← hgo] at hk
end
/-! ### is_tree -/
def treeB (es : Ents) : Bool := decide (es.length ≤ 80) && ((es.all fun e => goodPath e.1) && ((es.all fun e => drawerB e.2 || fileB e.2) && (roofB es && oneTextB (es.map (·.2)))))
/-- nothing in it is longer than a line -/
def smallE (es : Ents) : Prop := (∀ e ∈ es, (∀ z ∈ e.1, z.length ≤ sizeLine) ∧ smallD e.2 = true) ∧ es.length ≤ 1000
structure Tabs5 (H : Hp) (P1 P2 P3 P4 P5 : Addr) : Prop where
  t1 : TabG H P1
  t2 : TabG H P2
  t3 : TabG H P3
  t4 : TabG H P4
  t5 : TabG H P5
theorem Tabs5.ex {H H' : Hp} {P1 P2 P3 P4 P5 : Addr} (x : Ex H H') (T : Tabs5 H P1 P2 P3 P4 P5) : Tabs5 H' P1 P2 P3 P4 P5 := ⟨x.tab _ T.t1, x.tab _ T.t2, x.tab _ T.t3, x.tab _ T.t4, x.tab _ T.t5⟩
/-- is the thing a tree? -/
inductive TreeQ (K : PySem.W.Frag) (H : Hp) : V → Bool → Prop
  | dict {d : Addr} {es : Ents} (t : TrAt K H d es) (s : smallE es) : TreeQ K H (.ref d) (treeB es)
  | oth {v : V} {n : String} (k : Kn K H v n) (h : n ≠ "dict") : TreeQ K H v false
  | mix {d : Addr} {ob : Obj} {q : Addr} {z : Str} {p : List Str} (e : H d = some (mixO d ob q z)) (px : PathX H q p) (gp : goodPath p = true) : TreeQ K H (.ref d) false
theorem TreeQ.ex {K : PySem.W.Frag} {H H' : Hp} {v : V} {b : Bool} (x : Ex H H') (h : TreeQ K H v b) : TreeQ K H' v b := by
  cases h with
  | dict t s => exact .dict (t.ex x) s
  | oth k h => exact .oth (k.ex x) h
  | mix e px gp => exact .mix (x.keep _ _ e (fun ps z => by cases z)) (PathX.ex x px) gp
def rLenX : List V → Hp → VK → Prop := fun xs H Q => rLenR xs H Q ∨ rLenM xs H Q
theorem call_lenX {X : Cx} : CallR X (.builtin "len") rLenX := by
  intro pins s σ H xs us Q I r h
  rcases h with h | h
  · exact call_lenR pins s σ H xs us Q I r h
  · exact call_lenM pins s σ H xs us Q I r h
def spIsTree (K : PySem.W.Frag) (P1 P2 P3 P4 P5 : Addr) : Sp := fun vs H Q _ => ∃ v b, vs = [v] ∧ TreeQ K H v b ∧ Tabs5 H P1 P2 P3 P4 P5 ∧ ∀ H', Ex H H' → Q (.bl b) H'
def pathOf (k : List L2.Key) : List Str := k.map fun x => match x with
  | .inr z => z
  | .inl _ => ""
theorem pathOf_inr (p : List Str) : pathOf (p.map Sum.inr) = p := by
  unfold pathOf
  rw [List.map_map]
  exact List.map_id' p
theorem row_dpAll {K : PySem.W.Frag} {H : Hp} : ∀ {kvs : List (List L2.Key × V)} {es : Ents}, RowE K H kvs es → DpAll K H (kvs.map (·.2)) (es.map (·.2))
  | _, _, .nil => .nil
  | _, _, .cons a t => .cons a.2 (row_dpAll t)
theorem smallAll_of : ∀ {ds : List PyData}, (∀ d ∈ ds, smallD d = true) → smallAll ds = true
  | [], _ => by unfold smallAll; rfl
  | d :: ds, h => by
    unfold smallAll
    rw [h d (List.mem_cons_self ..), smallAll_of fun x hx => h x (List.mem_cons_of_mem _ hx)]
    rfl
section
variable {P : Program} {w : World} {K : PySem.W.Frag} {mg : Str → Option Value} {base : Heap}
abbrev itN : List Str := ["thing", "things"]
theorem scIsTree : FnScope itN ["thing"] (defScope sIsTree) := ⟨rfl, rfl, rfl, by decide +kernel, rfl, by decide +kernel, by decide +kernel⟩
theorem ok_isTree {f c fP fD fF fH fO P1 P2 P3 P4 P5 : Addr} {fd fdP fdD fdF fdH fdO : FuncData} (F : FunC K "is_tree" "is_tree" sIsTree f fd c) (M : Mg mg) (R : MgR mg) (TB : LamX.TabB base mg c P5)
    (GP : FnOk P w K mg base CX0 5 fP fdP ["thing"] (spIsPath K P1 P2)) (mP : mg "is_path" = some (.ref fP)) (kP : PySem.W.keepIn K (.ref fP) = true) (bP : Binds K fdP ["thing"] [])
    (GD : FnOk P w K mg base CX0 2 fD fdD ["thing"] (spIsDrawer K)) (mD : mg "is_drawer" = some (.ref fD)) (kD : PySem.W.keepIn K (.ref fD) = true) (bD : Binds K fdD ["thing"] [])
    (GF : FnOk P w K mg base CX0 4 fF fdF ["thing"] (spIsFile K P3)) (mF : mg "is_file" = some (.ref fF)) (kF : PySem.W.keepIn K (.ref fF) = true) (bF : Binds K fdF ["thing"] [])
    (GH : FnOk P w K mg base CX0 8 fH fdH ["tree"] (spHasDrawers K P1 P2 P4)) (mH : mg "has_drawers_above" = some (.ref fH)) (kH : PySem.W.keepIn K (.ref fH) = true) (bH : Binds K fdH ["tree"] [])
    (GO : FnOk P w K mg base CX0 5 fO fdO ["things"] (spOneText K P3)) (mO : mg "has_one_text_each" = some (.ref fO)) (kO : PySem.W.keepIn K (.ref fO) = true) (bO : Binds K fdO ["things"] []) :
    FnOk P w K mg base CX0 9 f fd ["thing"] (spIsTree K P1 P2 P3 P4 P5) := by
  refine F.ok scIsTree (fun vs H Q E h => ?_) (fun A outer s H vs Q E hr h => ?_)
  · obtain ⟨v, b, rfl, _⟩ := h
    rfl
  · obtain ⟨v, b, rfl, hq, T, k⟩ := h
    obtain ⟨tm, hm⟩ := R.mostPaths
    have r6 := hr.mono (show 6 ≤ 8 by decide)
    have r5 := hr.mono (show 5 ≤ 8 by decide)
    refine ⟨_, pss_cons (ps_if (PW.pt (pw_or (pt_not (pt_val (pe_callB call_isR (by rfl) M.isinstance boot_isinstance (pa_cons (pv 0) (pa_cons (pe_bltn (v := .ty "dict") (by rfl) R.dict (by decide +kernel) rfl) pa_nil)))))
        (pw_or1 (pt_cmpR op_gt (pe_callB call_lenX (by rfl) M.len PySem.boot_len (pa_cons (pv 0) pa_nil)) (pe_glob (v := .int 80) (by rfl) hm ⟨_, rfl⟩) (nomark _))))) (pss_one (ps_ret pe_bl)) pss_nil)
      (pss_cons (ps_if (pt_not (pt_val (pe_lockR (pe_all (k := 5) (N := ["thing", "things", "path"]) (pad := 1) (j := 2) (x := "path") (P := P5) r6 rfl (by rfl) M.all TB rfl (gn_by (N0 := itN) (sc := defScope sIsTree) (by decide +kernel)) (pi_keysX (pv 0))
          (fun A s H cl C code fp pn hr => pe_call (E := E0) GP hr (by rfl) mP kP bP .nil pass0 (pa_cons (pv 2) pa_nil)))))) (pss_one (ps_ret pe_bl)) pss_nil)
      (pss_cons (ps_set (i := 1) scIsTree.nd rfl (Or.inl rfl) (pe_callTy (call_listVals rfl) (by rfl) R.list (by decide +kernel) (pa_cons (pe_vals (pv 0)) pa_nil)))
      (pss_cons (ps_if (pt_not (pt_val (pe_all (k := 4) (N := ["thing", "things", "what"]) (pad := 1) (j := 2) (x := "what") (P := P5) r5 rfl (by rfl) M.all TB rfl (gn_by (N0 := itN) (sc := defScope sIsTree) (by decide +kernel)) (pi_list (pv 1))
          (fun A s H cl C code fp pn hr => pe_or (pe_call (E := E0) GD (hr.mono (by decide)) (by rfl) mD kD bD .nil pass0 (pa_cons (pv 2) pa_nil)) (pe_one (pe_call (E := E0) GF hr (by rfl) mF kF bF .nil pass0 (pa_cons (pv 2) pa_nil))))))) (pss_one (ps_ret pe_bl)) pss_nil)
      (pss_one (ps_ret (pe_and (pe_call (E := E0) GH hr (by rfl) mH kH bH .nil pass0 (pa_cons (pv 0) pa_nil)) (pe_one (pe_call (E := E0) GO r5 (by rfl) mO kO bO .nil pass0 (pa_cons (pv 1) pa_nil))))))))), ?_⟩
    cases hq with
    | oth kn hn =>
      rename_i n
      refine ⟨_, rfl, .inl ⟨v, n, "dict", rfl, kn, rfl, _, rfl, ?_⟩⟩
      rw [kn.is hn (fun _ => by decide)]
      exact iteT (k H (Ex.refl H))
    | mix e px gp =>
      rename_i d ob q z p
      refine ⟨_, rfl, .inl ⟨.ref d, "dict", "dict", rfl, .dX e (fun h x => mixO_dict x), rfl, _, rfl, ?_⟩⟩
      rw [show isB "dict" "dict" = true by decide]
      refine iteF ⟨_, rfl, .inr ⟨d, ob, q, z, rfl, e, _, _, rfl, rfl, _, rfl, ?_⟩⟩
      rw [decide_eq_false (show ¬ (80 : Int) < 2 by decide)]
      refine iteF (.inr (.inr ⟨_, rfl, d, ob, q, z, rfl, e, T.t5, fun H2 hT => ?_⟩))
      have x2 : Ex H H2 := Ex.tabd hT T.t5
      have e2 := x2.keep _ _ e (fun ps z => by cases z)
      refine gw_all (n := 2) (fun i => decide (i = 0)) (fun G x => ⟨x.keep _ _ e2 (fun ps z => by cases z), Nat.le_refl _⟩) (fun i G h x => ⟨x.keep _ _ e2 (fun ps z => by cases z), h⟩) ?_ fun G x => ?_
      · rintro i G y G' hi x ⟨rfl, hy⟩ R2 hR2
        rcases hy with ⟨rfl, rfl⟩ | ⟨rfl, rfl⟩
        · refine ⟨_, rfl, .ref q, true, rfl, ((PathX.ex (x2.trans x) px).at).yes gp, x.tab _ (x2.tab _ T.t1), x.tab _ (x2.tab _ T.t2), fun H' x' => hR2 H' (x.trans x')⟩
        · refine ⟨_, rfl, .str z, false, rfl, .oth (.str z) (by decide), x.tab _ (x2.tab _ T.t1), x.tab _ (x2.tab _ T.t2), fun H' x' => hR2 H' (x.trans x')⟩
      · refine ⟨_, rfl, ?_⟩
        rw [show ((List.range 2).all fun i => decide (i = 0)) = false by decide]
        exact iteT (k G (x2.trans x))
    | dict t sm =>
      rename_i d es
      obtain ⟨kvs, hd, row⟩ := t
      obtain ⟨sm1, sm2⟩ := sm
      refine ⟨_, rfl, .inr ⟨d, kvs, rfl, hd, _, rfl, iteF ⟨_, rfl, .inl ⟨d, kvs, rfl, hd, _, _, rfl, rfl, _, rfl, ?_⟩⟩⟩⟩
      have hl := row.len
      by_cases h80 : (80 : Int) < ((kvs.length : Nat) : Int)
      · rw [decide_eq_true h80]
        refine iteT ?_
        have := k H (Ex.refl H)
        rwa [show treeB es = false by
          unfold treeB
          rw [decide_eq_false (p := es.length ≤ 80) (by omega), Bool.false_and]] at this
      rw [decide_eq_false h80]
      refine iteF ?_
      have e80 : decide (es.length ≤ 80) = true := decide_eq_true (by omega)
      -- the paths
      refine lock_go hd fun H1 od R' lk lt lf ld hR => .inl ⟨_, rfl, d, od, rfl, .inr ⟨kvs, ld, lt _ T.t5, fun H2 hT => ?_⟩⟩
      have x12 : Ex H1 H2 := Ex.tabd hT (lt _ T.t5)
      have ld2 := x12.keep _ _ ld (fun ps z => by cases z)
      refine gw_keysT (fun kv => goodPath (pathOf kv.1)) ld2 (fun kv q G hm x hq R2 hR2 => ?_) fun G x => ?_
      · obtain ⟨i, hi⟩ := List.mem_iff_getElem?.mp hm
        obtain ⟨en, hen, ek, _⟩ := row.get hi
        rw [ek] at hq
        have px : PathX G q en.1 := PathX.of_key hq
        refine ⟨_, rfl, .ref q, _, rfl, px.at.b (sm1 en (List.mem_of_getElem? hen)).1, x.tab _ (x12.tab _ (lt _ T.t1)), x.tab _ (x12.tab _ (lt _ T.t2)), fun H' x' => ?_⟩
        have := hR2 H' (x.trans x')
        rwa [ek, pathOf_inr] at this
      refine hR _ G (x12.trans x) fun H3 x3 kp => ⟨_, rfl, ?_⟩
      have eg : (kvs.all fun kv => goodPath (pathOf kv.1)) = es.all fun e => goodPath e.1 := RowE.all _ _ (fun kv e h1 _ => by rw [h1, pathOf_inr]) row
      rw [eg]
      cases hgood : (es.all fun e => goodPath e.1) with
      | false =>
        refine iteT ?_
        have := k H3 x3
        rwa [show treeB es = false by
          unfold treeB
          rw [hgood, Bool.false_and, Bool.and_false]] at this
      | true =>
        refine iteF ?_
        have T3 := T.ex x3
        have hd3 : Rd H3 d (.dT kvs) := x3.rd hd (fun ps z => by cases z)
        have row3 := row.ex x3
        -- what stands there
        refine ⟨_, rfl, d, kvs, rfl, hd3, fun p hp => ?_⟩
        have xv := Ex.new (o := valsO p d) hp
        refine ⟨p, d, kvs, rfl, upd_same, xv.rd hd3 (fun ps z => by cases z), fun l hl2 => ?_⟩
        have xl := Ex.new (o := .lst (kvs.map (·.2))) hl2
        have l1 : (upd (upd H3 p (valsO p d)) l (.lst (kvs.map (·.2)))) l = some (.lst (kvs.map (·.2))) := upd_same
        have x4 := xv.trans xl
        generalize upd (upd H3 p (valsO p d)) l (.lst (kvs.map (·.2))) = H4 at l1 x4 ⊢
        have T4 := T3.ex x4
        have row4 := row3.ex x4
        refine ⟨_, rfl, l, rfl, ⟨_, SqL.of l1⟩, T4.t5, fun H5 hT5 => ?_⟩
        have x5 := Ex.tabd hT5 T4.t5
        have l5 := x5.keep _ _ l1 (fun ps z => by cases z)
        have row5 := row4.ex x5
        have T5 := T4.ex x5
        have dps := row_dpAll row5
        refine gw_lst (xs := kvs.map (·.2)) (fun i => drawerB ((es.map (·.2)).getD i .none) || fileB ((es.map (·.2)).getD i .none)) (SqL.of l5) (fun G x => SqL.of (x.keep _ _ l5 (fun ps z => by cases z))) (fun i y G hy x R2 hR2 => ?_) fun G x => ?_
        · have hi : i < es.length := by
            have := (List.getElem?_eq_some_iff.mp hy).1
            rw [List.length_map] at this
            omega
          obtain ⟨v', hv', dv⟩ := dpAll_get i dps (by rw [List.length_map]; exact hi)
          rw [hy] at hv'
          cases hv'
          have hm : (es.map (·.2)).getD i .none ∈ es.map (·.2) := by
            rw [List.getD_eq_getElem?_getD, List.getElem?_eq_getElem (by rw [List.length_map]; exact hi)]
            exact List.getElem_mem _
          have sd : smallD ((es.map (·.2)).getD i .none) = true := by
            obtain ⟨e, he, ee⟩ := List.mem_map.mp hm
            rw [← ee]
            exact (sm1 e he).2
          generalize (es.map (·.2)).getD i .none = D at dv sd hR2
          have dv := Dp_ex x dv
          refine ⟨_, rfl, y, D, rfl, dv, _, rfl, ?_⟩
          cases hdr : drawerB D with
          | true =>
            refine iteT ?_
            have := hR2 G x
            rwa [hdr, Bool.true_or] at this
          | false =>
            refine iteF ⟨_, rfl, y, D, rfl, dv, sd, x.tab _ T5.t3, fun H' x' => ?_⟩
            have := hR2 H' (x.trans x')
            rwa [hdr, Bool.false_or] at this
        · refine ⟨_, rfl, ?_⟩
          have ew : (List.range (kvs.map (·.2)).length).all (fun i => drawerB ((es.map (·.2)).getD i .none) || fileB ((es.map (·.2)).getD i .none)) = es.all fun e => drawerB e.2 || fileB e.2 := by
            have e1 := all_of_range (fun d => drawerB d || fileB d) (es.map (·.2)) (fun i => drawerB ((es.map (·.2)).getD i .none) || fileB ((es.map (·.2)).getD i .none)) fun i x e => by
              rw [List.getD_eq_getElem?_getD, e]
              rfl
            rw [List.length_map] at e1 ⊢
            rw [hl, e1, List.all_map]
            rfl
          rw [ew]
          cases hthing : (es.all fun e => drawerB e.2 || fileB e.2) with
          | false =>
            refine iteT ?_
            have := k G (((x3.trans x4).trans x5).trans x)
            rwa [show treeB es = false by
              unfold treeB
              rw [hthing, Bool.false_and, Bool.and_false, Bool.and_false]] at this
          | true =>
            refine iteF ?_
            have xG := ((x3.trans x4).trans x5).trans x
            have TG := T.ex xG
            have lG := x.keep _ _ l5 (fun ps z => by cases z)
            have hgs : ∀ e ∈ es, goodPath e.1 = true := List.all_eq_true.mp hgood
            have et : treeB es = (roofB es && oneTextB (es.map (·.2))) := by
              unfold treeB
              rw [e80, hgood, hthing, Bool.true_and, Bool.true_and, Bool.true_and]
            have hth : ∀ e ∈ es, drawerB e.2 = true ∨ fileB e.2 = true := fun e he => (Bool.or_eq_true _ _).mp (List.all_eq_true.mp hthing e he)
            refine ⟨_, rfl, d, es, rfl, ⟨kvs, xG.rd hd (fun ps z => by cases z), row.ex xG⟩, (fun e he => ⟨hgs e he, tree_headed (hth e he)⟩), sm2, TG.t1, TG.t2, TG.t4, fun H6 x6 => ⟨_, rfl, ?_⟩⟩
            rw [roof_tree hth]
            cases hroof : roofB es with
            | false =>
              refine iteF ?_
              have := k H6 (xG.trans x6)
              rwa [et, hroof, Bool.false_and] at this
            | true =>
              have l6 := x6.keep _ _ lG (fun ps z => by cases z)
              refine iteT ⟨_, rfl, l, kvs.map (·.2), es.map (·.2), rfl, SqL.of l6, fun H' x' => SqL.of (x'.keep _ _ l6 (fun ps z => by cases z)), row_dpAll (row.ex (xG.trans x6)), smallAll_of fun d hd => ?_, by rw [List.length_map]; exact sm2, (TG.ex x6).t3, fun H7 x7 => ?_⟩
              · obtain ⟨e, he, rfl⟩ := List.mem_map.mp hd
                exact (sm1 e he).2
              · have := k H7 ((xG.trans x6).trans x7)
                rwa [et, hroof, Bool.true_and] at this
end
/-! ### check_tree, names_in -/
def spCheckTree (K : PySem.W.Frag) (P1 P2 P3 P4 P5 C : Addr) : Sp := fun vs H Q E => ∃ v b, vs = [v] ∧ TreeQ K H v b ∧ Tabs5 H P1 P2 P3 P4 P5 ∧ (b = true → ∀ H', Ex H H' → Q .non H') ∧ (b = false → ∀ H', Ex H H' → E (.ref C) none H')
section
variable {P : Program} {w : World} {K : PySem.W.Frag} {mg : Str → Option Value} {base : Heap}
theorem scCheckTree : FnScope ["thing"] ["thing"] (defScope sCheckTree) := ⟨rfl, rfl, rfl, by decide +kernel, rfl, by decide +kernel, by decide +kernel⟩
theorem ok_checkTree {f f2 P1 P2 P3 P4 P5 C : Addr} {fd fd2 : FuncData} (F : Fun K "check_tree" "check_tree" sCheckTree f fd) (R : Ref K mg "NoTree" C)
    (G2 : FnOk P w K mg base CX0 9 f2 fd2 ["thing"] (spIsTree K P1 P2 P3 P4 P5)) (m2 : mg "is_tree" = some (.ref f2)) (k2 : PySem.W.keepIn K (.ref f2) = true) (b2 : Binds K fd2 ["thing"] []) :
    FnOk P w K mg base (L2.CX P w) 10 f fd ["thing"] (spCheckTree K P1 P2 P3 P4 P5 C) := by
  refine F.okX scCheckTree (fun vs H Q E h => ?_) (fun cdv A outer s H vs Q E hr h => ?_)
  · obtain ⟨v, b, rfl, _⟩ := h
    rfl
  · obtain ⟨v, b, rfl, hq, T, kt, kf⟩ := h
    refine ⟨_, pss_one (ps_if (pt_not (pt_val (pe_call (E := E0) G2 hr (by rfl) m2 k2 b2 .nil pass0 (pa_cons (pv 0) pa_nil))))
      (pss_one (ps_raise rfl (takes_of rfl rfl rfl rfl) (pmk_own PySem.F.excBase_ValueError R.x R.g R.k (raises_own R.b R.t) rfl))) pss_nil), ?_⟩
    refine ⟨_, rfl, v, b, rfl, hq, T, fun H' x => ⟨_, rfl, ?_⟩⟩
    cases b with
    | true => exact iteF (kt rfl H' x)
    | false => exact iteT (kf rfl H' x)
end
/-- what is_tree says of a tree -/
theorem treeB_parts {es : Ents} (h : treeB es = true) : es.length ≤ 80 ∧ (∀ e ∈ es, goodPath e.1 = true) ∧ (∀ e ∈ es, drawerB e.2 = true ∨ fileB e.2 = true) ∧ roofB es = true ∧ oneTextB (es.map (·.2)) = true := by
  unfold treeB at h
  simp only [Bool.and_eq_true, decide_eq_true_eq, List.all_eq_true, Bool.or_eq_true] at h
  exact ⟨h.1, h.2.1, h.2.2.1, h.2.2.2.1, h.2.2.2.2⟩
/-! ### entries of a layer -/
def boolB : PyData → Bool
  | .bool _ => true
  | _ => false
def entryB (d : PyData) : Bool := if kindB "drawer" 2 d = true then boolB (partD 1 d) else kindB "gone" 1 d || fileB d
def spIsEntry (K : PySem.W.Frag) (P3 : Addr) : Sp := fun vs H Q _ => ∃ v d, vs = [v] ∧ Dp K H v d ∧ smallD d = true ∧ TabG H P3 ∧ ∀ H', Ex H H' → Q (.bl (entryB d)) H'
theorem entry_headed {d : PyData} (h : entryB d = true) : headedD d := by
  unfold entryB at h
  split at h
  · rename_i hk
    obtain ⟨ds, e⟩ := kind_headed (by decide) hk
    exact ⟨_, _, e⟩
  · rcases (Bool.or_eq_true _ _).mp h with h | h
    · obtain ⟨ds, e⟩ := kind_headed (by decide) h
      exact ⟨_, _, e⟩
    · obtain ⟨ds, e⟩ := kind_headed (by decide) (file_kind h)
      exact ⟨_, _, e⟩
theorem boolB_not {K : PySem.W.Frag} {H : Hp} {v : V} {d : PyData} {n : String} (h : Dp K H v d) (kn : Kn K H v n) : isB n "bool" = boolB d := by
  cases h <;> cases kn <;> first | rfl | decide
section
variable {P : Program} {w : World} {K : PySem.W.Frag} {mg : Str → Option Value} {base : Heap}
theorem scIsEntry : FnScope ["thing"] ["thing"] (defScope sIsEntry) := ⟨rfl, rfl, rfl, by decide +kernel, rfl, by decide +kernel, by decide +kernel⟩
theorem ok_isEntry {f f1 f2 P3 : Addr} {fd fd1 fd2 : FuncData} (F : Fun K "_is_entry" "_is_entry" sIsEntry f fd) (M : Mg mg) (R : MgR mg)
    (G1 : FnOk P w K mg base CX0 1 f1 fd1 ["thing", "word", "many"] (spIsKind K)) (m1 : mg "is_kind" = some (.ref f1)) (k1 : PySem.W.keepIn K (.ref f1) = true) (b1 : Binds K fd1 ["thing", "word", "many"] [])
    (G2 : FnOk P w K mg base CX0 4 f2 fd2 ["thing"] (spIsFile K P3)) (m2 : mg "is_file" = some (.ref f2)) (k2 : PySem.W.keepIn K (.ref f2) = true) (b2 : Binds K fd2 ["thing"] []) :
    FnOk P w K mg base CX0 5 f fd ["thing"] (spIsEntry K P3) := by
  refine F.ok scIsEntry (fun vs H Q E h => ?_) (fun cdv A outer s H vs Q E hr h => ?_)
  · obtain ⟨v, d, rfl, _⟩ := h
    rfl
  · obtain ⟨v, d, rfl, hd, sd, hT, k⟩ := h
    have r1 := hr.mono (show 1 ≤ 4 by decide)
    refine ⟨_, pss_cons (ps_if (pt_val (pe_call (E := E0) G1 r1 (by rfl) m1 k1 b1 .nil pass0 (pa_cons (pv 0) (pa_cons pe_str (pa_cons pe_int pa_nil)))))
        (pss_one (ps_ret (pe_callB call_is (by rfl) M.isinstance boot_isinstance (pa_cons (pe_ix ix_tup (pv 0) pe_int (fun _ _ => rfl)) (pa_cons (pe_bltn (v := .ty "bool") (by rfl) R.bool (by decide +kernel) rfl) pa_nil))))) pss_nil)
      (pss_one (ps_ret (pe_or (pe_call (E := E0) G1 r1 (by rfl) m1 k1 b1 .nil pass0 (pa_cons (pv 0) (pa_cons pe_str (pa_cons pe_int pa_nil)))) (pe_one (pe_call (E := E0) G2 hr (by rfl) m2 k2 b2 .nil pass0 (pa_cons (pv 0) pa_nil)))))), ?_⟩
    refine ⟨_, rfl, v, d, "drawer", 2, rfl, by decide, hd, _, rfl, ?_⟩
    unfold entryB at k
    cases hk : kindB "drawer" 2 d with
    | true =>
      rw [if_pos hk] at k
      rcases kn_tuple hd with ⟨a, xs, ds, rfl, rfl, ha, hx⟩ | ⟨hn, _⟩
      · have hl : ds.length = 2 := by
          have : (decide (ds.length = 2) && headIs "drawer" (ds.getD 0 .none)) = true := hk
          rw [Bool.and_eq_true] at this
          exact of_decide_eq_true this.1
        obtain ⟨v1, h1, d1⟩ := dpAll_get 1 hx (by omega)
        obtain ⟨n, kn⟩ := Dp_kn d1
        refine iteT ⟨_, rfl, a, xs, 1, v1, rfl, rfl, ha, at_of (j := 1) rfl h1, v1, n, "bool", rfl, kn, rfl, ?_⟩
        rw [boolB_not d1 kn]
        exact k H (Ex.refl H)
      · rw [kindB_not hn] at hk
        cases hk
    | false =>
      rw [if_neg (by rw [hk]; decide)] at k
      refine iteF ⟨_, rfl, v, d, "gone", 1, rfl, by decide, hd, _, rfl, ?_⟩
      cases hg : kindB "gone" 1 d with
      | true =>
        refine iteT ?_
        have := k H (Ex.refl H)
        rwa [hg, Bool.true_or] at this
      | false =>
        refine iteF ⟨_, rfl, v, d, rfl, hd, sd, hT, fun H' x => ?_⟩
        have := k H' x
        rwa [hg, Bool.false_or] at this
end
/-! ### is_layer -/
def layerB (es : Ents) : Bool := decide (es.length ≤ 40) && ((es.all fun e => goodPath e.1) && ((es.all fun e => entryB e.2) && (roofH es && oneTextB (es.map (·.2)))))
/-- is the thing a layer? -/
inductive LayerQ (K : PySem.W.Frag) (H : Hp) : V → Bool → Prop
  | dict {d : Addr} {es : Ents} (t : TrAt K H d es) (s : smallE es) : LayerQ K H (.ref d) (layerB es)
  | oth {v : V} {n : String} (k : Kn K H v n) (h : n ≠ "dict") : LayerQ K H v false
theorem LayerQ.ex {K : PySem.W.Frag} {H H' : Hp} {v : V} {b : Bool} (x : Ex H H') (h : LayerQ K H v b) : LayerQ K H' v b := by
  cases h with
  | dict t s => exact .dict (t.ex x) s
  | oth k h => exact .oth (k.ex x) h
def spIsLayer (K : PySem.W.Frag) (P1 P2 P3 P4 P6 : Addr) : Sp := fun vs H Q _ => ∃ v b, vs = [v] ∧ LayerQ K H v b ∧ Tabs5 H P1 P2 P3 P4 P6 ∧ ∀ H', Ex H H' → Q (.bl b) H'
/-- the module's names that layers.py asks -/
structure MgL (mg : Str → Option Value) : Prop where
  mostEntries : ∃ t, mg "MOST_ENTRIES" = some (.int 40 t)
section
variable {P : Program} {w : World} {K : PySem.W.Frag} {mg : Str → Option Value} {base : Heap}
abbrev ilN : List Str := ["thing", "entries"]
theorem scIsLayer : FnScope ilN ["thing"] (defScope sIsLayer) := ⟨rfl, rfl, rfl, by decide +kernel, rfl, by decide +kernel, by decide +kernel⟩
theorem ok_isLayer {f c fP fF fH fO P1 P2 P3 P4 P6 : Addr} {fd fdP fdF fdH fdO : FuncData} (F : FunC K "is_layer" "is_layer" sIsLayer f fd c) (M : Mg mg) (R : MgR mg) (ML : MgL mg) (TB : LamX.TabB base mg c P6)
    (GP : FnOk P w K mg base CX0 5 fP fdP ["thing"] (spIsPath K P1 P2)) (mP : mg "is_path" = some (.ref fP)) (kP : PySem.W.keepIn K (.ref fP) = true) (bP : Binds K fdP ["thing"] [])
    (GF : FnOk P w K mg base CX0 5 fF fdF ["thing"] (spIsEntry K P3)) (mF : mg "_is_entry" = some (.ref fF)) (kF : PySem.W.keepIn K (.ref fF) = true) (bF : Binds K fdF ["thing"] [])
    (GH : FnOk P w K mg base CX0 8 fH fdH ["tree"] (spHasDrawers K P1 P2 P4)) (mH : mg "has_drawers_above" = some (.ref fH)) (kH : PySem.W.keepIn K (.ref fH) = true) (bH : Binds K fdH ["tree"] [])
    (GO : FnOk P w K mg base CX0 5 fO fdO ["things"] (spOneText K P3)) (mO : mg "has_one_text_each" = some (.ref fO)) (kO : PySem.W.keepIn K (.ref fO) = true) (bO : Binds K fdO ["things"] []) :
    FnOk P w K mg base CX0 9 f fd ["thing"] (spIsLayer K P1 P2 P3 P4 P6) := by
  refine F.ok scIsLayer (fun vs H Q E h => ?_) (fun A outer s H vs Q E hr h => ?_)
  · obtain ⟨v, b, rfl, _⟩ := h
    rfl
  · obtain ⟨v, b, rfl, hq, T, k⟩ := h
    obtain ⟨tm, hm⟩ := ML.mostEntries
    have r6 := hr.mono (show 6 ≤ 8 by decide)
    have r5 := hr.mono (show 5 ≤ 8 by decide)
    refine ⟨_, pss_cons (ps_if (PW.pt (pw_or (pt_not (pt_val (pe_callB call_isR (by rfl) M.isinstance boot_isinstance (pa_cons (pv 0) (pa_cons (pe_bltn (v := .ty "dict") (by rfl) R.dict (by decide +kernel) rfl) pa_nil)))))
        (pw_or1 (pt_cmpR op_gt (pe_callB call_lenR (by rfl) M.len PySem.boot_len (pa_cons (pv 0) pa_nil)) (pe_glob (v := .int 40) (by rfl) hm ⟨_, rfl⟩) (nomark _))))) (pss_one (ps_ret pe_bl)) pss_nil)
      (pss_cons (ps_if (pt_not (pt_val (pe_lockR (pe_all (k := 5) (N := ["thing", "entries", "path"]) (pad := 1) (j := 2) (x := "path") (P := P6) r6 rfl (by rfl) M.all TB rfl (gn_by (N0 := ilN) (sc := defScope sIsLayer) (by decide +kernel)) (pi_keys (pv 0))
          (fun A s H cl C code fp pn hr => pe_call (E := E0) GP hr (by rfl) mP kP bP .nil pass0 (pa_cons (pv 2) pa_nil)))))) (pss_one (ps_ret pe_bl)) pss_nil)
      (pss_cons (ps_set (i := 1) scIsLayer.nd rfl (Or.inl rfl) (pe_callTy (call_listVals rfl) (by rfl) R.list (by decide +kernel) (pa_cons (pe_vals (pv 0)) pa_nil)))
      (pss_cons (ps_if (pt_not (pt_val (pe_all (k := 5) (N := ["thing", "entries", "entry"]) (pad := 1) (j := 2) (x := "entry") (P := P6) r6 rfl (by rfl) M.all TB rfl (gn_by (N0 := ilN) (sc := defScope sIsLayer) (by decide +kernel)) (pi_list (pv 1))
          (fun A s H cl C code fp pn hr => pe_call (E := E0) GF hr (by rfl) mF kF bF .nil pass0 (pa_cons (pv 2) pa_nil))))) (pss_one (ps_ret pe_bl)) pss_nil)
      (pss_one (ps_ret (pe_and (pe_call (E := E0) GH hr (by rfl) mH kH bH .nil pass0 (pa_cons (pv 0) pa_nil)) (pe_one (pe_call (E := E0) GO r5 (by rfl) mO kO bO .nil pass0 (pa_cons (pv 1) pa_nil))))))))), ?_⟩
    cases hq with
    | oth kn hn =>
      rename_i n
      refine ⟨_, rfl, .inl ⟨v, n, "dict", rfl, kn, rfl, _, rfl, ?_⟩⟩
      rw [kn.is hn (fun _ => by decide)]
      exact iteT (k H (Ex.refl H))
    | dict t sm =>
      rename_i d es
      obtain ⟨kvs, hd, row⟩ := t
      obtain ⟨sm1, sm2⟩ := sm
      refine ⟨_, rfl, .inr ⟨d, kvs, rfl, hd, _, rfl, iteF ⟨_, rfl, d, kvs, rfl, hd, _, _, rfl, rfl, _, rfl, ?_⟩⟩⟩
      have hl := row.len
      by_cases h80 : (40 : Int) < ((kvs.length : Nat) : Int)
      · rw [decide_eq_true h80]
        refine iteT ?_
        have := k H (Ex.refl H)
        rwa [show layerB es = false by
          unfold layerB
          rw [decide_eq_false (p := es.length ≤ 40) (by omega), Bool.false_and]] at this
      rw [decide_eq_false h80]
      refine iteF ?_
      have e80 : decide (es.length ≤ 40) = true := decide_eq_true (by omega)
      -- the paths
      refine lock_go hd fun H1 od R' lk lt lf ld hR => ⟨_, rfl, d, od, rfl, .inr ⟨kvs, ld, lt _ T.t5, fun H2 hT => ?_⟩⟩
      have x12 : Ex H1 H2 := Ex.tabd hT (lt _ T.t5)
      have ld2 := x12.keep _ _ ld (fun ps z => by cases z)
      refine gw_keysT (fun kv => goodPath (pathOf kv.1)) ld2 (fun kv q G hm x hq R2 hR2 => ?_) fun G x => ?_
      · obtain ⟨i, hi⟩ := List.mem_iff_getElem?.mp hm
        obtain ⟨en, hen, ek, _⟩ := row.get hi
        rw [ek] at hq
        have px : PathX G q en.1 := PathX.of_key hq
        refine ⟨_, rfl, .ref q, _, rfl, px.at.b (sm1 en (List.mem_of_getElem? hen)).1, x.tab _ (x12.tab _ (lt _ T.t1)), x.tab _ (x12.tab _ (lt _ T.t2)), fun H' x' => ?_⟩
        have := hR2 H' (x.trans x')
        rwa [ek, pathOf_inr] at this
      refine hR _ G (x12.trans x) fun H3 x3 kp => ⟨_, rfl, ?_⟩
      have eg : (kvs.all fun kv => goodPath (pathOf kv.1)) = es.all fun e => goodPath e.1 := RowE.all _ _ (fun kv e h1 _ => by rw [h1, pathOf_inr]) row
      rw [eg]
      cases hgood : (es.all fun e => goodPath e.1) with
      | false =>
        refine iteT ?_
        have := k H3 x3
        rwa [show layerB es = false by
          unfold layerB
          rw [hgood, Bool.false_and, Bool.and_false]] at this
      | true =>
        refine iteF ?_
        have T3 := T.ex x3
        have hd3 : Rd H3 d (.dT kvs) := x3.rd hd (fun ps z => by cases z)
        have row3 := row.ex x3
        -- what stands there
        refine ⟨_, rfl, d, kvs, rfl, hd3, fun p hp => ?_⟩
        have xv := Ex.new (o := valsO p d) hp
        refine ⟨p, d, kvs, rfl, upd_same, xv.rd hd3 (fun ps z => by cases z), fun l hl2 => ?_⟩
        have xl := Ex.new (o := .lst (kvs.map (·.2))) hl2
        have l1 : (upd (upd H3 p (valsO p d)) l (.lst (kvs.map (·.2)))) l = some (.lst (kvs.map (·.2))) := upd_same
        have x4 := xv.trans xl
        generalize upd (upd H3 p (valsO p d)) l (.lst (kvs.map (·.2))) = H4 at l1 x4 ⊢
        have T4 := T3.ex x4
        have row4 := row3.ex x4
        refine ⟨_, rfl, l, rfl, ⟨_, SqL.of l1⟩, T4.t5, fun H5 hT5 => ?_⟩
        have x5 := Ex.tabd hT5 T4.t5
        have l5 := x5.keep _ _ l1 (fun ps z => by cases z)
        have row5 := row4.ex x5
        have T5 := T4.ex x5
        have dps := row_dpAll row5
        refine gw_lst (xs := kvs.map (·.2)) (fun i => entryB ((es.map (·.2)).getD i .none)) (SqL.of l5) (fun G x => SqL.of (x.keep _ _ l5 (fun ps z => by cases z))) (fun i y G hy x R2 hR2 => ?_) fun G x => ?_
        · have hi : i < es.length := by
            have := (List.getElem?_eq_some_iff.mp hy).1
            rw [List.length_map] at this
            omega
          obtain ⟨v', hv', dv⟩ := dpAll_get i dps (by rw [List.length_map]; exact hi)
          rw [hy] at hv'
          cases hv'
          have hm : (es.map (·.2)).getD i .none ∈ es.map (·.2) := by
            rw [List.getD_eq_getElem?_getD, List.getElem?_eq_getElem (by rw [List.length_map]; exact hi)]
            exact List.getElem_mem _
          have sd : smallD ((es.map (·.2)).getD i .none) = true := by
            obtain ⟨e, he, ee⟩ := List.mem_map.mp hm
            rw [← ee]
            exact (sm1 e he).2
          generalize (es.map (·.2)).getD i .none = D at dv sd hR2
          have dv := Dp_ex x dv
          refine ⟨_, rfl, y, D, rfl, dv, sd, x.tab _ T5.t3, fun H' x' => ?_⟩
          exact hR2 H' (x.trans x')
        · refine ⟨_, rfl, ?_⟩
          have ew : (List.range (kvs.map (·.2)).length).all (fun i => entryB ((es.map (·.2)).getD i .none)) = es.all fun e => entryB e.2 := by
            have e1 := all_of_range (fun d => entryB d) (es.map (·.2)) (fun i => entryB ((es.map (·.2)).getD i .none)) fun i x e => by
              rw [List.getD_eq_getElem?_getD, e]
              rfl
            rw [List.length_map] at e1 ⊢
            rw [hl, e1, List.all_map]
            rfl
          rw [ew]
          cases hthing : (es.all fun e => entryB e.2) with
          | false =>
            refine iteT ?_
            have := k G (((x3.trans x4).trans x5).trans x)
            rwa [show layerB es = false by
              unfold layerB
              rw [hthing, Bool.false_and, Bool.and_false, Bool.and_false]] at this
          | true =>
            refine iteF ?_
            have xG := ((x3.trans x4).trans x5).trans x
            have TG := T.ex xG
            have lG := x.keep _ _ l5 (fun ps z => by cases z)
            have hgs : ∀ e ∈ es, goodPath e.1 = true := List.all_eq_true.mp hgood
            have et : layerB es = (roofH es && oneTextB (es.map (·.2))) := by
              unfold layerB
              rw [e80, hgood, hthing, Bool.true_and, Bool.true_and, Bool.true_and]
            have hth : ∀ e ∈ es, entryB e.2 = true := fun e he => List.all_eq_true.mp hthing e he
            refine ⟨_, rfl, d, es, rfl, ⟨kvs, xG.rd hd (fun ps z => by cases z), row.ex xG⟩, (fun e he => ⟨hgs e he, entry_headed (hth e he)⟩), sm2, TG.t1, TG.t2, TG.t4, fun H6 x6 => ⟨_, rfl, ?_⟩⟩
            cases hroof : roofH es with
            | false =>
              refine iteF ?_
              have := k H6 (xG.trans x6)
              rwa [et, hroof, Bool.false_and] at this
            | true =>
              have l6 := x6.keep _ _ lG (fun ps z => by cases z)
              refine iteT ⟨_, rfl, l, kvs.map (·.2), es.map (·.2), rfl, SqL.of l6, fun H' x' => SqL.of (x'.keep _ _ l6 (fun ps z => by cases z)), row_dpAll (row.ex (xG.trans x6)), smallAll_of fun d hd => ?_, by rw [List.length_map]; exact sm2, (TG.ex x6).t3, fun H7 x7 => ?_⟩
              · obtain ⟨e, he, rfl⟩ := List.mem_map.mp hd
                exact (sm1 e he).2
              · have := k H7 ((xG.trans x6).trans x7)
                rwa [et, hroof, Bool.true_and] at this
end
/-! ### check_layer, beginnings, lets_through -/
def spCheckLayer (K : PySem.W.Frag) (P1 P2 P3 P4 P6 C : Addr) : Sp := fun vs H Q E => ∃ v b, vs = [v] ∧ LayerQ K H v b ∧ Tabs5 H P1 P2 P3 P4 P6 ∧ (b = true → ∀ H', Ex H H' → Q .non H') ∧ (b = false → ∀ H', Ex H H' → E (.ref C) none H')
/-- beginnings, of a path that may be asked as a key -/
def spBeginningsX (K : PySem.W.Frag) (P1 P2 : Addr) : Sp := fun vs H Q E => ∃ a p, vs = [.ref a] ∧ TabG H P1 ∧ TabG H P2 ∧ PathX H a p ∧ goodPath p = true ∧ ∀ H' l, Ex H H' → PathsX H' l (begs p) → Q (.ref l) H'
def seeD : PyData := .tuple [.str "drawer", .bool false]
def drD : PyData := .tuple [.str "drawer"]
def seeAt (es : Ents) (q : List Str) : Bool := match valE es q with
  | some d => PyData.eqv d seeD
  | none => false
def drAt (es : Ents) (q : List Str) : Bool := match valE es q with
  | some d => PyData.eqv d drD
  | none => false
/-- a written tuple of the module -/
structure Cst (K : PySem.W.Frag) (mg : Str → Option Value) (nm : Str) (xs : List V) (a : Addr) : Prop where
  g : mg nm = some (.ref a)
  t : ∀ H : Hp, SqT K H a xs
def spLets (K : PySem.W.Frag) (P1 P2 P7 : Addr) : Sp := fun vs H Q _ => ∃ d a es p, vs = [.ref d, .ref a] ∧ TrAt K H d es ∧ (∀ e ∈ es, SeqAt.shaped e.2 = true) ∧ PathX H a p ∧ goodPath p = true ∧ (∀ q ∈ begs p, ∃ D, valE es q = some D) ∧
  TabG H P1 ∧ TabG H P2 ∧ TabG H P7 ∧ ∀ H', Ex H H' → Q (.bl ((begs p).all (seeAt es))) H'
section
variable {P : Program} {w : World} {K : PySem.W.Frag} {mg : Str → Option Value} {base : Heap}
theorem scCheckLayer : FnScope ["thing"] ["thing"] (defScope sCheckLayer) := ⟨rfl, rfl, rfl, by decide +kernel, rfl, by decide +kernel, by decide +kernel⟩
theorem ok_checkLayer {f f2 P1 P2 P3 P4 P6 C : Addr} {fd fd2 : FuncData} (F : Fun K "check_layer" "check_layer" sCheckLayer f fd) (R : Ref K mg "NoLayer" C)
    (G2 : FnOk P w K mg base CX0 9 f2 fd2 ["thing"] (spIsLayer K P1 P2 P3 P4 P6)) (m2 : mg "is_layer" = some (.ref f2)) (k2 : PySem.W.keepIn K (.ref f2) = true) (b2 : Binds K fd2 ["thing"] []) :
    FnOk P w K mg base (L2.CX P w) 10 f fd ["thing"] (spCheckLayer K P1 P2 P3 P4 P6 C) := by
  refine F.okX scCheckLayer (fun vs H Q E h => ?_) (fun cdv A outer s H vs Q E hr h => ?_)
  · obtain ⟨v, b, rfl, _⟩ := h
    rfl
  · obtain ⟨v, b, rfl, hq, T, kt, kf⟩ := h
    refine ⟨_, pss_one (ps_if (pt_not (pt_val (pe_call (E := E0) G2 hr (by rfl) m2 k2 b2 .nil pass0 (pa_cons (pv 0) pa_nil))))
      (pss_one (ps_raise rfl (takes_of rfl rfl rfl rfl) (pmk_own PySem.F.excBase_ValueError R.x R.g R.k (raises_own R.b R.t) rfl))) pss_nil), ?_⟩
    refine ⟨_, rfl, v, b, rfl, hq, T, fun H' x => ⟨_, rfl, ?_⟩⟩
    cases b with
    | true => exact iteF (kt rfl H' x)
    | false => exact iteT (kf rfl H' x)
/-- path[:n], of a path that may be asked -/
theorem slice_toX {H : Hp} {a : Addr} {p : List Str} (n : Nat) (pa : PathX H a p) {R : VK} (h : ∀ H' r, Ex H H' → PathX H' r (p.take n) → R (.ref r) H') : rSlA K (.ref a) none (some (n : Int)) H R := by
  refine ⟨a, _, rfl, pa.at, fun hw => h H a (Ex.refl H) ?_, fun _ r hr => h _ r (Ex.new hr) ?_⟩
  · have h2 := hw.2
    rw [HT.sIx_nat, List.length_map] at h2
    rw [List.take_of_length_le (by omega)]
    exact pa
  · show upd _ _ _ _ = _
    rw [upd_same, cutV_to, List.map_take]
theorem scBeginnings : FnScope ["path", "many"] ["path"] (defScope sBeginnings) := ⟨rfl, rfl, rfl, by decide +kernel, rfl, by decide +kernel, by decide +kernel⟩
theorem ok_beginningsX {f f3 P1 P2 C : Addr} {fd fd3 : FuncData} (F : Fun K "beginnings" "beginnings" sBeginnings f fd) (M : Mg mg)
    (G3 : FnOk P w K mg base (L2.CX P w) 6 f3 fd3 ["thing"] (spCheck K P1 P2 C)) (m3 : mg "check_path" = some (.ref f3)) (k3 : PySem.W.keepIn K (.ref f3) = true) (b3 : Binds K fd3 ["thing"] []) :
    FnOk P w K mg base (L2.CX P w) 7 f fd ["path"] (spBeginningsX K P1 P2) := by
  refine F.okX scBeginnings (fun vs H Q E h => ?_) (fun cdv A outer s H vs Q E hr h => ?_)
  · obtain ⟨a, p, rfl, _⟩ := h
    rfl
  · obtain ⟨a, p, rfl, hT1, hT2, pa, gp, k⟩ := h
    refine ⟨_, pss_cons (ps_expr (pe_call (E := E) G3 hr (by rfl) m3 k3 b3 .nil (passes_call (takes_of rfl rfl rfl rfl) (fun _ _ _ _ h => h)) (pa_cons (pv 0) pa_nil)))
      (pss_one (ps_ret (pe_lc (own := [("many", 1)]) (g := gName 1) (tt := tYes) rfl scBeginnings.nd (pi_range1 (by rfl) M.range (pa_cons (pe_op op_add (pe_callB call_len_seq (by rfl) M.len PySem.boot_len (pa_cons (pv 0) pa_nil)) pe_int) pa_nil))
        (blkOk_by (N := ["path", "many"]) (sc := defScope sBeginnings) (by decide +kernel)) (fun _ _ _ _ _ => pg_name (i := 1) scBeginnings.nd rfl (Or.inl rfl)) (fun _ _ _ _ _ => pts_nil) (fun _ _ _ _ _ => pe_slice (r := rSlA K) sl_tupA (pv 0) po_none (po_some (pv 1)))))), ?_⟩
    refine ⟨_, rfl, .ref a, true, rfl, (pa.at).yes gp, hT1, hT2, fun _ H1 x1 => ?_, fun z => nomatch z⟩
    have pa1 := PathX.ex x1 pa
    have hlen := (goodPath_names gp).1
    refine ⟨_, rfl, a, _, rfl, .inr (pa1.at (K := K)), _, _, rfl, rfl, _, rfl, by rw [List.length_map]; omega, by rw [List.length_map]; omega, ?_⟩
    intro D hD
    rw [show (((p.map V.str).length : Int) + 1).toNat = p.length + 1 by rw [List.length_map]; omega]
    refine lc_range (lo := 0) (n := p.length + 1) (fun i H => Ex H1 H ∧ ∃ rs : List Addr, H D = some (.lst (rs.map V.ref)) ∧ Paired (fun r q => PathX H r q) rs ((List.range i).map fun i => p.take i))
      ⟨Ex.new hD, [], upd_same, .nil⟩ ?_ ?_
    · rintro i H hi ⟨x, rs, hl, hp⟩
      have pr := PathX.ex x pa1
      refine ⟨rfl, _, rfl, _, rfl, _, rfl, ?_⟩
      rw [show (0 : Int) + (i : Int) = ((i : Nat) : Int) from Int.zero_add _]
      refine slice_toX i pr fun H' r x2 pr2 => ?_
      have hl2 := x2.keep _ _ hl (fun ps z => by cases z)
      have hlr : rs.length = i := by rw [hp.length, List.length_map, List.length_range]
      have stay : ∀ {u : Addr} {t : List Str}, PathX H' u t → PathX (upd H' D (.lst (rs.map V.ref ++ [.ref r]))) u t := fun {u t} h => by
        show upd _ _ _ _ = _
        rw [upd_ne (ne_of h hl2 (fun z => by cases z))]
        exact h
      refine ⟨rs.map V.ref, hl2, by rw [List.length_map, hlr]; exact Nat.lt_of_lt_of_le hi (by have : sizeLine = 16777216 := sizeLine_eq; omega), (x.trans x2).put hD, rs ++ [r], ?_, ?_⟩
      · rw [upd_same, List.map_append]
        rfl
      · rw [List.range_succ, List.map_append]
        exact pairSnoc (F := fun r q => PathX _ r q) (stay pr2) (pairImp (fun u q h => stay (PathX.ex x2 h)) hp)
    · rintro H ⟨x, rs, hl, hp⟩
      exact k H D (x1.trans x) ⟨rs, hl, hp⟩
theorem scLets : FnScope ["layer", "path"] ["layer", "path"] (defScope sLetsThrough) := ⟨rfl, rfl, rfl, by decide +kernel, rfl, by decide +kernel, by decide +kernel⟩
theorem ok_lets {f c fB P1 P2 P7 aS : Addr} {fd fdB : FuncData} (F : FunC K "lets_through" "lets_through" sLetsThrough f fd c) (M : Mg mg) (TB : LamX.TabB base mg c P7) (S : Cst K mg "SEE_THROUGH" [.str "drawer", .bl false] aS)
    (GB : FnOk P w K mg base (L2.CX P w) 7 fB fdB ["path"] (spBeginningsX K P1 P2)) (mB : mg "beginnings" = some (.ref fB)) (kB : PySem.W.keepIn K (.ref fB) = true) (bB : Binds K fdB ["path"] []) :
    FnOk P w K mg base CX0 8 f fd ["layer", "path"] (spLets K P1 P2 P7) := by
  refine F.ok scLets (fun vs H Q E h => ?_) (fun A outer s H vs Q E hr h => ?_)
  · obtain ⟨d, a, es, p, rfl, _⟩ := h
    rfl
  · obtain ⟨d, a, es, p, rfl, ht, hsh, pa, gp, hval, hT1, hT2, hT7, k⟩ := h
    have r3 := hr.mono (show 3 ≤ 7 by decide)
    refine ⟨_, pss_one (ps_ret (pe_all (k := 2) (N := ["layer", "path", "top"]) (pad := 1) (j := 2) (x := "top") (P := P7) r3 rfl (by rfl) M.all TB rfl (gn_by (N0 := ["layer", "path"]) (sc := defScope sLetsThrough) (by decide +kernel))
        (pi_list (pe_call (E := E0) GB hr (by rfl) mB kB bB .nil passL (pa_cons (pv 1) pa_nil)))
        (fun A s H cl C code fp pn hr => pe_cmpR (r := rEqD K) (op_eqD hr.units) (pe_dget (by have := hr.units; show A.units + 1 < cLine; omega) (pv 0) (pv 2) (fun _ _ => rfl)) (pe_glob (v := .ref aS) (by rfl) S.g rfl) (nomark _)))), ?_⟩
    refine ⟨_, rfl, a, p, rfl, hT1, hT2, pa, gp, fun H1 l x1 hl => ?_⟩
    obtain ⟨rs, hrs, hp⟩ := hl
    refine ⟨l, rfl, ⟨_, SqL.of hrs⟩, x1.tab _ hT7, fun H2 hT => ?_⟩
    have x2 := Ex.tabd hT (x1.tab _ hT7)
    have l2 := x2.keep _ _ hrs (fun ps z => by cases z)
    refine gw_lst (xs := rs.map V.ref) (fun i => seeAt es ((begs p).getD i [])) (SqL.of l2) (fun G x => SqL.of (x.keep _ _ l2 (fun ps z => by cases z))) ?_ ?_
    · intro i y G hy x R hR
      rw [List.getElem?_map] at hy
      obtain ⟨r, hr5, rfl⟩ := Option.map_eq_some_iff.mp hy
      obtain ⟨t, htt, pt⟩ := paired_get hp hr5
      have px : PathX G r t := PathX.ex (x2.trans x) pt
      obtain ⟨kvs, hd, row⟩ := ht.ex ((x1.trans x2).trans x)
      have et : (begs p).getD i [] = t := by rw [List.getD_eq_getElem?_getD, htt]; rfl
      rw [et] at hR
      obtain ⟨D, hD⟩ := hval t (List.mem_of_getElem? htt)
      rcases row.val (p := t) with ⟨_, e2⟩ | ⟨v, D0, e1, e2, dv⟩
      · rw [hD] at e2
        cases e2
      rw [hD] at e2
      cases e2
      obtain ⟨en, hen, _, rfl⟩ := valE_mem hD
      refine ⟨_, rfl, _, rfl, d, v, rfl, by have := get_tr hd px; rwa [e1] at this, en.2, seeD, dv, .tup (S.t G) (.cons (.str _) (.cons (.bl _) .nil)), hsh en hen, by decide +kernel, ?_⟩
      have := hR G x
      rwa [show seeAt es t = PyData.eqv en.2 seeD by unfold seeAt; rw [hD]] at this
    · intro G x
      have := k G ((x1.trans x2).trans x)
      have e : (List.range (rs.map V.ref).length).all (fun i => seeAt es ((begs p).getD i [])) = (begs p).all (seeAt es) := by
        rw [List.length_map, hp.length]
        exact all_of_range (seeAt es) (begs p) _ fun i x e => by rw [List.getD_eq_getElem?_getD, e]; rfl
      rwa [e]
end
/-! ### forms of entries -/
theorem list1 {ds : List PyData} (h : ds.length = 1) : ds = [ds.getD 0 .none] := by
  match ds, h with
  | [a], _ => rfl
theorem list2 {ds : List PyData} (h : ds.length = 2) : ds = [ds.getD 0 .none, ds.getD 1 .none] := by
  match ds, h with
  | [a, b], _ => rfl
theorem list3 {ds : List PyData} (h : ds.length = 3) : ds = [ds.getD 0 .none, ds.getD 1 .none, ds.getD 2 .none] := by
  match ds, h with
  | [a, b, c], _ => rfl
theorem kind_form {word : Str} {many : Nat} {d : PyData} (h : kindB word many d = true) : ∃ ds, d = .tuple ds ∧ ds.length = many ∧ ds.getD 0 .none = .str word := by
  cases d with
  | tuple ds =>
    have : (decide (ds.length = many) && headIs word (ds.getD 0 .none)) = true := h
    rw [Bool.and_eq_true] at this
    obtain ⟨h1, h2⟩ := this
    refine ⟨ds, rfl, of_decide_eq_true h1, ?_⟩
    cases e : ds.getD 0 .none with
    | str z =>
      rw [e] at h2
      have : z = word := of_decide_eq_true h2
      rw [this]
    | _ => rw [e] at h2; exact absurd (show false = true from h2) Bool.false_ne_true
  | _ => exact absurd (show false = true from h) Bool.false_ne_true
theorem file_form {d : PyData} (h : fileB d = true) : ∃ n z, d = .tuple [.str "file", .int n, .str z] ∧ numB (.int n) = true ∧ textB z = true := by
  obtain ⟨ds, n, z, rfl, hl, p1, p2, g1, g2⟩ := file_parts h
  obtain ⟨ds', e, _, g0⟩ := kind_form (file_kind h)
  cases e
  have hx := h
  unfold fileB at hx
  simp only [Bool.and_eq_true] at hx
  rw [p1, p2] at hx
  refine ⟨n, z, ?_, hx.2.1, hx.2.2⟩
  rw [list3 hl, g0, g1, g2]
theorem entry_form {d : PyData} (h : entryB d = true) : (∃ b, d = .tuple [.str "drawer", .bool b]) ∨ d = .tuple [.str "gone"] ∨ ∃ n z, d = .tuple [.str "file", .int n, .str z] ∧ numB (.int n) = true ∧ textB z = true := by
  unfold entryB at h
  split at h
  · rename_i hk
    obtain ⟨ds, rfl, hl, g0⟩ := kind_form hk
    have p1 : partD 1 (.tuple ds) = ds.getD 1 .none := rfl
    rw [p1] at h
    refine Or.inl ?_
    rw [list2 hl, g0]
    cases e : ds.getD 1 .none with
    | bool b => exact ⟨b, rfl⟩
    | _ => rw [e] at h; exact absurd (show false = true from h) Bool.false_ne_true
  · rcases (Bool.or_eq_true _ _).mp h with h | h
    · obtain ⟨ds, rfl, hl, g0⟩ := kind_form h
      exact Or.inr (Or.inl (by rw [list1 hl, g0]))
    · exact Or.inr (Or.inr (file_form h))
theorem tree_form {d : PyData} (h : drawerB d = true ∨ fileB d = true) : d = drD ∨ ∃ n z, d = .tuple [.str "file", .int n, .str z] ∧ numB (.int n) = true ∧ textB z = true := by
  rcases h with h | h
  · obtain ⟨ds, rfl, hl, g0⟩ := kind_form (show kindB "drawer" 1 d = true from h)
    exact Or.inl (by rw [list1 hl, g0]; rfl)
  · exact Or.inr (file_form h)
theorem text_ok' {z : Str} (h : textB z = true) : PyData.strOk z = true := by
  unfold textB allIn at h
  simp only [Bool.and_eq_true, List.all_eq_true, decide_eq_true_eq] at h
  exact str_ok fun c hc => signs_ok c (h.2 c hc)
theorem file_shaped {n : Int} {z : Str} (h : textB z = true) : SeqAt.shaped (.tuple [.str "file", .int n, .str z]) = true := by
  have hz := text_ok' h
  have hf : PyData.strOk "file" = true := by decide +kernel
  simp [SeqAt.shaped, PyData.canLay0, PyData.canLayAll0, PyData.depth, PyData.depthAll, hz, hf]
theorem entry_shaped {d : PyData} (h : entryB d = true) : SeqAt.shaped d = true := by
  rcases entry_form h with ⟨b, rfl⟩ | rfl | ⟨n, z, rfl, _, hz⟩
  · cases b <;> decide +kernel
  · decide +kernel
  · exact file_shaped hz
theorem tree_shaped {d : PyData} (h : drawerB d = true ∨ fileB d = true) : SeqAt.shaped d = true := by
  rcases tree_form h with rfl | ⟨n, z, rfl, _, hz⟩
  · decide +kernel
  · exact file_shaped hz
theorem drawer_eqv {d : PyData} (h : drawerB d = true ∨ fileB d = true) : PyData.eqv d drD = drawerB d := by
  rcases tree_form h with rfl | ⟨n, z, rfl, _, hz⟩
  · decide +kernel
  · have : drawerB (.tuple [.str "file", .int n, .str z]) = false := rfl
    rw [this]
    simp [drD, PyData.eqv, PyData.eqvAll]
theorem drAt_tree {es : Ents} (h : ∀ e ∈ es, drawerB e.2 = true ∨ fileB e.2 = true) (p : List Str) : drAt es p = drawerAt es p := by
  unfold drAt drawerAt
  cases hv : valE es p with
  | none => rfl
  | some d =>
    obtain ⟨x, hx, _, rfl⟩ := valE_mem hv
    exact drawer_eqv (h x hx)
/-- below the root each path's top is there, a drawer -/
theorem roof_up {es : Ents} (h : roofB es = true) {p : List Str} (hp : drawerAt es p = true) (n : Nat) : drawerAt es (p.take (p.length - n)) = true := by
  induction n with
  | zero => rw [Nat.sub_zero, List.take_length]; exact hp
  | succ n ih =>
    generalize hq : p.take (p.length - n) = q at ih
    by_cases e : q = []
    · have : p.take (p.length - (n + 1)) = [] := by
        have h1 : p.length - n = 0 ∨ p = [] := by
          rw [e] at hq
          rcases List.take_eq_nil_iff.mp hq with h | h
          · exact Or.inl h
          · exact Or.inr h
        rcases h1 with h1 | h1
        · rw [show p.length - (n + 1) = 0 by omega]; rfl
        · rw [h1, List.take_nil]
      rw [this]
      rw [e] at ih
      exact ih
    · have h2 : drawerAt es q.dropLast = true := by
        unfold drawerAt at ih
        cases hv : valE es q with
        | none => rw [hv] at ih; cases ih
        | some d =>
          obtain ⟨x, hx, e1, _⟩ := valE_mem hv
          unfold roofB at h
          rw [Bool.and_eq_true, List.all_eq_true] at h
          have := h.2 x hx
          rw [e1, decide_eq_false e, Bool.false_or] at this
          exact this
      have hl : q.length = p.length - n := by rw [← hq, List.length_take]; omega
      have : p.take (p.length - (n + 1)) = q.dropLast := by
        rw [List.dropLast_eq_take, hl, ← hq, List.take_take]
        congr 1
        omega
      rw [this]
      exact h2
theorem roof_begs {es : Ents} (h : roofB es = true) {p : List Str} (hp : drawerAt es p = true) : ∀ q ∈ begs p, drawerAt es q = true := by
  intro q hq
  obtain ⟨i, hi, rfl⟩ := List.mem_map.mp hq
  have hi2 := List.mem_range.mp hi
  have := roof_up h hp (p.length - i)
  rwa [show p.length - (p.length - i) = i by omega] at this
theorem begs_self (p : List Str) : p ∈ begs p := List.mem_map.mpr ⟨p.length, List.mem_range.mpr (Nat.lt_succ_self _), List.take_length⟩
theorem roofH_begs {es : Ents} (h : roofH es = true) {p : List Str} {D : PyData} (hp : valE es p = some D) : ∀ q ∈ begs p, ∃ D, valE es q = some D := by
  have up : ∀ n, ∃ D, valE es (p.take (p.length - n)) = some D := by
    intro n
    induction n with
    | zero => rw [Nat.sub_zero, List.take_length]; exact ⟨D, hp⟩
    | succ n ih =>
      obtain ⟨D', ih⟩ := ih
      generalize hq : p.take (p.length - n) = q at ih
      by_cases e : q = []
      · have : p.take (p.length - (n + 1)) = [] := by
          rw [e] at hq
          rcases List.take_eq_nil_iff.mp hq with h1 | h1
          · rw [show p.length - (n + 1) = 0 by omega]; rfl
          · rw [h1, List.take_nil]
        rw [this]
        rw [e] at ih
        exact ⟨D', ih⟩
      · obtain ⟨x, hx, e1, _⟩ := valE_mem ih
        unfold roofH at h
        rw [Bool.and_eq_true, List.all_eq_true] at h
        have h2 := h.2 x hx
        rw [e1, decide_eq_false e, Bool.false_or] at h2
        have hl : q.length = p.length - n := by rw [← hq, List.length_take]; omega
        have : p.take (p.length - (n + 1)) = q.dropLast := by
          rw [List.dropLast_eq_take, hl, ← hq, List.take_take]
          congr 1
          omega
        rw [this]
        unfold dirAt at h2
        cases hv : valE es q.dropLast with
        | none => rw [hv] at h2; cases h2
        | some d => exact ⟨d, rfl⟩
  intro q hq
  obtain ⟨i, hi, rfl⟩ := List.mem_map.mp hq
  have hi2 := List.mem_range.mp hi
  have := up (p.length - i)
  rwa [show p.length - (p.length - i) = i by omega] at this
theorem layerB_parts {es : Ents} (h : layerB es = true) : es.length ≤ 40 ∧ (∀ e ∈ es, goodPath e.1 = true) ∧ (∀ e ∈ es, entryB e.2 = true) ∧ roofH es = true ∧ oneTextB (es.map (·.2)) = true := by
  unfold layerB at h
  simp only [Bool.and_eq_true, decide_eq_true_eq, List.all_eq_true] at h
  exact ⟨h.1, h.2.1, h.2.2.1, h.2.2.2.1, h.2.2.2.2⟩
/-! ### what open_drawers tells -/
def openF (ls : Ents) (e : List Str × PyData) : Bool := PyData.eqv e.2 drD && ((valE ls e.1).isSome && (begs e.1).all (seeAt ls))
def openOf (ls es : Ents) : List (List Str) := (es.filter (openF ls)).map (·.1)
def lopenB (ls es : Ents) (p : List Str) : Bool := (begs p).all fun q => seeAt ls q && drAt es q
theorem valE_nd {es : Ents} (nd : (es.map (·.1)).Nodup) {e : List Str × PyData} (h : e ∈ es) : valE es e.1 = some e.2 := by
  unfold valE
  induction es with
  | nil => cases h
  | cons x es ih =>
    rw [List.map_cons, List.nodup_cons] at nd
    rw [List.find?_cons]
    by_cases hx : x.1 = e.1
    · rw [decide_eq_true hx]
      rcases List.mem_cons.mp h with rfl | h
      · rfl
      · exact absurd (List.mem_map.mpr ⟨e, h, hx.symm⟩) nd.1
    · rw [decide_eq_false hx]
      rcases List.mem_cons.mp h with rfl | h
      · exact absurd rfl hx
      · exact ih nd.2 h
theorem valE_key {es : Ents} {p : List Str} (h : (valE es p).isSome = true) : p ∈ es.map (·.1) := by
  cases e : valE es p with
  | none => rw [e] at h; cases h
  | some d =>
    obtain ⟨x, hx, e1, _⟩ := valE_mem e
    exact List.mem_map.mpr ⟨x, hx, e1⟩
theorem open_mem {ls es : Ents} (hl : (ls.map (·.1)).Nodup) (he : (es.map (·.1)).Nodup) (ht : treeB es = true) (p : List Str) : p ∈ openOf ls es ↔ p ∈ (ls.map (·.1)).filter (lopenB ls es) := by
  obtain ⟨_, _, hth, hroof, _⟩ := treeB_parts ht
  unfold openOf
  rw [List.mem_map, List.mem_filter]
  constructor
  · rintro ⟨e, hm, rfl⟩
    rw [List.mem_filter] at hm
    obtain ⟨hm, hf⟩ := hm
    unfold openF at hf
    simp only [Bool.and_eq_true, List.all_eq_true] at hf
    obtain ⟨f1, f2, f3⟩ := hf
    refine ⟨valE_key f2, ?_⟩
    unfold lopenB
    rw [List.all_eq_true]
    intro q hq
    rw [Bool.and_eq_true]
    refine ⟨f3 q hq, ?_⟩
    rw [drAt_tree hth]
    refine roof_begs hroof ?_ q hq
    unfold drawerAt
    rw [valE_nd he hm]
    show drawerB e.2 = true
    rw [← drawer_eqv (hth e hm)]
    exact f1
  · rintro ⟨hk, hb⟩
    unfold lopenB at hb
    rw [List.all_eq_true] at hb
    have hs := hb p (begs_self p)
    rw [Bool.and_eq_true] at hs
    have hd := hs.2
    unfold drAt at hd
    cases e : valE es p with
    | none => rw [e] at hd; cases hd
    | some d =>
      rw [e] at hd
      obtain ⟨x, hx, e1, e2⟩ := valE_mem e
      refine ⟨x, List.mem_filter.mpr ⟨hx, ?_⟩, e1⟩
      unfold openF
      simp only [Bool.and_eq_true, List.all_eq_true]
      refine ⟨by rw [e2]; exact hd, ?_, fun q hq => ?_⟩
      · rw [e1]
        obtain ⟨y, hy, e3⟩ := List.mem_map.mp hk
        have := valE_nd hl hy
        rw [e3] at this
        rw [this]
        rfl
      · rw [e1] at hq
        have := hb q hq
        rw [Bool.and_eq_true] at this
        exact this.1
theorem open_perm {ls es : Ents} (hl : (ls.map (·.1)).Nodup) (he : (es.map (·.1)).Nodup) (ht : treeB es = true) : (openOf ls es).Perm ((ls.map (·.1)).filter (lopenB ls es)) := by
  refine (List.perm_ext_iff_of_nodup ?_ (hl.filter _)).mpr (open_mem hl he ht)
  unfold openOf
  exact (List.Sublist.map _ List.filter_sublist).nodup he
/-! ### a tree grows -/
def seenStep (seen : List (L2.Key × V)) (d : PyData) : List (L2.Key × V) := if fileB d = true then
      (match partD 1 d, partD 2 d with
      | .int n, .str z => if (valV seen (Sum.inl n)).isSome = true then seen else putK seen (Sum.inl n) (.str z)
      | _, _ => seen)
    else seen
def seenOf (seen : List (L2.Key × V)) (ds : List PyData) : List (L2.Key × V) := ds.foldl seenStep seen
theorem seenStep_file {seen : List (L2.Key × V)} {d : PyData} {n : Int} {z : Str} (h : fileB d = true) (e1 : partD 1 d = .int n) (e2 : partD 2 d = .str z) :
    seenStep seen d = if (valV seen (Sum.inl n)).isSome = true then seen else putK seen (Sum.inl n) (.str z) := by
  unfold seenStep
  rw [if_pos h, e1, e2]
theorem seenStep_not {seen : List (L2.Key × V)} {d : PyData} (h : fileB d = false) : seenStep seen d = seen := by
  unfold seenStep
  rw [if_neg (by rw [h]; decide)]
def StrVals (seen : List (L2.Key × V)) : Prop := ∀ k v, valV seen k = some v → ∃ z, v = .str z
theorem StrVals.put {seen : List (L2.Key × V)} {n : Int} {z : Str} (h : StrVals seen) : StrVals (putK seen (Sum.inl n) (.str z)) := by
  intro k v hkv
  rw [valV_put] at hkv
  split at hkv
  · exact ⟨z, (Option.some.inj hkv).symm⟩
  · exact h k v hkv
theorem seenStep_strs {seen : List (L2.Key × V)} {d : PyData} (h : StrVals seen) : StrVals (seenStep seen d) := by
  cases hf : fileB d with
  | false =>
    rw [seenStep_not hf]
    exact h
  | true =>
    obtain ⟨fs, n, z, _, _, e1, e2, _, _⟩ := file_parts hf
    rw [seenStep_file hf e1 e2]
    split
    · exact h
    · exact h.put
theorem seenOf_strs : ∀ (ds : List PyData) {seen : List (L2.Key × V)}, StrVals seen → StrVals (seenOf seen ds)
  | [], seen, h => h
  | d :: ds, seen, h => seenOf_strs ds (seenStep_strs h)
theorem textsGo_app : ∀ (ds : List PyData) (d : PyData) {seen : List (L2.Key × V)}, StrVals seen → textsGo seen (ds ++ [d]) = (textsGo seen ds && textsGo (seenOf seen ds) [d])
  | [], d, seen, h => by
    show textsGo seen [d] = (textsGo seen [] && textsGo (seenOf seen []) [d])
    rw [textsGo.eq_1, Bool.true_and]
    rfl
  | x :: ds, d, seen, h => by
    rw [List.cons_append]
    have es : seenOf seen (x :: ds) = seenOf (seenStep seen x) ds := rfl
    rw [es]
    cases hf : fileB x with
    | false => rw [textsGo_not hf, textsGo_not hf, seenStep_not hf, textsGo_app ds d h]
    | true =>
      obtain ⟨fs, n, z, _, _, e1, e2, _, _⟩ := file_parts hf
      rw [seenStep_file hf e1 e2]
      cases hv : valV seen (Sum.inl n) with
      | none => rw [textsGo_new hf e1 e2 hv, textsGo_new hf e1 e2 hv, if_neg (by decide), textsGo_app ds d h.put]
      | some v =>
        obtain ⟨y, rfl⟩ := h _ _ hv
        rw [textsGo_old hf e1 e2 hv, textsGo_old hf e1 e2 hv, if_pos (show (some (V.str y)).isSome = true from rfl)]
        by_cases hyz : y = z
        · rw [if_pos hyz, if_pos hyz, textsGo_app ds d h]
        · rw [if_neg hyz, if_neg hyz, Bool.false_and]
theorem seenOf_app (ds : List PyData) (d : PyData) (seen : List (L2.Key × V)) : seenOf seen (ds ++ [d]) = seenStep (seenOf seen ds) d := by
  unfold seenOf
  rw [List.foldl_append]
  rfl
theorem valE_app {es : Ents} {e : List Str × PyData} {q : List Str} : valE (es ++ [e]) q = match valE es q with
    | some d => some d
    | none => if e.1 = q then some e.2 else none := by
  unfold valE
  rw [List.find?_append]
  cases h : es.find? fun e => decide (e.1 = q) with
  | some x => rfl
  | none =>
    rw [Option.none_or, List.find?_cons]
    by_cases he : e.1 = q
    · rw [decide_eq_true he]
      simp [he]
    · rw [decide_eq_false he]
      simp [he]
theorem drawerAt_app {es : Ents} {e : List Str × PyData} {q : List Str} (h : drawerAt es q = true) : drawerAt (es ++ [e]) q = true := by
  unfold drawerAt at h ⊢
  rw [valE_app]
  cases hv : valE es q with
  | some d =>
    rw [hv] at h
    exact h
  | none =>
    rw [hv] at h
    cases h
theorem roof_app {es : Ents} {e : List Str × PyData} (h : roofB es = true) (hn : e.1 ≠ []) (ha : drawerAt es e.1.dropLast = true) : roofB (es ++ [e]) = true := by
  unfold roofB at h ⊢
  simp only [Bool.and_eq_true, List.all_eq_true, Bool.or_eq_true, decide_eq_true_eq] at h ⊢
  obtain ⟨h1, h2⟩ := h
  refine ⟨drawerAt_app h1, fun x hx => ?_⟩
  rcases List.mem_append.mp hx with hx | hx
  · exact (h2 x hx).imp id drawerAt_app
  · rw [List.mem_singleton.mp hx]
    exact Or.inr (drawerAt_app ha)
/-- a tree with one thing more -/
theorem treeB_app {es : Ents} {p : List Str} {D : PyData} (h : treeB es = true) (h80 : es.length < 80) (hn : p ≠ []) (hg : goodPath p = true) (ha : drawerAt es p.dropLast = true) (hd : drawerB D = true ∨ fileB D = true)
    (ht : ∀ n z y, fileB D = true → partD 1 D = .int n → partD 2 D = .str z → valV (seenOf [] (es.map (·.2))) (Sum.inl n) = some (.str y) → y = z) : treeB (es ++ [(p, D)]) = true := by
  obtain ⟨h1, h2, h3, h4, h5⟩ := treeB_parts h
  have t5 : oneTextB ((es ++ [(p, D)]).map (·.2)) = true := by
    rw [List.map_append]
    show textsGo [] (es.map (·.2) ++ [D]) = true
    rw [textsGo_app _ _ (fun k v h => by cases h), Bool.and_eq_true]
    refine ⟨h5, ?_⟩
    cases hf : fileB D with
    | false =>
      rw [textsGo_not hf]
      rfl
    | true =>
      obtain ⟨fs, n, z, _, _, e1, e2, _, _⟩ := file_parts hf
      cases hv : valV (seenOf [] (es.map (·.2))) (Sum.inl n) with
      | none =>
        rw [textsGo_new hf e1 e2 hv]
        rfl
      | some v =>
        obtain ⟨y, rfl⟩ := seenOf_strs (es.map (·.2)) (fun k v h => by cases h) _ _ hv
        rw [textsGo_old hf e1 e2 hv, if_pos (ht n z y hf e1 e2 hv)]
        rfl
  unfold treeB
  simp only [Bool.and_eq_true, decide_eq_true_eq, List.all_eq_true, Bool.or_eq_true]
  refine ⟨by rw [List.length_append, List.length_singleton]; omega, fun e he => ?_, fun e he => ?_, roof_app h4 hn ha, t5⟩
  · rcases List.mem_append.mp he with he | he
    · exact h2 e he
    · rw [List.mem_singleton.mp he]
      exact hg
  · rcases List.mem_append.mp he with he | he
    · exact h3 e he
    · rw [List.mem_singleton.mp he]
      exact hd
/-! ### the law's draws -/
def spDraw (K : PySem.W.Frag) : Sp := fun vs H Q _ => ∃ (sc tw : Addr) (ns : List Int) (m : Int), vs = [.ref sc, .ref tw, .int m] ∧ Lw K H sc tw ns ∧ 0 < m ∧ m < 1073741824 ∧
  ∀ H' r, Ev tw H H' → 0 ≤ r → r < m → Q (.int r) H'
section
variable {P : Program} {w : World} {K : PySem.W.Frag} {mg : Str → Option Value} {base : Heap}
theorem scDraw : FnScope ["_law_script", "_law_town", "_law_many", "_law_one", "_law_at", "_law_mixed"] ["_law_script", "_law_town", "_law_many"] (defScope sDraw) := ⟨rfl, rfl, rfl, by decide +kernel, rfl, by decide +kernel, by decide +kernel⟩
theorem ok_draw {f : Addr} {fd : FuncData} (F : Fun K "_law_draw" "_law_draw" sDraw f fd) (mLen : mg "len" = none) : FnOk P w K mg base CX0 1 f fd ["_law_script", "_law_town", "_law_many"] (spDraw K) := by
  refine F.ok scDraw (fun vs H Q E h => ?_) (fun cdv A outer s H vs Q E hr h => ?_)
  · obtain ⟨sc, tw, ns, m, rfl, _⟩ := h
    rfl
  · obtain ⟨sc, tw, ns, m, rfl, L, m0, m1, k⟩ := h
    refine ⟨_, pss_cons (ps_if (pt_cmpR op_gt (pe_ix ix_list (pv 1) pe_int (fun _ _ => rfl)) pe_int (nomark _))
        (pss_cons (ps_set (i := 3) scDraw.nd rfl (Or.inl rfl) (pe_op op_mod (pe_ix ix_list (pv 1) pe_int (fun _ _ => rfl)) (pv 2)))
        (pss_cons (ps_asg (pe_op op_fdiv (pe_ix ix_list (pv 1) pe_int (fun _ _ => rfl)) (pv 2)) (pg_sub (pv 1) pe_int set_list))
        (pss_one (ps_ret (pv 3))))) pss_nil)
      (pss_cons (ps_set (i := 4) scDraw.nd rfl (Or.inl rfl) (pe_ix ix_list (pv 1) pe_int (fun _ _ => rfl)))
      (pss_cons (ps_augS (pv 1) pe_int get_list pe_int ip_add set_list)
      (pss_cons (ps_if (pt_cmpR (op_eqD hr.units) (pv 0) (pe_lst pa_nil) (nomark _)) (pss_one (ps_ret (pe_op op_mod (pv 4) (pv 2)))) pss_nil)
      (pss_cons (ps_if (PW.pt (pw_and (pt_cmpR op_lt (pv 4) (pe_callB call_len_seq (by rfl) mLen PySem.boot_len (pa_cons (pv 0) pa_nil)) (nomark _))
          (pw_and1 (pt_cmpR op_ge (pe_ix ix_list (pv 0) (pv 4) (fun _ _ => rfl)) (pe_op op_pow pe_int pe_int) (nomark _)))))
        (pss_cons (ps_asg (pe_op op_mod (pe_op op_fdiv (pe_ix ix_list (pv 0) (pv 4) (fun _ _ => rfl)) (pv 2)) (pe_op op_mulW (pe_op op_pow pe_int pe_int) (pe_op op_pow pe_int pe_int))) (pg_sub (pv 1) pe_int set_list))
        (pss_one (ps_ret (pe_op op_mod (pe_ix ix_list (pv 0) (pv 4) (fun _ _ => rfl)) (pv 2))))) pss_nil)
      (pss_cons (ps_set (i := 5) scDraw.nd rfl (Or.inl rfl) (pe_op op_mod (pe_op op_add (pe_op op_add (pe_op op_mul (pe_ix ix_list (pv 0) (pe_op op_mod (pv 4) (pe_callB call_len_seq (by rfl) mLen PySem.boot_len (pa_cons (pv 0) pa_nil))) (fun _ _ => rfl)) pe_int) (pe_op op_mul pe_int (pv 4))) pe_int) pe_int))
      (pss_one (ps_ret (pe_op op_mod (pe_op op_mod (pe_op op_mod (pe_op op_pow (pv 5) pe_int) pe_int) pe_int) (pv 2))))))))), ?_⟩
    obtain ⟨t0, t1, h0, ht⟩ := id L.town
    have a0 : ∀ x y : Int, atI [V.int x, V.int y] 0 = some (.int x) := fun _ _ => rfl
    have a1 : ∀ x y : Int, atI [V.int x, V.int y] 1 = some (.int y) := fun _ _ => rfl
    have x0 : ∀ x y : Int, ixN [V.int x, V.int y].length 0 = some 0 := fun _ _ => rfl
    have x1 : ∀ x y : Int, ixN [V.int x, V.int y].length 1 = some 1 := fun _ _ => rfl
    have p1 : (0 : Int) < 2147483647 := by decide
    have p2 : (0 : Int) < 999983 := by decide
    refine ⟨_, rfl, tw, _, 1, .int t1, rfl, rfl, SqL.of ht, a1 _ _, _, _, rfl, rfl, _, rfl, ?_⟩
    refine ite2 (fun _ => ?_) (fun _ => ?_)
    · -- what is left of a great one
      refine ⟨_, rfl, tw, _, 1, .int t1, rfl, rfl, SqL.of ht, a1 _ _, _, rfl, _, _, rfl, rfl, m0, ?_⟩
      refine ⟨_, rfl, tw, _, 1, .int t1, rfl, rfl, SqL.of ht, a1 _ _, _, rfl, _, _, rfl, rfl, ⟨m0, m1⟩, _, rfl, tw, _, 1, 1, rfl, rfl, ht, x1 _ _, ?_⟩
      exact ⟨_, rfl, k _ _ (Ev.write L.town h0) (Int.emod_nonneg _ (by omega)) (Int.emod_lt_of_pos _ m0)⟩
    · -- a cell of the script
      refine ⟨_, rfl, tw, _, 0, .int t0, rfl, rfl, SqL.of ht, a0 _ _, ?_⟩
      refine ⟨_, rfl, tw, _, 0, .int t0, rfl, rfl, SqL.of ht, a0 _ _, _, _, rfl, rfl, tw, _, 0, 0, rfl, rfl, ht, x0 _ _, ?_⟩
      have w1 : Ev tw H (upd H tw (.lst [.int (t0 + 1), .int t1])) := Ev.write L.town (by omega)
      have L1 := L.ev w1
      generalize hH1 : upd H tw (.lst [.int (t0 + 1), .int t1]) = H1 at w1 L1
      have e1 : H1 tw = some (.lst [.int (t0 + 1), .int t1]) := by rw [← hH1, upd_same]
      have eH : upd H tw (.lst ([V.int t0, V.int t1].set 0 (V.int (t0 + 1)))) = H1 := hH1
      rw [eH]
      refine ⟨_, rfl, Nat.zero_le _, fun p hp => ?_⟩
      have x2 : Ex H1 (upd H1 p (.lst [])) := Ex.new hp
      have L2 := L1.ex x2
      have e2 : (upd H1 p (.lst [])) tw = some (.lst [.int (t0 + 1), .int t1]) := x2.keep _ _ e1 (fun ps z => by cases z)
      have ep : SqL K (upd H1 p (.lst [])) p [] := SqL.of upd_same
      have w2 : Ev tw H (upd H1 p (.lst [])) := w1.trans (x2.ev L1.town)
      generalize upd H1 p (.lst []) = H2 at L2 e2 ep w2
      refine ⟨.list (ns.map .int), .list [], .lst L2.sq (dpAll_ints ns), .lst ep .nil, shaped_ints ns, shaped_nil, _, rfl, ?_⟩
      rw [eqv_nil]
      refine ite2 (fun hn => ?_) (fun hn => ?_)
      · exact ⟨_, rfl, _, rfl, _, _, rfl, rfl, m0, k _ _ w2 (Int.emod_nonneg _ (by omega)) (Int.emod_lt_of_pos _ m0)⟩
      · have hpos : 0 < ns.length := by
          cases ns with
          | nil => exact absurd rfl hn
          | cons _ _ => simp
        have hL : ((ns.map V.int).length : Int) = (ns.length : Int) := by rw [List.length_map]
        obtain ⟨z, az⟩ : ∃ z, atI (ns.map V.int) (t0 % (((ns.map V.int).length : Nat) : Int)) = some (.int z) := by
          have q1 := Int.emod_nonneg t0 (show (((ns.map V.int).length : Nat) : Int) ≠ 0 by omega)
          have q2 := Int.emod_lt_of_pos t0 (show (0 : Int) < (((ns.map V.int).length : Nat) : Int) by omega)
          obtain ⟨j, ej⟩ := Int.eq_ofNat_of_zero_le q1
          have hj : j < ns.length := by omega
          exact ⟨ns[j], at_of ej (by rw [List.getElem?_map, List.getElem?_eq_getElem hj]; rfl)⟩
        refine ⟨_, rfl, _, rfl, sc, _, rfl, .inl L2.sq, _, _, rfl, rfl, _, rfl, ?_⟩
        refine ite2 (fun c1 => ?_) (fun c1 => ?_)
        · have c1 : t0 < ((ns.map V.int).length : Int) := of_decide_eq_true c1
          obtain ⟨y, ay⟩ : ∃ y, atI (ns.map V.int) t0 = some (.int y) := by
            obtain ⟨j, ej⟩ := Int.eq_ofNat_of_zero_le h0
            have hj : j < ns.length := by omega
            exact ⟨ns[j], at_of ej (by rw [List.getElem?_map, List.getElem?_eq_getElem hj]; rfl)⟩
          refine ⟨_, rfl, _, rfl, sc, _, t0, .int y, rfl, rfl, L2.sq, ay, _, _, rfl, rfl, ⟨by decide, by decide, by decide⟩, _, _, rfl, rfl, _, rfl, ?_⟩
          refine ite2 (fun c2 => ?_) (fun c2 => ?_)
          · refine ⟨_, rfl, _, rfl, sc, _, t0, .int y, rfl, rfl, L2.sq, ay, _, rfl, _, _, rfl, rfl, ⟨m0, m1⟩, ?_⟩
            refine ⟨_, _, rfl, rfl, ⟨by decide, by decide, by decide⟩, _, _, rfl, rfl, ⟨by decide, by decide, by decide⟩, _, _, rfl, rfl, ?_, _, _, rfl, rfl, ?_, ?_⟩
            · exact wide_mul (a := 200) (b := 200) (by decide +kernel) (by decide +kernel) (by decide) (by decide) (by decide)
            · show (0 : Int) < 10 ^ (60 : Int).toNat * 10 ^ (60 : Int).toNat
              decide +kernel
            · refine ⟨_, rfl, tw, _, 1, 1, rfl, rfl, e2, x1 _ _, ?_⟩
              have w3 := w2.trans (Ev.write (t0 := t0 + 1) (t1 := y / m % (10 ^ (60 : Int).toNat * 10 ^ (60 : Int).toNat)) L2.town (by omega))
              have L3 := L.ev w3
              refine ⟨_, rfl, _, rfl, sc, _, t0, .int y, rfl, rfl, L3.sq, ay, _, rfl, _, _, rfl, rfl, m0, ?_⟩
              exact k _ _ w3 (Int.emod_nonneg _ (by omega)) (Int.emod_lt_of_pos _ m0)
          · -- the mixed one
            refine ⟨_, rfl, _, rfl, _, rfl, sc, _, rfl, .inl L2.sq, _, _, rfl, rfl, (by rw [List.length_map]; omega), sc, _, t0 % (((ns.map V.int).length : Nat) : Int), .int z, rfl, rfl, L2.sq, az, _, _, rfl, rfl, .inr ⟨by decide, by decide⟩, ?_⟩
            refine ⟨_, rfl, _, _, rfl, rfl, .inl ⟨by decide, by decide⟩, _, _, rfl, rfl, _, _, rfl, rfl, _, _, rfl, rfl, p1, ?_⟩
            refine ⟨_, rfl, _, _, rfl, rfl, ⟨by decide, by decide, ?_⟩, _, _, rfl, rfl, p1, _, _, rfl, rfl, p2, _, rfl, _, _, rfl, rfl, m0, ?_⟩
            · have q1 := Int.emod_nonneg (z * 1103515245 + 7919 * t0 + 12345) (show (2147483647 : Int) ≠ 0 by decide)
              have q2 := Int.emod_lt_of_pos (z * 1103515245 + 7919 * t0 + 12345) (show (0 : Int) < 2147483647 by decide)
              omega
            · exact k _ _ w2 (Int.emod_nonneg _ (by omega)) (Int.emod_lt_of_pos _ m0)
        · -- the mixed one
          refine ⟨_, rfl, _, rfl, _, rfl, sc, _, rfl, .inl L2.sq, _, _, rfl, rfl, (by rw [List.length_map]; omega), sc, _, t0 % (((ns.map V.int).length : Nat) : Int), .int z, rfl, rfl, L2.sq, az, _, _, rfl, rfl, .inr ⟨by decide, by decide⟩, ?_⟩
          refine ⟨_, rfl, _, _, rfl, rfl, .inl ⟨by decide, by decide⟩, _, _, rfl, rfl, _, _, rfl, rfl, _, _, rfl, rfl, p1, ?_⟩
          refine ⟨_, rfl, _, _, rfl, rfl, ⟨by decide, by decide, ?_⟩, _, _, rfl, rfl, p1, _, _, rfl, rfl, p2, _, rfl, _, _, rfl, rfl, m0, ?_⟩
          · have q1 := Int.emod_nonneg (z * 1103515245 + 7919 * t0 + 12345) (show (2147483647 : Int) ≠ 0 by decide)
            have q2 := Int.emod_lt_of_pos (z * 1103515245 + 7919 * t0 + 12345) (show (0 : Int) < 2147483647 by decide)
            omega
          · exact k _ _ w2 (Int.emod_nonneg _ (by omega)) (Int.emod_lt_of_pos _ m0)
end
/-! ### picks -/
def spPick (K : PySem.W.Frag) : Sp := fun vs H Q _ => ∃ (sc tw l : Addr) (ns : List Int) (xs : List V), vs = [.ref sc, .ref tw, .ref l] ∧ Lw K H sc tw ns ∧ SqL K H l xs ∧ l ≠ tw ∧ 0 < xs.length ∧ xs.length < 1000 ∧
  ∀ H' x, Ev tw H H' → x ∈ xs → Q x H'
section
variable {P : Program} {w : World} {K : PySem.W.Frag} {mg : Str → Option Value} {base : Heap}
theorem scPick : FnScope ["_law_script", "_law_town", "_law_some"] ["_law_script", "_law_town", "_law_some"] (defScope sPick) := ⟨rfl, rfl, rfl, by decide +kernel, rfl, by decide +kernel, by decide +kernel⟩
theorem ok_pick {f fD : Addr} {fd fdD : FuncData} (F : Fun K "_law_pick" "_law_pick" sPick f fd) (mLen : mg "len" = none)
    (GD : FnOk P w K mg base CX0 1 fD fdD ["_law_script", "_law_town", "_law_many"] (spDraw K)) (mD : mg "_law_draw" = some (.ref fD)) (kD : PySem.W.keepIn K (.ref fD) = true) (bD : Binds K fdD ["_law_script", "_law_town", "_law_many"] []) :
    FnOk P w K mg base CX0 2 f fd ["_law_script", "_law_town", "_law_some"] (spPick K) := by
  refine F.ok scPick (fun vs H Q E h => ?_) (fun cdv A outer s H vs Q E hr h => ?_)
  · obtain ⟨sc, tw, l, ns, xs, rfl, _⟩ := h
    rfl
  · obtain ⟨sc, tw, l, ns, xs, rfl, L, hl, hlt, h0, h1, k⟩ := h
    refine ⟨_, pss_one (ps_ret (pe_ix ix_list (pv 2) (pe_call (E := E0) GD hr (by rfl) mD kD bD .nil pass0 (pa_cons (pv 0) (pa_cons (pv 1) (pa_cons (pe_callB call_len_seq (by rfl) mLen PySem.boot_len (pa_cons (pv 2) pa_nil)) pa_nil)))) (fun _ _ => rfl))), ?_⟩
    refine ⟨_, rfl, _, rfl, _, rfl, _, rfl, l, _, rfl, .inl hl, sc, tw, ns, _, rfl, L, by omega, by omega, fun H' r x r0 r1 => ?_⟩
    obtain ⟨j, ej⟩ := Int.eq_ofNat_of_zero_le r0
    have hj : j < xs.length := by omega
    exact ⟨l, xs, r, xs[j], rfl, rfl, x.lst hlt hl, at_of ej (List.getElem?_eq_getElem hj), k H' _ x (List.getElem_mem hj)⟩
end
/-! ### trees as they are drawn -/
inductive Th where
  | dr | fl (n : Int) (z : Str)
  deriving DecidableEq
def Th.d : Th → PyData
  | .dr => .tuple [.str "drawer"]
  | .fl n z => .tuple [.str "file", .int n, .str z]
def Th.xs : Th → List V
  | .dr => [.str "drawer"]
  | .fl n z => [.str "file", .int n, .str z]
abbrev Tr := List (List Str × Th)
def entsT (t : Tr) : Ents := t.map fun e => (e.1, e.2.d)
theorem Th.drawer (h : Th) : drawerB h.d = decide (h = .dr) := by
  cases h with
  | dr => decide +kernel
  | fl n z => rfl
theorem Th.file (n : Int) (z : Str) : fileB (Th.fl n z).d = (numB (.int n) && textB z) := by
  show (kindB "file" 3 (.tuple [.str "file", .int n, .str z]) && (numB (.int n) && textB z)) = _
  rw [show kindB "file" 3 (.tuple [.str "file", .int n, .str z]) = true by rfl, Bool.true_and]
def RowT (H : Hp) (kvs : List (List L2.Key × V)) (t : Tr) : Prop := Paired (fun kv e => kv.1 = e.1.map Sum.inr ∧ ∃ r, kv.2 = .ref r ∧ H r = some (.tup e.2.xs)) kvs t
theorem Th.dp {K : PySem.W.Frag} {H : Hp} {r : Addr} {h : Th} (e : H r = some (.tup h.xs)) : Dp K H (.ref r) h.d := by
  cases h with
  | dr => exact .tup (SqT.of e) (.cons (.str _) .nil)
  | fl n z => exact .tup (SqT.of e) (.cons (.str _) (.cons (.int _) (.cons (.str _) .nil)))
theorem RowT.row {K : PySem.W.Frag} {H : Hp} : ∀ {kvs : List (List L2.Key × V)} {t : Tr}, RowT H kvs t → RowE K H kvs (entsT t)
  | _, _, .nil => .nil
  | kv :: kvs, e :: t, .cons a b => by
    obtain ⟨a1, r, a2, a3⟩ := a
    refine .cons ⟨a1, ?_⟩ (RowT.row b)
    rw [a2]
    exact Th.dp a3
theorem RowT.keep {H H' : Hp} {kvs : List (List L2.Key × V)} {t : Tr} (k : ∀ b xs, H b = some (.tup xs) → H' b = some (.tup xs)) (h : RowT H kvs t) : RowT H' kvs t := pairImp (fun _ _ ⟨q1, r, q2, q3⟩ => ⟨q1, r, q2, k r _ q3⟩) h
def TrX (H : Hp) (d : Addr) (t : Tr) : Prop := ∃ kvs, Rd H d (.dT kvs) ∧ RowT H kvs t
theorem TrX.at {K : PySem.W.Frag} {H : Hp} {d : Addr} {t : Tr} (h : TrX H d t) : TrAt K H d (entsT t) := by
  obtain ⟨kvs, h1, h2⟩ := h
  exact ⟨kvs, h1, h2.row⟩
def valT (t : Tr) (p : List Str) : Option Th := (t.find? fun e => decide (e.1 = p)).map (·.2)
theorem valT_ents (t : Tr) (p : List Str) : valE (entsT t) p = (valT t p).map Th.d := by
  unfold valE valT entsT
  rw [List.find?_map, Option.map_map, Option.map_map]
  rfl
theorem RowT.val {H : Hp} {p : List Str} : ∀ {kvs : List (List L2.Key × V)} {t : Tr}, RowT H kvs t →
    (valV kvs (p.map Sum.inr) = none ∧ valT t p = none) ∨ ∃ r h, valV kvs (p.map Sum.inr) = some (.ref r) ∧ valT t p = some h ∧ H r = some (.tup h.xs)
  | _, _, .nil => Or.inl ⟨rfl, rfl⟩
  | kv :: kvs, e :: t, .cons a b => by
    obtain ⟨a1, r, a2, a3⟩ := a
    by_cases h : e.1 = p
    · refine Or.inr ⟨r, e.2, ?_, ?_, a3⟩
      · rw [valV_pos (by rw [a1, h]), a2]
      · unfold valT
        rw [List.find?_cons, decide_eq_true h]
        rfl
    · have h2 : ¬ kv.1 = p.map Sum.inr := fun z => h (inr_inj (a1.symm.trans z))
      have e1 : valT (e :: t) p = valT t p := by
        unfold valT
        rw [List.find?_cons, decide_eq_false h]
      rw [valV_neg h2, e1]
      exact RowT.val b
/-- a tree as the document has it -/
structure Good (t : Tr) : Prop where
  tree : treeB (entsT t) = true
  nd : (t.map (·.1)).Nodup
theorem good_small {t : Tr} (h : Good t) : smallE (entsT t) := by
  obtain ⟨h1, h2, h3, _, _⟩ := treeB_parts h.tree
  refine ⟨fun e he => ⟨goodPath_small (h2 e he), ?_⟩, by omega⟩
  obtain ⟨x, hx, rfl⟩ := List.mem_map.mp he
  have hth := h3 _ he
  cases hx2 : x.2 with
  | dr =>
    show smallD (Th.dr).d = true
    rfl
  | fl n z =>
    show smallD (Th.fl n z).d = true
    have : fileB (Th.fl n z).d = true := by
      have hth : drawerB x.2.d = true ∨ fileB x.2.d = true := hth
      rw [hx2] at hth
      rcases hth with h | h
      · rw [Th.drawer] at h
        exact absurd (of_decide_eq_true h) (by intro e; cases e)
      · exact h
    rw [Th.file, Bool.and_eq_true] at this
    have hz : z.length ≤ 40 := by
      have := this.2
      unfold textB at this
      rw [Bool.and_eq_true] at this
      exact of_decide_eq_true this.1
    have e1 : decide (z.length ≤ sizeLine) = true := decide_eq_true (by rw [sizeLine_eq]; omega)
    have e2 : decide (("file" : Str).length ≤ sizeLine) = true := by decide +kernel
    simp [Th.d, smallD, smallAll, e1, e2]
/-! ### more on drawn trees -/
theorem text_ok {z : Str} (h : textB z = true) : PyData.strOk z = true := by
  unfold textB allIn at h
  simp only [Bool.and_eq_true, List.all_eq_true, decide_eq_true_eq] at h
  exact str_ok fun c hc => signs_ok c (h.2 c hc)
def Th.ok : Th → Prop
  | .dr => True
  | .fl n z => numB (.int n) = true ∧ textB z = true
theorem Th.shaped {h : Th} (ok : h.ok) : SeqAt.shaped h.d = true := by
  cases h with
  | dr => decide +kernel
  | fl n z =>
    have hz := text_ok ok.2
    have hf : PyData.strOk "file" = true := by decide +kernel
    simp [SeqAt.shaped, Th.d, PyData.canLay0, PyData.canLayAll0, PyData.depth, PyData.depthAll, hz, hf]
theorem Th.eqv_dr (h : Th) : PyData.eqv h.d (.tuple [.str "drawer"]) = decide (h = .dr) := by
  cases h with
  | dr => decide +kernel
  | fl n z =>
    rw [decide_eq_false (by intro e; cases e)]
    simp [Th.d, PyData.eqv, PyData.eqvAll]
theorem valT_mem {t : Tr} {p : List Str} {h : Th} (e : valT t p = some h) : (p, h) ∈ t := by
  unfold valT at e
  obtain ⟨x, h1, h2⟩ := Option.map_eq_some_iff.mp e
  have h3 : x.1 = p := of_decide_eq_true (List.find?_some (p := fun e : List Str × Th => decide (e.1 = p)) h1)
  have := List.mem_of_find?_eq_some h1
  rw [← h3, ← h2]
  exact this
theorem valT_none {t : Tr} {p : List Str} (e : valT t p = none) : p ∉ t.map (·.1) := by
  intro hm
  obtain ⟨x, hx, rfl⟩ := List.mem_map.mp hm
  unfold valT at e
  rw [Option.map_eq_none_iff, List.find?_eq_none] at e
  exact e x hx (decide_eq_true rfl)
theorem valT_some {t : Tr} {p : List Str} (hm : p ∈ t.map (·.1)) : ∃ h, valT t p = some h := by
  cases e : valT t p with
  | some h => exact ⟨h, rfl⟩
  | none => exact absurd hm (valT_none e)
theorem drawerAt_T (t : Tr) (p : List Str) : drawerAt (entsT t) p = decide (valT t p = some .dr) := by
  unfold drawerAt
  rw [valT_ents]
  cases h : valT t p with
  | none => rfl
  | some x =>
    show drawerB x.d = _
    rw [Th.drawer]
    exact decide_eq_decide.mpr ⟨fun e => by rw [e], fun e => Option.some.inj e⟩
theorem good_ok {t : Tr} (g : Good t) {p : List Str} {h : Th} (hm : (p, h) ∈ t) : h.ok ∧ goodPath p = true := by
  obtain ⟨_, h2, h3, _, _⟩ := treeB_parts g.tree
  have he : (p, h.d) ∈ entsT t := List.mem_map.mpr ⟨(p, h), hm, rfl⟩
  refine ⟨?_, h2 _ he⟩
  cases h with
  | dr => trivial
  | fl n z =>
    have hth := h3 _ he
    have hf : fileB (Th.fl n z).d = true := hth.resolve_left (by
      intro q
      have q : drawerB (Th.fl n z).d = true := q
      rw [Th.drawer] at q
      exact absurd (of_decide_eq_true q) (by intro e; cases e))
    rw [Th.file, Bool.and_eq_true] at hf
    exact hf
theorem good_root {t : Tr} (g : Good t) : valT t [] = some .dr := by
  obtain ⟨_, _, _, h4, _⟩ := treeB_parts g.tree
  unfold roofB at h4
  rw [Bool.and_eq_true, drawerAt_T] at h4
  exact of_decide_eq_true h4.1
theorem goodPath_snoc {p : List Str} {c : Str} (g : goodPath p = true) (hl : p.length < 5) (hc : nameB c = true) : goodPath (p ++ [c]) = true := by
  obtain ⟨h1, h2⟩ := goodPath_names g
  unfold goodPath
  rw [Bool.and_eq_true, decide_eq_true_eq, List.all_eq_true]
  refine ⟨by rw [List.length_append, List.length_singleton]; omega, fun z hz => ?_⟩
  rcases List.mem_append.mp hz with hz | hz
  · exact h2 z hz
  · rw [List.mem_singleton.mp hz]
    exact hc
theorem good_app {t : Tr} {p : List Str} {c : Str} {h : Th} (g : Good t) (hl : t.length < 80) (hd : valT t p = some .dr) (h5 : p.length < 5) (hc : nameB c = true) (hn : valT t (p ++ [c]) = none) (ok : h.ok)
    (ht : ∀ n z y, h = .fl n z → valV (seenOf [] ((entsT t).map (·.2))) (Sum.inl n) = some (.str y) → y = z) : Good (t ++ [(p ++ [c], h)]) := by
  constructor
  · have e : entsT (t ++ [(p ++ [c], h)]) = entsT t ++ [(p ++ [c], h.d)] := by
      unfold entsT
      rw [List.map_append]
      rfl
    rw [e]
    refine treeB_app g.tree (by unfold entsT; rw [List.length_map]; exact hl) (by simp) (goodPath_snoc (good_ok g (valT_mem hd)).2 h5 hc) ?_ ?_ ?_
    · rw [List.dropLast_concat, drawerAt_T]
      exact decide_eq_true hd
    · cases h with
      | dr => exact Or.inl (by rw [Th.drawer]; exact decide_eq_true rfl)
      | fl n z => exact Or.inr (by rw [Th.file, Bool.and_eq_true]; exact ok)
    · intro n z y hf e1 e2 hv
      cases h with
      | dr =>
        exact absurd hf (by decide +kernel)
      | fl n' z' =>
        have e1 : PyData.int n' = .int n := e1
        have e2 : PyData.str z' = .str z := e2
        injection e1 with e1
        injection e2 with e2
        subst e1
        subst e2
        exact ht n' z' y rfl hv
  · rw [List.map_append, List.nodup_append]
    refine ⟨g.nd, by simp, fun a ha b hb e => ?_⟩
    have hb : b = p ++ [c] := by simpa using hb
    rw [hb] at e
    exact valT_none hn (e ▸ ha)
/-- a path and one name more -/
theorem cat_path {K : PySem.W.Frag} {H : Hp} {a q : Addr} {p : List Str} {c : Str} {R : VK} (ha : SqT K H a (p.map V.str)) (hq : PathX H q [c]) (hl : p.length ≤ 100) (h : ∀ G r, Ex H G → PathX G r (p ++ [c]) → R (.ref r) G) : rCatA K (.ref a) (.ref q) H R := by
  refine ⟨a, q, p.map V.str, [.str c], rfl, rfl, ha, SqT.of hq, ?_, fun e => ?_, fun _ e => absurd e (by simp), fun _ _ r hr => ?_⟩
  · rw [List.length_map, sizeLine_eq]
    show p.length + 1 ≤ _
    omega
  · have hp : p = [] := List.map_eq_nil_iff.mp e
    subst hp
    exact h H q (Ex.refl H) hq
  · refine h _ r (Ex.new hr) ?_
    show upd _ _ _ _ = _
    rw [upd_same, List.map_append]
    rfl
theorem RowT.keys {H : Hp} : ∀ {kvs : List (List L2.Key × V)} {t : Tr}, RowT H kvs t → LS.KeysP kvs (t.map (·.1))
  | _, _, .nil => rfl
  | kv :: kvs, e :: t, .cons a b => by
    have := RowT.keys b
    unfold LS.KeysP at this ⊢
    rw [List.map_cons, List.map_cons, List.map_cons, this, a.1]
theorem seen_snoc {t : Tr} {p : List Str} {h : Th} {dx : List (L2.Key × V)} (ok : h.ok) (hs : ∀ n y, valV (seenOf [] ((entsT t).map (·.2))) (Sum.inl n) = some (.str y) → valV dx (Sum.inl n) = some (.str y))
    (hh : ∀ n z, h = .fl n z → valV dx (Sum.inl n) = some (.str z)) : ∀ n y, valV (seenOf [] ((entsT (t ++ [(p, h)])).map (·.2))) (Sum.inl n) = some (.str y) → valV dx (Sum.inl n) = some (.str y) := by
  intro n y hv
  have e : (entsT (t ++ [(p, h)])).map (·.2) = (entsT t).map (·.2) ++ [h.d] := by
    unfold entsT
    rw [List.map_append, List.map_append]
    rfl
  rw [e, seenOf_app] at hv
  cases h with
  | dr =>
    rw [seenStep_not (by decide +kernel)] at hv
    exact hs n y hv
  | fl n' z' =>
    have hf : fileB (Th.fl n' z').d = true := by rw [Th.file, Bool.and_eq_true]; exact ok
    rw [seenStep_file hf (n := n') (z := z') rfl rfl] at hv
    split at hv
    · exact hs n y hv
    · rw [valV_put] at hv
      split at hv
      · rename_i e2
        injection e2 with e2
        subst e2
        injection hv with hv
        injection hv with hv
        subst hv
        exact hh n z' rfl
      · exact hs n y hv
theorem RowT.snoc {H : Hp} {kvs : List (List L2.Key × V)} {t : Tr} {p : List Str} {h : Th} {r : Addr} (row : RowT H kvs t) (e : H r = some (.tup h.xs)) : RowT H (kvs ++ [(p.map Sum.inr, .ref r)]) (t ++ [(p, h)]) :=
  pairSnoc (F := fun (kv : List L2.Key × V) (e : List Str × Th) => kv.1 = e.1.map Sum.inr ∧ ∃ r, kv.2 = .ref r ∧ H r = some (.tup e.2.xs)) ⟨rfl, r, rfl, e⟩ row
/-! ### the keys in their order -/
def RisingP (ps : List (List Str)) : Prop := ps.Pairwise fun x y => LS.ltP y x = false
theorem rising_uniq {l m : List (List Str)} (h : l.Perm m) (hl : RisingP l) (hm : RisingP m) : l = m := by
  refine List.Perm.eq_of_pairwise (le := fun x y => LS.ltP y x = false) (fun a b _ _ h1 h2 => LS.ltP_anti h2 h1) hl hm h
def keysUp (t : Tr) : List (List Str) := (t.map (·.1)).mergeSort fun a b => !LS.ltP b a
theorem keysUp_perm (t : Tr) : (keysUp t).Perm (t.map (·.1)) := List.mergeSort_perm _ _
theorem keysUp_rising (t : Tr) : RisingP (keysUp t) := by
  have O := LS.swoP (fun _ => [])
  have h := List.pairwise_mergeSort (le := fun a b : List Str => !LS.ltP b a) (fun a b c h1 h2 => ?_) (fun a b => ?_) (t.map (·.1))
  · exact h.imp fun {x y} hxy => by simpa using hxy
  · simp only [Bool.not_eq_true'] at h1 h2 ⊢
    exact decide_eq_false (LS.rk_tr (of_decide_eq_false h1) (of_decide_eq_false h2))
  · simp only [Bool.or_eq_true, Bool.not_eq_true']
    cases h : LS.ltP b a with
    | false => exact Or.inl rfl
    | true => exact Or.inr (decide_eq_false (LS.rk_asym (of_decide_eq_true h)))
theorem keysUp_of {t : Tr} {ys : LS.Zs} (h : (ys.map (·.2)).Perm (t.map (·.1))) (hr : LS.Rising ys) : ys.map (·.2) = keysUp t :=
  rising_uniq (h.trans (keysUp_perm t).symm) (List.pairwise_map.mpr hr) (keysUp_rising t)
def numAt (t : Tr) (p : List Str) : Option Int := match valT t p with
  | some (.fl n _) => some n
  | _ => none
/-- the paths of the file with the number n, rising -/
def groupOf (t : Tr) (n : Int) : List (List Str) := (keysUp t).filter fun q => decide (numAt t q = some n)
/-! ### layers as they are drawn -/
inductive En where
  | dr (b : Bool) | gone | fl (n : Int) (z : Str)
  deriving DecidableEq
def En.d : En → PyData
  | .dr b => .tuple [.str "drawer", .bool b]
  | .gone => .tuple [.str "gone"]
  | .fl n z => .tuple [.str "file", .int n, .str z]
def En.xs : En → List V
  | .dr b => [.str "drawer", .bl b]
  | .gone => [.str "gone"]
  | .fl n z => [.str "file", .int n, .str z]
def En.isDr : En → Bool
  | .dr _ => true
  | _ => false
def En.ok : En → Prop
  | .fl n z => numB (.int n) = true ∧ textB z = true
  | _ => True
abbrev La := List (List Str × En)
def entsL (t : La) : Ents := t.map fun e => (e.1, e.2.d)
theorem En.entry {h : En} (ok : h.ok) : entryB h.d = true := by
  cases h with
  | dr b => cases b <;> decide +kernel
  | gone => decide +kernel
  | fl n z =>
    unfold entryB
    rw [if_neg (by
      have : kindB "drawer" 2 (En.fl n z).d = false := rfl
      rw [this]
      decide)]
    have : fileB (En.fl n z).d = true := by
      show (kindB "file" 3 (.tuple [.str "file", .int n, .str z]) && (numB (.int n) && textB z)) = _
      rw [show kindB "file" 3 (.tuple [.str "file", .int n, .str z]) = true by rfl, ok.1, ok.2]
      rfl
    rw [this, Bool.or_true]
theorem En.ok_of {h : En} (e : entryB h.d = true) : h.ok := by
  cases h with
  | fl n z =>
    rcases entry_form e with ⟨b, e⟩ | e | ⟨n', z', e, h1, h2⟩
    · exact absurd e (by simp [En.d])
    · exact absurd e (by simp [En.d])
    · have e : PyData.tuple [.str "file", .int n, .str z] = .tuple [.str "file", .int n', .str z'] := e
      injection e with e
      simp only [List.cons.injEq, PyData.int.injEq, PyData.str.injEq, and_true, true_and] at e
      obtain ⟨rfl, rfl⟩ := e
      exact ⟨h1, h2⟩
  | _ => trivial
theorem En.dir (h : En) : dirD h.d = h.isDr := by
  cases h with
  | dr b => cases b <;> decide +kernel
  | gone => decide +kernel
  | fl n z => show headIs "drawer" (.str "file") = false; decide +kernel
theorem En.eqv_see (h : En) : PyData.eqv h.d seeD = decide (h = .dr false) := by
  cases h with
  | dr b => cases b <;> decide +kernel
  | gone => decide +kernel
  | fl n z =>
    rw [decide_eq_false (by intro e; cases e)]
    simp [En.d, seeD, PyData.eqv, PyData.eqvAll]
def RowN (H : Hp) (kvs : List (List L2.Key × V)) (t : La) : Prop := Paired (fun kv e => kv.1 = e.1.map Sum.inr ∧ ∃ r, kv.2 = .ref r ∧ H r = some (.tup e.2.xs)) kvs t
theorem En.dp {K : PySem.W.Frag} {H : Hp} {r : Addr} {h : En} (e : H r = some (.tup h.xs)) : Dp K H (.ref r) h.d := by
  cases h with
  | dr b => exact .tup (SqT.of e) (.cons (.str _) (.cons (.bl _) .nil))
  | gone => exact .tup (SqT.of e) (.cons (.str _) .nil)
  | fl n z => exact .tup (SqT.of e) (.cons (.str _) (.cons (.int _) (.cons (.str _) .nil)))
theorem RowN.row {K : PySem.W.Frag} {H : Hp} : ∀ {kvs : List (List L2.Key × V)} {t : La}, RowN H kvs t → RowE K H kvs (entsL t)
  | _, _, .nil => .nil
  | kv :: kvs, e :: t, .cons a b => by
    obtain ⟨a1, r, a2, a3⟩ := a
    refine .cons ⟨a1, ?_⟩ (RowN.row b)
    rw [a2]
    exact En.dp a3
theorem RowN.keep {H H' : Hp} {kvs : List (List L2.Key × V)} {t : La} (k : ∀ b xs, H b = some (.tup xs) → H' b = some (.tup xs)) (h : RowN H kvs t) : RowN H' kvs t := pairImp (fun _ _ ⟨q1, r, q2, q3⟩ => ⟨q1, r, q2, k r _ q3⟩) h
def valL (t : La) (p : List Str) : Option En := (t.find? fun e => decide (e.1 = p)).map (·.2)
theorem valL_ents (t : La) (p : List Str) : valE (entsL t) p = (valL t p).map En.d := by
  unfold valE valL entsL
  rw [List.find?_map, Option.map_map, Option.map_map]
  rfl
theorem RowN.val {H : Hp} {p : List Str} : ∀ {kvs : List (List L2.Key × V)} {t : La}, RowN H kvs t →
    (valV kvs (p.map Sum.inr) = none ∧ valL t p = none) ∨ ∃ r h, valV kvs (p.map Sum.inr) = some (.ref r) ∧ valL t p = some h ∧ H r = some (.tup h.xs)
  | _, _, .nil => Or.inl ⟨rfl, rfl⟩
  | kv :: kvs, e :: t, .cons a b => by
    obtain ⟨a1, r, a2, a3⟩ := a
    by_cases h : e.1 = p
    · refine Or.inr ⟨r, e.2, ?_, ?_, a3⟩
      · rw [valV_pos (by rw [a1, h]), a2]
      · unfold valL
        rw [List.find?_cons, decide_eq_true h]
        rfl
    · have h2 : ¬ kv.1 = p.map Sum.inr := fun z => h (inr_inj (a1.symm.trans z))
      have e1 : valL (e :: t) p = valL t p := by
        unfold valL
        rw [List.find?_cons, decide_eq_false h]
      rw [valV_neg h2, e1]
      exact RowN.val b
/-- a layer as the document has it -/
structure GoodL (t : La) : Prop where
  lay : layerB (entsL t) = true
  nd : (t.map (·.1)).Nodup
theorem valL_mem {t : La} {p : List Str} {h : En} (e : valL t p = some h) : (p, h) ∈ t := by
  unfold valL at e
  obtain ⟨x, h1, h2⟩ := Option.map_eq_some_iff.mp e
  have h3 : x.1 = p := of_decide_eq_true (List.find?_some (p := fun e : List Str × En => decide (e.1 = p)) h1)
  have := List.mem_of_find?_eq_some h1
  rw [← h3, ← h2]
  exact this
theorem valL_none {t : La} {p : List Str} (e : valL t p = none) : p ∉ t.map (·.1) := by
  intro hm
  obtain ⟨x, hx, rfl⟩ := List.mem_map.mp hm
  unfold valL at e
  rw [Option.map_eq_none_iff, List.find?_eq_none] at e
  exact e x hx (decide_eq_true rfl)
theorem valL_some {t : La} {p : List Str} (hm : p ∈ t.map (·.1)) : ∃ h, valL t p = some h := by
  cases e : valL t p with
  | some h => exact ⟨h, rfl⟩
  | none => exact absurd hm (valL_none e)
def isDrL (t : La) (p : List Str) : Bool := match valL t p with
  | some h => h.isDr
  | none => false
theorem dirAt_L (t : La) (p : List Str) : dirAt (entsL t) p = isDrL t p := by
  unfold dirAt isDrL
  rw [valL_ents]
  cases h : valL t p with
  | none => rfl
  | some x => exact x.dir
theorem goodL_ok {t : La} (g : GoodL t) {p : List Str} {h : En} (hm : (p, h) ∈ t) : h.ok ∧ goodPath p = true := by
  obtain ⟨_, h2, h3, _, _⟩ := layerB_parts g.lay
  have he : (p, h.d) ∈ entsL t := List.mem_map.mpr ⟨(p, h), hm, rfl⟩
  exact ⟨En.ok_of (h3 _ he), h2 _ he⟩
theorem goodL_root {t : La} (g : GoodL t) : ∃ h, valL t [] = some h ∧ h.isDr = true := by
  obtain ⟨_, _, _, h4, _⟩ := layerB_parts g.lay
  unfold roofH at h4
  rw [Bool.and_eq_true, dirAt_L] at h4
  have h := h4.1
  unfold isDrL at h
  cases e : valL t [] with
  | none => rw [e] at h; cases h
  | some x => rw [e] at h; exact ⟨x, rfl, h⟩
theorem goodL_small {t : La} (h : GoodL t) : smallE (entsL t) := by
  obtain ⟨h1, h2, h3, _, _⟩ := layerB_parts h.lay
  refine ⟨fun e he => ⟨goodPath_small (h2 e he), ?_⟩, by omega⟩
  obtain ⟨x, hx, rfl⟩ := List.mem_map.mp he
  have hth := En.ok_of (h3 _ he)
  cases hx2 : x.2 with
  | dr b =>
    show smallD (En.dr b).d = true
    have e2 : decide (("drawer" : Str).length ≤ sizeLine) = true := by decide +kernel
    simp [En.d, smallD, smallAll, e2]
  | gone =>
    show smallD (En.gone).d = true
    have e2 : decide (("gone" : Str).length ≤ sizeLine) = true := by decide +kernel
    simp [En.d, smallD, smallAll, e2]
  | fl n z =>
    show smallD (En.fl n z).d = true
    rw [hx2] at hth
    have hz : z.length ≤ 40 := by
      have := hth.2
      unfold textB at this
      rw [Bool.and_eq_true] at this
      exact of_decide_eq_true this.1
    have e1 : decide (z.length ≤ sizeLine) = true := decide_eq_true (by rw [sizeLine_eq]; omega)
    have e2 : decide (("file" : Str).length ≤ sizeLine) = true := by decide +kernel
    simp [En.d, smallD, smallAll, e1, e2]
theorem dirAt_app {es : Ents} {e : List Str × PyData} {q : List Str} (h : dirAt es q = true) : dirAt (es ++ [e]) q = true := by
  unfold dirAt at h ⊢
  rw [valE_app]
  cases hv : valE es q with
  | some d =>
    rw [hv] at h
    exact h
  | none =>
    rw [hv] at h
    cases h
theorem roofH_app {es : Ents} {e : List Str × PyData} (h : roofH es = true) (hn : e.1 ≠ []) (ha : dirAt es e.1.dropLast = true) : roofH (es ++ [e]) = true := by
  unfold roofH at h ⊢
  simp only [Bool.and_eq_true, List.all_eq_true, Bool.or_eq_true, decide_eq_true_eq] at h ⊢
  obtain ⟨h1, h2⟩ := h
  refine ⟨dirAt_app h1, fun x hx => ?_⟩
  rcases List.mem_append.mp hx with hx | hx
  · exact (h2 x hx).imp id dirAt_app
  · rw [List.mem_singleton.mp hx]
    exact Or.inr (dirAt_app ha)
theorem layerB_app {es : Ents} {p : List Str} {D : PyData} (h : layerB es = true) (h80 : es.length < 40) (hn : p ≠ []) (hg : goodPath p = true) (ha : dirAt es p.dropLast = true) (hd : entryB D = true)
    (ht : ∀ n z y, fileB D = true → partD 1 D = .int n → partD 2 D = .str z → valV (seenOf [] (es.map (·.2))) (Sum.inl n) = some (.str y) → y = z) : layerB (es ++ [(p, D)]) = true := by
  obtain ⟨h1, h2, h3, h4, h5⟩ := layerB_parts h
  have t5 : oneTextB ((es ++ [(p, D)]).map (·.2)) = true := by
    rw [List.map_append]
    show textsGo [] (es.map (·.2) ++ [D]) = true
    rw [textsGo_app _ _ (fun k v h => by cases h), Bool.and_eq_true]
    refine ⟨h5, ?_⟩
    cases hf : fileB D with
    | false =>
      rw [textsGo_not hf]
      rfl
    | true =>
      obtain ⟨fs, n, z, _, _, e1, e2, _, _⟩ := file_parts hf
      cases hv : valV (seenOf [] (es.map (·.2))) (Sum.inl n) with
      | none =>
        rw [textsGo_new hf e1 e2 hv]
        rfl
      | some v =>
        obtain ⟨y, rfl⟩ := seenOf_strs (es.map (·.2)) (fun k v h => by cases h) _ _ hv
        rw [textsGo_old hf e1 e2 hv, if_pos (ht n z y hf e1 e2 hv)]
        rfl
  unfold layerB
  simp only [Bool.and_eq_true, decide_eq_true_eq, List.all_eq_true]
  refine ⟨by rw [List.length_append, List.length_singleton]; omega, fun e he => ?_, fun e he => ?_, roofH_app h4 hn ha, t5⟩
  · rcases List.mem_append.mp he with he | he
    · exact h2 e he
    · rw [List.mem_singleton.mp he]
      exact hg
  · rcases List.mem_append.mp he with he | he
    · exact h3 e he
    · rw [List.mem_singleton.mp he]
      exact hd
theorem goodL_app {t : La} {p : List Str} {c : Str} {h : En} (g : GoodL t) (hl : t.length < 40) (hp : goodPath p = true) (hd : isDrL t p = true) (h5 : p.length < 5) (hc : nameB c = true) (hn : valL t (p ++ [c]) = none) (ok : h.ok)
    (ht : ∀ n z y, h = .fl n z → valV (seenOf [] ((entsL t).map (·.2))) (Sum.inl n) = some (.str y) → y = z) : GoodL (t ++ [(p ++ [c], h)]) := by
  constructor
  · have e : entsL (t ++ [(p ++ [c], h)]) = entsL t ++ [(p ++ [c], h.d)] := by
      unfold entsL
      rw [List.map_append]
      rfl
    rw [e]
    refine layerB_app g.lay (by unfold entsL; rw [List.length_map]; exact hl) (by simp) (goodPath_snoc hp h5 hc) ?_ (En.entry ok) ?_
    · rw [List.dropLast_concat, dirAt_L]
      exact hd
    · intro n z y hf e1 e2 hv
      cases h with
      | dr b => cases b <;> exact absurd hf (by decide +kernel)
      | gone => exact absurd hf (by decide +kernel)
      | fl n' z' =>
        have e1 : PyData.int n' = .int n := e1
        have e2 : PyData.str z' = .str z := e2
        injection e1 with e1
        injection e2 with e2
        subst e1
        subst e2
        exact ht n' z' y rfl hv
  · rw [List.map_append, List.nodup_append]
    refine ⟨g.nd, by simp, fun a ha b hb e => ?_⟩
    have hb : b = p ++ [c] := by simpa using hb
    rw [hb] at e
    exact valL_none hn (e ▸ ha)
theorem RowN.keys {H : Hp} : ∀ {kvs : List (List L2.Key × V)} {t : La}, RowN H kvs t → LS.KeysP kvs (t.map (·.1))
  | _, _, .nil => rfl
  | kv :: kvs, e :: t, .cons a b => by
    have := RowN.keys b
    unfold LS.KeysP at this ⊢
    rw [List.map_cons, List.map_cons, List.map_cons, this, a.1]
theorem seenL_snoc {t : La} {p : List Str} {h : En} {dx : List (L2.Key × V)} (ok : h.ok) (hs : ∀ n y, valV (seenOf [] ((entsL t).map (·.2))) (Sum.inl n) = some (.str y) → valV dx (Sum.inl n) = some (.str y))
    (hh : ∀ n z, h = .fl n z → valV dx (Sum.inl n) = some (.str z)) : ∀ n y, valV (seenOf [] ((entsL (t ++ [(p, h)])).map (·.2))) (Sum.inl n) = some (.str y) → valV dx (Sum.inl n) = some (.str y) := by
  intro n y hv
  have e : (entsL (t ++ [(p, h)])).map (·.2) = (entsL t).map (·.2) ++ [h.d] := by
    unfold entsL
    rw [List.map_append, List.map_append]
    rfl
  rw [e, seenOf_app] at hv
  cases h with
  | dr b =>
    rw [seenStep_not (by cases b <;> decide +kernel)] at hv
    exact hs n y hv
  | gone =>
    rw [seenStep_not (by decide +kernel)] at hv
    exact hs n y hv
  | fl n' z' =>
    have hf : fileB (En.fl n' z').d = true := by
      show (kindB "file" 3 (.tuple [.str "file", .int n', .str z']) && (numB (.int n') && textB z')) = _
      rw [show kindB "file" 3 (.tuple [.str "file", .int n', .str z']) = true by rfl, ok.1, ok.2]
      rfl
    rw [seenStep_file hf (n := n') (z := z') rfl rfl] at hv
    split at hv
    · exact hs n y hv
    · rw [valV_put] at hv
      split at hv
      · rename_i e2
        injection e2 with e2
        subst e2
        injection hv with hv
        injection hv with hv
        subst hv
        exact hh _ _ rfl
      · exact hs n y hv
theorem RowN.snoc {H : Hp} {kvs : List (List L2.Key × V)} {t : La} {p : List Str} {h : En} {r : Addr} (row : RowN H kvs t) (e : H r = some (.tup h.xs)) : RowN H (kvs ++ [(p.map Sum.inr, .ref r)]) (t ++ [(p, h)]) :=
  pairSnoc (F := fun (kv : List L2.Key × V) (e : List Str × En) => kv.1 = e.1.map Sum.inr ∧ ∃ r, kv.2 = .ref r ∧ H r = some (.tup e.2.xs)) ⟨rfl, r, rfl, e⟩ row
theorem drawL_one (b : Bool) : GoodL [([], .dr b)] := ⟨by cases b <;> decide +kernel, by simp⟩
/-! ### renumbered -/
def renD (seen : List Int) : PyData → PyData
  | .tuple [.str w, .int n, .str z] => if w = "file" then .tuple [.str "file", .int ((seen.idxOf n : Nat) : Int), .str z] else .tuple [.str w, .int n, .str z]
  | d => d
def seenD (seen : List Int) : PyData → List Int
  | .tuple [.str w, .int n, .str z] => if w = "file" then (if n ∈ seen then seen else seen ++ [n]) else seen
  | _ => seen
def renStep (st : List Int × Ents) (e : List Str × PyData) : List Int × Ents := (seenD st.1 e.2, st.2 ++ [(e.1, renD st.1 e.2)])
def renOf (es : Ents) : List Int × Ents := es.foldl renStep ([], [])
theorem renOf_snoc (es : Ents) (e : List Str × PyData) : renOf (es ++ [e]) = renStep (renOf es) e := by
  unfold renOf
  rw [List.foldl_append]
  rfl
theorem renOf_keys : ∀ (es : Ents) (st : List Int × Ents), ((es.foldl renStep st).2).map (·.1) = st.2.map (·.1) ++ es.map (·.1)
  | [], st => by simp
  | e :: es, st => by
    rw [List.foldl_cons, renOf_keys es]
    show ((st.2 ++ [(e.1, renD st.1 e.2)]).map (·.1)) ++ _ = _
    rw [List.map_append, List.append_assoc]
    rfl
/-- a thing that renumbered serves: a tuple that begins with a text; a file has its number and its text -/
def renOk (d : PyData) : Prop := (∃ n z, d = .tuple [.str "file", .int n, .str z]) ∨ ∃ w ds, d = .tuple (.str w :: ds) ∧ w ≠ "file"
theorem renD_oth {seen : List Int} {w : Str} {ds : List PyData} (h : w ≠ "file") : renD seen (.tuple (.str w :: ds)) = .tuple (.str w :: ds) ∧ seenD seen (.tuple (.str w :: ds)) = seen := by
  unfold renD seenD
  constructor
  · split
    · rename_i h2
      injection h2 with h2
      injection h2 with h3 h4
      injection h3 with h3
      rw [if_neg (by rw [← h3]; exact h)]
      rw [h3, h4]
    · rfl
  · split
    · rename_i h2
      injection h2 with h2
      injection h2 with h3 h4
      injection h3 with h3
      rw [if_neg (by rw [← h3]; exact h)]
    · rfl
theorem renD_file {seen : List Int} {n : Int} {z : Str} : renD seen (.tuple [.str "file", .int n, .str z]) = .tuple [.str "file", .int ((seen.idxOf n : Nat) : Int), .str z] ∧
    seenD seen (.tuple [.str "file", .int n, .str z]) = if n ∈ seen then seen else seen ++ [n] := by
  unfold renD seenD
  exact ⟨if_pos rfl, if_pos rfl⟩
def keysUpE (es : Ents) : List (List Str) := (es.map (·.1)).mergeSort fun a b => !LS.ltP b a
def upE (es : Ents) : Ents := (keysUpE es).map fun p => (p, (valE es p).getD .none)
def plainE (es : Ents) : Ents := (renOf (upE es)).2
theorem keysUpE_perm (es : Ents) : (keysUpE es).Perm (es.map (·.1)) := List.mergeSort_perm _ _
theorem keysUpE_rising (es : Ents) : RisingP (keysUpE es) := by
  have h := List.pairwise_mergeSort (le := fun a b : List Str => !LS.ltP b a) (fun a b c h1 h2 => ?_) (fun a b => ?_) (es.map (·.1))
  · exact h.imp fun {x y} hxy => by simpa using hxy
  · simp only [Bool.not_eq_true'] at h1 h2 ⊢
    exact decide_eq_false (LS.rk_tr (of_decide_eq_false h1) (of_decide_eq_false h2))
  · simp only [Bool.or_eq_true, Bool.not_eq_true']
    cases h : LS.ltP b a with
    | false => exact Or.inl rfl
    | true => exact Or.inr (decide_eq_false (LS.rk_asym (of_decide_eq_true h)))
theorem keysUpE_of {es : Ents} {ys : LS.Zs} (h : (ys.map (·.2)).Perm (es.map (·.1))) (hr : LS.Rising ys) : ys.map (·.2) = keysUpE es :=
  rising_uniq (h.trans (keysUpE_perm es).symm) (List.pairwise_map.mpr hr) (keysUpE_rising es)
/-- what the numbers' dict holds -/
def NumsOf (nums : List (L2.Key × V)) (seen : List Int) : Prop := nums.length = seen.length ∧ ∀ n : Int, valV nums (Sum.inl n) = if n ∈ seen then some (.int ((seen.idxOf n : Nat) : Int)) else none
theorem NumsOf.add {nums : List (L2.Key × V)} {seen : List Int} {n : Int} (h : NumsOf nums seen) (hn : n ∉ seen) : NumsOf (putK nums (Sum.inl n) (.int (nums.length : Nat))) (seen ++ [n]) := by
  have hv : valV nums (Sum.inl n) = none := by rw [h.2 n, if_neg hn]
  refine ⟨?_, fun m => ?_⟩
  · rw [putK_new _ hv, List.length_append, List.length_append, h.1]
    rfl
  · rw [valV_put]
    by_cases e : m = n
    · subst e
      rw [if_pos rfl, if_pos (List.mem_append_right _ (List.mem_singleton.mpr rfl)), List.idxOf_append, if_neg hn, h.1]
      simp
    · rw [if_neg (fun q => e (by injection q)), h.2 m]
      by_cases hm : m ∈ seen
      · rw [if_pos hm, if_pos (List.mem_append_left _ hm), List.idxOf_append, if_pos hm]
      · rw [if_neg hm, if_neg (fun q => (List.mem_append.mp q).elim hm (fun q => e (List.mem_singleton.mp q)))]
/-! ### what stays where a thing that is no list and no tuple is written -/
def seqO : HO → Prop
  | .lst _ => True
  | .tup _ => True
  | .frz _ (.lst _) => True
  | .frz _ (.tup _) => True
  | _ => False
section
variable {K : PySem.W.Frag} {H H1 : Hp} (k : ∀ b o, H b = some o → seqO o → H1 b = some o)
include k
theorem mv_sqT {a : Addr} {xs : List V} (h : SqT K H a xs) : SqT K H1 a xs := by
  rcases h with (h | ⟨o, h⟩) | h
  · exact Or.inl (Or.inl (k a _ h trivial))
  · exact Or.inl (Or.inr ⟨o, k a _ h trivial⟩)
  · exact Or.inr h
theorem mv_sqL {a : Addr} {xs : List V} (h : SqL K H a xs) : SqL K H1 a xs := by
  rcases h with (h | ⟨o, h⟩) | h
  · exact Or.inl (Or.inl (k a _ h trivial))
  · exact Or.inl (Or.inr ⟨o, k a _ h trivial⟩)
  · exact Or.inr h
mutual
theorem mv_dp : ∀ {D : PyData} {v : V}, Dp K H v D → Dp K H1 v D
  | _, _, .non => .non
  | _, _, .bl b => .bl b
  | _, _, .int i => .int i
  | _, _, .str z => .str z
  | _, _, .lst h t => .lst (mv_sqL k h) (mv_dpAll t)
  | _, _, .tup h t => .tup (mv_sqT k h) (mv_dpAll t)
theorem mv_dpAll : ∀ {ds : List PyData} {vs : List V}, DpAll K H vs ds → DpAll K H1 vs ds
  | _, _, .nil => .nil
  | _, _, .cons h t => .cons (mv_dp h) (mv_dpAll t)
end
theorem mv_row {kvs : List (List L2.Key × V)} {es : Ents} (h : RowE K H kvs es) : RowE K H1 kvs es := pairImp (fun _ _ q => ⟨q.1, mv_dp k q.2⟩) h
end
theorem mv_upd {H : Hp} {d : Addr} {o u : HO} (hd : H d = some o) (n : ¬ seqO o) : ∀ b v, H b = some v → seqO v → (upd H d u) b = some v := fun b v e q => by
  have hb : b ≠ d := fun z => by
    rw [z, hd] at e
    cases e
    exact n q
  rw [upd_ne hb]
  exact e
def spRenum (K : PySem.W.Frag) : Sp := fun vs H Q _ => ∃ d es, vs = [.ref d] ∧ TrAt K H d es ∧ (es.map (·.1)).Nodup ∧ (∀ e ∈ es, renOk e.2) ∧ es.length ≤ 1000 ∧
  ∀ H' l kvs, Ex H H' → H' l = some (.dT kvs) → H l = none → RowE K H' kvs (plainE es) → Q (.ref l) H'
section
variable {P : Program} {w : World} {K : PySem.W.Frag} {mg : Str → Option Value} {base : Heap}
abbrev rnN : List Str := ["tree", "numbers", "found", "path", "thing", "number"]
theorem scRenum : FnScope rnN ["tree"] (defScope sRenumbered) := ⟨rfl, rfl, rfl, by decide +kernel, rfl, by decide +kernel, by decide +kernel⟩
theorem ok_renum {f : Addr} {fd : FuncData} (F : Fun K "renumbered" "renumbered" sRenumbered f fd) (M : Mg mg) (mS : mg "sorted" = none) : FnOk P w K mg base CX0 1 f fd ["tree"] (spRenum K) := by
  refine F.ok scRenum (fun vs H Q E h => ?_) (fun cdv A outer s H vs Q E hr h => ?_)
  · obtain ⟨d, es, rfl, _⟩ := h
    rfl
  · obtain ⟨d, es, rfl, ⟨kvs, hd, row⟩, nd, hok, hlen, k⟩ := h
    have hu1 : (A.deeper (envOfC "renumbered" (defScope sRenumbered) s.heap.objs.size f cdv)).units + 1 < cLine := by have := hr.units; omega
    have hu3 : (A.deeper (envOfC "renumbered" (defScope sRenumbered) s.heap.objs.size f cdv)).units + 3 < cLine := by have := hr.units; omega
    refine ⟨_, pss_cons (ps_set (i := 1) scRenum.nd rfl (Or.inl rfl) pe_dnewK)
      (pss_cons (ps_set (i := 2) scRenum.nd rfl (Or.inl rfl) pe_dnewT)
      (pss_cons (ps_for PassesOwn.never rfl (pi_list (pe_callB (LS.cr_sortD rfl hu3) (by rfl) mS (by decide +kernel) (pa_cons (pv 0) pa_nil))) (pg_name (i := 3) scRenum.nd rfl (Or.inl rfl))
        (pss_cons (ps_set (i := 4) scRenum.nd rfl (Or.inl rfl) (pe_dget hu1 (pv 0) (pv 3) (fun _ _ => rfl)))
        (pss_cons (ps_if (pt_cmpR op_eq (pe_ix ix_tup (pv 4) pe_int (fun _ _ => rfl)) pe_str (nomark _))
          (pss_cons (ps_set (i := 5) scRenum.nd rfl (Or.inl rfl) (pe_bm PySem.F.plainAttrs_dict PySem.F.slot_dict_setdefault PySem.F.type_dict_setdefault mt_setDef (pv 1) (pa_cons (pe_ix ix_tup (pv 4) pe_int (fun _ _ => rfl)) (pa_cons (pe_callB call_lenD (by rfl) M.len PySem.boot_len (pa_cons (pv 1) pa_nil)) pa_nil))))
          (pss_one (ps_set (i := 4) scRenum.nd rfl (Or.inl rfl) (pe_tup (pa_cons pe_str (pa_cons (pv 5) (pa_cons (pe_ix ix_tup (pv 4) pe_int (fun _ _ => rfl)) pa_nil)))))))
          pss_nil)
        (pss_one (ps_dput hu1 (pv 2) (pv 3) (pv 4) rfl)))))
      (pss_one (ps_ret (pv 2))))), ?_⟩
    intro pn hpn
    have xn := Ex.new (o := .dK []) hpn
    intro pf hpf
    have xf := Ex.new (o := .dT []) hpf
    have x0 := xn.trans xf
    have en : (upd (upd H pn (.dK [])) pf (.dT [])) pn = some (.dK []) := xf.keep _ _ upd_same (fun ps z => by cases z)
    have ef : (upd (upd H pn (.dK [])) pf (.dT [])) pf = some (.dT []) := upd_same
    have hpfH : H pf = none := xn.free _ hpf
    generalize upd (upd H pn (.dK [])) pf (.dT []) = H0 at x0 en ef ⊢
    have hd0 : Rd H0 d (.dT kvs) := x0.rd hd (fun ps z => by cases z)
    have hdn : pn ≠ d := fun z => by
      rw [← z] at hd
      rcases hd with h | ⟨o, h⟩
      · rw [hpn] at h; cases h
      · rw [hpn] at h; cases h
    refine ⟨_, rfl, d, kvs, es.map (·.1), rfl, hd0, row.keys, fun l ys py hup hpx hl => ⟨l, rfl, ⟨_, SqL.of upd_same⟩, ?_⟩⟩
    have hups := keysUpE_of py hup
    have x1 := Ex.new (o := .lst (LS.addrs ys)) hl
    have l1 : (upd H0 l (.lst (LS.addrs ys))) l = some (.lst (LS.addrs ys)) := upd_same
    have px1 : ∀ z ∈ ys, PathX (upd H0 l (.lst (LS.addrs ys))) z.1 z.2 := fun z hz => PathX.ex x1 (hpx z hz)
    have en1 := x1.keep _ _ en (fun ps z => by cases z)
    have ef1 := x1.keep _ _ ef (fun ps z => by cases z)
    have x01 := x0.trans x1
    generalize upd H0 l (.lst (LS.addrs ys)) = H1 at x1 l1 px1 en1 ef1 x01 ⊢
    have hlp : l ≠ pn ∧ l ≠ pf := ⟨fun z => (by rw [z, en] at hl; cases hl), fun z => (by rw [z, ef] at hl; cases hl)⟩
    have hnf : pn ≠ pf := fun z => by rw [z, ef] at en; cases en
    have hyl : ys.length = es.length := by
      have := py.length_eq
      rwa [List.length_map, List.length_map] at this
    have eup : upE es = ys.map fun z => (z.2, (valE es z.2).getD .none) := by
      unfold upE
      rw [← hups, List.map_map]
      rfl
    clear x0 xn xf en ef hl hpf hd0
    refine for_it (walk_list (K := K) (a := l) (xs := LS.addrs ys)) (fun j σ G => (∃ v3 v4 v5, σ = [some (.ref d), some (.ref pn), some (.ref pf), v3, v4, v5]) ∧ Ex H G ∧ G l = some (.lst (LS.addrs ys)) ∧ (∀ z ∈ ys, PathX G z.1 z.2) ∧
        ∃ nums kf, G pn = some (.dK nums) ∧ NumsOf nums (renOf ((upE es).take j)).1 ∧ nums.length ≤ j ∧ G pf = some (.dT kf) ∧ RowE K G kf (renOf ((upE es).take j)).2)
      ⟨⟨none, none, none, rfl⟩, x01, l1, px1, [], [], en1, ⟨rfl, fun n => rfl⟩, Nat.le_refl _, ef1, .nil⟩ (fun j σ G _ h => SqL.of h.2.2.1) ?_ ?_
    · rintro j y σ G G' hj ⟨⟨v3, v4, v5, rfl⟩, xg, hlG, hpG, nums, kf, hn, hnums, hnl, hf, hrow⟩ ⟨rfl, hy⟩
      unfold LS.addrs at hy hj
      rw [List.getElem?_map] at hy
      rw [List.length_map] at hj
      obtain ⟨z, hz, rfl⟩ := Option.map_eq_some_iff.mp hy
      have hzm := List.mem_of_getElem? hz
      have pz := hpG z hzm
      have hk : z.2 ∈ es.map (·.1) := py.mem_iff.mp (List.mem_map.mpr ⟨z, hzm, rfl⟩)
      obtain ⟨e, he, ee⟩ := List.mem_map.mp hk
      have hval : valE es z.2 = some e.2 := by rw [← ee]; exact valE_nd nd he
      have etake : (upE es).take (j + 1) = (upE es).take j ++ [(z.2, e.2)] := by
        rw [eup, List.take_add_one, List.getElem?_map, hz]
        show _ ++ [(z.2, (valE es z.2).getD .none)] = _
        rw [hval]
        rfl
      have hnew : z.2 ∉ (renOf ((upE es).take j)).2.map (·.1) := by
        unfold renOf
        rw [renOf_keys]
        intro hm
        rw [List.map_nil, List.nil_append, eup, ← List.map_take, List.map_map] at hm
        obtain ⟨u, hu, eu⟩ := List.mem_map.mp hm
        have ndy : (ys.map (·.2)).Nodup := by rw [hups]; exact (keysUpE_perm es).nodup_iff.mpr nd
        have eu : u.2 = z.2 := eu
        obtain ⟨i, hi, rfl⟩ := List.mem_iff_getElem.mp hu
        rw [List.length_take] at hi
        rw [List.getElem_take] at eu
        have hj2 : ys[j] = z := by
          rw [List.getElem?_eq_getElem hj] at hz
          exact Option.some.inj hz
        have h1 : (ys.map (·.2))[i]'(by rw [List.length_map]; omega) = (ys.map (·.2))[j]'(by rw [List.length_map]; omega) := by
          rw [List.getElem_map, List.getElem_map, hj2]
          exact eu
        have := (List.getElem_inj ndy).mp h1
        omega
      obtain ⟨kd, hkd, rowd⟩ : ∃ kd, Rd G' d (.dT kd) ∧ RowE K G' kd es := ⟨kvs, xg.rd hd (fun ps z => by cases z), row.ex xg⟩
      rcases rowd.val (p := z.2) with ⟨_, e2⟩ | ⟨v0, D0, e1, e2, dv⟩
      · rw [hval] at e2
        cases e2
      rw [hval] at e2
      cases e2
      have dg : DGet G' d (.ref z.1) (some v0) := by
        have := get_tr hkd pz
        rwa [e1] at this
      -- what follows a thing
      have fin : ∀ (G2 : Hp) (vt : V) (nums2 : List (L2.Key × V)), Ex H G2 → G2 l = some (.lst (LS.addrs ys)) → (∀ z ∈ ys, PathX G2 z.1 z.2) → G2 pn = some (.dK nums2) → NumsOf nums2 (seenD (renOf ((upE es).take j)).1 e.2) → nums2.length ≤ j + 1 → G2 pf = some (.dT kf) →
          RowE K G2 kf (renOf ((upE es).take j)).2 → Dp K G2 vt (renD (renOf ((upE es).take j)).1 e.2) → (∃ H', DPut G2 pf (.ref z.1) vt H' ∧ (Ex H H' ∧ H' l = some (.lst (LS.addrs ys)) ∧ (∀ z ∈ ys, PathX H' z.1 z.2) ∧
            ∃ nums kf, H' pn = some (.dK nums) ∧ NumsOf nums (renOf ((upE es).take (j + 1))).1 ∧ nums.length ≤ j + 1 ∧ H' pf = some (.dT kf) ∧ RowE K H' kf (renOf ((upE es).take (j + 1))).2)) := by
        intro G2 vt nums2 x2 hl2 hp2 hn2 hnum2 hnl2 hf2 hrow2 hdt
        have hnone : valV kf (z.2.map Sum.inr) = none := by
          rcases hrow2.val (p := z.2) with ⟨q, _⟩ | ⟨_, D, _, q, _⟩
          · exact q
          · obtain ⟨x, hx, hx1, _⟩ := valE_mem q
            exact absurd (List.mem_map.mpr ⟨x, hx, hx1⟩) hnew
        have hkl : kf.length < sizeLine := by
          have h1 := hrow2.len
          have h2 : (renOf ((upE es).take j)).2.length = ((upE es).take j).length := by
            have := congrArg List.length (renOf_keys ((upE es).take j) ([], []))
            simpa [renOf] using this
          rw [sizeLine_eq]
          rw [List.length_take] at h2
          omega
        refine ⟨_, DPut.t (k := z.2.map Sum.inr) (v := vt) hf2 (hp2 z hzm).key hkl, x2.put hpfH, ?_, fun u hu => ?_, nums2, kf ++ [(z.2.map Sum.inr, vt)], ?_, ?_, hnl2, ?_, ?_⟩
        · rw [upd_ne hlp.2]
          exact hl2
        · show upd _ _ _ _ = _
          rw [upd_ne (ne_of (hp2 u hu) hf2 (fun z => by cases z))]
          exact hp2 u hu
        · rw [upd_ne hnf]
          exact hn2
        · rw [etake, renOf_snoc]
          exact hnum2
        · rw [upd_same, putK_new _ hnone]
        · rw [etake, renOf_snoc]
          have lk : ∀ b o, G2 b = some o → b ≠ pf → (upd G2 pf (.dT (putK kf (z.2.map Sum.inr) vt))) b = some o := fun b o e hb => by rw [upd_ne hb]; exact e
          refine pairSnoc (F := fun (kv : List L2.Key × V) (e : List Str × PyData) => kv.1 = e.1.map Sum.inr ∧ Dp K _ kv.2 e.2) ⟨rfl, ?_⟩ (hrow2.lk (Or.inl hf2) lk)
          exact lk_dp (Or.inl hf2) lk hdt
      rcases hok e he with ⟨n, tx, ed⟩ | ⟨wd, ds, ed, hw⟩
      · rw [ed] at dv fin
        obtain ⟨f1, f2⟩ := renD_file (seen := (renOf ((upE es).take j)).1) (n := n) (z := tx)
        rw [f1, f2] at fin
        rcases kn_tuple dv with ⟨a0, xs, ds', rfl, ed', ha, hx⟩ | ⟨hno, _⟩
        rotate_left
        · exact absurd rfl (hno _)
        cases ed'
        obtain ⟨w0, at0, d0⟩ := dpAll_get 0 hx (by simp)
        obtain ⟨w1, at1, d1⟩ := dpAll_get 1 hx (by simp)
        obtain ⟨w2, at2, d2⟩ := dpAll_get 2 hx (by simp)
        cases d0
        cases d1
        cases d2
        have hl4 : nums.length < sizeLine := by
          rw [sizeLine_eq]
          omega
        refine ⟨_, rfl, _, rfl, d, .ref a0, rfl, dg, ?_⟩
        refine ⟨_, rfl, a0, xs, 0, _, rfl, rfl, ha, at_of (j := 0) rfl at0, rfl, _, rfl, ?_⟩
        rw [decide_eq_true rfl]
        refine iteT ?_
        refine ⟨_, rfl, .inr (.inr (.inl ⟨rfl, .inl ⟨_, hn⟩⟩)), _, rfl, a0, xs, 1, .int n, rfl, rfl, ha, at_of (j := 1) rfl at1, _, rfl, pn, nums, rfl, hn, pn, nums, .inl n, .int (nums.length : Nat), rfl, rfl, hn, hl4, fun y hyv => ?_, fun hnv => ?_⟩
        · rw [hnums.2 n] at hyv
          by_cases hm : n ∈ (renOf ((upE es).take j)).1
          · rw [if_pos hm] at hyv fin
            cases hyv
            refine ⟨_, rfl, _, rfl, a0, xs, 2, .str tx, rfl, rfl, ha, at_of (j := 2) rfl at2, (by show 3 ≤ sizeLine; decide), fun q hq => ?_⟩
            have xq := Ex.new (o := .tup [V.str "file", V.int ((List.idxOf n (renOf ((upE es).take j)).1 : Nat) : Int), V.str tx]) hq
            refine ⟨_, rfl, _, rfl, _, rfl, pf, ?_⟩
            obtain ⟨H', g1, g2⟩ := fin _ (.ref q) nums (xg.trans xq) (xq.keep _ _ hlG (fun ps z => by cases z)) (fun u hu => PathX.ex xq (hpG u hu)) (xq.keep _ _ hn (fun ps z => by cases z)) hnums (by omega) (xq.keep _ _ hf (fun ps z => by cases z)) (hrow.ex xq)
              (.tup (SqT.of upd_same) (.cons (.str _) (.cons (.int _) (.cons (.str _) .nil))))
            exact ⟨H', rfl, g1, ⟨_, _, _, rfl⟩, g2⟩
          · rw [if_neg hm] at hyv
            cases hyv
        · rw [hnums.2 n] at hnv
          by_cases hm : n ∈ (renOf ((upE es).take j)).1
          · rw [if_pos hm] at hnv
            cases hnv
          · rw [if_neg hm] at fin
            have lk : ∀ b o, G' b = some o → b ≠ pn → (upd G' pn (.dK (putK nums (Sum.inl n) (.int (nums.length : Nat))))) b = some o := fun b o e hb => by rw [upd_ne hb]; exact e
            have put : Ex H (upd G' pn (.dK (putK nums (Sum.inl n) (.int (nums.length : Nat))))) := xg.put hpn
            have mv := mv_upd (u := .dK (putK nums (Sum.inl n) (.int (nums.length : Nat)))) hn (fun q => q)
            have ha2 := mv_sqT (K := K) mv ha
            have hrow2 := mv_row (K := K) mv hrow
            have hnn : (upd G' pn (.dK (putK nums (Sum.inl n) (.int (nums.length : Nat))))) pn = some (.dK (putK nums (Sum.inl n) (.int (nums.length : Nat)))) := upd_same
            have hf2 : (upd G' pn (.dK (putK nums (Sum.inl n) (.int (nums.length : Nat))))) pf = some (.dT kf) := by rw [upd_ne (Ne.symm hnf)]; exact hf
            have hl2 : (upd G' pn (.dK (putK nums (Sum.inl n) (.int (nums.length : Nat))))) l = some (.lst (LS.addrs ys)) := by rw [upd_ne hlp.1]; exact hlG
            have hp2 : ∀ z ∈ ys, PathX (upd G' pn (.dK (putK nums (Sum.inl n) (.int (nums.length : Nat))))) z.1 z.2 := fun u hu => mv _ _ (hpG u hu) trivial
            have hnl2 : (putK nums (Sum.inl n) (V.int (nums.length : Nat))).length ≤ j + 1 := by
              have := length_putK nums (Sum.inl n) (V.int (nums.length : Nat))
              omega
            have eidx : ((List.idxOf n (renOf ((upE es).take j)).1 : Nat) : Int) = ((nums.length : Nat) : Int) := by
              rw [hnums.1, List.idxOf_eq_length hm]
            generalize upd G' pn (.dK (putK nums (Sum.inl n) (.int (nums.length : Nat)))) = G2 at put ha2 hrow2 hnn hf2 hl2 hp2 ⊢
            refine ⟨_, rfl, _, rfl, a0, xs, 2, .str tx, rfl, rfl, ha2, at_of (j := 2) rfl at2, (by show 3 ≤ sizeLine; decide), fun q hq => ?_⟩
            have xq := Ex.new (o := .tup [V.str "file", V.int (nums.length : Nat), V.str tx]) hq
            refine ⟨_, rfl, _, rfl, _, rfl, pf, ?_⟩
            obtain ⟨H', g1, g2⟩ := fin _ (.ref q) _ (put.trans xq) (xq.keep _ _ hl2 (fun ps z => by cases z)) (fun u hu => PathX.ex xq (hp2 u hu)) (xq.keep _ _ hnn (fun ps z => by cases z)) (hnums.add hm) hnl2 (xq.keep _ _ hf2 (fun ps z => by cases z)) (hrow2.ex xq)
              (by rw [eidx]; exact .tup (SqT.of upd_same) (.cons (.str _) (.cons (.int _) (.cons (.str _) .nil))))
            exact ⟨H', rfl, g1, ⟨_, _, _, rfl⟩, g2⟩
      · rw [ed] at dv fin
        obtain ⟨f1, f2⟩ := renD_oth (seen := (renOf ((upE es).take j)).1) (ds := ds) hw
        rw [f1, f2] at fin
        rcases kn_tuple dv with ⟨a0, xs, ds', rfl, ed', ha, hx⟩ | ⟨hno, _⟩
        rotate_left
        · exact absurd rfl (hno _)
        cases ed'
        obtain ⟨w0, at0, d0⟩ := dpAll_get 0 hx (by simp)
        cases d0
        refine ⟨_, rfl, _, rfl, d, .ref a0, rfl, dg, ?_⟩
        refine ⟨_, rfl, a0, xs, 0, _, rfl, rfl, ha, at_of (j := 0) rfl at0, rfl, _, rfl, ?_⟩
        rw [show decide (V.str wd = V.str "file") = false from decide_eq_false (fun q => hw (by injection q))]
        refine iteF ⟨_, rfl, _, rfl, _, rfl, pf, ?_⟩
        obtain ⟨H', g1, g2⟩ := fin G' (.ref a0) nums xg hlG hpG hn hnums (by omega) hf hrow dv
        exact ⟨H', rfl, g1, ⟨_, _, _, rfl⟩, g2⟩
    · rintro σ G ⟨⟨v3, v4, v5, rfl⟩, xg, hlG, hpG, nums, kf, hn, hnums, hnl, hf, hrow⟩
      have hle : (LS.addrs ys).length = (upE es).length := by rw [eup]; unfold LS.addrs; rw [List.length_map, List.length_map]
      rw [hle, List.take_length] at hrow
      exact ⟨_, rfl, k G pf kf xg hf hpfH hrow⟩
end
/-! ### stacks -/
def StackAt (K : PySem.W.Frag) (H : Hp) (l : Addr) (lss : List Ents) : Prop := ∃ ds : List Addr, SqL K H l (ds.map V.ref) ∧ (∀ H', Ex H H' → SqL K H' l (ds.map V.ref)) ∧ Paired (fun d es => TrAt K H d es) ds lss
theorem StackAt.ex {K : PySem.W.Frag} {H H' : Hp} {l : Addr} {lss : List Ents} (x : Ex H H') (h : StackAt K H l lss) : StackAt K H' l lss := by
  obtain ⟨ds, h1, h2, h3⟩ := h
  exact ⟨ds, h2 _ x, fun H2 x2 => h2 _ (x.trans x2), pairImp (fun _ _ q => q.ex x) h3⟩
def GoodLs (lss : List Ents) : Prop := 1 ≤ lss.length ∧ lss.length ≤ 4 ∧ ∀ es ∈ lss, smallE es ∧ layerB es = true
structure Tabs8 (H : Hp) (P1 P2 P3 P4 P6 P7 P8 : Addr) : Prop where
  t : Tabs5 H P1 P2 P3 P4 P6
  t7 : TabG H P7
  t8 : TabG H P8
theorem Tabs8.ex {H H' : Hp} {P1 P2 P3 P4 P6 P7 P8 : Addr} (x : Ex H H') (T : Tabs8 H P1 P2 P3 P4 P6 P7 P8) : Tabs8 H' P1 P2 P3 P4 P6 P7 P8 := ⟨T.t.ex x, x.tab _ T.t7, x.tab _ T.t8⟩
/-- the longest path with an entry that a path begins with -/
def longOf (es : Ents) (p : List Str) : List Str := ((begs p).filter fun q => (valE es q).isSome).getLastD []
def goneD : PyData := .tuple [.str "gone"]
/-- what is told of an entry -/
def lookedD (d : PyData) : PyData := if PyData.eqv d goneD = true then .none else match d with
  | .tuple [.str _, .int _, .str z] => .tuple [.str "file", .str z]
  | _ => drD
def lookD : List Ents → List Str → PyData
  | [], _ => .none
  | es :: r, p => match valE es p with
    | some d => lookedD d
    | none => if (begs (longOf es p)).all (seeAt es) = true then lookD r p else .none
def spCheckStack (K : PySem.W.Frag) (P1 P2 P3 P4 P6 P8 : Addr) : Sp := fun vs H Q E => ∃ l lss, vs = [.ref l] ∧ StackAt K H l lss ∧ GoodLs lss ∧ Tabs5 H P1 P2 P3 P4 P6 ∧ TabG H P8 ∧ ∀ H', Ex H H' → Q .non H'
def spIsStack (K : PySem.W.Frag) (P1 P2 P3 P4 P6 P8 : Addr) : Sp := fun vs H Q E => ∃ l lss, vs = [.ref l] ∧ StackAt K H l lss ∧ GoodLs lss ∧ Tabs5 H P1 P2 P3 P4 P6 ∧ TabG H P8 ∧ ∀ H', Ex H H' → Q (.bl true) H'
def spLongest (K : PySem.W.Frag) (P1 P2 : Addr) : Sp := fun vs H Q _ => ∃ d a es p, vs = [.ref d, .ref a] ∧ TrAt K H d es ∧ (valE es []).isSome = true ∧ PathX H a p ∧ goodPath p = true ∧ TabG H P1 ∧ TabG H P2 ∧ ∀ H' q, Ex H H' → PathX H' q (longOf es p) → Q (.ref q) H'
/-- the module's names that stacks ask -/
structure MgK (mg : Str → Option Value) : Prop where
  mostLayers : ∃ t, mg "MOST_LAYERS" = some (.int 4 t)
theorem begs_len (p : List Str) : (begs p).length = p.length + 1 := by unfold begs; rw [List.length_map, List.length_range]
section
variable {P : Program} {w : World} {K : PySem.W.Frag} {mg : Str → Option Value} {base : Heap}
theorem scIsStack : FnScope ["thing"] ["thing"] (defScope sIsStack) := ⟨rfl, rfl, rfl, by decide +kernel, rfl, by decide +kernel, by decide +kernel⟩
theorem ok_isStack {f c fL P1 P2 P3 P4 P6 P8 : Addr} {fd fdL : FuncData} (F : FunC K "is_stack" "is_stack" sIsStack f fd c) (M : Mg mg) (R : MgR mg) (MK : MgK mg) (TB : LamX.TabB base mg c P8)
    (GL : FnOk P w K mg base CX0 9 fL fdL ["thing"] (spIsLayer K P1 P2 P3 P4 P6)) (mL : mg "is_layer" = some (.ref fL)) (kL : PySem.W.keepIn K (.ref fL) = true) (bL : Binds K fdL ["thing"] []) :
    FnOk P w K mg base CX0 11 f fd ["thing"] (spIsStack K P1 P2 P3 P4 P6 P8) := by
  refine F.ok scIsStack (fun vs H Q E h => ?_) (fun A outer s H vs Q E hr h => ?_)
  · obtain ⟨l, lss, rfl, _⟩ := h
    rfl
  · obtain ⟨l, lss, rfl, st, g, T, t8, k⟩ := h
    obtain ⟨tm, hm⟩ := MK.mostLayers
    refine ⟨_, pss_cons (ps_if (PW.pt (pw_or (pt_not (pt_val (pe_callB call_is (by rfl) M.isinstance boot_isinstance (pa_cons (pv 0) (pa_cons (pe_bltn (v := .ty "list") (by rfl) R.list (by decide +kernel) rfl) pa_nil)))))
        (pw_or1 (pt_not (pt_chain op_le op_le pe_int (pe_callB call_len_seq (by rfl) M.len PySem.boot_len (pa_cons (pv 0) pa_nil)) (pe_glob (v := .int 4) (by rfl) hm ⟨_, rfl⟩)))))) (pss_one (ps_ret pe_bl)) pss_nil)
      (pss_one (ps_ret (pe_all (k := 9) (N := ["thing", "layer"]) (pad := 1) (j := 1) (x := "layer") (P := P8) hr rfl (by rfl) M.all TB rfl (gn_by (N0 := ["thing"]) (sc := defScope sIsStack) (by decide +kernel)) (pi_list (pv 0))
        (fun A s H cl C code fp pn hr => pe_call (E := E0) GL hr (by rfl) mL kL bL .nil pass0 (pa_cons (pv 1) pa_nil))))), ?_⟩
    obtain ⟨ds, h1, h2, h3⟩ := st
    obtain ⟨g1, g4, gl⟩ := g
    have hl := h3.length
    refine ⟨_, rfl, .ref l, "list", "list", rfl, .lst h1, rfl, _, rfl, ?_⟩
    rw [show isB "list" "list" = true by decide]
    refine iteF ⟨_, rfl, l, _, rfl, .inl h1, _, _, rfl, rfl, _, rfl, ?_⟩
    rw [List.length_map, hl, decide_eq_true (show (1 : Int) ≤ (lss.length : Nat) by omega)]
    refine iteT ⟨_, _, rfl, rfl, _, rfl, ?_⟩
    rw [decide_eq_true (show ((lss.length : Nat) : Int) ≤ 4 by omega)]
    refine iteF ⟨_, rfl, l, rfl, ⟨_, h1⟩, t8, fun H2 hT => ?_⟩
    have x2 := Ex.tabd hT t8
    refine gw_lst (xs := ds.map V.ref) (fun i => true) (h2 _ x2) (fun G x => h2 _ (x2.trans x)) ?_ ?_
    · intro i y G hy x R2 hR2
      rw [List.getElem?_map] at hy
      obtain ⟨d, hd, rfl⟩ := Option.map_eq_some_iff.mp hy
      obtain ⟨es, hes, ht⟩ := paired_get h3 hd
      obtain ⟨sm, lay⟩ := gl es (List.mem_of_getElem? hes)
      have q : LayerQ K G (.ref d) true := by
        have := LayerQ.dict (ht.ex (x2.trans x)) sm
        rwa [lay] at this
      exact ⟨_, rfl, .ref d, true, rfl, q, T.ex (x2.trans x), fun H' x' => hR2 H' (x.trans x')⟩
    · intro G x
      have := k G (x2.trans x)
      rwa [show ((List.range (ds.map V.ref).length).all fun _ => true) = true from List.all_eq_true.mpr fun _ _ => rfl]
theorem scCheckStack : FnScope ["thing"] ["thing"] (defScope sCheckStack) := ⟨rfl, rfl, rfl, by decide +kernel, rfl, by decide +kernel, by decide +kernel⟩
theorem ok_checkStack {f f2 P1 P2 P3 P4 P6 P8 C : Addr} {fd fd2 : FuncData} (F : Fun K "check_stack" "check_stack" sCheckStack f fd) (R : Ref K mg "NoStack" C)
    (G2 : FnOk P w K mg base CX0 11 f2 fd2 ["thing"] (spIsStack K P1 P2 P3 P4 P6 P8)) (m2 : mg "is_stack" = some (.ref f2)) (k2 : PySem.W.keepIn K (.ref f2) = true) (b2 : Binds K fd2 ["thing"] []) :
    FnOk P w K mg base (L2.CX P w) 12 f fd ["thing"] (spCheckStack K P1 P2 P3 P4 P6 P8) := by
  refine F.okX scCheckStack (fun vs H Q E h => ?_) (fun cdv A outer s H vs Q E hr h => ?_)
  · obtain ⟨l, lss, rfl, _⟩ := h
    rfl
  · obtain ⟨l, lss, rfl, st, g, T, t8, k⟩ := h
    refine ⟨_, pss_one (ps_if (pt_not (pt_val (pe_call (E := E0) G2 hr (by rfl) m2 k2 b2 .nil pass0 (pa_cons (pv 0) pa_nil))))
      (pss_one (ps_raise rfl (takes_of rfl rfl rfl rfl) (pmk_own PySem.F.excBase_ValueError R.x R.g R.k (raises_own R.b R.t) rfl))) pss_nil), ?_⟩
    exact ⟨_, rfl, l, lss, rfl, st, g, T, t8, fun H' x => ⟨_, rfl, iteF (k H' x)⟩⟩
theorem scLongest : FnScope ["layer", "path", "top"] ["layer", "path"] (defScope sLongest) := ⟨rfl, rfl, rfl, by decide +kernel, rfl, by decide +kernel, by decide +kernel⟩
theorem ok_longest {f fB P1 P2 : Addr} {fd fdB : FuncData} (F : Fun K "longest" "longest" sLongest f fd)
    (GB : FnOk P w K mg base (L2.CX P w) 7 fB fdB ["path"] (spBeginningsX K P1 P2)) (mB : mg "beginnings" = some (.ref fB)) (kB : PySem.W.keepIn K (.ref fB) = true) (bB : Binds K fdB ["path"] []) :
    FnOk P w K mg base CX0 8 f fd ["layer", "path"] (spLongest K P1 P2) := by
  refine F.ok scLongest (fun vs H Q E h => ?_) (fun cdv A outer s H vs Q E hr h => ?_)
  · obtain ⟨d, a, es, p, rfl, _⟩ := h
    rfl
  · obtain ⟨d, a, es, p, rfl, ht, hroot, pa, gp, t1, t2, k⟩ := h
    have hu1 : (A.deeper (envOfC "longest" (defScope sLongest) s.heap.objs.size f cdv)).units + 1 < cLine := by have := hr.units; omega
    refine ⟨_, pss_one (ps_ret (pe_ix (r := rIxL K) ix_list (pe_lc (own := [("top", 2)]) (g := gName 2) (tt := tB (tDIn (tVar 2) (tVar 0))) rfl scLongest.nd (pi_list (pe_call (E := E0) GB hr (by rfl) mB kB bB .nil passL (pa_cons (pv 1) pa_nil)))
        (blkOk_by (N := ["layer", "path", "top"]) (sc := defScope sLongest) (by decide +kernel)) (fun _ _ _ _ _ => pg_name (i := 2) scLongest.nd rfl (Or.inl rfl))
        (fun _ _ _ _ _ => pts_one (pt_cmp (pc_din hu1 (pv 2) (pv 0)))) (fun _ _ _ _ _ => pv 2)) (pe_un un_neg pe_int) (fun _ _ => rfl))), ?_⟩
    have hlen := (goodPath_names gp).1
    refine ⟨_, rfl, a, p, rfl, t1, t2, pa, gp, fun H1 l x1 hl => ?_⟩
    obtain ⟨rs, hrs, hp⟩ := hl
    have hrl : rs.length = p.length + 1 := by rw [hp.length, begs_len]
    refine ⟨l, rfl, ⟨_, SqL.of hrs⟩, fun D hD => ?_⟩
    refine lc_it (walk_list (K := K) (a := l) (xs := rs.map V.ref)) (fun j G => Ex H1 G ∧ ∃ us : List Addr, G D = some (.lst (us.map V.ref)) ∧ us.length ≤ j ∧ Paired (fun r q => PathX G r q) us (((begs p).take j).filter fun q => (valE es q).isSome))
      ⟨Ex.new hD, [], upd_same, Nat.le_refl _, by rw [List.take_zero]; exact .nil⟩ (fun j G _ h => SqL.of (h.1.keep _ _ hrs (fun ps z => by cases z))) ?_ ?_
    · rintro j y G G' hj ⟨xg, us, hus, hul, hup⟩ ⟨rfl, hy⟩
      rw [List.getElem?_map] at hy
      obtain ⟨r, hr2, rfl⟩ := Option.map_eq_some_iff.mp hy
      obtain ⟨q, hq, pq⟩ := paired_get hp hr2
      have px := PathX.ex xg pq
      obtain ⟨kvs, hd, row⟩ := ht.ex (x1.trans xg)
      have etake : (begs p).take (j + 1) = (begs p).take j ++ [q] := by rw [List.take_add_one, hq]; rfl
      refine ⟨rfl, _, rfl, _, rfl, d, _, rfl, get_tr hd px, _, rfl, ?_⟩
      have hsome : (valV kvs (q.map Sum.inr)).isSome = (valE es q).isSome := by
        rcases row.val (p := q) with ⟨e1, e2⟩ | ⟨v, D0, e1, e2, _⟩
        · rw [e1, e2]; rfl
        · rw [e1, e2]; rfl
      rw [hsome]
      cases hs : (valE es q).isSome with
      | false =>
        refine iteF ⟨xg, us, hus, by omega, ?_⟩
        rw [etake, List.filter_append, show ([q].filter fun q => (valE es q).isSome) = [] from List.filter_cons_of_neg (by rw [hs]; decide), List.append_nil]
        exact hup
      | true =>
        have stay : ∀ {u : Addr} {t : List Str}, PathX G' u t → PathX (upd G' D (.lst (us.map V.ref ++ [.ref r]))) u t := fun {u t} h => by
          show upd _ _ _ _ = _
          rw [upd_ne (ne_of h hus (fun z => by cases z))]
          exact h
        rw [List.length_map, hrl] at hj
        refine iteT ⟨_, rfl, us.map V.ref, hus, by rw [List.length_map, sizeLine_eq]; omega, xg.put hD, us ++ [r], by rw [upd_same, List.map_append]; rfl, by rw [List.length_append, List.length_singleton]; omega, ?_⟩
        rw [etake, List.filter_append, show ([q].filter fun q => (valE es q).isSome) = [q] from List.filter_cons_of_pos hs]
        exact pairSnoc (F := fun r q => PathX _ r q) (stay px) (pairImp (fun u t h => stay h) hup)
    · rintro G ⟨xg, us, hus, hul, hup⟩
      have hfull : (begs p).take (rs.map V.ref).length = begs p := by rw [List.length_map, hrl]; exact List.take_of_length_le (by rw [begs_len]; exact Nat.le_refl _)
      rw [hfull] at hup
      have hne : ((begs p).filter fun q => (valE es q).isSome) ≠ [] := by
        intro e
        have : ([] : List Str) ∈ (begs p).filter fun q => (valE es q).isSome := List.mem_filter.mpr ⟨List.mem_map.mpr ⟨0, List.mem_range.mpr (Nat.succ_pos _), List.take_zero⟩, hroot⟩
        rw [e] at this
        cases this
      have hpos : 0 < us.length := by rw [hup.length]; exact List.length_pos_iff.mpr hne
      obtain ⟨u, hu⟩ : ∃ u, us[us.length - 1]? = some u := ⟨us[us.length - 1], List.getElem?_eq_getElem (by omega)⟩
      obtain ⟨q, hq, pq⟩ := paired_get hup hu
      have hq2 : q = longOf es p := by
        unfold longOf
        rw [List.getLastD_eq_getLast?, List.getLast?_eq_getElem?, ← hup.length, hq]
        rfl
      rw [hq2] at pq
      refine ⟨1, rfl, D, us.map V.ref, -1, .ref u, rfl, rfl, SqL.of hus, ?_, k G u (x1.trans xg) pq⟩
      unfold atI ixN
      rw [List.length_map, if_neg (by decide), if_pos (by omega)]
      show (us.map V.ref)[((-1 : Int) + (us.length : Int)).toNat]? = _
      rw [show ((-1 : Int) + (us.length : Int)).toNat = us.length - 1 by omega, List.getElem?_map, hu]
      rfl
theorem longOf_val {es : Ents} {p : List Str} (h : (valE es []).isSome = true) : ∃ D, valE es (longOf es p) = some D := by
  have hne : ((begs p).filter fun q => (valE es q).isSome) ≠ [] := by
    intro e
    have : ([] : List Str) ∈ (begs p).filter fun q => (valE es q).isSome := List.mem_filter.mpr ⟨List.mem_map.mpr ⟨0, List.mem_range.mpr (Nat.succ_pos _), List.take_zero⟩, h⟩
    rw [e] at this
    cases this
  have : longOf es p ∈ (begs p).filter fun q => (valE es q).isSome := by
    unfold longOf
    rw [List.getLastD_eq_getLast?, List.getLast?_eq_some_getLast hne]
    exact List.getLast_mem hne
  exact Option.isSome_iff_exists.mp (List.mem_filter.mp this).2
theorem longOf_beg {es : Ents} {p : List Str} (h : (valE es []).isSome = true) : longOf es p ∈ begs p := by
  have hne : ((begs p).filter fun q => (valE es q).isSome) ≠ [] := by
    intro e
    have : ([] : List Str) ∈ (begs p).filter fun q => (valE es q).isSome := List.mem_filter.mpr ⟨List.mem_map.mpr ⟨0, List.mem_range.mpr (Nat.succ_pos _), List.take_zero⟩, h⟩
    rw [e] at this
    cases this
  have : longOf es p ∈ (begs p).filter fun q => (valE es q).isSome := by
    unfold longOf
    rw [List.getLastD_eq_getLast?, List.getLast?_eq_some_getLast hne]
    exact List.getLast_mem hne
  exact (List.mem_filter.mp this).1
theorem layer_root {es : Ents} (h : layerB es = true) : (valE es []).isSome = true := by
  have h4 := (layerB_parts h).2.2.2.1
  unfold roofH dirAt at h4
  rw [Bool.and_eq_true] at h4
  cases e : valE es [] with
  | none => rw [e] at h4; exact absurd h4.1 Bool.false_ne_true
  | some d => rfl
theorem begs_good' {p : List Str} (g : goodPath p = true) : ∀ q ∈ begs p, goodPath q = true := begs_good g
end
/-! ### what is no path -/
def spNoPath (K : PySem.W.Frag) : Sp := fun vs H Q _ => ∃ (sc tw : Addr) (ns : List Int), vs = [.ref sc, .ref tw] ∧ Lw K H sc tw ns ∧ ∀ H' x, Ev tw H H' → PathB K H' x false → Q x H'
section
variable {P : Program} {w : World} {K : PySem.W.Frag} {mg : Str → Option Value} {base : Heap}
theorem scNoPath : FnScope ["_law_script", "_law_town", "_law_bad"] ["_law_script", "_law_town"] (defScope sNoPath) := ⟨rfl, rfl, rfl, by decide +kernel, rfl, by decide +kernel, by decide +kernel⟩
/-- a tuple of flat things -/
theorem tupB {H : Hp} {a : Addr} {xs : List V} {b : Bool} (h : SqT K H a xs) (hb : (decide (xs.length ≤ 5) && xs.all isNameV) = b) (hx : ∀ x ∈ xs, ∃ n, Kn K H x n ∧ ∀ z, x = .str z → z.length ≤ 100) : PathB K H (.ref a) b := by
  rw [← hb]
  refine .tup h fun x m => ?_
  obtain ⟨n, k, q⟩ := hx x m
  exact ⟨n, k, fun z e => Nat.le_trans (q z e) (by decide)⟩
theorem ok_noPath {f fP : Addr} {fd fdP : FuncData} (F : Fun K "_law_no_path" "_law_no_path" sNoPath f fd)
    (GP : FnOk P w K mg base CX0 2 fP fdP ["_law_script", "_law_town", "_law_some"] (spPick K)) (mP : mg "_law_pick" = some (.ref fP)) (kP : PySem.W.keepIn K (.ref fP) = true) (bP : Binds K fdP ["_law_script", "_law_town", "_law_some"] []) :
    FnOk P w K mg base CX0 3 f fd ["_law_script", "_law_town"] (spNoPath K) := by
  refine F.ok scNoPath (fun vs H Q E h => ?_) (fun cdv A outer s H vs Q E hr h => ?_)
  · obtain ⟨sc, tw, ns, rfl, _⟩ := h
    rfl
  · obtain ⟨sc, tw, ns, rfl, L, k⟩ := h
    refine ⟨_, pss_cons (ps_set (i := 2) scNoPath.nd rfl (Or.inl rfl) (pe_lst (pa_cons pe_non (pa_cons pe_str (pa_cons (pe_lst (pa_cons pe_str pa_nil)) (pa_cons (pe_tup (pa_cons pe_str pa_nil)) (pa_cons (pe_tup (pa_cons pe_str pa_nil)) (pa_cons (pe_tup (pa_cons pe_str pa_nil)) (pa_cons (pe_tup (pa_cons pe_int pa_nil)) (pa_cons (pe_tup (pa_cons pe_str (pa_cons pe_non pa_nil))) (pa_cons (pe_tup (pa_cons pe_str pa_nil)) (pa_cons (pe_op op_repT (pe_tup (pa_cons pe_str pa_nil)) pe_int) (pa_cons pe_int (pa_cons (pe_tup (pa_cons pe_str pa_nil)) (pa_cons (pe_tup (pa_cons (pe_tup (pa_cons pe_str pa_nil)) pa_nil)) pa_nil)))))))))))))))
      (pss_one (ps_ret (pe_call (E := E0) GP hr (by rfl) mP kP bP .nil pass0 (pa_cons (pv 0) (pa_cons (pv 1) (pa_cons (pv 2) pa_nil)))))), ?_⟩
    refine ⟨(by show 1 ≤ sizeLine; decide), fun p1 h1 => ?_⟩
    have x1 := Ex.new (o := .lst [.str "a"]) h1
    have t1 : SqL K (upd H p1 (.lst [.str "a"])) p1 [.str "a"] := SqL.of upd_same
    generalize upd H p1 (.lst [.str "a"]) = H1 at x1 t1 ⊢
    refine ⟨(by show 1 ≤ sizeLine; decide), fun p2 h2 => ?_⟩
    have x2 := Ex.new (o := .tup [.str ""]) h2
    have t2 : SqT K (upd H1 p2 (.tup [.str ""])) p2 [.str ""] := SqT.of upd_same
    generalize upd H1 p2 (.tup [.str ""]) = H2 at x2 t2 ⊢
    refine ⟨(by show 1 ≤ sizeLine; decide), fun p3 h3 => ?_⟩
    have x3 := Ex.new (o := .tup [.str "A"]) h3
    have t3 : SqT K (upd H2 p3 (.tup [.str "A"])) p3 [.str "A"] := SqT.of upd_same
    generalize upd H2 p3 (.tup [.str "A"]) = H3 at x3 t3 ⊢
    refine ⟨(by show 1 ≤ sizeLine; decide), fun p4 h4 => ?_⟩
    have x4 := Ex.new (o := .tup [.str "abcde"]) h4
    have t4 : SqT K (upd H3 p4 (.tup [.str "abcde"])) p4 [.str "abcde"] := SqT.of upd_same
    generalize upd H3 p4 (.tup [.str "abcde"]) = H4 at x4 t4 ⊢
    refine ⟨(by show 1 ≤ sizeLine; decide), fun p5 h5 => ?_⟩
    have x5 := Ex.new (o := .tup [.int 1]) h5
    have t5 : SqT K (upd H4 p5 (.tup [.int 1])) p5 [.int 1] := SqT.of upd_same
    generalize upd H4 p5 (.tup [.int 1]) = H5 at x5 t5 ⊢
    refine ⟨(by show 2 ≤ sizeLine; decide), fun p6 h6 => ?_⟩
    have x6 := Ex.new (o := .tup [.str "a", .non]) h6
    have t6 : SqT K (upd H5 p6 (.tup [.str "a", .non])) p6 [.str "a", .non] := SqT.of upd_same
    generalize upd H5 p6 (.tup [.str "a", .non]) = H6 at x6 t6 ⊢
    refine ⟨(by show 1 ≤ sizeLine; decide), fun p7 h7 => ?_⟩
    have x7 := Ex.new (o := .tup [.str "a b"]) h7
    have t7 : SqT K (upd H6 p7 (.tup [.str "a b"])) p7 [.str "a b"] := SqT.of upd_same
    generalize upd H6 p7 (.tup [.str "a b"]) = H7 at x7 t7 ⊢
    refine ⟨(by show 1 ≤ sizeLine; decide), fun p8 h8 => ?_⟩
    have x8 := Ex.new (o := .tup [.str "a"]) h8
    have t8 : SqT K (upd H7 p8 (.tup [.str "a"])) p8 [.str "a"] := SqT.of upd_same
    generalize upd H7 p8 (.tup [.str "a"]) = H8 at x8 t8 ⊢
    refine ⟨p8, 6, _, rfl, rfl, t8, (by simp), by decide, by decide, (by decide), fun p9 h9 => ?_⟩
    rw [show (List.replicate (6 : Int).toNat [V.str "a"]).flatten = [.str "a", .str "a", .str "a", .str "a", .str "a", .str "a"] from rfl]
    have x9 := Ex.new (o := .tup [.str "a", .str "a", .str "a", .str "a", .str "a", .str "a"]) h9
    have t9 : SqT K (upd H8 p9 (.tup [.str "a", .str "a", .str "a", .str "a", .str "a", .str "a"])) p9 [.str "a", .str "a", .str "a", .str "a", .str "a", .str "a"] := SqT.of upd_same
    generalize upd H8 p9 (.tup [.str "a", .str "a", .str "a", .str "a", .str "a", .str "a"]) = H9 at x9 t9 ⊢
    refine ⟨(by show 1 ≤ sizeLine; decide), fun p10 h10 => ?_⟩
    have x10 := Ex.new (o := .tup [.str "a/"]) h10
    have t10 : SqT K (upd H9 p10 (.tup [.str "a/"])) p10 [.str "a/"] := SqT.of upd_same
    generalize upd H9 p10 (.tup [.str "a/"]) = H10 at x10 t10 ⊢
    refine ⟨(by show 1 ≤ sizeLine; decide), fun p11 h11 => ?_⟩
    have x11 := Ex.new (o := .tup [.str "a"]) h11
    have t11 : SqT K (upd H10 p11 (.tup [.str "a"])) p11 [.str "a"] := SqT.of upd_same
    generalize upd H10 p11 (.tup [.str "a"]) = H11 at x11 t11 ⊢
    refine ⟨(by show 1 ≤ sizeLine; decide), fun p12 h12 => ?_⟩
    have x12 := Ex.new (o := .tup [.ref p11]) h12
    have t12 : SqT K (upd H11 p12 (.tup [.ref p11])) p12 [.ref p11] := SqT.of upd_same
    generalize upd H11 p12 (.tup [.ref p11]) = H12 at x12 t12 ⊢
    refine ⟨(by show 13 ≤ sizeLine; decide), fun p13 h13 => ?_⟩
    have x13 := Ex.new (o := .lst [.non, .str "a", .ref p1, .ref p2, .ref p3, .ref p4, .ref p5, .ref p6, .ref p7, .ref p9, .int 7, .ref p10, .ref p12]) h13
    have t13 : SqL K (upd H12 p13 (.lst [.non, .str "a", .ref p1, .ref p2, .ref p3, .ref p4, .ref p5, .ref p6, .ref p7, .ref p9, .int 7, .ref p10, .ref p12])) p13 [.non, .str "a", .ref p1, .ref p2, .ref p3, .ref p4, .ref p5, .ref p6, .ref p7, .ref p9, .int 7, .ref p10, .ref p12] := SqL.of upd_same
    generalize upd H12 p13 (.lst [.non, .str "a", .ref p1, .ref p2, .ref p3, .ref p4, .ref p5, .ref p6, .ref p7, .ref p9, .int 7, .ref p10, .ref p12]) = H13 at x13 t13 ⊢
    have y13 := Ex.refl H13
    have y12 := x13.trans y13
    have y11 := x12.trans y12
    have y10 := x11.trans y11
    have y9 := x10.trans y10
    have y8 := x9.trans y9
    have y7 := x8.trans y8
    have y6 := x7.trans y7
    have y5 := x6.trans y6
    have y4 := x5.trans y5
    have y3 := x4.trans y4
    have y2 := x3.trans y3
    have y1 := x2.trans y2
    have y0 := x1.trans y1
    have nt : ∀ {G : Hp} {q : Addr}, Ex H G → G q = none → q ≠ tw := fun x e z => by
      obtain ⟨u0, u1, _, e2⟩ := L.town
      have := x.free _ e
      rw [z, e2] at this
      cases this
    have z0 := Ex.refl H
    have z1 := z0.trans x1
    have z2 := z1.trans x2
    have z3 := z2.trans x3
    have z4 := z3.trans x4
    have z5 := z4.trans x5
    have z6 := z5.trans x6
    have z7 := z6.trans x7
    have z8 := z7.trans x8
    have z9 := z8.trans x9
    have z10 := z9.trans x10
    have z11 := z10.trans x11
    have z12 := z11.trans x12
    have z13 := z12.trans x13
    have LN := L.ex y0
    refine ⟨_, rfl, _, rfl, _, rfl, sc, tw, p13, ns, _, rfl, LN, t13, nt z12 h13, (by show 0 < 13; decide), (by show 13 < 1000; decide), fun H' x ev hx => ?_⟩
    refine k H' x ((y0.ev L.town).trans ev) ?_
    have s1 := ev.lst (nt z0 h1) (y1.lst t1)
    have s2 := ev.tup LN.town (y2.tup t2)
    have s3 := ev.tup LN.town (y3.tup t3)
    have s4 := ev.tup LN.town (y4.tup t4)
    have s5 := ev.tup LN.town (y5.tup t5)
    have s6 := ev.tup LN.town (y6.tup t6)
    have s7 := ev.tup LN.town (y7.tup t7)
    have s8 := ev.tup LN.town (y8.tup t8)
    have s9 := ev.tup LN.town (y9.tup t9)
    have s10 := ev.tup LN.town (y10.tup t10)
    have s11 := ev.tup LN.town (y11.tup t11)
    have s12 := ev.tup LN.town (y12.tup t12)
    simp only [List.mem_cons, List.not_mem_nil, or_false] at hx
    rcases hx with rfl | rfl | rfl | rfl | rfl | rfl | rfl | rfl | rfl | rfl | rfl | rfl | rfl
    · exact .oth .non (by decide)
    · exact .oth (.str _) (by decide)
    · exact .oth (.lst s1) (by decide)
    · refine tupB s2 (by decide +kernel) fun x m => ?_
      simp only [List.mem_cons, List.not_mem_nil, or_false] at m
      subst m
      exact ⟨_, .str _, fun z e => by cases e; decide⟩
    · refine tupB s3 (by decide +kernel) fun x m => ?_
      simp only [List.mem_cons, List.not_mem_nil, or_false] at m
      subst m
      exact ⟨_, .str _, fun z e => by cases e; decide⟩
    · refine tupB s4 (by decide +kernel) fun x m => ?_
      simp only [List.mem_cons, List.not_mem_nil, or_false] at m
      subst m
      exact ⟨_, .str _, fun z e => by cases e; decide⟩
    · refine tupB s5 (by decide +kernel) fun x m => ?_
      simp only [List.mem_cons, List.not_mem_nil, or_false] at m
      subst m
      exact ⟨_, .int _, fun z e => nomatch e⟩
    · refine tupB s6 (by decide +kernel) fun x m => ?_
      simp only [List.mem_cons, List.not_mem_nil, or_false] at m
      rcases m with rfl | rfl
      · exact ⟨_, .str _, fun z e => by cases e; decide⟩
      · exact ⟨_, .non, fun z e => nomatch e⟩
    · refine tupB s7 (by decide +kernel) fun x m => ?_
      simp only [List.mem_cons, List.not_mem_nil, or_false] at m
      subst m
      exact ⟨_, .str _, fun z e => by cases e; decide⟩
    · refine tupB s9 (by decide +kernel) fun x m => ?_
      simp only [List.mem_cons, List.not_mem_nil, or_false] at m
      have m : x = V.str "a" := by simpa using m
      subst m
      exact ⟨_, .str _, fun z e => by cases e; decide⟩
    · exact .oth (.int _) (by decide)
    · refine tupB s10 (by decide +kernel) fun x m => ?_
      simp only [List.mem_cons, List.not_mem_nil, or_false] at m
      subst m
      exact ⟨_, .str _, fun z e => by cases e; decide⟩
    · refine tupB s12 rfl fun x m => ?_
      simp only [List.mem_cons, List.not_mem_nil, or_false] at m
      subst m
      exact ⟨_, .tup s11, fun z e => nomatch e⟩
end
/-! ### which refusal it is -/
def refusals : List Str := ["NoPath", "NoText", "NoTree", "NoLayer", "NoStack", "NoHandle", "NoPower", "Root", "NotThere", "NoDrawer", "IsDrawer", "Taken", "NotEmpty", "Within", "TooLong", "Full", "Dark"]
/-- D is the class of the i-th refusal -/
structure Wh (K : PySem.W.Frag) (mg : Str → Option Value) (D : Addr) (i : Nat) : Prop where
  is : ExcC K D
  lt : i < 17
  kit : ∀ j x, refusals[j]? = some x → ∃ C, mg x = some (.ref C) ∧ PySem.W.kitOne K (.ref D) (.ref C) = some (decide (j = i))
  val : PySem.W.kitOne K (.ref D) (.type "ValueError") = some true
/-- what a refusal comes to: a pair of a word and a number -/
def RefAt (K : PySem.W.Frag) (H : Hp) (r : Addr) (i : Int) : Prop := SqT K H r [.str "refused", .int i]
def spWhich (K : PySem.W.Frag) (mg : Str → Option Value) : SpE := fun a c d vs H Q _ => ∃ D i, c = .ref D ∧ d = none ∧ vs = [.ref a] ∧ Wh K mg D i ∧
  ∀ H' r, Ex H H' → RefAt K H' r i → Q (.ref r) H'
/-- one question of the row -/
theorem isE_cons {K : PySem.W.Frag} {D a C : Addr} {b : Bool} {t : TA} {σ : L2.St} {H : Hp} {Q : List V → Hp → Prop} (h0 : σ[0]? = some (some (.ref a)))
    (e : PySem.W.kitOne K (.ref D) (.ref C) = some b) (h : t σ H fun vs G => Q (.bl b :: vs) G) :
    tCons (tCB (rIsE K D a) (tCons (tVar 0) (tCons (tC (V.ref C)) tNil))) t σ H Q := ⟨_, h0, .ref C, .ref C, b, rfl, fun _ z => z, e, h⟩
def truths (n i : Nat) : List V := (List.range n).map fun j => V.bl (decide (j = i))
theorem truths_flat (n i : Nat) : (truths n i).all flatV = true := by
  rw [List.all_eq_true]
  intro x hx
  obtain ⟨j, _, rfl⟩ := List.mem_map.mp hx
  rfl
theorem truths_get {n i j : Nat} (h : j < n) : (truths n i)[j]? = some (.bl (decide (j = i))) := by
  unfold truths
  rw [List.getElem?_map, List.getElem?_range h]
  rfl
theorem truths_count : ∀ i, i < 17 → (truths 17 i).countP (fun z => eqV z (.bl true)) = 1 := by decide +kernel
section
variable {P : Program} {w : World} {K : PySem.W.Frag} {mg : Str → Option Value} {base : Heap}
theorem scWhich : FnScope ["_law_e", "_law_own"] ["_law_e"] (defScope sWhich) := ⟨rfl, rfl, rfl, by decide +kernel, rfl, by decide +kernel, by decide +kernel⟩
theorem ok_which {f : Addr} {fd : FuncData} (F : Fun K "_law_which" "_law_which" sWhich f fd) (mI : mg "isinstance" = none) (mV : mg "ValueError" = none) : FnE P w K mg base CX0 1 f fd ["_law_e"] (spWhich K mg) := by
  refine okE F scWhich (fun a c d vs H Q E h => ?_) (fun cdv A outer s H vs Q E a oe c d hc hr h => ?_)
  · obtain ⟨D, i, _, _, rfl, _⟩ := h
    rfl
  · obtain ⟨D, i, rfl, rfl, rfl, W, k⟩ := h
    obtain ⟨C0, g0, e0⟩ := W.kit 0 "NoPath" rfl
    obtain ⟨C1, g1, e1⟩ := W.kit 1 "NoText" rfl
    obtain ⟨C2, g2, e2⟩ := W.kit 2 "NoTree" rfl
    obtain ⟨C3, g3, e3⟩ := W.kit 3 "NoLayer" rfl
    obtain ⟨C4, g4, e4⟩ := W.kit 4 "NoStack" rfl
    obtain ⟨C5, g5, e5⟩ := W.kit 5 "NoHandle" rfl
    obtain ⟨C6, g6, e6⟩ := W.kit 6 "NoPower" rfl
    obtain ⟨C7, g7, e7⟩ := W.kit 7 "Root" rfl
    obtain ⟨C8, g8, e8⟩ := W.kit 8 "NotThere" rfl
    obtain ⟨C9, g9, e9⟩ := W.kit 9 "NoDrawer" rfl
    obtain ⟨C10, g10, e10⟩ := W.kit 10 "IsDrawer" rfl
    obtain ⟨C11, g11, e11⟩ := W.kit 11 "Taken" rfl
    obtain ⟨C12, g12, e12⟩ := W.kit 12 "NotEmpty" rfl
    obtain ⟨C13, g13, e13⟩ := W.kit 13 "Within" rfl
    obtain ⟨C14, g14, e14⟩ := W.kit 14 "TooLong" rfl
    obtain ⟨C15, g15, e15⟩ := W.kit 15 "Full" rfl
    obtain ⟨C16, g16, e16⟩ := W.kit 16 "Dark" rfl
    have call := call_isP (X := cxH CX0 P w K mg base ["_law_e", "_law_own"] "_law_which" (defScope sWhich) f cdv A outer s H E (a, oe)) (a := a) (oe := oe) W.is hc (List.mem_singleton.mpr rfl)
    refine ⟨_, pss_cons (ps_set (i := 1) scWhich.nd rfl (Or.inl rfl) (pe_lst (pa_cons (pe_callB call (by rfl) mI boot_isinstance (pa_cons (pv 0) (pa_cons (pe_glob (v := .ref C0) (by rfl) g0 rfl) pa_nil))) (pa_cons (pe_callB call (by rfl) mI boot_isinstance (pa_cons (pv 0) (pa_cons (pe_glob (v := .ref C1) (by rfl) g1 rfl) pa_nil))) (pa_cons (pe_callB call (by rfl) mI boot_isinstance (pa_cons (pv 0) (pa_cons (pe_glob (v := .ref C2) (by rfl) g2 rfl) pa_nil))) (pa_cons (pe_callB call (by rfl) mI boot_isinstance (pa_cons (pv 0) (pa_cons (pe_glob (v := .ref C3) (by rfl) g3 rfl) pa_nil))) pa_nil))))))
      (pss_cons (ps_expr (pe_bm PySem.F.plainAttrs_list PySem.F.slot_list_extend PySem.F.type_list_extend mt_extend (pv 1) (pa_cons (pe_lst (pa_cons (pe_callB call (by rfl) mI boot_isinstance (pa_cons (pv 0) (pa_cons (pe_glob (v := .ref C4) (by rfl) g4 rfl) pa_nil))) (pa_cons (pe_callB call (by rfl) mI boot_isinstance (pa_cons (pv 0) (pa_cons (pe_glob (v := .ref C5) (by rfl) g5 rfl) pa_nil))) (pa_cons (pe_callB call (by rfl) mI boot_isinstance (pa_cons (pv 0) (pa_cons (pe_glob (v := .ref C6) (by rfl) g6 rfl) pa_nil))) (pa_cons (pe_callB call (by rfl) mI boot_isinstance (pa_cons (pv 0) (pa_cons (pe_glob (v := .ref C7) (by rfl) g7 rfl) pa_nil))) pa_nil))))) pa_nil)))
      (pss_cons (ps_expr (pe_bm PySem.F.plainAttrs_list PySem.F.slot_list_extend PySem.F.type_list_extend mt_extend (pv 1) (pa_cons (pe_lst (pa_cons (pe_callB call (by rfl) mI boot_isinstance (pa_cons (pv 0) (pa_cons (pe_glob (v := .ref C8) (by rfl) g8 rfl) pa_nil))) (pa_cons (pe_callB call (by rfl) mI boot_isinstance (pa_cons (pv 0) (pa_cons (pe_glob (v := .ref C9) (by rfl) g9 rfl) pa_nil))) (pa_cons (pe_callB call (by rfl) mI boot_isinstance (pa_cons (pv 0) (pa_cons (pe_glob (v := .ref C10) (by rfl) g10 rfl) pa_nil))) (pa_cons (pe_callB call (by rfl) mI boot_isinstance (pa_cons (pv 0) (pa_cons (pe_glob (v := .ref C11) (by rfl) g11 rfl) pa_nil))) pa_nil))))) pa_nil)))
      (pss_cons (ps_expr (pe_bm PySem.F.plainAttrs_list PySem.F.slot_list_extend PySem.F.type_list_extend mt_extend (pv 1) (pa_cons (pe_lst (pa_cons (pe_callB call (by rfl) mI boot_isinstance (pa_cons (pv 0) (pa_cons (pe_glob (v := .ref C12) (by rfl) g12 rfl) pa_nil))) (pa_cons (pe_callB call (by rfl) mI boot_isinstance (pa_cons (pv 0) (pa_cons (pe_glob (v := .ref C13) (by rfl) g13 rfl) pa_nil))) (pa_cons (pe_callB call (by rfl) mI boot_isinstance (pa_cons (pv 0) (pa_cons (pe_glob (v := .ref C14) (by rfl) g14 rfl) pa_nil))) (pa_cons (pe_callB call (by rfl) mI boot_isinstance (pa_cons (pv 0) (pa_cons (pe_glob (v := .ref C15) (by rfl) g15 rfl) pa_nil))) pa_nil))))) pa_nil)))
      (pss_cons (ps_expr (pe_bm PySem.F.plainAttrs_list PySem.F.slot_list_append PySem.F.type_list_append mt_append (pv 1) (pa_cons (pe_callB call (by rfl) mI boot_isinstance (pa_cons (pv 0) (pa_cons (pe_glob (v := .ref C16) (by rfl) g16 rfl) pa_nil))) pa_nil)))
      (pss_cons (ps_if (PW.pt (pw_or (pt_cmpR op_ne (pe_bm PySem.F.plainAttrs_list PySem.F.slot_list_count PySem.F.type_list_count mt_countF (pv 1) (pa_cons pe_bl pa_nil)) pe_int (nomark _))
          (pw_or1 (pt_not (pt_val (pe_callB call (by rfl) mI boot_isinstance (pa_cons (pv 0) (pa_cons (pe_bltn (v := .ty "ValueError") (by rfl) mV (by decide +kernel) rfl) pa_nil))))))))
          (pss_one (ps_ret (pe_tup (pa_cons pe_str (pa_cons (pe_un un_neg pe_int) pa_nil))))) pss_nil)
      (pss_one (ps_ret (pe_tup (pa_cons pe_str (pa_cons (pe_bm PySem.F.plainAttrs_list PySem.F.slot_list_index PySem.F.type_list_index mt_index (pv 1) (pa_cons pe_bl pa_nil)) pa_nil)))))))))), ?_⟩
    -- READ
    refine ⟨_, rfl, .ref C0, .ref C0, _, rfl, (fun _ z => z), e0, _, rfl, .ref C1, .ref C1, _, rfl, (fun _ z => z), e1, _, rfl, .ref C2, .ref C2, _, rfl, (fun _ z => z), e2, _, rfl, .ref C3, .ref C3, _, rfl, (fun _ z => z), e3, (by show 4 ≤ sizeLine; decide), fun p hp => ?_⟩
    have x0 := Ex.new (o := .lst [V.bl (decide (0 = i)), V.bl (decide (1 = i)), V.bl (decide (2 = i)), V.bl (decide (3 = i))]) hp
    have t0 : (upd H p (.lst [V.bl (decide (0 = i)), V.bl (decide (1 = i)), V.bl (decide (2 = i)), V.bl (decide (3 = i))])) p = some (.lst [V.bl (decide (0 = i)), V.bl (decide (1 = i)), V.bl (decide (2 = i)), V.bl (decide (3 = i))]) := upd_same
    generalize upd H p (.lst [V.bl (decide (0 = i)), V.bl (decide (1 = i)), V.bl (decide (2 = i)), V.bl (decide (3 = i))]) = H0 at x0 t0 ⊢
    refine ⟨_, rfl, .inl ⟨rfl, _, SqL.of t0⟩, _, rfl, .ref C4, .ref C4, _, rfl, (fun _ z => z), e4, _, rfl, .ref C5, .ref C5, _, rfl, (fun _ z => z), e5, _, rfl, .ref C6, .ref C6, _, rfl, (fun _ z => z), e6, _, rfl, .ref C7, .ref C7, _, rfl, (fun _ z => z), e7, (by show 4 ≤ sizeLine; decide), fun q0 hq0 => ?_⟩
    have nq0 : p ≠ q0 := ne_of_none t0 hq0
    refine ⟨p, q0, [V.bl (decide (0 = i)), V.bl (decide (1 = i)), V.bl (decide (2 = i)), V.bl (decide (3 = i))], [V.bl (decide (4 = i)), V.bl (decide (5 = i)), V.bl (decide (6 = i)), V.bl (decide (7 = i))], rfl, rfl, by rw [upd_ne nq0]; exact t0, upd_same, (by show 8 ≤ sizeLine; decide), ?_⟩
    have x1 : Ex H (upd (upd H0 q0 (.lst [V.bl (decide (4 = i)), V.bl (decide (5 = i)), V.bl (decide (6 = i)), V.bl (decide (7 = i))])) p (.lst [V.bl (decide (0 = i)), V.bl (decide (1 = i)), V.bl (decide (2 = i)), V.bl (decide (3 = i)), V.bl (decide (4 = i)), V.bl (decide (5 = i)), V.bl (decide (6 = i)), V.bl (decide (7 = i))])) := (x0.trans (Ex.new hq0)).put hp
    have t1 : (upd (upd H0 q0 (.lst [V.bl (decide (4 = i)), V.bl (decide (5 = i)), V.bl (decide (6 = i)), V.bl (decide (7 = i))])) p (.lst [V.bl (decide (0 = i)), V.bl (decide (1 = i)), V.bl (decide (2 = i)), V.bl (decide (3 = i)), V.bl (decide (4 = i)), V.bl (decide (5 = i)), V.bl (decide (6 = i)), V.bl (decide (7 = i))])) p = some (.lst [V.bl (decide (0 = i)), V.bl (decide (1 = i)), V.bl (decide (2 = i)), V.bl (decide (3 = i)), V.bl (decide (4 = i)), V.bl (decide (5 = i)), V.bl (decide (6 = i)), V.bl (decide (7 = i))]) := upd_same
    show tSeq _ _ _ _ (upd (upd H0 q0 (.lst [V.bl (decide (4 = i)), V.bl (decide (5 = i)), V.bl (decide (6 = i)), V.bl (decide (7 = i))])) p (.lst [V.bl (decide (0 = i)), V.bl (decide (1 = i)), V.bl (decide (2 = i)), V.bl (decide (3 = i)), V.bl (decide (4 = i)), V.bl (decide (5 = i)), V.bl (decide (6 = i)), V.bl (decide (7 = i))]))
    generalize upd (upd H0 q0 (.lst [V.bl (decide (4 = i)), V.bl (decide (5 = i)), V.bl (decide (6 = i)), V.bl (decide (7 = i))])) p (.lst [V.bl (decide (0 = i)), V.bl (decide (1 = i)), V.bl (decide (2 = i)), V.bl (decide (3 = i)), V.bl (decide (4 = i)), V.bl (decide (5 = i)), V.bl (decide (6 = i)), V.bl (decide (7 = i))]) = H1 at x1 t1 ⊢
    refine ⟨_, rfl, .inl ⟨rfl, _, SqL.of t1⟩, _, rfl, .ref C8, .ref C8, _, rfl, (fun _ z => z), e8, _, rfl, .ref C9, .ref C9, _, rfl, (fun _ z => z), e9, _, rfl, .ref C10, .ref C10, _, rfl, (fun _ z => z), e10, _, rfl, .ref C11, .ref C11, _, rfl, (fun _ z => z), e11, (by show 4 ≤ sizeLine; decide), fun q1 hq1 => ?_⟩
    have nq1 : p ≠ q1 := ne_of_none t1 hq1
    refine ⟨p, q1, [V.bl (decide (0 = i)), V.bl (decide (1 = i)), V.bl (decide (2 = i)), V.bl (decide (3 = i)), V.bl (decide (4 = i)), V.bl (decide (5 = i)), V.bl (decide (6 = i)), V.bl (decide (7 = i))], [V.bl (decide (8 = i)), V.bl (decide (9 = i)), V.bl (decide (10 = i)), V.bl (decide (11 = i))], rfl, rfl, by rw [upd_ne nq1]; exact t1, upd_same, (by show 12 ≤ sizeLine; decide), ?_⟩
    have x2 : Ex H (upd (upd H1 q1 (.lst [V.bl (decide (8 = i)), V.bl (decide (9 = i)), V.bl (decide (10 = i)), V.bl (decide (11 = i))])) p (.lst [V.bl (decide (0 = i)), V.bl (decide (1 = i)), V.bl (decide (2 = i)), V.bl (decide (3 = i)), V.bl (decide (4 = i)), V.bl (decide (5 = i)), V.bl (decide (6 = i)), V.bl (decide (7 = i)), V.bl (decide (8 = i)), V.bl (decide (9 = i)), V.bl (decide (10 = i)), V.bl (decide (11 = i))])) := (x1.trans (Ex.new hq1)).put hp
    have t2 : (upd (upd H1 q1 (.lst [V.bl (decide (8 = i)), V.bl (decide (9 = i)), V.bl (decide (10 = i)), V.bl (decide (11 = i))])) p (.lst [V.bl (decide (0 = i)), V.bl (decide (1 = i)), V.bl (decide (2 = i)), V.bl (decide (3 = i)), V.bl (decide (4 = i)), V.bl (decide (5 = i)), V.bl (decide (6 = i)), V.bl (decide (7 = i)), V.bl (decide (8 = i)), V.bl (decide (9 = i)), V.bl (decide (10 = i)), V.bl (decide (11 = i))])) p = some (.lst [V.bl (decide (0 = i)), V.bl (decide (1 = i)), V.bl (decide (2 = i)), V.bl (decide (3 = i)), V.bl (decide (4 = i)), V.bl (decide (5 = i)), V.bl (decide (6 = i)), V.bl (decide (7 = i)), V.bl (decide (8 = i)), V.bl (decide (9 = i)), V.bl (decide (10 = i)), V.bl (decide (11 = i))]) := upd_same
    show tSeq _ _ _ _ (upd (upd H1 q1 (.lst [V.bl (decide (8 = i)), V.bl (decide (9 = i)), V.bl (decide (10 = i)), V.bl (decide (11 = i))])) p (.lst [V.bl (decide (0 = i)), V.bl (decide (1 = i)), V.bl (decide (2 = i)), V.bl (decide (3 = i)), V.bl (decide (4 = i)), V.bl (decide (5 = i)), V.bl (decide (6 = i)), V.bl (decide (7 = i)), V.bl (decide (8 = i)), V.bl (decide (9 = i)), V.bl (decide (10 = i)), V.bl (decide (11 = i))]))
    generalize upd (upd H1 q1 (.lst [V.bl (decide (8 = i)), V.bl (decide (9 = i)), V.bl (decide (10 = i)), V.bl (decide (11 = i))])) p (.lst [V.bl (decide (0 = i)), V.bl (decide (1 = i)), V.bl (decide (2 = i)), V.bl (decide (3 = i)), V.bl (decide (4 = i)), V.bl (decide (5 = i)), V.bl (decide (6 = i)), V.bl (decide (7 = i)), V.bl (decide (8 = i)), V.bl (decide (9 = i)), V.bl (decide (10 = i)), V.bl (decide (11 = i))]) = H2 at x2 t2 ⊢
    refine ⟨_, rfl, .inl ⟨rfl, _, SqL.of t2⟩, _, rfl, .ref C12, .ref C12, _, rfl, (fun _ z => z), e12, _, rfl, .ref C13, .ref C13, _, rfl, (fun _ z => z), e13, _, rfl, .ref C14, .ref C14, _, rfl, (fun _ z => z), e14, _, rfl, .ref C15, .ref C15, _, rfl, (fun _ z => z), e15, (by show 4 ≤ sizeLine; decide), fun q2 hq2 => ?_⟩
    have nq2 : p ≠ q2 := ne_of_none t2 hq2
    refine ⟨p, q2, [V.bl (decide (0 = i)), V.bl (decide (1 = i)), V.bl (decide (2 = i)), V.bl (decide (3 = i)), V.bl (decide (4 = i)), V.bl (decide (5 = i)), V.bl (decide (6 = i)), V.bl (decide (7 = i)), V.bl (decide (8 = i)), V.bl (decide (9 = i)), V.bl (decide (10 = i)), V.bl (decide (11 = i))], [V.bl (decide (12 = i)), V.bl (decide (13 = i)), V.bl (decide (14 = i)), V.bl (decide (15 = i))], rfl, rfl, by rw [upd_ne nq2]; exact t2, upd_same, (by show 16 ≤ sizeLine; decide), ?_⟩
    have x3 : Ex H (upd (upd H2 q2 (.lst [V.bl (decide (12 = i)), V.bl (decide (13 = i)), V.bl (decide (14 = i)), V.bl (decide (15 = i))])) p (.lst [V.bl (decide (0 = i)), V.bl (decide (1 = i)), V.bl (decide (2 = i)), V.bl (decide (3 = i)), V.bl (decide (4 = i)), V.bl (decide (5 = i)), V.bl (decide (6 = i)), V.bl (decide (7 = i)), V.bl (decide (8 = i)), V.bl (decide (9 = i)), V.bl (decide (10 = i)), V.bl (decide (11 = i)), V.bl (decide (12 = i)), V.bl (decide (13 = i)), V.bl (decide (14 = i)), V.bl (decide (15 = i))])) := (x2.trans (Ex.new hq2)).put hp
    have t3 : (upd (upd H2 q2 (.lst [V.bl (decide (12 = i)), V.bl (decide (13 = i)), V.bl (decide (14 = i)), V.bl (decide (15 = i))])) p (.lst [V.bl (decide (0 = i)), V.bl (decide (1 = i)), V.bl (decide (2 = i)), V.bl (decide (3 = i)), V.bl (decide (4 = i)), V.bl (decide (5 = i)), V.bl (decide (6 = i)), V.bl (decide (7 = i)), V.bl (decide (8 = i)), V.bl (decide (9 = i)), V.bl (decide (10 = i)), V.bl (decide (11 = i)), V.bl (decide (12 = i)), V.bl (decide (13 = i)), V.bl (decide (14 = i)), V.bl (decide (15 = i))])) p = some (.lst [V.bl (decide (0 = i)), V.bl (decide (1 = i)), V.bl (decide (2 = i)), V.bl (decide (3 = i)), V.bl (decide (4 = i)), V.bl (decide (5 = i)), V.bl (decide (6 = i)), V.bl (decide (7 = i)), V.bl (decide (8 = i)), V.bl (decide (9 = i)), V.bl (decide (10 = i)), V.bl (decide (11 = i)), V.bl (decide (12 = i)), V.bl (decide (13 = i)), V.bl (decide (14 = i)), V.bl (decide (15 = i))]) := upd_same
    show tSeq _ _ _ _ (upd (upd H2 q2 (.lst [V.bl (decide (12 = i)), V.bl (decide (13 = i)), V.bl (decide (14 = i)), V.bl (decide (15 = i))])) p (.lst [V.bl (decide (0 = i)), V.bl (decide (1 = i)), V.bl (decide (2 = i)), V.bl (decide (3 = i)), V.bl (decide (4 = i)), V.bl (decide (5 = i)), V.bl (decide (6 = i)), V.bl (decide (7 = i)), V.bl (decide (8 = i)), V.bl (decide (9 = i)), V.bl (decide (10 = i)), V.bl (decide (11 = i)), V.bl (decide (12 = i)), V.bl (decide (13 = i)), V.bl (decide (14 = i)), V.bl (decide (15 = i))]))
    generalize upd (upd H2 q2 (.lst [V.bl (decide (12 = i)), V.bl (decide (13 = i)), V.bl (decide (14 = i)), V.bl (decide (15 = i))])) p (.lst [V.bl (decide (0 = i)), V.bl (decide (1 = i)), V.bl (decide (2 = i)), V.bl (decide (3 = i)), V.bl (decide (4 = i)), V.bl (decide (5 = i)), V.bl (decide (6 = i)), V.bl (decide (7 = i)), V.bl (decide (8 = i)), V.bl (decide (9 = i)), V.bl (decide (10 = i)), V.bl (decide (11 = i)), V.bl (decide (12 = i)), V.bl (decide (13 = i)), V.bl (decide (14 = i)), V.bl (decide (15 = i))]) = H3 at x3 t3 ⊢
    refine ⟨_, rfl, .inl ⟨rfl, _, SqL.of t3⟩, _, rfl, .ref C16, .ref C16, _, rfl, (fun _ z => z), e16, p, [V.bl (decide (0 = i)), V.bl (decide (1 = i)), V.bl (decide (2 = i)), V.bl (decide (3 = i)), V.bl (decide (4 = i)), V.bl (decide (5 = i)), V.bl (decide (6 = i)), V.bl (decide (7 = i)), V.bl (decide (8 = i)), V.bl (decide (9 = i)), V.bl (decide (10 = i)), V.bl (decide (11 = i)), V.bl (decide (12 = i)), V.bl (decide (13 = i)), V.bl (decide (14 = i)), V.bl (decide (15 = i))], _, rfl, rfl, t3, (by show 16 < sizeLine; decide), ?_⟩
    have x4 : Ex H (upd H3 p (.lst (truths 17 i))) := x3.put hp
    have t4 : (upd H3 p (.lst (truths 17 i))) p = some (.lst (truths 17 i)) := upd_same
    show tSeq _ _ _ _ (upd H3 p (.lst (truths 17 i)))
    generalize upd H3 p (.lst (truths 17 i)) = H4 at x4 t4 ⊢
    have s4 : SqL K H4 p (truths 17 i) := SqL.of t4
    refine ⟨_, rfl, .inl ⟨rfl, _, s4⟩, p, _, _, rfl, rfl, s4, rfl, truths_flat 17 i, ?_⟩
    rw [truths_count i W.lt]
    refine ⟨rfl, _, rfl, ?_⟩
    rw [show (!decide (V.int ((1 : Nat) : Int) = V.int 1)) = false from rfl]
    refine iteF ⟨_, rfl, .ty "ValueError", .type "ValueError", true, rfl, (fun _ z => z), W.val, _, rfl, ?_⟩
    refine iteF ?_
    refine ⟨_, rfl, .inl ⟨rfl, _, s4⟩, p, truths 17 i, .bl true, i, _, rfl, rfl, s4, rfl, truths_flat 17 i, truths_get W.lt, (by rw [decide_eq_true rfl]; rfl), (fun m z hm hz => ?_), (by show 2 ≤ sizeLine; decide), fun r hr => ?_⟩
    · rw [truths_get (Nat.lt_trans hm W.lt)] at hz
      cases hz
      rw [decide_eq_false (Nat.ne_of_lt hm)]
      rfl
    · exact k _ r (x4.trans (Ex.new hr)) (SqT.of upd_same)
end
/-! ### refusals as data -/
def refD (i : Int) : PyData := .tuple [.str "refused", .int i]
theorem RefAt.dp {K : PySem.W.Frag} {H : Hp} {r : Addr} {i : Int} (h : RefAt K H r i) : Dp K H (.ref r) (refD i) := .tup h (.cons (.str _) (.cons (.int _) .nil))
theorem RefAt.ex {K : PySem.W.Frag} {H H' : Hp} {r : Addr} {i : Int} (x : Ex H H') (h : RefAt K H r i) : RefAt K H' r i := Ex.tup x h
theorem shaped_ref (i : Int) : SeqAt.shaped (refD i) = true := by
  have hs : PyData.strOk "refused" = true := by decide +kernel
  simp [SeqAt.shaped, refD, PyData.canLay0, PyData.canLayAll0, PyData.depth, PyData.depthAll, hs]
theorem dpAll_refs {K : PySem.W.Frag} {H : Hp} {i : Int} : ∀ {rs : List Addr}, (∀ r ∈ rs, RefAt K H r i) → DpAll K H (rs.map V.ref) (List.replicate rs.length (refD i))
  | [], _ => .nil
  | r :: rs, h => .cons (h r (List.mem_cons_self ..)).dp (dpAll_refs fun q hq => h q (List.mem_cons_of_mem _ hq))
/-! ### all stays but one thing -/
/-- as Ex, but for the list at l -/
structure Eb (l : Addr) (H H' : Hp) : Prop where
  keep : ∀ b o, b ≠ l → H b = some o → (∀ ps, o ≠ .tbl ps) → H' b = some o
  tab : ∀ b, TabG H b → TabG H' b
  free : ∀ b, H' b = none → H b = none
theorem Eb.refl {l : Addr} (H : Hp) : Eb l H H := ⟨fun _ _ _ h _ => h, fun _ h => h, fun _ h => h⟩
theorem Eb.trans {l : Addr} {H H1 H2 : Hp} (a : Eb l H H1) (b : Eb l H1 H2) : Eb l H H2 :=
  ⟨fun c o z h n => b.keep c o z (a.keep c o z h n) n, fun c h => b.tab c (a.tab c h), fun c h => a.free c (b.free c h)⟩
theorem ex_eb {l : Addr} {H H' : Hp} (x : Ex H H') : Eb l H H' := ⟨fun b o _ e n => x.keep b o e n, x.tab, x.free⟩
theorem eb_upd {l : Addr} {H : Hp} {xs ys : List V} (h : H l = some (.lst xs)) : Eb l H (upd H l (.lst ys)) := by
  constructor
  · intro b o hb e _
    rw [upd_ne hb]; exact e
  · rintro b ⟨ps, e2, t⟩
    exact ⟨ps, by rw [upd_ne (ne_of e2 h (fun z => by cases z))]; exact e2, t⟩
  · intro b e2
    by_cases hb : b = l
    · rw [hb, upd_same] at e2; cases e2
    · rw [upd_ne hb] at e2; exact e2
/-! ### what walks and locks want -/
theorem Eb.unlock {l d : Addr} {H H' : Hp} {od : Obj} {kvs : List (List L2.Key × V)} (hd : H d = some (.dT kvs)) (x : Eb l (upd H d (.frz od (.dT kvs))) H') : Eb l H (upd H' d (.dT kvs)) := by
  constructor
  · intro b o hb e n
    by_cases hbd : b = d
    · rw [hbd] at e ⊢
      rw [upd_same, ← hd, e]
    · rw [upd_ne hbd]
      exact x.keep b o hb (by rw [upd_ne hbd]; exact e) n
  · rintro b ⟨ps, e, t⟩
    have hb : b ≠ d := fun z => by
      rw [z, hd] at e
      cases e
    obtain ⟨qs, e2, t2⟩ := x.tab b ⟨ps, by rw [upd_ne hb]; exact e, t⟩
    exact ⟨qs, by rw [upd_ne hb]; exact e2, t2⟩
  · intro b e
    by_cases hb : b = d
    · rw [hb, upd_same] at e
      cases e
    · rw [upd_ne hb] at e
      have := x.free b e
      rwa [upd_ne hb] at this
theorem lock_goB {t : TS} {D : Ends} {σ : L2.St} {H : Hp} {d pm : Addr} {kvs : List (List L2.Key × V)} (hd : Rd H d (.dT kvs)) (hne : d ≠ pm)
    (h : ∀ (H1 : Hp) (od : Obj) (R : Ends), (∀ b o, H b = some o → b ≠ d → H1 b = some o) → (∀ b, TabG H b → TabG H1 b) → (∀ b, H1 b = none → H b = none) → H1 d = some (.frz od (.dT kvs)) →
      (∀ σ' H', Eb pm H1 H' → (∀ H2, Eb pm H H2 → (∀ b o, H' b = some o → b ≠ d → H2 b = some o) → D.nx σ' H2) → R.nx σ' H') → t R σ H1) : tLockS t D σ H := by
  rcases hd with hd | ⟨od, hd⟩
  · refine Or.inl ⟨d, _, hd, trivial, fun od => ?_⟩
    refine h _ od _ (fun b o e hb => by rw [upd_ne hb]; exact e) (fun b => ?_) (fun b e => ?_) upd_same fun v H' x q => ⟨x.keep _ _ hne upd_same (fun ps z => by cases z), q _ (Eb.unlock hd x) fun b o e hb => by rw [upd_ne hb]; exact e⟩
    · rintro ⟨ps, e, t⟩
      refine ⟨ps, ?_, t⟩
      rw [upd_ne (fun z => by
        rw [z, hd] at e
        cases e)]
      exact e
    · by_cases hb : b = d
      · rw [hb, upd_same] at e
        cases e
      · rwa [upd_ne hb] at e
  · exact Or.inr (h H od D (fun b o e _ => e) (fun b t => t) (fun b e => e) hd fun v H' x q => q H' x fun b o e _ => e)
theorem Eb.set {l : Addr} {H : Hp} {o u : HO} (h : H l = some u) (n : ∀ ps, u ≠ .tbl ps) : Eb l H (upd H l o) := by
  constructor
  · intro b v hb e _
    rw [upd_ne hb]; exact e
  · rintro b ⟨ps, e2, t⟩
    exact ⟨ps, by rw [upd_ne (fun z => by rw [z, h] at e2; cases e2; exact n ps rfl)]; exact e2, t⟩
  · intro b e2
    by_cases hb : b = l
    · rw [hb, upd_same] at e2; cases e2
    · rw [upd_ne hb] at e2; exact e2
theorem Eb.ex {l : Addr} {H H1 H' : Hp} (x : Ex H H1) (h : H l = none) (y : Eb l H1 H') : Ex H H' :=
  ⟨fun b o e n => y.keep b o (ne_of_none e h) (x.keep b o e n) n, fun b t => y.tab b (x.tab b t), fun b e => x.free b (y.free b e)⟩
theorem putK_last {kvs : List (List L2.Key × V)} {k : List L2.Key} {v u : V} (h : valV kvs k = none) : putK (kvs ++ [(k, v)]) k u = kvs ++ [(k, u)] := by
  have hk : ∀ p ∈ kvs, ¬ p.1 = k := by
    intro p hp e
    have : ∀ {l : List (List L2.Key × V)}, p ∈ l → valV l k ≠ none := by
      intro l
      induction l with
      | nil => intro h; cases h
      | cons x l ih =>
        intro hp
        by_cases hx : x.1 = k
        · rw [valV_pos hx]; simp
        · rw [valV_neg hx]
          rcases List.mem_cons.mp hp with rfl | hp
          · exact absurd e hx
          · exact ih hp
    exact this hp h
  have hm : kvs.map (fun p => if p.1 = k then (p.1, u) else p) = kvs := by
    have : kvs.map (fun p => if p.1 = k then (p.1, u) else p) = kvs.map id := List.map_congr_left fun p hp => if_neg (hk p hp)
    rw [this, List.map_id]
  unfold putK
  rw [if_pos (by simp)]
  rw [List.map_append, hm]
  simp
theorem valT_nd {t : Tr} (nd : (t.map (·.1)).Nodup) {e : List Str × Th} (h : e ∈ t) : valT t e.1 = some e.2 := by
  unfold valT
  induction t with
  | nil => cases h
  | cons x es ih =>
    rw [List.map_cons, List.nodup_cons] at nd
    rw [List.find?_cons]
    by_cases hx : x.1 = e.1
    · rw [decide_eq_true hx]
      rcases List.mem_cons.mp h with rfl | h
      · rfl
      · exact absurd (List.mem_map.mpr ⟨e, h, hx.symm⟩) nd.1
    · rw [decide_eq_false hx]
      rcases List.mem_cons.mp h with rfl | h
      · exact absurd rfl hx
      · exact ih nd.2 h
def LaX (H : Hp) (d : Addr) (la : La) : Prop := ∃ kvs, Rd H d (.dT kvs) ∧ RowN H kvs la
theorem LaX.at {K : PySem.W.Frag} {H : Hp} {d : Addr} {la : La} (h : LaX H d la) : TrAt K H d (entsL la) := by
  obtain ⟨kvs, h1, h2⟩ := h
  exact ⟨kvs, h1, h2.row⟩
theorem LaX.ex {H H' : Hp} {d : Addr} {la : La} (x : Ex H H') (h : LaX H d la) : LaX H' d la := by
  obtain ⟨kvs, hd, r⟩ := h
  exact ⟨kvs, x.rd hd (fun ps z => by cases z), r.keep fun b xs e => x.keep _ _ e (fun ps z => by cases z)⟩
theorem longOf_take {es : Ents} {p : List Str} {m : Nat} (hm : m ≤ p.length) (h : (valE es (p.take m)).isSome = true) (hno : ∀ j, m < j → j ≤ p.length → valE es (p.take j) = none) : longOf es p = p.take m := by
  unfold longOf begs
  have e : List.range (p.length + 1) = List.range (m + 1) ++ (List.range (p.length - m)).map fun i => m + 1 + i := by
    rw [show p.length + 1 = (m + 1) + (p.length - m) by omega, List.range_add]
  rw [e, List.map_append, List.filter_append]
  have e2 : (((List.range (p.length - m)).map fun i => m + 1 + i).map fun i => p.take i).filter (fun q => (valE es q).isSome) = [] := by
    rw [List.filter_eq_nil_iff]
    intro q hq
    obtain ⟨i, hi, rfl⟩ := List.mem_map.mp hq
    obtain ⟨j, hj, rfl⟩ := List.mem_map.mp hi
    have := List.mem_range.mp hj
    rw [hno (m + 1 + j) (by omega) (by omega)]
    decide
  rw [e2, List.append_nil, List.range_succ, List.map_append, List.filter_append]
  have e3 : ([m].map fun i => p.take i).filter (fun q => (valE es q).isSome) = [p.take m] := List.filter_cons_of_pos (p := fun q => (valE es q).isSome) (a := p.take m) (l := []) h
  rw [e3, List.getLastD_concat]
theorem take_new {α : Type} {l : List α} {f : α → List Str} (nd : (l.map f).Nodup) {i : Nat} {x : α} (h : l[i]? = some x) : f x ∉ (l.take i).map f := by
  intro hm
  obtain ⟨y, hy, ey⟩ := List.mem_map.mp hm
  obtain ⟨j, hj, rfl⟩ := List.mem_iff_getElem.mp hy
  rw [List.length_take] at hj
  rw [List.getElem_take] at ey
  obtain ⟨hil, hie⟩ := List.getElem?_eq_some_iff.mp h
  have h1 : (l.map f)[j]'(by rw [List.length_map]; omega) = (l.map f)[i]'(by rw [List.length_map]; exact hil) := by
    rw [List.getElem_map, List.getElem_map, hie]
    exact ey
  have := (List.getElem_inj nd).mp h1
  omega
theorem rowT_new {H : Hp} {km : List (List L2.Key × V)} {u : Tr} {p : List Str} (r : RowT H km u) (h : p ∉ u.map (·.1)) : valV km (p.map Sum.inr) = none := by
  rcases r.val (p := p) with ⟨e1, _⟩ | ⟨_, x, _, e2, _⟩
  · exact e1
  · exact absurd (List.mem_map.mpr ⟨_, valT_mem e2, rfl⟩) h
theorem drAt_T (t : Tr) (p : List Str) : drAt (entsT t) p = decide (valT t p = some .dr) := by
  unfold drAt
  rw [valT_ents]
  cases h : valT t p with
  | none => rfl
  | some x =>
    show PyData.eqv x.d drD = _
    rw [show drD = .tuple [.str "drawer"] from rfl, Th.eqv_dr]
    exact decide_eq_decide.mpr ⟨fun e => by rw [e], fun e => Option.some.inj e⟩
theorem Paired.impX {α β : Type} {p q : α → β → Prop} {as : List α} {bs : List β} (h : Paired p as bs) (f : ∀ a b, p a b → q a b) : Paired q as bs := by
  induction h with
  | nil => exact .nil
  | cons a _ ih => exact .cons (f _ _ a) ih
theorem LaX.evx {tw : Addr} {H H' : Hp} {d : Addr} {la : La} (ht : Town tw H) (v : Ev tw H H') (h : LaX H d la) : LaX H' d la := by
  obtain ⟨u0, u1, _, et⟩ := ht
  obtain ⟨kvs, hd, r⟩ := h
  refine ⟨kvs, v.rd (fun z => ?_) hd (fun ps z => by cases z), r.keep fun b xs e => v.keep _ _ (fun z => ?_) e (fun ps z => by cases z)⟩
  · rw [z] at hd
    rcases hd with hd | ⟨o, hd⟩
    · rw [et] at hd; cases hd
    · rw [et] at hd; cases hd
  · rw [z, et] at e
    cases e
theorem TrX.ex {H H' : Hp} {d : Addr} {t : Tr} (x : Ex H H') (h : TrX H d t) : TrX H' d t := by
  obtain ⟨kvs, hd, r⟩ := h
  exact ⟨kvs, x.rd hd (fun ps z => by cases z), r.keep fun b xs e => x.keep _ _ e (fun ps z => by cases z)⟩
theorem rowE_getD {K : PySem.W.Frag} {H : Hp} {kvs : List (List L2.Key × V)} {es : Ents} {p : List Str} (row : RowE K H kvs es) : Dp K H ((valV kvs (p.map Sum.inr)).getD .non) ((valE es p).getD .none) := by
  rcases row.val (p := p) with ⟨e1, e2⟩ | ⟨v, d, e1, e2, dv⟩
  · rw [e1, e2]
    exact .non
  · rw [e1, e2]
    exact dv
theorem shaped_getD {es : Ents} (h : ∀ e ∈ es, SeqAt.shaped e.2 = true) (q : List Str) : SeqAt.shaped ((valE es q).getD .none) = true := by
  cases e : valE es q with
  | none => decide +kernel
  | some d =>
    obtain ⟨x, hx, _, rfl⟩ := valE_mem e
    exact h x hx
theorem eqv_getD (o : Option PyData) (d : PyData) (hd : d = seeD ∨ d = drD) : PyData.eqv (o.getD .none) d = match o with
    | some x => PyData.eqv x d
    | none => false := by
  cases o with
  | some x => rfl
  | none => rcases hd with rfl | rfl <;> rfl
theorem lock_goS {t : TS} {D : Ends} {σ : L2.St} {H : Hp} {d : Addr} {kvs : List (List L2.Key × V)} (hd : Rd H d (.dT kvs))
    (h : ∀ (H1 : Hp) (od : Obj) (R : Ends), (∀ b o, H b = some o → b ≠ d → H1 b = some o) → (∀ b, TabG H b → TabG H1 b) → (∀ b, H1 b = none → H b = none) → H1 d = some (.frz od (.dT kvs)) →
      (∀ σ' H', Ex H1 H' → (∀ H2, Ex H H2 → (∀ b o, H' b = some o → b ≠ d → H2 b = some o) → D.nx σ' H2) → R.nx σ' H') → t R σ H1) : tLockS t D σ H := by
  rcases hd with hd | ⟨od, hd⟩
  · refine Or.inl ⟨d, _, hd, trivial, fun od => ?_⟩
    refine h _ od _ (fun b o e hb => by rw [upd_ne hb]; exact e) (fun b => ?_) (fun b e => ?_) upd_same fun v H' x q => ⟨x.keep _ _ upd_same (fun ps z => by cases z), q _ (Ex.unlock hd x) fun b o e hb => by rw [upd_ne hb]; exact e⟩
    · rintro ⟨ps, e, t⟩
      refine ⟨ps, ?_, t⟩
      rw [upd_ne (fun z => by
        rw [z, hd] at e
        cases e)]
      exact e
    · by_cases hb : b = d
      · rw [hb, upd_same] at e
        cases e
      · rwa [upd_ne hb] at e
  · exact Or.inr (h H od D (fun b o e _ => e) (fun b t => t) (fun b e => e) hd fun v H' x q => q H' x fun b o e _ => e)
/-! ### a layer laid over a tree: what each entry becomes -/
def asSeenD : PyData → PyData
  | .tuple (.str w :: r) => if w = "drawer" then drD else .tuple (.str w :: r)
  | d => d
def apartD : PyData → PyData
  | .tuple [.str w, .int n, .str z] => .tuple [.str w, .int (-1 - n), .str z]
  | d => d
/-- what may stand in a tree: a drawer or a file -/
def thingD (d : PyData) : Prop := d = drD ∨ ∃ n z, d = .tuple [.str "file", .int n, .str z]
def spAsSeen (K : PySem.W.Frag) : Sp := fun vs H Q _ => ∃ v d, vs = [v] ∧ Dp K H v d ∧ entryB d = true ∧ d ≠ goneD ∧ ∀ H' u, Ex H H' → Dp K H' u (asSeenD d) → Q u H'
def spApart (K : PySem.W.Frag) : Sp := fun vs H Q _ => ∃ v d, vs = [v] ∧ Dp K H v d ∧ thingD d ∧ ∀ H' u, Ex H H' → Dp K H' u (apartD d) → Q u H'
section
variable {P : Program} {w : World} {K : PySem.W.Frag} {mg : Str → Option Value} {base : Heap}
theorem scAsSeen : FnScope ["entry"] ["entry"] (defScope sAsSeen) := ⟨rfl, rfl, rfl, by decide +kernel, rfl, by decide +kernel, by decide +kernel⟩
theorem ok_asSeen {f aD : Addr} {fd : FuncData} (F : Fun K "_as_seen" "_as_seen" sAsSeen f fd) (SD : Cst K mg "DRAWER" [.str "drawer"] aD) : FnOk P w K mg base CX0 1 f fd ["entry"] (spAsSeen K) := by
  refine F.ok scAsSeen (fun vs H Q E h => ?_) (fun cdv A outer s H vs Q E hr h => ?_)
  · obtain ⟨v, d, rfl, _⟩ := h
    rfl
  · obtain ⟨v, d, rfl, hd, he, hg, k⟩ := h
    refine ⟨_, pss_one (ps_ret (pe_ifExp (pt_cmpR op_eq (pe_ix ix_tup (pv 0) pe_int (fun _ _ => rfl)) pe_str (nomark _)) (pe_glob (v := .ref aD) (by rfl) SD.g rfl) (pv 0))), ?_⟩
    rcases entry_form he with ⟨b, rfl⟩ | rfl | ⟨n, z, rfl, _, hz⟩
    · rcases kn_tuple hd with ⟨a0, xs, ds', rfl, ed', ha, hx⟩ | ⟨hno, _⟩
      rotate_left
      · exact absurd rfl (hno _)
      cases ed'
      obtain ⟨w0, at0, d0⟩ := dpAll_get 0 hx (by simp)
      cases d0
      refine ⟨_, rfl, a0, xs, 0, _, rfl, rfl, ha, at_of (j := 0) rfl at0, rfl, _, rfl, ?_⟩
      rw [decide_eq_true rfl]
      exact iteT (k H _ (Ex.refl H) (.tup (SD.t H) (.cons (.str _) .nil)))
    · exact absurd rfl hg
    · have hd2 := hd
      rcases kn_tuple hd with ⟨a0, xs, ds', rfl, ed', ha, hx⟩ | ⟨hno, _⟩
      rotate_left
      · exact absurd rfl (hno _)
      cases ed'
      obtain ⟨w0, at0, d0⟩ := dpAll_get 0 hx (by simp)
      cases d0
      refine ⟨_, rfl, a0, xs, 0, _, rfl, rfl, ha, at_of (j := 0) rfl at0, rfl, _, rfl, ?_⟩
      rw [show decide (V.str "file" = V.str "drawer") = false by decide +kernel]
      exact iteF ⟨_, rfl, k H _ (Ex.refl H) hd2⟩
theorem scApart : FnScope ["thing"] ["thing"] (defScope sApart) := ⟨rfl, rfl, rfl, by decide +kernel, rfl, by decide +kernel, by decide +kernel⟩
theorem ok_apart {f : Addr} {fd : FuncData} (F : Fun K "apart" "apart" sApart f fd) : FnOk P w K mg base CX0 1 f fd ["thing"] (spApart K) := by
  refine F.ok scApart (fun vs H Q E h => ?_) (fun cdv A outer s H vs Q E hr h => ?_)
  · obtain ⟨v, d, rfl, _⟩ := h
    rfl
  · obtain ⟨v, d, rfl, hd, ht, k⟩ := h
    refine ⟨_, pss_one (ps_ret (pe_ifExp (pt_cmpR op_eq (pe_ix ix_tup (pv 0) pe_int (fun _ _ => rfl)) pe_str (nomark _))
      (pe_tup (pa_cons pe_str (pa_cons (pe_op op_sub (pe_un un_neg pe_int) (pe_ix ix_tup (pv 0) pe_int (fun _ _ => rfl))) (pa_cons (pe_ix ix_tup (pv 0) pe_int (fun _ _ => rfl)) pa_nil)))) (pv 0))), ?_⟩
    have hd2 := hd
    rcases ht with rfl | ⟨n, z, rfl⟩
    · rcases kn_tuple hd with ⟨a0, xs, ds', rfl, ed', ha, hx⟩ | ⟨hno, _⟩
      rotate_left
      · exact absurd rfl (hno _)
      cases ed'
      obtain ⟨w0, at0, d0⟩ := dpAll_get 0 hx (by simp)
      cases d0
      refine ⟨_, rfl, a0, xs, 0, _, rfl, rfl, ha, at_of (j := 0) rfl at0, rfl, _, rfl, ?_⟩
      rw [show decide (V.str "drawer" = V.str "file") = false by decide +kernel]
      exact iteF ⟨_, rfl, k H _ (Ex.refl H) hd2⟩
    · rcases kn_tuple hd with ⟨a0, xs, ds', rfl, ed', ha, hx⟩ | ⟨hno, _⟩
      rotate_left
      · exact absurd rfl (hno _)
      cases ed'
      obtain ⟨w0, at0, d0⟩ := dpAll_get 0 hx (by simp)
      obtain ⟨w1, at1, d1⟩ := dpAll_get 1 hx (by simp)
      obtain ⟨w2, at2, d2⟩ := dpAll_get 2 hx (by simp)
      cases d0
      cases d1
      cases d2
      refine ⟨_, rfl, a0, xs, 0, _, rfl, rfl, ha, at_of (j := 0) rfl at0, rfl, _, rfl, ?_⟩
      rw [decide_eq_true rfl]
      refine iteT ⟨1, rfl, _, rfl, a0, xs, 1, _, rfl, rfl, ha, at_of (j := 1) rfl at1, _, _, rfl, rfl, _, rfl, a0, xs, 2, _, rfl, rfl, ha, at_of (j := 2) rfl at2, (by show 3 ≤ sizeLine; decide), fun q hq => k _ _ (Ex.new hq) (.tup (SqT.of upd_same) (.cons (.str _) (.cons (.int _) (.cons (.str _) .nil))))⟩
end
/-! ### laid_over -/
def passE (es : Ents) (p : List Str) : Bool := (valE es p).isNone && (begs (longOf es p)).all (seeAt es)
def overA (es : Ents) : Ents := (es.filter fun e => !PyData.eqv e.2 goneD).map fun e => (e.1, asSeenD e.2)
def overB (es ts : Ents) : Ents := (ts.filter fun e => passE es e.1).map fun e => (e.1, apartD e.2)
def overE (es ts : Ents) : Ents := overA es ++ overB es ts
theorem overA_snoc (es : Ents) (e : List Str × PyData) : overA (es ++ [e]) = if PyData.eqv e.2 goneD = true then overA es else overA es ++ [(e.1, asSeenD e.2)] := by
  unfold overA
  rw [List.filter_append]
  by_cases h : PyData.eqv e.2 goneD = true
  · rw [if_pos h, show ([e].filter fun e => !PyData.eqv e.2 goneD) = [] from List.filter_cons_of_neg (p := fun e : List Str × PyData => !PyData.eqv e.2 goneD) (a := e) (l := []) (by rw [h]; decide), List.append_nil]
  · rw [if_neg h, show ([e].filter fun e => !PyData.eqv e.2 goneD) = [e] from List.filter_cons_of_pos (p := fun e : List Str × PyData => !PyData.eqv e.2 goneD) (a := e) (l := []) (by simpa using h), List.map_append]
    rfl
theorem overB_snoc (es ts : Ents) (e : List Str × PyData) : overB es (ts ++ [e]) = if passE es e.1 = true then overB es ts ++ [(e.1, apartD e.2)] else overB es ts := by
  unfold overB
  rw [List.filter_append]
  by_cases h : passE es e.1 = true
  · rw [if_pos h, show ([e].filter fun e => passE es e.1) = [e] from List.filter_cons_of_pos (p := fun e : List Str × PyData => passE es e.1) (a := e) (l := []) h, List.map_append]
    rfl
  · rw [if_neg h, show ([e].filter fun e => passE es e.1) = [] from List.filter_cons_of_neg (p := fun e : List Str × PyData => passE es e.1) (a := e) (l := []) h, List.append_nil]
theorem overE_nd {es ts : Ents} (ndL : (es.map (·.1)).Nodup) (ndT : (ts.map (·.1)).Nodup) : ((overE es ts).map (·.1)).Nodup := by
  unfold overE
  rw [List.map_append, List.nodup_append]
  refine ⟨?_, ?_, fun a ha b hb e => ?_⟩
  · unfold overA
    rw [List.map_map]
    exact (List.Sublist.map _ List.filter_sublist).nodup ndL
  · unfold overB
    rw [List.map_map]
    exact (List.Sublist.map _ List.filter_sublist).nodup ndT
  · subst e
    obtain ⟨x, hx, rfl⟩ := List.mem_map.mp ha
    obtain ⟨x0, hx0, rfl⟩ := List.mem_map.mp hx
    obtain ⟨y, hy, ey⟩ := List.mem_map.mp hb
    obtain ⟨y0, hy0, rfl⟩ := List.mem_map.mp hy
    have h1 : valE es x0.1 = some x0.2 := valE_nd ndL (List.mem_filter.mp hx0).1
    have h2 : passE es y0.1 = true := (List.mem_filter.mp hy0).2
    have ey : y0.1 = x0.1 := ey
    rw [ey] at h2
    unfold passE at h2
    rw [h1] at h2
    cases h2
theorem overE_ren {es ts : Ents} (eL : ∀ e ∈ es, entryB e.2 = true) (eT : ∀ e ∈ ts, thingD e.2) : ∀ e ∈ overE es ts, renOk e.2 := by
  intro e he
  unfold overE at he
  rcases List.mem_append.mp he with he | he
  · obtain ⟨x, hx, rfl⟩ := List.mem_map.mp he
    obtain ⟨hx1, hx2⟩ := List.mem_filter.mp hx
    have hb := eL x hx1
    show renOk (asSeenD x.2)
    rcases entry_form hb with ⟨b, hd⟩ | hd | ⟨n, z, hd, _, _⟩
    · rw [hd]
      exact Or.inr ⟨"drawer", [], rfl, by decide +kernel⟩
    · rw [hd] at hx2
      exact absurd hx2 (by decide +kernel)
    · rw [hd]
      exact Or.inl ⟨n, z, rfl⟩
  · obtain ⟨x, hx, rfl⟩ := List.mem_map.mp he
    show renOk (apartD x.2)
    rcases eT x (List.mem_filter.mp hx).1 with hd | ⟨n, z, hd⟩
    · rw [hd]
      exact Or.inr ⟨"drawer", [], rfl, by decide +kernel⟩
    · rw [hd]
      exact Or.inl ⟨-1 - n, z, rfl⟩
def spLaidOver (K : PySem.W.Frag) (P1 P2 P7 : Addr) : Sp := fun vs H Q _ => ∃ dL dT es ts, vs = [.ref dL, .ref dT] ∧ dL ≠ dT ∧ TrAt K H dL es ∧ layerB es = true ∧ (es.map (·.1)).Nodup ∧ TrAt K H dT ts ∧ (ts.map (·.1)).Nodup ∧ (∀ e ∈ ts, goodPath e.1 = true ∧ thingD e.2) ∧ ts.length ≤ 500 ∧
  TabG H P1 ∧ TabG H P2 ∧ TabG H P7 ∧ ∀ H' l kvs, Ex H H' → H' l = some (.dT kvs) → H l = none → RowE K H' kvs (plainE (overE es ts)) → Q (.ref l) H'
section
variable {P : Program} {w : World} {K : PySem.W.Frag} {mg : Str → Option Value} {base : Heap}
abbrev lvN : List Str := ["layer", "tree", "found", "path", "thing", "entry"]
theorem scLaidOver : FnScope lvN ["layer", "tree"] (defScope sLaidOver) := ⟨rfl, rfl, rfl, by decide +kernel, rfl, by decide +kernel, by decide +kernel⟩
theorem ok_laidOver {f fS fA fL fX fR P1 P2 P7 aG : Addr} {fd fdS fdA fdL fdX fdR : FuncData} (F : Fun K "laid_over" "laid_over" sLaidOver f fd) (SG : Cst K mg "GONE" [.str "gone"] aG)
    (GS : FnOk P w K mg base CX0 1 fS fdS ["entry"] (spAsSeen K)) (mS : mg "_as_seen" = some (.ref fS)) (kS : PySem.W.keepIn K (.ref fS) = true) (bS : Binds K fdS ["entry"] [])
    (GA : FnOk P w K mg base CX0 1 fA fdA ["thing"] (spApart K)) (mA : mg "apart" = some (.ref fA)) (kA : PySem.W.keepIn K (.ref fA) = true) (bA : Binds K fdA ["thing"] [])
    (GL : FnOk P w K mg base CX0 8 fL fdL ["layer", "path"] (spLongest K P1 P2)) (mL : mg "longest" = some (.ref fL)) (kL : PySem.W.keepIn K (.ref fL) = true) (bL : Binds K fdL ["layer", "path"] [])
    (GX : FnOk P w K mg base CX0 8 fX fdX ["layer", "path"] (spLets K P1 P2 P7)) (mX : mg "lets_through" = some (.ref fX)) (kX : PySem.W.keepIn K (.ref fX) = true) (bX : Binds K fdX ["layer", "path"] [])
    (GR : FnOk P w K mg base CX0 1 fR fdR ["tree"] (spRenum K)) (mR : mg "renumbered" = some (.ref fR)) (kR : PySem.W.keepIn K (.ref fR) = true) (bR : Binds K fdR ["tree"] []) :
    FnOk P w K mg base CX0 9 f fd ["layer", "tree"] (spLaidOver K P1 P2 P7) := by
  refine F.ok scLaidOver (fun vs H Q E h => ?_) (fun cdv A outer s H vs Q E hr h => ?_)
  · obtain ⟨dL, dT, es, ts, rfl, _⟩ := h
    rfl
  · obtain ⟨dL, dT, es, ts, rfl, hne, hL, lay, ndL, hT, ndT, gT, h500, t1, t2, t7, k⟩ := h
    have r1 := hr.mono (show 1 ≤ 8 by decide)
    have hu1 : (A.deeper (envOfC "laid_over" (defScope sLaidOver) s.heap.objs.size f cdv)).units + 1 < cLine := by have := hr.units; omega
    have hu0 : (A.deeper (envOfC "laid_over" (defScope sLaidOver) s.heap.objs.size f cdv)).units < cLine := by omega
    refine ⟨_, pss_cons (ps_lockS (ps_setDcT (i := 2) (own := [("path", 3), ("entry", 5)]) (g := gTup K 2 (gCons (gName 3) (gCons (gName 5) gNil)))
          (tt := tTest (tOp (rNeD K) (tVar 5) (tC (.ref aG)))) (tk := tVar 3) (tv := tCall (spAsSeen K) [] E0 (tCons (tVar 5) tNil))
          hu0 (by rfl) scLaidOver.nd rfl rfl (swapsDc rfl rfl rfl (by decide +kernel)) (pi_itemsT (pv 0))
          (blkOk_by (N := lvN) (sc := defScope sLaidOver) (by decide +kernel)) (fun _ _ _ _ _ => by exact pg_tup rfl (pgs_cons (pg_name (i := 3) scLaidOver.nd rfl (Or.inl rfl)) (pgs_cons (pg_name (i := 5) scLaidOver.nd rfl (Or.inl rfl)) pgs_nil)))
          (fun _ _ _ _ _ => pts_one (pt_cmpR (op_neD hr.units) (pv 5) (pe_glob (v := .ref aG) (by rfl) SG.g rfl) (nomark _)))
          (fun _ _ _ _ _ => pv 3)
          (fun _ _ _ _ _ => pe_call (E := E0) GS r1 (by rfl) mS kS bS .nil pass0 (pa_cons (pv 5) pa_nil))))
      (pss_cons (ps_lockS (ps_for PassesOwn.never rfl (pi_itemsT (pv 1)) (pg_tup rfl (pgs_cons (pg_name (i := 3) scLaidOver.nd rfl (Or.inl rfl)) (pgs_cons (pg_name (i := 4) scLaidOver.nd rfl (Or.inl rfl)) pgs_nil)))
        (pss_one (ps_if (PW.pt (pw_and (pt_cmp (pc_dnotin hu1 (pv 3) (pv 0))) (pw_and1 (pt_val (pe_call (E := E0) GX hr (by rfl) mX kX bX .nil pass0 (pa_cons (pv 0) (pa_cons (pe_call (E := E0) GL hr (by rfl) mL kL bL .nil pass0 (pa_cons (pv 0) (pa_cons (pv 3) pa_nil))) pa_nil)))))))
          (pss_one (ps_dput hu1 (pv 2) (pv 3) (pe_call (E := E0) GA r1 (by rfl) mA kA bA .nil pass0 (pa_cons (pv 4) pa_nil)) rfl)) pss_nil))))
      (pss_one (ps_ret (pe_call (E := E0) GR r1 (by rfl) mR kR bR .nil pass0 (pa_cons (pv 2) pa_nil))))), ?_⟩
    obtain ⟨_, gL, eL, rL, _⟩ := layerB_parts lay
    obtain ⟨kl, hdL, rowL⟩ := hL
    refine lock_goS hdL fun H1 od R lk lt lf ld hR => ?_
    have rowL1 : RowE K H1 kl es := rowL.lk hdL lk
    refine ⟨_, rfl, dL, od, kl, rfl, ld, fun D hD => ?_⟩
    have hDd : D ≠ dL := fun z => by
      rw [z, ld] at hD
      cases hD
    have h40 : es.length ≤ 40 := (layerB_parts lay).1
    refine dcT_it LD.walk_itemsT (fun i G => Ex H1 G ∧ ∃ km, G D = some (.dT km) ∧ RowE K G km (overA (es.take i)))
      ⟨Ex.new hD, [], upd_same, .nil⟩ (fun i G _ h => h.1.keep _ _ ld (fun ps z => by cases z)) ?_ ?_
    · rintro i x G G' hi ⟨xg, km, hkm, rkm⟩ ⟨Tp, kk, v, q, hk, rfl, hTn, hq, rfl⟩
      obtain ⟨en, hen, ek, dv⟩ := (rowL1.ex xg).get hk
      have ek : kk = en.1.map Sum.inr := ek
      rw [ek] at hq
      have pq : PathX G q en.1 := PathX.of_key hq
      have xT := Ex.new (o := .tup [V.ref q, v]) hTn
      have sT : SqT K (upd G Tp (.tup [V.ref q, v])) Tp [V.ref q, v] := SqT.of upd_same
      have pq' := PathX.ex xT pq
      have dv' := Dp_ex xT dv
      have hkm' := xT.keep _ _ hkm (fun ps z => by cases z)
      have rkm' := rkm.ex xT
      have x3 := xg.trans xT
      generalize upd G Tp (.tup [V.ref q, v]) = G2 at sT pq' dv' hkm' rkm' x3 ⊢
      have etake : es.take (i + 1) = es.take i ++ [en] := by rw [List.take_add_one, hen]; rfl
      have hmem := List.mem_of_getElem? hen
      have hen2 := eL en hmem
      refine ⟨Tp, _, rfl, sT, rfl, _, _, rfl, _, _, rfl, rfl, rfl, ?_⟩
      refine ⟨_, rfl, en.2, goneD, dv', .tup (SG.t G2) (.cons (.str _) .nil), entry_shaped hen2, by decide +kernel, _, rfl, ?_⟩
      cases hgo : PyData.eqv en.2 goneD with
      | true =>
        refine iteF ⟨x3, km, hkm', ?_⟩
        rw [etake, overA_snoc, if_pos hgo]
        exact rkm'
      | false =>
        have hng : en.2 ≠ goneD := fun z => by
          rw [z] at hgo
          exact absurd hgo (by decide +kernel)
        refine iteT ⟨_, rfl, _, rfl, v, en.2, rfl, dv', hen2, hng, fun G3 u x4 du => ?_⟩
        have hkm3 := x4.keep _ _ hkm' (fun ps z => by cases z)
        have rkm3 := rkm'.ex x4
        have hnew : valV km (en.1.map Sum.inr) = none := by
          rcases rkm3.val (p := en.1) with ⟨e1, _⟩ | ⟨_, d, _, e2, _⟩
          · exact e1
          · exfalso
            obtain ⟨y, hy, _⟩ := Option.map_eq_some_iff.mp e2
            have hy1 := List.mem_of_find?_eq_some hy
            have hy2 : y.1 = en.1 := of_decide_eq_true (List.find?_some (p := fun e : List Str × PyData => decide (e.1 = en.1)) hy)
            obtain ⟨y0, hy0, rfl⟩ := List.mem_map.mp hy1
            have hy3 := (List.mem_filter.mp hy0).1
            exact take_new ndL hen (List.mem_map.mpr ⟨y0, hy3, hy2⟩)
        have hkl : km.length < sizeLine := by
          have e1 := rkm3.len
          have e2 : (overA (es.take i)).length ≤ (es.take i).length := by
            unfold overA
            rw [List.length_map]
            exact List.length_filter_le _ _
          rw [List.length_take] at e2
          rw [sizeLine_eq]
          omega
        have mv := mv_upd (u := .dT (putK km (en.1.map Sum.inr) u)) hkm3 (fun q => q)
        refine ⟨q, km, en.1.map Sum.inr, rfl, (PathX.ex x4 pq').key, hkm3, hkl, (x3.trans x4).put hD, _, upd_same, ?_⟩
        have row2 := mv_row mv rkm3
        have du2 := mv_dp mv du
        rw [putK_new _ hnew] at row2 du2 ⊢
        rw [etake, overA_snoc, if_neg (by rw [hgo]; decide)]
        exact Paired.snoc row2 ⟨rfl, du2⟩
    rintro G ⟨xg, km, hkm, rkm⟩
    rw [rowL.len, List.take_length] at rkm
    refine hR _ G xg fun H2 x2 kp => ?_
    have hDn : H D = none := lf D hD
    have frL := xg.keep _ _ ld (fun ps z => by cases z)
    have rkm2 : RowE K H2 km (overA es) := RowE.lk (Or.inr ⟨od, frL⟩) kp rkm
    have hkm2 := kp _ _ hkm hDd
    have hL2 : TrAt K H2 dL es := TrAt.ex x2 ⟨kl, hdL, rowL⟩
    obtain ⟨kt, hdT, rowT⟩ := hT.ex x2
    have t12 := x2.tab _ t1
    have t22 := x2.tab _ t2
    have t72 := x2.tab _ t7
    have hTD : dT ≠ D := fun z => by
      obtain ⟨kt0, h, _⟩ := hT
      rw [z] at h
      rcases h with h | ⟨o, h⟩
      · rw [hDn] at h; cases h
      · rw [hDn] at h; cases h
    clear hR kp rkm hkm frL xg ld lf lt lk rowL1
    -- what the tree has
    refine lock_goB hdT hTD fun HL od2 R2 lk lt lf ld hR => ?_
    have rowT1 : RowE K HL kt ts := rowT.lk hdT lk
    have rkmL : RowE K HL km (overA es) := rkm2.lk hdT lk
    have hkmL := lk _ _ hkm2 (Ne.symm hTD)
    have hLL : TrAt K HL dL es := by
      obtain ⟨k1, h1, h2⟩ := hL2
      refine ⟨k1, ?_, h2.lk hdT lk⟩
      rcases h1 with h1 | ⟨o, h1⟩
      · exact Or.inl (lk _ _ h1 hne)
      · exact Or.inr ⟨o, lk _ _ h1 hne⟩
    have hLD : dL ≠ D := Ne.symm hDd
    have mvE : ∀ {G2 : Hp}, Eb D HL G2 → ∀ b v, HL b = some v → seqO v → G2 b = some v := fun x b v e q => x.keep b v (fun z => by
      rw [z, hkmL] at e
      cases e
      exact q) e (fun ps z => by rw [z] at q; exact q)
    have hLk : ∀ {G2 : Hp}, Eb D HL G2 → TrAt K G2 dL es := fun x => by
      obtain ⟨k1, h1, h2⟩ := hLL
      refine ⟨k1, ?_, mv_row (mvE x) h2⟩
      rcases h1 with h1 | ⟨o, h1⟩
      · exact Or.inl (x.keep _ _ hLD h1 (fun ps z => by cases z))
      · exact Or.inr ⟨o, x.keep _ _ hLD h1 (fun ps z => by cases z)⟩
    refine ⟨_, rfl, dT, od2, kt, rfl, ld, for_it LD.walk_itemsT (fun i σ G2 => (∃ v3 v4, σ = [some (.ref dL), some (.ref dT), some (.ref D), v3, v4, none]) ∧ Eb D HL G2 ∧ ∃ km, G2 D = some (.dT km) ∧ RowE K G2 km (overA es ++ overB es (ts.take i)))
      ⟨⟨_, _, rfl⟩, Eb.refl _, km, hkmL, by rw [List.take_zero, show overB es [] = [] from rfl, List.append_nil]; exact rkmL⟩ (fun i σ G2 _ h => h.2.1.keep _ _ hTD ld (fun ps z => by cases z)) ?_ ?_⟩
    · rintro i x σ G2 G2' hi ⟨⟨v3, v4, rfl⟩, xg, km, hkm, rkm⟩ ⟨Tp, kk, v, q, hk, rfl, hTn, hq, rfl⟩
      obtain ⟨en, hen, ek, dv⟩ := (mv_row (mvE xg) rowT1).get hk
      have ek : kk = en.1.map Sum.inr := ek
      rw [ek] at hq
      have pq : PathX G2 q en.1 := PathX.of_key hq
      have xT := Ex.new (o := .tup [V.ref q, v]) hTn
      have sT : SqT K (upd G2 Tp (.tup [V.ref q, v])) Tp [V.ref q, v] := SqT.of upd_same
      have pq' := PathX.ex xT pq
      have dv' := Dp_ex xT dv
      have hkm' := xT.keep _ _ hkm (fun ps z => by cases z)
      have rkm' := rkm.ex xT
      have x3 := xg.trans (ex_eb xT)
      generalize upd G2 Tp (.tup [V.ref q, v]) = G3 at sT pq' dv' hkm' rkm' x3 ⊢
      have etake : ts.take (i + 1) = ts.take i ++ [en] := by rw [List.take_add_one, hen]; rfl
      have hmem := List.mem_of_getElem? hen
      obtain ⟨gp, thing⟩ := gT en hmem
      have hL3 := hLk x3
      obtain ⟨k1, h1, rowL3⟩ := id hL3
      have skip : ∀ G4, Ex G3 G4 → passE es en.1 = false → ((∃ v3 v4, [some (V.ref dL), some (.ref dT), some (.ref D), some (.ref q), some v, none] = [some (.ref dL), some (.ref dT), some (.ref D), v3, v4, none]) ∧ Eb D HL G4 ∧ ∃ km, G4 D = some (.dT km) ∧ RowE K G4 km (overA es ++ overB es (ts.take (i + 1)))) := fun G4 x4 hp => by
        refine ⟨⟨_, _, rfl⟩, x3.trans (ex_eb x4), km, x4.keep _ _ hkm' (fun ps z => by cases z), ?_⟩
        rw [etake, overB_snoc, if_neg (by rw [hp]; decide)]
        exact rkm'.ex x4
      refine ⟨Tp, _, rfl, sT, rfl, _, _, rfl, _, _, rfl, rfl, ?_⟩
      refine ⟨_, rfl, _, rfl, dL, _, rfl, get_tr h1 pq', _, rfl, ?_⟩
      rcases rowL3.val (p := en.1) with ⟨e1, e2⟩ | ⟨v0, D0, e1, e2, _⟩
      rotate_left
      · rw [e1]
        exact iteF (iteF (skip G3 (Ex.refl _) (by unfold passE; rw [e2]; rfl)))
      rw [e1]
      refine iteT ⟨_, rfl, _, rfl, _, rfl, dL, q, es, en.1, rfl, hL3, layer_root lay, pq', gp, x3.tab _ (lt _ t12), x3.tab _ (lt _ t22), fun G4 r x4 pr => ?_⟩
      obtain ⟨D1, hD1⟩ := longOf_val (p := en.1) (layer_root lay)
      refine ⟨dL, r, es, longOf es en.1, rfl, hL3.ex x4, (fun e he => entry_shaped (eL e he)), pr, begs_good gp _ (longOf_beg (layer_root lay)), roofH_begs rL hD1, x4.tab _ (x3.tab _ (lt _ t12)), x4.tab _ (x3.tab _ (lt _ t22)), x4.tab _ (x3.tab _ (lt _ t72)), fun G5 x5 => ⟨_, rfl, ?_⟩⟩
      have hp : passE es en.1 = (begs (longOf es en.1)).all (seeAt es) := by
        unfold passE
        rw [e2]
        rfl
      have x45 := x4.trans x5
      cases hb : (begs (longOf es en.1)).all (seeAt es) with
      | false => exact iteF (skip G5 x45 (by rw [hp, hb]))
      | true =>
        refine iteT ⟨_, rfl, v, en.2, rfl, Dp_ex x45 dv', thing, fun G6 u x6 du => ?_⟩
        have x36 := x45.trans x6
        have hkm6 := x36.keep _ _ hkm' (fun ps z => by cases z)
        have rkm6 := rkm'.ex x36
        have pq6 := PathX.ex x36 pq'
        have hkl : km.length < sizeLine := by
          have e1 := rkm6.len
          have e3 : (overA es).length ≤ es.length := by
            unfold overA
            rw [List.length_map]
            exact List.length_filter_le _ _
          have e4 : (overB es (ts.take i)).length ≤ (ts.take i).length := by
            unfold overB
            rw [List.length_map]
            exact List.length_filter_le _ _
          rw [List.length_take] at e4
          rw [List.length_append] at e1
          rw [sizeLine_eq]
          omega
        have hnew : valV km (en.1.map Sum.inr) = none := by
          rcases rkm6.val (p := en.1) with ⟨f1, _⟩ | ⟨_, d, _, f2, _⟩
          · exact f1
          · exfalso
            obtain ⟨y, hy, hy2, _⟩ := valE_mem f2
            rcases List.mem_append.mp hy with hy | hy
            · obtain ⟨y0, hy0, rfl⟩ := List.mem_map.mp hy
              have hy3 := (List.mem_filter.mp hy0).1
              have hy2 : y0.1 = en.1 := hy2
              have : valE es y0.1 = some y0.2 := valE_nd ndL hy3
              rw [hy2, e2] at this
              cases this
            · obtain ⟨y0, hy0, rfl⟩ := List.mem_map.mp hy
              have hy3 := (List.mem_filter.mp hy0).1
              exact take_new ndT hen (List.mem_map.mpr ⟨y0, hy3, hy2⟩)
        refine ⟨_, rfl, _, rfl, D, _, rfl, DPut.t (k := en.1.map Sum.inr) (v := u) hkm6 pq6.key hkl, ?_⟩
        have mv := mv_upd (u := .dT (putK km (en.1.map Sum.inr) u)) hkm6 (fun q => q)
        have row2 := mv_row mv rkm6
        have du2 := mv_dp mv du
        refine ⟨⟨_, _, rfl⟩, (x3.trans (ex_eb x36)).trans (Eb.set hkm6 (fun ps z => by cases z)), _, upd_same, ?_⟩
        rw [putK_new _ hnew] at row2 du2 ⊢
        rw [etake, overB_snoc, if_pos (by rw [hp, hb]), ← List.append_assoc]
        exact Paired.snoc row2 ⟨rfl, du2⟩
    rintro σ G ⟨⟨v3, v4, rfl⟩, xg, km, hkm, rkm⟩
    rw [rowT.len, List.take_length] at rkm
    refine hR _ G xg fun H3 y3 kp => ?_
    have frT := xg.keep _ _ hTD ld (fun ps z => by cases z)
    have rkm3 : RowE K H3 km (overA es ++ overB es ts) := RowE.lk (Or.inr ⟨od2, frT⟩) kp rkm
    have hkm3 := kp _ _ hkm (Ne.symm hTD)
    have x03 : Ex H H3 := Eb.ex x2 hDn y3
    refine ⟨_, rfl, D, overE es ts, rfl, ⟨km, Or.inl hkm3, rkm3⟩, ?_, ?_, ?_, fun H4 l kvs x4 e4 f4 r4 => k H4 l kvs (x03.trans x4) e4 (x03.free _ f4) r4⟩
    · exact overE_nd ndL ndT
    · exact overE_ren eL fun e he => (gT e he).2
    · have e3 : (overA es).length ≤ es.length := by
        unfold overA
        rw [List.length_map]
        exact List.length_filter_le _ _
      have e4 : (overB es ts).length ≤ ts.length := by
        unfold overB
        rw [List.length_map]
        exact List.length_filter_le _ _
      unfold overE
      rw [List.length_append]
      omega
end
/-! ### what is over a tree, path by path -/
theorem valE_cons (e : List Str × PyData) (es : Ents) (p : List Str) : valE (e :: es) p = if e.1 = p then some e.2 else valE es p := by
  unfold valE
  rw [List.find?_cons]
  by_cases h : e.1 = p
  · rw [decide_eq_true h, if_pos h]; rfl
  · rw [decide_eq_false h, if_neg h]
theorem valE_append (a b : Ents) (p : List Str) : valE (a ++ b) p = (valE a p).or (valE b p) := by
  unfold valE
  rw [List.find?_append]
  cases a.find? fun e => decide (e.1 = p) <;> rfl
theorem valE_not {es : Ents} {p : List Str} (h : p ∉ es.map (·.1)) : valE es p = none := by
  cases hv : valE es p with
  | none => rfl
  | some d => exact absurd (valE_key (by rw [hv]; rfl)) h
theorem overA_cons (e : List Str × PyData) (es : Ents) : overA (e :: es) = if PyData.eqv e.2 goneD = true then overA es else (e.1, asSeenD e.2) :: overA es := by
  unfold overA
  by_cases h : PyData.eqv e.2 goneD = true
  · rw [if_pos h, List.filter_cons_of_neg (p := fun e : List Str × PyData => !PyData.eqv e.2 goneD) (by rw [h]; decide)]
  · rw [if_neg h, List.filter_cons_of_pos (p := fun e : List Str × PyData => !PyData.eqv e.2 goneD) (by simpa using h)]
    rfl
theorem valE_overA : ∀ {es : Ents}, (es.map (·.1)).Nodup → ∀ p, valE (overA es) p = (valE es p).bind fun d => if PyData.eqv d goneD = true then none else some (asSeenD d)
  | [], _, _ => rfl
  | e :: es, nd, p => by
    rw [List.map_cons, List.nodup_cons] at nd
    have ih := valE_overA nd.2 p
    rw [overA_cons, valE_cons]
    by_cases h : e.1 = p
    · have hno : valE es p = none := valE_not (by rw [← h]; exact nd.1)
      rw [hno] at ih
      rw [if_pos h]
      by_cases hg : PyData.eqv e.2 goneD = true
      · rw [if_pos hg, ih]
        show none = if PyData.eqv e.2 goneD = true then none else _
        rw [if_pos hg]
      · rw [if_neg hg, valE_cons, if_pos h]
        show some _ = if PyData.eqv e.2 goneD = true then none else _
        rw [if_neg hg]
    · rw [if_neg h, ← ih]
      by_cases hg : PyData.eqv e.2 goneD = true
      · rw [if_pos hg]
      · rw [if_neg hg, valE_cons, if_neg h]
theorem valE_overB (es : Ents) (p : List Str) : ∀ (ts : Ents), valE (overB es ts) p = if passE es p = true then (valE ts p).map apartD else none
  | [] => by
    show none = if passE es p = true then none else none
    rw [ite_self]
  | e :: ts => by
    have ih := valE_overB es p ts
    have hc : overB es (e :: ts) = if passE es e.1 = true then (e.1, apartD e.2) :: overB es ts else overB es ts := by
      unfold overB
      by_cases h : passE es e.1 = true
      · rw [if_pos h, List.filter_cons_of_pos (p := fun e : List Str × PyData => passE es e.1) h]
        rfl
      · rw [if_neg h, List.filter_cons_of_neg (p := fun e : List Str × PyData => passE es e.1) h]
    rw [hc, valE_cons]
    by_cases h : e.1 = p
    · rw [if_pos h]
      by_cases hp : passE es e.1 = true
      · rw [if_pos hp, valE_cons, if_pos h, if_pos (by rw [← h]; exact hp)]
        rfl
      · rw [if_neg hp, ih, if_neg (by rw [← h]; exact hp), if_neg (by rw [← h]; exact hp)]
    · rw [if_neg h]
      by_cases hp : passE es e.1 = true
      · rw [if_pos hp, valE_cons, if_neg h, ih]
      · rw [if_neg hp, ih]
theorem valE_over {es ts : Ents} (nd : (es.map (·.1)).Nodup) (p : List Str) : valE (overE es ts) p = match valE es p with
    | some d => if PyData.eqv d goneD = true then none else some (asSeenD d)
    | none => if (begs (longOf es p)).all (seeAt es) = true then (valE ts p).map apartD else none := by
  unfold overE
  rw [valE_append, valE_overA nd, valE_overB]
  unfold passE
  cases hv : valE es p with
  | none => rfl
  | some d =>
    show (if PyData.eqv d goneD = true then none else some (asSeenD d)).or (if (false && _) = true then _ else none) = _
    rw [Bool.false_and, if_neg (show ¬ (false = true) by decide), Option.or_none]
/-! ### is it a stack? of any thing -/
theorem call_isDN {X : Cx} : CallR X (.builtin "isinstance") (fun xs H Q => ∃ d kvs, xs = [.ref d, .ty "list"] ∧ Rd H d (.dT kvs) ∧ Q (.bl false) H) := by
  rintro pins s σ H xs us Q I r ⟨d, kvs, rfl, hd, q⟩
  obtain ⟨u1, u2, rfl, r1, r2⟩ := vals2 r
  obtain rfl : u1 = Value.ref d := r1
  obtain rfl : u2 = Value.type "list" := r2
  obtain ⟨hz, hs, xs, rel, ob, es, ep, hob, hx, _⟩ := dt_rd I.hok hd
  exact PySem.W.kia_one PySem.W.kitx_dict I.kIn ⟨ob, hob, hx.1⟩ (kit_ty (show kitB "dict" "list" = some false by decide +kernel)) (fun z => nomatch z) fun tk => ⟨.bl false, H, I.tok tk, rfl, q⟩
theorem call_isS {X : Cx} : CallR X (.builtin "isinstance") (fun xs H Q => rIs X.K xs H Q ∨ ∃ d kvs, xs = [.ref d, .ty "list"] ∧ Rd H d (.dT kvs) ∧ Q (.bl false) H) := by
  intro pins s σ H xs us Q I r h
  rcases h with h | h
  · exact call_is pins s σ H xs us Q I r h
  · exact call_isDN pins s σ H xs us Q I r h
/-- is the thing a stack? -/
inductive StackQ (K : PySem.W.Frag) (H : Hp) : V → Bool → Prop
  | lst {l : Addr} {vs : List V} {bs : List Bool} (h : H l = some (.lst vs)) (p : Paired (fun v b => LayerQ K H v b) vs bs) (n : vs.length ≤ 100) : StackQ K H (.ref l) (decide (1 ≤ vs.length) && decide (vs.length ≤ 4) && bs.all id)
  | dict {d : Addr} {kvs : List (List L2.Key × V)} (h : Rd H d (.dT kvs)) : StackQ K H (.ref d) false
  | oth {v : V} {n : String} (k : Kn K H v n) (h : n ≠ "list") : StackQ K H v false
theorem StackQ.ex {K : PySem.W.Frag} {H H' : Hp} {v : V} {b : Bool} (x : Ex H H') (h : StackQ K H v b) : StackQ K H' v b := by
  cases h with
  | lst h p n => exact .lst (x.keep _ _ h (fun ps z => by cases z)) (pairImp (fun _ _ q => q.ex x) p) n
  | dict h => exact .dict (x.rd h (fun ps z => by cases z))
  | oth k h => exact .oth (k.ex x) h
def spIsStackG (K : PySem.W.Frag) (P1 P2 P3 P4 P6 P8 : Addr) : Sp := fun vs H Q E => ∃ v b, vs = [v] ∧ StackQ K H v b ∧ Tabs5 H P1 P2 P3 P4 P6 ∧ TabG H P8 ∧ ∀ H', Ex H H' → Q (.bl b) H'
def spCheckStackG (K : PySem.W.Frag) (P1 P2 P3 P4 P6 P8 C : Addr) : Sp := fun vs H Q E => ∃ v b, vs = [v] ∧ StackQ K H v b ∧ Tabs5 H P1 P2 P3 P4 P6 ∧ TabG H P8 ∧ (b = true → ∀ H', Ex H H' → Q .non H') ∧ (b = false → ∀ H', Ex H H' → E (.ref C) none H')
section
variable {P : Program} {w : World} {K : PySem.W.Frag} {mg : Str → Option Value} {base : Heap}
theorem ok_isStackG {f c fL P1 P2 P3 P4 P6 P8 : Addr} {fd fdL : FuncData} (F : FunC K "is_stack" "is_stack" sIsStack f fd c) (M : Mg mg) (R : MgR mg) (MK : MgK mg) (TB : LamX.TabB base mg c P8)
    (GL : FnOk P w K mg base CX0 9 fL fdL ["thing"] (spIsLayer K P1 P2 P3 P4 P6)) (mL : mg "is_layer" = some (.ref fL)) (kL : PySem.W.keepIn K (.ref fL) = true) (bL : Binds K fdL ["thing"] []) :
    FnOk P w K mg base CX0 11 f fd ["thing"] (spIsStackG K P1 P2 P3 P4 P6 P8) := by
  refine F.ok scIsStack (fun vs H Q E h => ?_) (fun A outer s H vs Q E hr h => ?_)
  · obtain ⟨v, b, rfl, _⟩ := h
    rfl
  · obtain ⟨v, b, rfl, sq, T, t8, k⟩ := h
    obtain ⟨tm, hm⟩ := MK.mostLayers
    refine ⟨_, pss_cons (ps_if (PW.pt (pw_or (pt_not (pt_val (pe_callB call_isS (by rfl) M.isinstance boot_isinstance (pa_cons (pv 0) (pa_cons (pe_bltn (v := .ty "list") (by rfl) R.list (by decide +kernel) rfl) pa_nil)))))
        (pw_or1 (pt_not (pt_chain op_le op_le pe_int (pe_callB call_len_seq (by rfl) M.len PySem.boot_len (pa_cons (pv 0) pa_nil)) (pe_glob (v := .int 4) (by rfl) hm ⟨_, rfl⟩)))))) (pss_one (ps_ret pe_bl)) pss_nil)
      (pss_one (ps_ret (pe_all (k := 9) (N := ["thing", "layer"]) (pad := 1) (j := 1) (x := "layer") (P := P8) hr rfl (by rfl) M.all TB rfl (gn_by (N0 := ["thing"]) (sc := defScope sIsStack) (by decide +kernel)) (pi_list (pv 0))
        (fun A s H cl C code fp pn hr => pe_call (E := E0) GL hr (by rfl) mL kL bL .nil pass0 (pa_cons (pv 1) pa_nil))))), ?_⟩
    cases sq with
    | oth kn hn =>
      rename_i n
      refine ⟨_, rfl, .inl ⟨v, n, "list", rfl, kn, rfl, _, rfl, ?_⟩⟩
      rw [kn.is hn (fun _ => by decide)]
      exact iteT (k H (Ex.refl H))
    | dict hd =>
      exact ⟨_, rfl, .inr ⟨_, _, rfl, hd, _, rfl, iteT (k H (Ex.refl H))⟩⟩
    | lst h p n =>
      rename_i l vs bs
      refine ⟨_, rfl, .inl ⟨.ref l, "list", "list", rfl, .lst (SqL.of h), rfl, _, rfl, ?_⟩⟩
      rw [show isB "list" "list" = true by decide]
      refine iteF ⟨_, rfl, l, _, rfl, .inl (SqL.of h), _, _, rfl, rfl, _, rfl, ?_⟩
      by_cases h1 : (1 : Int) ≤ ((vs.length : Nat) : Int)
      · rw [decide_eq_true h1]
        refine iteT ⟨_, _, rfl, rfl, _, rfl, ?_⟩
        by_cases h4 : ((vs.length : Nat) : Int) ≤ 4
        · rw [decide_eq_true h4]
          refine iteF ⟨_, rfl, l, rfl, ⟨_, SqL.of h⟩, t8, fun H2 hT => ?_⟩
          have x2 := Ex.tabd hT t8
          have st : ∀ {G : Hp}, Ex H G → SqL K G l vs := fun x => SqL.of (x.keep _ _ h (fun ps z => by cases z))
          refine gw_lst (xs := vs) (fun i => bs.getD i false) (st x2) (fun G x => st (x2.trans x)) ?_ ?_
          · intro i y G hy x R2 hR2
            obtain ⟨b, hb, q⟩ := paired_get p hy
            refine ⟨_, rfl, y, b, rfl, q.ex (x2.trans x), T.ex (x2.trans x), fun H' x' => ?_⟩
            have := hR2 H' (x.trans x')
            rwa [show bs.getD i false = b by rw [List.getD_eq_getElem?_getD, hb]; rfl] at this
          · intro G x
            have := k G (x2.trans x)
            rw [decide_eq_true (show 1 ≤ vs.length by omega), decide_eq_true (show vs.length ≤ 4 by omega), Bool.true_and, Bool.true_and] at this
            rwa [show ((List.range vs.length).all fun i => bs.getD i false) = bs.all id from by
              have hl := Paired.length p
              rw [hl, Bool.eq_iff_iff, List.all_eq_true, List.all_eq_true]
              constructor
              · intro h x hx
                obtain ⟨i, hi⟩ := List.mem_iff_getElem?.mp hx
                have := h i (List.mem_range.mpr (List.getElem?_eq_some_iff.mp hi).1)
                rwa [List.getD_eq_getElem?_getD, hi] at this
              · intro h i hi
                have hi := List.mem_range.mp hi
                rw [List.getD_eq_getElem?_getD, List.getElem?_eq_getElem hi]
                exact h _ (List.getElem_mem hi)]
        · rw [decide_eq_false h4]
          refine iteT ?_
          have := k H (Ex.refl H)
          rwa [decide_eq_false (show ¬ vs.length ≤ 4 by omega), Bool.and_false, Bool.false_and] at this
      · rw [decide_eq_false h1]
        refine iteF ⟨_, rfl, iteT ?_⟩
        have := k H (Ex.refl H)
        rwa [decide_eq_false (show ¬ 1 ≤ vs.length by omega), Bool.false_and, Bool.false_and] at this
theorem ok_checkStackG {f f2 P1 P2 P3 P4 P6 P8 C : Addr} {fd fd2 : FuncData} (F : Fun K "check_stack" "check_stack" sCheckStack f fd) (R : Ref K mg "NoStack" C)
    (G2 : FnOk P w K mg base CX0 11 f2 fd2 ["thing"] (spIsStackG K P1 P2 P3 P4 P6 P8)) (m2 : mg "is_stack" = some (.ref f2)) (k2 : PySem.W.keepIn K (.ref f2) = true) (b2 : Binds K fd2 ["thing"] []) :
    FnOk P w K mg base (L2.CX P w) 12 f fd ["thing"] (spCheckStackG K P1 P2 P3 P4 P6 P8 C) := by
  refine F.okX scCheckStack (fun vs H Q E h => ?_) (fun cdv A outer s H vs Q E hr h => ?_)
  · obtain ⟨v, b, rfl, _⟩ := h
    rfl
  · obtain ⟨v, b, rfl, sq, T, t8, kt, kf⟩ := h
    refine ⟨_, pss_one (ps_if (pt_not (pt_val (pe_call (E := E0) G2 hr (by rfl) m2 k2 b2 .nil pass0 (pa_cons (pv 0) pa_nil))))
      (pss_one (ps_raise rfl (takes_of rfl rfl rfl rfl) (pmk_own PySem.F.excBase_ValueError R.x R.g R.k (raises_own R.b R.t) rfl))) pss_nil), ?_⟩
    refine ⟨_, rfl, v, b, rfl, sq, T, t8, fun H' x => ⟨_, rfl, ?_⟩⟩
    cases b with
    | true => exact iteF (kt rfl H' x)
    | false => exact iteT (kf rfl H' x)
end
/-! ### one text each -/
def fileD (n : Int) (z : Str) : PyData := .tuple [.str "file", .int n, .str z]
def OneE (ds : List PyData) : Prop := ∀ n y z, fileD n y ∈ ds → fileD n z ∈ ds → y = z
theorem file_part1 (n : Int) (z : Str) : partD 1 (fileD n z) = .int n ∧ partD 2 (fileD n z) = .str z := ⟨rfl, rfl⟩
theorem textsGo_iff : ∀ (ds : List PyData) {seen : List (L2.Key × V)}, StrVals seen → (∀ n z, fileD n z ∈ ds → fileB (fileD n z) = true) →
    (textsGo seen ds = true ↔ (OneE ds ∧ ∀ n y z, fileD n y ∈ ds → valV seen (Sum.inl n) = some (.str z) → z = y))
  | [], seen, _, _ => by
    rw [textsGo.eq_1]
    exact ⟨fun _ => ⟨fun n y z h => (nomatch h), fun n y z h => (nomatch h)⟩, fun _ => rfl⟩
  | x :: ds, seen, hs, hf => by
    have hf' : ∀ n z, fileD n z ∈ ds → fileB (fileD n z) = true := fun n z h => hf n z (List.mem_cons_of_mem _ h)
    cases hx : fileB x with
    | false =>
      have hne : ∀ n z, fileD n z ∈ x :: ds → fileD n z ∈ ds := fun n z h => by
        rcases List.mem_cons.mp h with e | e
        · have := hf n z h
          rw [e, hx] at this
          cases this
        · exact e
      rw [textsGo_not hx, textsGo_iff ds hs hf']
      exact ⟨fun ⟨a, b⟩ => ⟨fun n y z h1 h2 => a n y z (hne _ _ h1) (hne _ _ h2), fun n y z h1 h2 => b n y z (hne _ _ h1) h2⟩,
        fun ⟨a, b⟩ => ⟨fun n y z h1 h2 => a n y z (List.mem_cons_of_mem _ h1) (List.mem_cons_of_mem _ h2), fun n y z h1 h2 => b n y z (List.mem_cons_of_mem _ h1) h2⟩⟩
    | true =>
      obtain ⟨n, z, ex, _, _⟩ := file_form hx
      have ex : x = fileD n z := ex
      subst ex
      cases hv : valV seen (Sum.inl n) with
      | none =>
        rw [textsGo_new hx rfl rfl hv, textsGo_iff ds hs.put hf']
        constructor
        · rintro ⟨a, b⟩
          have same : ∀ y, fileD n y ∈ ds → z = y := fun y h => b n y z h (by rw [valV_put, if_pos rfl])
          refine ⟨fun m y u h1 h2 => ?_, fun m y u h1 h2 => ?_⟩
          · rcases List.mem_cons.mp h1 with e1 | e1
            · cases e1
              rcases List.mem_cons.mp h2 with e2 | e2
              · cases e2; rfl
              · exact same u e2
            · rcases List.mem_cons.mp h2 with e2 | e2
              · cases e2
                exact (same y e1).symm
              · exact a m y u e1 e2
          · rcases List.mem_cons.mp h1 with e1 | e1
            · cases e1
              rw [hv] at h2
              cases h2
            · refine b m y u e1 ?_
              rw [valV_put, if_neg]
              · exact h2
              · intro e
                cases e
                rw [hv] at h2
                cases h2
        · rintro ⟨a, b⟩
          refine ⟨fun m y u h1 h2 => a m y u (List.mem_cons_of_mem _ h1) (List.mem_cons_of_mem _ h2), fun m y u h1 h2 => ?_⟩
          rw [valV_put] at h2
          split at h2
          · rename_i e
            cases e
            cases h2
            exact a n z y (List.mem_cons_self ..) (List.mem_cons_of_mem _ h1)
          · exact b m y u (List.mem_cons_of_mem _ h1) h2
      | some v =>
        obtain ⟨y0, rfl⟩ := hs _ _ hv
        rw [textsGo_old hx rfl rfl hv]
        by_cases hyz : y0 = z
        · subst hyz
          rw [if_pos rfl, textsGo_iff ds hs hf']
          constructor
          · rintro ⟨a, b⟩
            have same : ∀ y, fileD n y ∈ ds → y0 = y := fun y h => b n y y0 h hv
            refine ⟨fun m y u h1 h2 => ?_, fun m y u h1 h2 => ?_⟩
            · rcases List.mem_cons.mp h1 with e1 | e1
              · cases e1
                rcases List.mem_cons.mp h2 with e2 | e2
                · cases e2; rfl
                · exact same u e2
              · rcases List.mem_cons.mp h2 with e2 | e2
                · cases e2
                  exact (same y e1).symm
                · exact a m y u e1 e2
            · rcases List.mem_cons.mp h1 with e1 | e1
              · cases e1
                rw [hv] at h2
                cases h2
                rfl
              · exact b m y u e1 h2
          · rintro ⟨a, b⟩
            exact ⟨fun m y u h1 h2 => a m y u (List.mem_cons_of_mem _ h1) (List.mem_cons_of_mem _ h2), fun m y u h1 h2 => b m y u (List.mem_cons_of_mem _ h1) h2⟩
        · rw [if_neg hyz]
          exact ⟨fun h => (nomatch h), fun ⟨_, b⟩ => absurd (b n z y0 (List.mem_cons_self ..) hv) hyz⟩
theorem oneText_iff {ds : List PyData} (hf : ∀ n z, fileD n z ∈ ds → fileB (fileD n z) = true) : oneTextB ds = true ↔ OneE ds := by
  have h0 : StrVals [] := fun k v h => nomatch h
  unfold oneTextB
  rw [textsGo_iff ds h0 hf]
  exact ⟨fun h => h.1, fun h => ⟨h, fun n y z _ h2 => nomatch h2⟩⟩
theorem fileD_inj {n m : Int} {y z : Str} (h : fileD n y = fileD m z) : n = m ∧ y = z := by
  unfold fileD at h
  injection h with h
  injection h with _ h
  injection h with h1 h
  injection h with h2 _
  injection h1 with h1
  injection h2 with h2
  exact ⟨h1, h2⟩
/-! ### plain rows -/
theorem plainE_len (es : Ents) : (plainE es).length = es.length := by
  have h1 := congrArg List.length (renOf_keys (upE es) ([], []))
  have h2 : (plainE es).length = (upE es).length := by
    have : ((renOf (upE es)).2.map (·.1)).length = ((upE es).map (·.1)).length := by
      rw [show renOf (upE es) = (upE es).foldl renStep ([], []) from rfl, renOf_keys]
      rfl
    rwa [List.length_map, List.length_map] at this
  rw [h2]
  unfold upE
  rw [List.length_map, (keysUpE_perm es).length_eq, List.length_map]
theorem plainE_keys (es : Ents) : (plainE es).map (·.1) = keysUpE es := by
  unfold plainE
  rw [show renOf (upE es) = (upE es).foldl renStep ([], []) from rfl, renOf_keys]
  unfold upE
  rw [List.map_map]
  show [] ++ (keysUpE es).map _ = _
  rw [List.nil_append]
  exact List.map_id' _
theorem ren_thing {s : List Int} {d : PyData} (h : thingD d) : thingD (renD s d) := by
  rcases h with rfl | ⟨n, z, rfl⟩
  · exact Or.inl (renD_oth (w := "drawer") (ds := []) (by decide +kernel)).1
  · exact Or.inr ⟨_, z, renD_file.1⟩
theorem fold_thing : ∀ (us : Ents) (st : List Int × Ents), (∀ e ∈ us, thingD e.2) → (∀ e ∈ st.2, thingD e.2) → ∀ e ∈ (us.foldl renStep st).2, thingD e.2
  | [], st, _, h => h
  | u :: us, st, hu, h => fold_thing us (renStep st u) (fun e he => hu e (List.mem_cons_of_mem _ he)) fun e he => by
    unfold renStep at he
    rcases List.mem_append.mp he with he | he
    · exact h e he
    · rw [List.mem_singleton.mp he]
      exact ren_thing (hu u (List.mem_cons_self ..))
theorem plainE_thing {es : Ents} (h : ∀ e ∈ es, thingD e.2) : ∀ e ∈ plainE es, thingD e.2 := by
  refine fold_thing (upE es) ([], []) (fun e he => ?_) (fun e he => nomatch he)
  obtain ⟨p, hp, rfl⟩ := List.mem_map.mp he
  have hk : p ∈ es.map (·.1) := (keysUpE_perm es).mem_iff.mp hp
  show thingD ((valE es p).getD .none)
  cases hv : valE es p with
  | none =>
    exfalso
    obtain ⟨x, hx, rfl⟩ := List.mem_map.mp hk
    unfold valE at hv
    rw [Option.map_eq_none_iff] at hv
    exact List.find?_eq_none.mp hv x hx (decide_eq_true rfl)
  | some d =>
    obtain ⟨x, hx, _, rfl⟩ := valE_mem hv
    exact h x hx
theorem plainE_key {es : Ents} {e : List Str × PyData} (h : e ∈ plainE es) : e.1 ∈ es.map (·.1) := by
  have : e.1 ∈ (plainE es).map (·.1) := List.mem_map.mpr ⟨e, h, rfl⟩
  rw [plainE_keys] at this
  exact (keysUpE_perm es).mem_iff.mp this
def Bi (C : Int → Int → Prop) : Prop := ∀ n m n' m', C n m → C n' m' → (n = n' ↔ m = m')
def relD (C : Int → Int → Prop) (d e : PyData) : Prop := (d = drD ∧ e = drD) ∨ ∃ n m z, d = .tuple [.str "file", .int n, .str z] ∧ e = .tuple [.str "file", .int m, .str z] ∧ C n m
theorem idx_bi {C : Int → Int → Prop} (bi : Bi C) {n m : Int} (h : C n m) : ∀ {s t : List Int}, Paired C s t → s.idxOf n = t.idxOf m ∧ (n ∈ s ↔ m ∈ t)
  | _, _, .nil => ⟨rfl, Iff.intro (fun h => nomatch h) (fun h => nomatch h)⟩
  | a :: s, b :: t, .cons hab r => by
    obtain ⟨h1, h2⟩ := idx_bi bi h r
    have e := bi a b n m hab h
    constructor
    · rw [List.idxOf_cons, List.idxOf_cons, h1]
      by_cases c : a = n
      · rw [show (a == n) = true from beq_iff_eq.mpr c, show (b == m) = true from beq_iff_eq.mpr (e.mp c)]
      · rw [show (a == n) = false from beq_eq_false_iff_ne.mpr c, show (b == m) = false from beq_eq_false_iff_ne.mpr fun z => c (e.mpr z)]
    · rw [List.mem_cons, List.mem_cons, h2]
      constructor
      · rintro (c | c)
        · exact Or.inl (e.mp c.symm).symm
        · exact Or.inr c
      · rintro (c | c)
        · exact Or.inl (e.mpr c.symm).symm
        · exact Or.inr c
theorem step_bi {C : Int → Int → Prop} (bi : Bi C) {st1 st2 : List Int × Ents} {e f : List Str × PyData} (hs : Paired C st1.1 st2.1) (h2 : st1.2 = st2.2) (hk : e.1 = f.1) (hd : relD C e.2 f.2) :
    Paired C (renStep st1 e).1 (renStep st2 f).1 ∧ (renStep st1 e).2 = (renStep st2 f).2 := by
  unfold renStep
  rcases hd with ⟨d1, d2⟩ | ⟨n, m, z, d1, d2, c⟩
  · have o1 := renD_oth (seen := st1.1) (w := "drawer") (ds := []) (by decide +kernel)
    have o2 := renD_oth (seen := st2.1) (w := "drawer") (ds := []) (by decide +kernel)
    rw [d1, d2, show drD = .tuple (.str "drawer" :: []) from rfl, o1.1, o1.2, o2.1, o2.2, hk, h2]
    exact ⟨hs, rfl⟩
  · obtain ⟨i1, i2⟩ := idx_bi bi c hs
    rw [d1, d2, renD_file.1, renD_file.1, renD_file.2, renD_file.2, i1, hk, h2]
    refine ⟨?_, rfl⟩
    by_cases hm : n ∈ st1.1
    · rw [if_pos hm, if_pos (i2.mp hm)]
      exact hs
    · rw [if_neg hm, if_neg fun z => hm (i2.mpr z)]
      exact Paired.snoc hs c
theorem fold_bi {C : Int → Int → Prop} (bi : Bi C) : ∀ {us vs : Ents}, Paired (fun e f => e.1 = f.1 ∧ relD C e.2 f.2) us vs → ∀ {st1 st2 : List Int × Ents}, Paired C st1.1 st2.1 → st1.2 = st2.2 → (us.foldl renStep st1).2 = (vs.foldl renStep st2).2
  | _, _, .nil => fun _ h => h
  | _ :: _, _ :: _, .cons a r => fun hs h2 => by
    obtain ⟨h3, h4⟩ := step_bi bi hs h2 a.1 a.2
    exact fold_bi bi r h3 h4
theorem upE_bi {C : Int → Int → Prop} {us vs : Ents} : ∀ {ks : List (List Str)}, (∀ p ∈ ks, relD C ((valE us p).getD .none) ((valE vs p).getD .none)) →
    Paired (fun e f : List Str × PyData => e.1 = f.1 ∧ relD C e.2 f.2) (ks.map fun p => (p, (valE us p).getD .none)) (ks.map fun p => (p, (valE vs p).getD .none))
  | [], _ => .nil
  | p :: ks, h => .cons ⟨rfl, h p (List.mem_cons_self ..)⟩ (upE_bi fun q hq => h q (List.mem_cons_of_mem _ hq))
theorem plainE_bi {C : Int → Int → Prop} (bi : Bi C) {us vs : Ents} (keys : keysUpE us = keysUpE vs) (h : ∀ p ∈ keysUpE us, relD C ((valE us p).getD .none) ((valE vs p).getD .none)) : plainE us = plainE vs := by
  unfold plainE renOf upE
  rw [← keys]
  exact fold_bi bi (upE_bi h) .nil rfl
theorem keysUpE_same {us vs : Ents} (nu : (us.map (·.1)).Nodup) (nv : (vs.map (·.1)).Nodup) (h : ∀ p, p ∈ us.map (·.1) ↔ p ∈ vs.map (·.1)) : keysUpE us = keysUpE vs :=
  rising_uniq (((keysUpE_perm us).trans ((List.perm_ext_iff_of_nodup nu nv).mpr h)).trans (keysUpE_perm vs).symm) (keysUpE_rising us) (keysUpE_rising vs)

theorem ren_pre {s more : List Int} {d : PyData} (h : thingD d) : renD (seenD s d ++ more) d = renD s d := by
  rcases h with rfl | ⟨n, z, rfl⟩
  · rw [show drD = .tuple (.str "drawer" :: []) from rfl, (renD_oth (w := "drawer") (ds := []) (by decide +kernel)).1, (renD_oth (w := "drawer") (ds := []) (by decide +kernel)).1]
  · rw [renD_file.1, renD_file.1, renD_file.2]
    by_cases hm : n ∈ s
    · rw [if_pos hm, List.idxOf_append, if_pos hm]
    · rw [if_neg hm, List.append_assoc, List.idxOf_append, if_neg hm, List.singleton_append, List.idxOf_cons_self, List.idxOf_eq_length hm, Nat.zero_add]
theorem fold_pre : ∀ (us : Ents) (st : List Int × Ents), ∃ more, (us.foldl renStep st).1 = st.1 ++ more
  | [], st => ⟨[], by rw [List.append_nil]; rfl⟩
  | u :: us, st => by
    obtain ⟨more, h⟩ := fold_pre us (renStep st u)
    have h1 : ∃ m1, (renStep st u).1 = st.1 ++ m1 := by
      show ∃ m1, seenD st.1 u.2 = st.1 ++ m1
      unfold seenD
      split
      · split
        · split
          · exact ⟨[], by rw [List.append_nil]⟩
          · exact ⟨_, rfl⟩
        · exact ⟨[], by rw [List.append_nil]⟩
      · exact ⟨[], by rw [List.append_nil]⟩
    obtain ⟨m1, h1⟩ := h1
    exact ⟨m1 ++ more, by rw [List.foldl_cons, h, h1, List.append_assoc]⟩
theorem fold_final : ∀ (us : Ents) (st : List Int × Ents), (∀ e ∈ us, thingD e.2) → (us.foldl renStep st).2 = st.2 ++ us.map fun e => (e.1, renD (us.foldl renStep st).1 e.2)
  | [], st, _ => by rw [List.map_nil, List.append_nil]; rfl
  | u :: us, st, h => by
    have ih := fold_final us (renStep st u) fun e he => h e (List.mem_cons_of_mem _ he)
    obtain ⟨more, hp⟩ := fold_pre us (renStep st u)
    rw [List.foldl_cons, ih, List.map_cons, hp]
    show (st.2 ++ [(u.1, renD st.1 u.2)]) ++ _ = _
    rw [show (renStep st u).1 = seenD st.1 u.2 from rfl, ren_pre (h u (List.mem_cons_self ..)), List.append_assoc]
    rfl
theorem valE_tab (f : List Str → PyData) (p : List Str) : ∀ (ks : List (List Str)), valE (ks.map fun q => (q, f q)) p = if p ∈ ks then some (f p) else none
  | [] => rfl
  | q :: ks => by
    have ih := valE_tab f p ks
    have hc : valE ((q :: ks).map fun q => (q, f q)) p = if q = p then some (f q) else valE (ks.map fun q => (q, f q)) p := by
      unfold valE
      rw [List.map_cons, List.find?_cons]
      by_cases h : q = p
      · rw [show decide ((q, f q).1 = p) = true from decide_eq_true h, if_pos h]; rfl
      · rw [show decide ((q, f q).1 = p) = false from decide_eq_false h, if_neg h]
    rw [hc, ih]
    by_cases h : q = p
    · rw [if_pos h, h, if_pos (List.mem_cons_self ..)]
    · rw [if_neg h]
      by_cases hm : p ∈ ks
      · rw [if_pos hm, if_pos (List.mem_cons_of_mem _ hm)]
      · rw [if_neg hm, if_neg fun z => (List.mem_cons.mp z).elim (fun e => h e.symm) hm]
structure FilE (ts : Ents) : Prop where
  one : OneE (ts.map (·.2))
  fit : ∀ e ∈ ts, ∀ n z, e.2 = fileD n z → 0 ≤ n ∧ textB z = true
theorem idxI_inj : ∀ {s : List Int} {n m : Int}, n ∈ s → m ∈ s → s.idxOf n = s.idxOf m → n = m
  | a :: s, n, m, h1, h2, e => by
    rw [List.idxOf_cons, List.idxOf_cons] at e
    by_cases c1 : a = n
    · by_cases c2 : a = m
      · exact c1.symm.trans c2
      · rw [show (a == n) = true from beq_iff_eq.mpr c1, show (a == m) = false from beq_eq_false_iff_ne.mpr c2] at e
        exact absurd e (Nat.succ_ne_zero _).symm
    · by_cases c2 : a = m
      · rw [show (a == n) = false from beq_eq_false_iff_ne.mpr c1, show (a == m) = true from beq_iff_eq.mpr c2] at e
        exact absurd e (Nat.succ_ne_zero _)
      · rw [show (a == n) = false from beq_eq_false_iff_ne.mpr c1, show (a == m) = false from beq_eq_false_iff_ne.mpr c2] at e
        refine idxI_inj ((List.mem_cons.mp h1).resolve_left fun z => c1 z.symm) ((List.mem_cons.mp h2).resolve_left fun z => c2 z.symm) ?_
        exact Nat.succ.inj e
theorem fold_in : ∀ (us : Ents) (st : List Int × Ents) (e : List Str × PyData), e ∈ us → ∀ n z, e.2 = fileD n z → n ∈ (us.foldl renStep st).1
  | u :: us, st, e, he, n, z, ez => by
    rw [List.foldl_cons]
    rcases List.mem_cons.mp he with h | h
    · obtain ⟨more, hp⟩ := fold_pre us (renStep st u)
      rw [hp]
      refine List.mem_append_left _ ?_
      show n ∈ seenD st.1 u.2
      rw [← h, ez]
      show n ∈ seenD st.1 (.tuple [.str "file", .int n, .str z])
      rw [renD_file.2]
      by_cases hm : n ∈ st.1
      · rw [if_pos hm]; exact hm
      · rw [if_neg hm]; exact List.mem_append_right _ (List.mem_singleton.mpr rfl)
    · exact fold_in us _ e h n z ez
theorem fold_len : ∀ (us : Ents) (st : List Int × Ents), (us.foldl renStep st).1.length ≤ st.1.length + us.length
  | [], st => Nat.le_refl _
  | u :: us, st => by
    rw [List.foldl_cons, List.length_cons]
    have h := fold_len us (renStep st u)
    have h1 : (renStep st u).1.length ≤ st.1.length + 1 := by
      show (seenD st.1 u.2).length ≤ _
      unfold seenD
      split
      · split
        · split
          · omega
          · rw [List.length_append]; exact Nat.le_refl _
        · omega
      · omega
    omega
theorem upE_len (es : Ents) : (upE es).length = es.length := by
  unfold upE
  rw [List.length_map, (keysUpE_perm es).length_eq, List.length_map]
theorem upE_val {es : Ents} {e : List Str × PyData} (h : e ∈ upE es) : ∃ x ∈ es, e = x := by
  obtain ⟨p, hp, rfl⟩ := List.mem_map.mp h
  have hk : p ∈ es.map (·.1) := (keysUpE_perm es).mem_iff.mp hp
  cases hv : valE es p with
  | none =>
    exfalso
    obtain ⟨x, hx, rfl⟩ := List.mem_map.mp hk
    unfold valE at hv
    rw [Option.map_eq_none_iff] at hv
    exact List.find?_eq_none.mp hv x hx (decide_eq_true rfl)
  | some d =>
    obtain ⟨x, hx, ex, rfl⟩ := valE_mem hv
    refine ⟨x, hx, ?_⟩
    rw [← ex]
    rfl
theorem plainE_fil {es : Ents} (th : ∀ e ∈ es, thingD e.2) (one : OneE (es.map (·.2))) (tx : ∀ e ∈ es, ∀ n z, e.2 = fileD n z → textB z = true) :
    FilE (plainE es) ∧ ∀ e ∈ plainE es, ∀ n z, e.2 = fileD n z → n < es.length := by
  have hth : ∀ e ∈ upE es, thingD e.2 := fun e he => by
    obtain ⟨x, hx, rfl⟩ := upE_val he
    exact th _ hx
  have hpl : plainE es = (upE es).map fun e => (e.1, renD (renOf (upE es)).1 e.2) := by
    have h1 := fold_final (upE es) ([], []) hth
    unfold plainE
    exact h1
  have mem : ∀ e ∈ plainE es, ∀ m z, e.2 = fileD m z → ∃ n, fileD n z ∈ es.map (·.2) ∧ n ∈ (renOf (upE es)).1 ∧ m = (((renOf (upE es)).1.idxOf n : Nat) : Int) := by
    intro e he m z ez
    rw [hpl] at he
    obtain ⟨u, hu, rfl⟩ := List.mem_map.mp he
    have ez : renD (renOf (upE es)).1 u.2 = fileD m z := ez
    rcases hth u hu with hd | ⟨n, y, hd⟩
    · rw [hd, show drD = .tuple (.str "drawer" :: []) from rfl, (renD_oth (w := "drawer") (ds := []) (by decide +kernel)).1] at ez
      cases ez
    · rw [hd, renD_file.1] at ez
      obtain ⟨e1, e2⟩ := fileD_inj ez
      obtain ⟨x, hx, ex⟩ := upE_val hu
      refine ⟨n, List.mem_map.mpr ⟨x, hx, ?_⟩, fold_in _ _ u hu n y hd, e1.symm⟩
      rw [← ex, hd, ← e2]
      rfl
  refine ⟨⟨fun m y z h1 h2 => ?_, fun e he m z ez => ?_⟩, fun e he m z ez => ?_⟩
  · obtain ⟨a, ha, ea⟩ := List.mem_map.mp h1
    obtain ⟨b, hb, eb⟩ := List.mem_map.mp h2
    obtain ⟨n, n1, n2, n3⟩ := mem a ha m y ea
    obtain ⟨k, k1, k2, k3⟩ := mem b hb m z eb
    have hnk : n = k := idxI_inj n2 k2 (by omega)
    subst hnk
    exact one n y z n1 k1
  · obtain ⟨n, n1, n2, n3⟩ := mem e he m z ez
    obtain ⟨x, hx, ex⟩ := List.mem_map.mp n1
    exact ⟨by omega, tx x hx n z ex⟩
  · obtain ⟨n, n1, n2, n3⟩ := mem e he m z ez
    have h1 := List.idxOf_lt_length_of_mem n2
    have h2 : (renOf (upE es)).1.length ≤ 0 + (upE es).length := fold_len (upE es) ([], [])
    rw [upE_len] at h2
    omega
theorem valE_isKey {es : Ents} (nd : (es.map (·.1)).Nodup) {p : List Str} : p ∈ es.map (·.1) ↔ (valE es p).isSome = true := by
  refine ⟨fun hm => ?_, valE_key⟩
  obtain ⟨x, hx, rfl⟩ := List.mem_map.mp hm
  rw [valE_nd nd hx]
  rfl
theorem sameE_of {es fs : Ents} (n1 : (es.map (·.1)).Nodup) (n2 : (fs.map (·.1)).Nodup) (h : ∀ p, valE es p = valE fs p) (sh : ∀ e ∈ es, SeqAt.shaped e.2 = true) : LD.sameE es fs = true := by
  have hp : (es.map (·.1)).Perm (fs.map (·.1)) := (List.perm_ext_iff_of_nodup n1 n2).mpr fun p => by rw [valE_isKey n1, valE_isKey n2, h]
  have hl := hp.length_eq
  rw [List.length_map, List.length_map] at hl
  unfold LD.sameE LD.eqvE
  rw [Bool.and_eq_true, List.all_eq_true]
  refine ⟨beq_iff_eq.mpr hl, fun e he => ?_⟩
  have := valE_nd n1 he
  rw [h] at this
  show (match valE fs e.1 with
    | some d => PyData.eqv e.2 d
    | none => false) = true
  rw [this]
  exact eqv_same _ (sh e he)

theorem plain_same {us vs : Ents} (nu : (us.map (·.1)).Nodup) (nv : (vs.map (·.1)).Nodup) (h : ∀ p, valE us p = valE vs p) (th : ∀ e ∈ us, thingD e.2) : plainE us = plainE vs := by
  have key : ∀ {es : Ents} {q : List Str}, (es.map (·.1)).Nodup → (q ∈ es.map (·.1) ↔ (valE es q).isSome = true) := fun {es q} n => by
    refine ⟨fun hm => ?_, valE_key⟩
    obtain ⟨x, hx, rfl⟩ := List.mem_map.mp hm
    rw [valE_nd n hx]
    rfl
  refine plainE_bi (C := fun n m => n = m) (fun n m n' m' a b => by rw [a, b]) (keysUpE_same nu nv fun p => by rw [key nu, key nv, h]) fun p hp => ?_
  rw [← h]
  have hk : p ∈ us.map (·.1) := (keysUpE_perm us).mem_iff.mp hp
  obtain ⟨x, hx, rfl⟩ := List.mem_map.mp hk
  rw [valE_nd nu hx]
  rcases th x hx with hd | ⟨n, z, hd⟩
  · exact Or.inl ⟨hd, hd⟩
  · exact Or.inr ⟨n, n, z, hd, hd, rfl⟩
/-! ### shown -/
def spWithRoom (K : PySem.W.Frag) : Sp := fun vs H Q _ => ∃ d es, vs = [.ref d] ∧ TrAt K H d es ∧ es.length ≤ 80 ∧ Q (.ref d) H
section
variable {P : Program} {w : World} {K : PySem.W.Frag} {mg : Str → Option Value} {base : Heap}
theorem scWithRoom : FnScope ["tree"] ["tree"] (defScope sWithRoom) := ⟨rfl, rfl, rfl, by decide +kernel, rfl, by decide +kernel, by decide +kernel⟩
theorem ok_withRoom {f C : Addr} {fd : FuncData} (F : Fun K "_with_room" "_with_room" sWithRoom f fd) (M : Mg mg) (R : MgR mg) (RF : Ref K mg "Full" C) : FnOk P w K mg base (L2.CX P w) 1 f fd ["tree"] (spWithRoom K) := by
  refine F.okX scWithRoom (fun vs H Q E h => ?_) (fun cdv A outer s H vs Q E hr h => ?_)
  · obtain ⟨d, es, rfl, _⟩ := h
    rfl
  · obtain ⟨d, es, rfl, ⟨kvs, hd, row⟩, h80, k⟩ := h
    obtain ⟨tm, hm⟩ := R.mostPaths
    refine ⟨_, pss_cons (ps_if (pt_cmpR op_gt (pe_callB call_lenR (by rfl) M.len PySem.boot_len (pa_cons (pv 0) pa_nil)) (pe_glob (v := .int 80) (by rfl) hm ⟨_, rfl⟩) (nomark _))
      (pss_one (ps_raise rfl (takes_of rfl rfl rfl rfl) (pmk_own PySem.F.excBase_ValueError RF.x RF.g RF.k (raises_own RF.b RF.t) rfl))) pss_nil)
      (pss_one (ps_ret (pv 0))), ?_⟩
    have hl := row.len
    refine ⟨_, rfl, d, kvs, rfl, hd, _, _, rfl, rfl, _, rfl, ?_⟩
    rw [decide_eq_false (show ¬ (80 : Int) < ((kvs.length : Nat) : Int) by omega)]
    exact iteF ⟨_, rfl, k⟩
end
/-! ### pictures: what stands where, and what is tied -/
def numD : PyData → Option Int
  | .tuple [.str w, .int n, .str _] => if w = "file" then some n else none
  | _ => none
def shpD : PyData → PyData
  | .tuple [.str w, .int n, .str z] => if w = "file" then .tuple [.str "file", .int 0, .str z] else .tuple [.str w, .int n, .str z]
  | d => d
theorem num_file (n : Int) (z : Str) : numD (fileD n z) = some n := by
  unfold fileD numD
  exact if_pos rfl
theorem shp_file (n : Int) (z : Str) : shpD (fileD n z) = fileD 0 z := by
  unfold fileD shpD
  exact if_pos rfl
theorem shp_oth {w : Str} {ds : List PyData} (h : w ≠ "file") : shpD (.tuple (.str w :: ds)) = .tuple (.str w :: ds) ∧ numD (.tuple (.str w :: ds)) = none := by
  unfold shpD numD
  constructor
  · split
    · rename_i h2
      injection h2 with h2
      injection h2 with h3 h4
      injection h3 with h3
      rw [if_neg (by rw [← h3]; exact h)]
      rw [h3, h4]
    · rfl
  · split
    · rename_i h2
      injection h2 with h2
      injection h2 with h3 h4
      injection h3 with h3
      rw [if_neg (by rw [← h3]; exact h)]
    · rfl
theorem shp_dr : shpD drD = drD := (shp_oth (w := "drawer") (ds := []) (by decide +kernel)).1
theorem shp_see : shpD seeD = seeD := (shp_oth (w := "drawer") (ds := [.bool false]) (by decide +kernel)).1
theorem shp_gone : shpD goneD = goneD := (shp_oth (w := "gone") (ds := []) (by decide +kernel)).1
/-- a thing by its shape: a file, or what has no number -/
theorem shp_back {d : PyData} (r : renOk d) : (∃ n z, d = fileD n z ∧ numD d = some n ∧ shpD d = fileD 0 z) ∨ ((∃ w ds, d = .tuple (.str w :: ds) ∧ w ≠ "file") ∧ numD d = none ∧ shpD d = d) := by
  rcases r with ⟨n, z, rfl⟩ | ⟨w, ds, rfl, h⟩
  · exact Or.inl ⟨n, z, rfl, num_file n z, shp_file n z⟩
  · exact Or.inr ⟨⟨w, ds, rfl, h⟩, (shp_oth h).2, (shp_oth h).1⟩
theorem shp_eq {d e : PyData} (rd : renOk d) (he : ∃ w ds, e = .tuple (.str w :: ds) ∧ w ≠ "file") : shpD d = e ↔ d = e := by
  obtain ⟨w, ds, rfl, h⟩ := he
  rcases shp_back rd with ⟨n, z, rfl, _, e2⟩ | ⟨_, _, e2⟩
  · rw [e2]
    constructor
    · intro q
      unfold fileD at q
      injection q with q
      injection q with q1 q2
      injection q1 with q1
      exact absurd q1.symm h
    · intro q
      unfold fileD at q
      injection q with q
      injection q with q1 q2
      injection q1 with q1
      exact absurd q1.symm h
  · rw [e2]
theorem thing_ren {d : PyData} (h : thingD d) : renOk d := by
  rcases h with rfl | ⟨n, z, rfl⟩
  · exact Or.inr ⟨"drawer", [], rfl, by decide +kernel⟩
  · exact Or.inl ⟨n, z, rfl⟩
theorem entry_ren {d : PyData} (h : entryB d = true) : renOk d := by
  rcases entry_form h with ⟨b, rfl⟩ | rfl | ⟨n, z, rfl, _, _⟩
  · exact Or.inr ⟨"drawer", _, rfl, by decide +kernel⟩
  · exact Or.inr ⟨"gone", _, rfl, by decide +kernel⟩
  · exact Or.inl ⟨n, z, rfl⟩
/-! numbering, of layers too -/
def relG (C : Int → Int → Prop) (d e : PyData) : Prop := (d = e ∧ ∃ w ds, d = .tuple (.str w :: ds) ∧ w ≠ "file") ∨ ∃ n m z, d = .tuple [.str "file", .int n, .str z] ∧ e = .tuple [.str "file", .int m, .str z] ∧ C n m
theorem step_biG {C : Int → Int → Prop} (bi : Bi C) {st1 st2 : List Int × Ents} {e f : List Str × PyData} (hs : Paired C st1.1 st2.1) (h2 : st1.2 = st2.2) (hk : e.1 = f.1) (hd : relG C e.2 f.2) :
    Paired C (renStep st1 e).1 (renStep st2 f).1 ∧ (renStep st1 e).2 = (renStep st2 f).2 := by
  unfold renStep
  rcases hd with ⟨d1, w, ds, d2, hw⟩ | ⟨n, m, z, d1, d2, c⟩
  · have o1 := renD_oth (seen := st1.1) (w := w) (ds := ds) hw
    have o2 := renD_oth (seen := st2.1) (w := w) (ds := ds) hw
    rw [← d1, d2, o1.1, o1.2, o2.1, o2.2, hk, h2]
    exact ⟨hs, rfl⟩
  · obtain ⟨i1, i2⟩ := idx_bi bi c hs
    rw [d1, d2, renD_file.1, renD_file.1, renD_file.2, renD_file.2, i1, hk, h2]
    refine ⟨?_, rfl⟩
    by_cases hm : n ∈ st1.1
    · rw [if_pos hm, if_pos (i2.mp hm)]
      exact hs
    · rw [if_neg hm, if_neg fun z => hm (i2.mpr z)]
      exact Paired.snoc hs c
theorem fold_biG {C : Int → Int → Prop} (bi : Bi C) : ∀ {us vs : Ents}, Paired (fun e f => e.1 = f.1 ∧ relG C e.2 f.2) us vs → ∀ {st1 st2 : List Int × Ents}, Paired C st1.1 st2.1 → st1.2 = st2.2 → (us.foldl renStep st1).2 = (vs.foldl renStep st2).2
  | _, _, .nil => fun _ h => h
  | _ :: _, _ :: _, .cons a r => fun hs h2 => by
    obtain ⟨h3, h4⟩ := step_biG bi hs h2 a.1 a.2
    exact fold_biG bi r h3 h4
theorem upE_biG {C : Int → Int → Prop} {us vs : Ents} : ∀ {ks : List (List Str)}, (∀ p ∈ ks, relG C ((valE us p).getD .none) ((valE vs p).getD .none)) →
    Paired (fun e f : List Str × PyData => e.1 = f.1 ∧ relG C e.2 f.2) (ks.map fun p => (p, (valE us p).getD .none)) (ks.map fun p => (p, (valE vs p).getD .none))
  | [], _ => .nil
  | p :: ks, h => .cons ⟨rfl, h p (List.mem_cons_self ..)⟩ (upE_biG fun q hq => h q (List.mem_cons_of_mem _ hq))
theorem plainE_biG {C : Int → Int → Prop} (bi : Bi C) {us vs : Ents} (keys : keysUpE us = keysUpE vs) (h : ∀ p ∈ keysUpE us, relG C ((valE us p).getD .none) ((valE vs p).getD .none)) : plainE us = plainE vs := by
  unfold plainE renOf upE
  rw [← keys]
  exact fold_biG bi (upE_biG h) .nil rfl
theorem ren_preG {s more : List Int} {d : PyData} (h : renOk d) : renD (seenD s d ++ more) d = renD s d := by
  rcases h with ⟨n, z, rfl⟩ | ⟨w, ds, rfl, hw⟩
  · exact ren_pre (Or.inr ⟨n, z, rfl⟩)
  · rw [(renD_oth hw).1, (renD_oth hw).1]
theorem fold_finalG : ∀ (us : Ents) (st : List Int × Ents), (∀ e ∈ us, renOk e.2) → (us.foldl renStep st).2 = st.2 ++ us.map fun e => (e.1, renD (us.foldl renStep st).1 e.2)
  | [], st, _ => by rw [List.map_nil, List.append_nil]; rfl
  | u :: us, st, h => by
    have ih := fold_finalG us (renStep st u) fun e he => h e (List.mem_cons_of_mem _ he)
    obtain ⟨more, hp⟩ := fold_pre us (renStep st u)
    rw [List.foldl_cons, ih, List.map_cons, hp]
    show (st.2 ++ [(u.1, renD st.1 u.2)]) ++ _ = _
    rw [show (renStep st u).1 = seenD st.1 u.2 from rfl, ren_preG (h u (List.mem_cons_self ..)), List.append_assoc]
    rfl
theorem plain_eqG {es : Ents} (th : ∀ e ∈ es, renOk e.2) : plainE es = (upE es).map fun e => (e.1, renD (renOf (upE es)).1 e.2) := by
  have hth : ∀ e ∈ upE es, renOk e.2 := fun e he => by
    obtain ⟨x, hx, rfl⟩ := upE_val he
    exact th _ hx
  have h1 := fold_finalG (upE es) ([], []) hth
  unfold plainE
  exact h1
theorem valE_plainG {es : Ents} (th : ∀ e ∈ es, renOk e.2) (nd : (es.map (·.1)).Nodup) (p : List Str) : valE (plainE es) p = (valE es p).map (renD (renOf (upE es)).1) := by
  rw [plain_eqG th]
  have e1 : ((upE es).map fun e => (e.1, renD (renOf (upE es)).1 e.2)) = (keysUpE es).map fun q => (q, renD (renOf (upE es)).1 ((valE es q).getD .none)) := by
    show ((keysUpE es).map _).map _ = _
    rw [List.map_map]
    rfl
  rw [e1, valE_tab]
  by_cases h : p ∈ keysUpE es
  · rw [if_pos h]
    have hk := (keysUpE_perm es).mem_iff.mp h
    obtain ⟨x, hx, rfl⟩ := List.mem_map.mp hk
    rw [valE_nd nd hx]
    rfl
  · rw [if_neg h]
    cases hv : valE es p with
    | none => rfl
    | some d =>
      obtain ⟨x, hx, ex, _⟩ := valE_mem hv
      exact absurd ((keysUpE_perm es).mem_iff.mpr (List.mem_map.mpr ⟨x, hx, ex⟩)) h
theorem plain_ndG (es : Ents) (nd : (es.map (·.1)).Nodup) : ((plainE es).map (·.1)).Nodup := by
  rw [plainE_keys]
  exact (keysUpE_perm es).nodup_iff.mpr nd
def numE (es : Ents) (p : List Str) : Option Int := (valE es p).bind numD
structure Pic where
  s : List Str → Option PyData
  t : List Str → List Str → Prop
theorem Pic.ext' {a b : Pic} (hs : ∀ p, a.s p = b.s p) (ht : ∀ p q, a.t p q ↔ b.t p q) : a = b := by
  cases a
  cases b
  have h1 := funext hs
  have h2 := funext fun p => funext fun q => propext (ht p q)
  cases h1
  cases h2
  rfl
def picE (es : Ents) : Pic := ⟨fun p => (valE es p).map shpD, fun p q => ∃ n, numE es p = some n ∧ numE es q = some n⟩
theorem plainE_pic {us vs : Ents} (nu : (us.map (·.1)).Nodup) (nv : (vs.map (·.1)).Nodup) (ru : ∀ e ∈ us, renOk e.2) (rv : ∀ e ∈ vs, renOk e.2) (h : picE us = picE vs) : plainE us = plainE vs := by
  have hs : ∀ p, (valE us p).map shpD = (valE vs p).map shpD := fun p => congrFun (congrArg Pic.s h) p
  have ht : ∀ p q, (∃ n, numE us p = some n ∧ numE us q = some n) ↔ (∃ n, numE vs p = some n ∧ numE vs q = some n) := fun p q => iff_of_eq (congrFun (congrFun (congrArg Pic.t h) p) q)
  refine plainE_biG (C := fun n m => ∃ p, numE us p = some n ∧ numE vs p = some m) ?_ (keysUpE_same nu nv fun p => ?_) fun p hp => ?_
  · rintro n m n' m' ⟨p, h1, h2⟩ ⟨q, h3, h4⟩
    constructor
    · rintro rfl
      obtain ⟨k, k1, k2⟩ := (ht p q).mp ⟨n, h1, h3⟩
      rw [h2] at k1
      rw [h4] at k2
      exact (Option.some.inj k1).trans (Option.some.inj k2).symm
    · rintro rfl
      obtain ⟨k, k1, k2⟩ := (ht p q).mpr ⟨m, h2, h4⟩
      rw [h1] at k1
      rw [h3] at k2
      exact (Option.some.inj k1).trans (Option.some.inj k2).symm
  · rw [valE_isKey nu, valE_isKey nv]
    have := congrArg Option.isSome (hs p)
    rw [Option.isSome_map, Option.isSome_map] at this
    rw [this]
  · have hk : p ∈ us.map (·.1) := (keysUpE_perm us).mem_iff.mp hp
    obtain ⟨x, hx, rfl⟩ := List.mem_map.mp hk
    have e1 := valE_nd nu hx
    have e3 := hs x.1
    rw [e1] at e3
    cases hv : valE vs x.1 with
    | none => rw [hv] at e3; cases e3
    | some d =>
      rw [hv] at e3
      have e3 : shpD x.2 = shpD d := Option.some.inj e3
      obtain ⟨y, hy, _, ey⟩ := valE_mem hv
      have rd : renOk d := by rw [← ey]; exact rv y hy
      rw [e1]
      show relG _ x.2 d
      rcases shp_back (ru x hx) with ⟨n, z, f1, f2, f3⟩ | ⟨⟨w, ds, f1, hw⟩, f2, f3⟩
      · rcases shp_back rd with ⟨m, y, g1, g2, g3⟩ | ⟨⟨w, ds, g1, hw⟩, g2, g3⟩
        · rw [f3, g3] at e3
          have ez := (fileD_inj e3).2
          subst ez
          refine Or.inr ⟨n, m, z, f1, g1, x.1, ?_, ?_⟩
          · unfold numE; rw [e1]; exact f2
          · unfold numE; rw [hv]; exact g2
        · exfalso
          rw [f3, g3, g1] at e3
          unfold fileD at e3
          injection e3 with q
          injection q with q1 q2
          injection q1 with q1
          exact hw q1.symm
      · have : shpD d = x.2 := by rw [← e3, f3]
        have := (shp_eq rd ⟨w, ds, f1, hw⟩).mp this
        exact Or.inl ⟨this.symm, w, ds, f1, hw⟩
theorem ren_shp {s : List Int} {d : PyData} (r : renOk d) : shpD (renD s d) = shpD d ∧ numD (renD s d) = (numD d).map (fun n => ((s.idxOf n : Nat) : Int)) ∧ renOk (renD s d) := by
  rcases r with ⟨n, z, rfl⟩ | ⟨w, ds, rfl, hw⟩
  · rw [renD_file.1]
    refine ⟨?_, ?_, Or.inl ⟨_, z, rfl⟩⟩
    · exact (shp_file _ z).trans (shp_file n z).symm
    · exact (num_file _ z).trans (congrArg (Option.map fun n => ((s.idxOf n : Nat) : Int)) (num_file n z).symm)
  · rw [(renD_oth hw).1]
    exact ⟨rfl, by rw [(shp_oth hw).2]; rfl, Or.inr ⟨w, ds, rfl, hw⟩⟩
theorem plain_ren {es : Ents} (th : ∀ e ∈ es, renOk e.2) : ∀ e ∈ plainE es, renOk e.2 := by
  rw [plain_eqG th]
  intro e he
  obtain ⟨u, hu, rfl⟩ := List.mem_map.mp he
  obtain ⟨x, hx, rfl⟩ := upE_val hu
  exact (ren_shp (th _ hx)).2.2
/-- a number of a thing that stands there is known to the numbering -/
theorem num_in {es : Ents} (nd : (es.map (·.1)).Nodup) (th : ∀ e ∈ es, renOk e.2) {p : List Str} {n : Int} (h : numE es p = some n) : n ∈ (renOf (upE es)).1 := by
  unfold numE at h
  cases hv : valE es p with
  | none => rw [hv] at h; cases h
  | some d =>
    rw [hv] at h
    have h : numD d = some n := h
    obtain ⟨x, hx, ex, ed⟩ := valE_mem hv
    have hk : p ∈ keysUpE es := (keysUpE_perm es).mem_iff.mpr (List.mem_map.mpr ⟨x, hx, ex⟩)
    have hu : (p, d) ∈ upE es := List.mem_map.mpr ⟨p, hk, by rw [hv]; rfl⟩
    rcases shp_back (d := d) (by rw [← ed]; exact th x hx) with ⟨m, z, f1, f2, _⟩ | ⟨_, f2, _⟩
    · rw [f2] at h
      cases h
      exact fold_in _ _ (p, d) hu _ z f1
    · rw [f2] at h
      cases h
theorem pic_plain {es : Ents} (nd : (es.map (·.1)).Nodup) (th : ∀ e ∈ es, renOk e.2) : picE (plainE es) = picE es := by
  have hv := valE_plainG th nd
  have rn : ∀ p d, valE es p = some d → renOk d := fun p d h => by
    obtain ⟨x, hx, _, ex⟩ := valE_mem h
    rw [← ex]
    exact th x hx
  have hn : ∀ p, numE (plainE es) p = (numE es p).map fun n => (((renOf (upE es)).1.idxOf n : Nat) : Int) := fun p => by
    unfold numE
    rw [hv p]
    cases e : valE es p with
    | none => rfl
    | some d => exact (ren_shp (rn p d e)).2.1
  refine Pic.ext' (fun p => ?_) fun p q => ?_
  · show (valE (plainE es) p).map shpD = (valE es p).map shpD
    rw [hv p]
    cases e : valE es p with
    | none => rfl
    | some d =>
      show some (shpD (renD _ d)) = some (shpD d)
      rw [(ren_shp (rn p d e)).1]
  · show (∃ n, _ ∧ _) ↔ (∃ n, _ ∧ _)
    rw [hn p, hn q]
    constructor
    · rintro ⟨n, h1, h2⟩
      obtain ⟨a, ha, ea⟩ := Option.map_eq_some_iff.mp h1
      obtain ⟨b, hb, eb⟩ := Option.map_eq_some_iff.mp h2
      have : a = b := idxI_inj (num_in nd th ha) (num_in nd th hb) (by omega)
      subst this
      exact ⟨a, ha, hb⟩
    · rintro ⟨n, h1, h2⟩
      exact ⟨_, by rw [h1]; rfl, by rw [h2]; rfl⟩
theorem num_pos {es : Ents} (th : ∀ e ∈ es, renOk e.2) (nd : (es.map (·.1)).Nodup) {p : List Str} {n : Int} (h : numE (plainE es) p = some n) : 0 ≤ n ∧ n < es.length := by
  unfold numE at h
  rw [valE_plainG th nd p] at h
  cases hv : valE es p with
  | none => rw [hv] at h; cases h
  | some d =>
    rw [hv] at h
    have h : numD (renD _ d) = some n := h
    obtain ⟨x, hx, _, ex⟩ := valE_mem hv
    rw [(ren_shp (by rw [← ex]; exact th x hx)).2.1] at h
    obtain ⟨a, ha, ea⟩ := Option.map_eq_some_iff.mp h
    have hi := num_in nd th (p := p) (n := a) (by unfold numE; rw [hv]; exact ha)
    have h1 := List.idxOf_lt_length_of_mem hi
    have h2 : (renOf (upE es)).1.length ≤ 0 + (upE es).length := fold_len (upE es) ([], [])
    rw [upE_len] at h2
    omega
/-! ### a layer laid over a tree, as pictures -/
def passQ (s : List Str → Option PyData) (p : List Str) : Prop := s p = none ∧ ∀ q ∈ begs p, ∀ d, s q = some d → d = seeD
theorem long_aboveG {es : Ents} {p : List Str} : ∀ (d m : Nat), p.length - m = d → m ≤ p.length → (valE es (p.take m)).isSome = true → ∃ k, m ≤ k ∧ k ≤ p.length ∧ longOf es p = p.take k
  | d, m, hd, hm, h => by
    by_cases hj : ∃ j, m < j ∧ j ≤ p.length ∧ (valE es (p.take j)).isSome = true
    · obtain ⟨j, h1, h2, h3⟩ := hj
      obtain ⟨k, k1, k2, k3⟩ := long_aboveG (p.length - j) j rfl h2 h3
      exact ⟨k, by omega, k2, k3⟩
    · refine ⟨m, Nat.le_refl _, hm, longOf_take hm h fun j h1 h2 => ?_⟩
      cases hv : valE es (p.take j) with
      | none => rfl
      | some x => exact absurd ⟨j, h1, h2, by rw [hv]; rfl⟩ hj
  termination_by d => d
  decreasing_by omega
theorem entry_see {d : PyData} (h : entryB d = true) : PyData.eqv d seeD = true ↔ d = seeD := by
  rcases entry_form h with ⟨b, rfl⟩ | rfl | ⟨n, z, rfl, _, _⟩
  · cases b
    · exact ⟨fun _ => rfl, fun _ => by decide +kernel⟩
    · exact ⟨fun q => absurd q (by decide +kernel), fun q => by cases q⟩
  · exact ⟨fun q => absurd q (by decide +kernel), fun q => by cases q⟩
  · refine ⟨fun q => ?_, fun q => by cases q⟩
    simp [seeD, PyData.eqv, PyData.eqvAll] at q
theorem entry_gone {d : PyData} (h : entryB d = true) : PyData.eqv d goneD = true ↔ d = goneD := by
  rcases entry_form h with ⟨b, rfl⟩ | rfl | ⟨n, z, rfl, _, _⟩
  · cases b
    · exact ⟨fun q => absurd q (by decide +kernel), fun q => by cases q⟩
    · exact ⟨fun q => absurd q (by decide +kernel), fun q => by cases q⟩
  · exact ⟨fun _ => rfl, fun _ => by decide +kernel⟩
  · refine ⟨fun q => ?_, fun q => by cases q⟩
    simp [goneD, PyData.eqv, PyData.eqvAll] at q
theorem begs_mem {p q : List Str} : q ∈ begs p ↔ ∃ i, i ≤ p.length ∧ q = p.take i := by
  unfold begs
  rw [List.mem_map]
  constructor
  · rintro ⟨i, hi, rfl⟩
    exact ⟨i, Nat.le_of_lt_succ (List.mem_range.mp hi), rfl⟩
  · rintro ⟨i, hi, rfl⟩
    exact ⟨i, List.mem_range.mpr (Nat.lt_succ_of_le hi), rfl⟩
theorem begs_trans {p q r : List Str} (h1 : q ∈ begs p) (h2 : r ∈ begs q) : r ∈ begs p := by
  obtain ⟨i, hi, rfl⟩ := begs_mem.mp h1
  obtain ⟨j, hj, rfl⟩ := begs_mem.mp h2
  rw [List.length_take] at hj
  rw [List.take_take]
  exact begs_mem.mpr ⟨min j i, by omega, rfl⟩
theorem seeAt_iff {es : Ents} (eL : ∀ e ∈ es, entryB e.2 = true) (q : List Str) : seeAt es q = true ↔ valE es q = some seeD := by
  unfold seeAt
  cases hv : valE es q with
  | none => exact ⟨(fun h => nomatch h), (fun h => nomatch h)⟩
  | some d =>
    obtain ⟨x, hx, _, ex⟩ := valE_mem hv
    have := entry_see (d := d) (by rw [← ex]; exact eL x hx)
    exact this.trans ⟨fun h => by rw [h], fun h => Option.some.inj h⟩
theorem pic_see {es : Ents} (eL : ∀ e ∈ es, entryB e.2 = true) (q : List Str) : (picE es).s q = some seeD ↔ valE es q = some seeD := by
  show (valE es q).map shpD = _ ↔ _
  cases hv : valE es q with
  | none => exact ⟨(fun h => nomatch h), (fun h => nomatch h)⟩
  | some d =>
    obtain ⟨x, hx, _, ex⟩ := valE_mem hv
    have := shp_eq (d := d) (e := seeD) (entry_ren (by rw [← ex]; exact eL x hx)) ⟨"drawer", [.bool false], rfl, by decide +kernel⟩
    exact ⟨fun h => by rw [this.mp (Option.some.inj h)], fun h => by rw [Option.some.inj h]; exact congrArg some shp_see⟩
theorem pass_iff {es : Ents} (lay : layerB es = true) (p : List Str) : passE es p = true ↔ passQ (picE es).s p := by
  obtain ⟨_, _, eL, rL, _⟩ := layerB_parts lay
  have root := layer_root lay
  unfold passE passQ
  rw [Bool.and_eq_true, Option.isNone_iff_eq_none, List.all_eq_true]
  have h0 : (picE es).s p = none ↔ valE es p = none := by
    show (valE es p).map shpD = none ↔ _
    exact Option.map_eq_none_iff
  rw [h0]
  refine and_congr_right fun hn => ?_
  constructor
  · intro h q hq d hd
    have hsome : (valE es q).isSome = true := by
      have : ((valE es q).map shpD).isSome = true := by
        have hd : (valE es q).map shpD = some d := hd
        rw [hd]; rfl
      rwa [Option.isSome_map] at this
    obtain ⟨m, hm, rfl⟩ := begs_mem.mp hq
    obtain ⟨k, k1, k2, k3⟩ := long_aboveG (es := es) (p := p) _ m rfl hm hsome
    have hb : p.take m ∈ begs (longOf es p) := by
      rw [k3]
      refine begs_mem.mpr ⟨m, by rw [List.length_take]; omega, ?_⟩
      rw [List.take_take, Nat.min_eq_left k1]
    have h2 := (pic_see eL _).mpr ((seeAt_iff eL _).mp (h _ hb))
    rw [hd] at h2
    exact Option.some.inj h2
  · intro h q hq
    obtain ⟨D, hD⟩ := longOf_val (p := p) root
    obtain ⟨D1, hD1⟩ := roofH_begs rL hD q hq
    have hs : (picE es).s q = some (shpD D1) := by
      show (valE es q).map shpD = _
      rw [hD1]; rfl
    have e2 := h q (begs_trans (longOf_beg root) hq) _ hs
    rw [e2] at hs
    exact (seeAt_iff eL q).mpr ((pic_see eL q).mp hs)
open Classical in
noncomputable def picOver (L T : Pic) : Pic := ⟨fun p => match L.s p with
  | some d => if d = goneD then none else some (asSeenD d)
  | none => if passQ L.s p then T.s p else none, fun p q => L.t p q ∨ (passQ L.s p ∧ passQ L.s q ∧ T.t p q)⟩
theorem seen_shp {d : PyData} (h : entryB d = true) : shpD (asSeenD d) = asSeenD (shpD d) ∧ numD (asSeenD d) = numD d ∧ (shpD d = goneD ↔ d = goneD) := by
  rcases entry_form h with ⟨b, rfl⟩ | rfl | ⟨n, z, rfl, _, _⟩
  · have o := shp_oth (w := "drawer") (ds := [.bool b]) (by decide +kernel)
    rw [o.1, o.2]
    exact ⟨shp_dr, rfl, Iff.rfl⟩
  · rw [show PyData.tuple [.str "gone"] = goneD from rfl, shp_gone]
    exact ⟨shp_gone, rfl, Iff.rfl⟩
  · have e1 : asSeenD (.tuple [.str "file", .int n, .str z]) = fileD n z := rfl
    rw [e1, show PyData.tuple [.str "file", .int n, .str z] = fileD n z from rfl, shp_file]
    refine ⟨rfl, rfl, ?_⟩
    unfold fileD goneD
    exact ⟨(fun q => by cases q), (fun q => by cases q)⟩
theorem apart_shp {d : PyData} (h : renOk d) (hd : thingD d ∨ entryB d = true) : shpD (apartD d) = shpD d ∧ numD (apartD d) = (numD d).map (fun n => -1 - n) := by
  rcases hd with (rfl | ⟨n, z, rfl⟩) | hd
  · exact ⟨rfl, rfl⟩
  · exact ⟨(shp_file _ z).trans (shp_file n z).symm, (num_file _ z).trans (congrArg (Option.map fun n => -1 - n) (num_file n z).symm)⟩
  · rcases entry_form hd with ⟨b, rfl⟩ | rfl | ⟨n, z, rfl, _, _⟩
    · exact ⟨rfl, rfl⟩
    · exact ⟨rfl, rfl⟩
    · exact ⟨(shp_file _ z).trans (shp_file n z).symm, (num_file _ z).trans (congrArg (Option.map fun n => -1 - n) (num_file n z).symm)⟩
theorem entry_pos {es : Ents} (eL : ∀ e ∈ es, entryB e.2 = true) {p : List Str} {n : Int} (h : numE es p = some n) : 0 ≤ n := by
  unfold numE at h
  cases hv : valE es p with
  | none => rw [hv] at h; cases h
  | some d =>
    rw [hv] at h
    have h : numD d = some n := h
    obtain ⟨x, hx, _, ex⟩ := valE_mem hv
    rcases entry_form (d := d) (by rw [← ex]; exact eL x hx) with ⟨b, rfl⟩ | rfl | ⟨m, z, rfl, hm, _⟩
    · cases h
    · cases h
    · rw [show PyData.tuple [.str "file", .int m, .str z] = fileD m z from rfl, num_file] at h
      cases h
      unfold numB at hm
      simp at hm
      omega
theorem pic_over {es ts : Ents} (lay : layerB es = true) (nd : (es.map (·.1)).Nodup) (thT : ∀ e ∈ ts, thingD e.2) (pos : ∀ p n, numE ts p = some n → 0 ≤ n) : picE (overE es ts) = picOver (picE es) (picE ts) := by
  classical
  obtain ⟨_, _, eL, rL, _⟩ := layerB_parts lay
  have hE : ∀ p d, valE es p = some d → entryB d = true := fun p d h => by
    obtain ⟨x, hx, _, ex⟩ := valE_mem h
    rw [← ex]
    exact eL x hx
  have hT : ∀ p d, valE ts p = some d → thingD d := fun p d h => by
    obtain ⟨x, hx, _, ex⟩ := valE_mem h
    rw [← ex]
    exact thT x hx
  have pa : ∀ p, valE es p = none → ((begs (longOf es p)).all (seeAt es) = true ↔ passQ (picE es).s p) := fun p hn => by
    rw [← pass_iff lay p]
    unfold passE
    rw [hn]
    show _ ↔ (true && _) = true
    rw [Bool.true_and]
  have hn : ∀ p, numE (overE es ts) p = match valE es p with
      | some d => numD d
      | none => if passQ (picE es).s p then (numE ts p).map (fun n => -1 - n) else none := fun p => by
    unfold numE
    rw [valE_over nd]
    cases hv : valE es p with
    | some d =>
      show ((if PyData.eqv d goneD = true then none else some (asSeenD d)) : Option PyData).bind numD = numD d
      by_cases hg : d = goneD
      · subst hg
        rw [if_pos (by decide +kernel)]
        rfl
      · rw [if_neg fun q => hg ((entry_gone (hE p d hv)).mp q)]
        exact (seen_shp (hE p d hv)).2.1
    | none =>
      show ((if (begs (longOf es p)).all (seeAt es) = true then (valE ts p).map apartD else none) : Option PyData).bind numD = _
      by_cases hp : passQ (picE es).s p
      · rw [if_pos ((pa p hv).mpr hp), if_pos hp]
        cases ht : valE ts p with
        | none => rfl
        | some d => exact (apart_shp (thing_ren (hT p d ht)) (Or.inl (hT p d ht))).2
      · rw [if_neg fun q => hp ((pa p hv).mp q), if_neg hp]
        rfl
  refine Pic.ext' (fun p => ?_) fun p q => ?_
  · show (valE (overE es ts) p).map shpD = match (valE es p).map shpD with
      | some d => if d = goneD then none else some (asSeenD d)
      | none => if passQ (picE es).s p then (valE ts p).map shpD else none
    rw [valE_over nd]
    cases hv : valE es p with
    | some d =>
      show ((if PyData.eqv d goneD = true then none else some (asSeenD d)) : Option PyData).map shpD = if shpD d = goneD then none else some (asSeenD (shpD d))
      obtain ⟨s1, s2, s3⟩ := seen_shp (hE p d hv)
      by_cases hg : d = goneD
      · rw [if_pos (s3.mpr hg), if_pos ((entry_gone (hE p d hv)).mpr hg)]
        rfl
      · rw [if_neg fun q => hg (s3.mp q), if_neg fun q => hg ((entry_gone (hE p d hv)).mp q)]
        show some (shpD (asSeenD d)) = _
        rw [s1]
    | none =>
      show ((if (begs (longOf es p)).all (seeAt es) = true then (valE ts p).map apartD else none) : Option PyData).map shpD = if passQ (picE es).s p then (valE ts p).map shpD else none
      by_cases hp : passQ (picE es).s p
      · rw [if_pos ((pa p hv).mpr hp), if_pos hp]
        cases ht : valE ts p with
        | none => rfl
        | some d =>
          show some (shpD (apartD d)) = some (shpD d)
          rw [(apart_shp (thing_ren (hT p d ht)) (Or.inl (hT p d ht))).1]
      · rw [if_neg fun q => hp ((pa p hv).mp q), if_neg hp]
        rfl
  · show (∃ n, _ ∧ _) ↔ (∃ n, _ ∧ _) ∨ (passQ (picE es).s p ∧ passQ (picE es).s q ∧ ∃ n, _ ∧ _)
    rw [hn p, hn q]
    have hes : ∀ r d, valE es r = some d → numE es r = numD d ∧ ¬ passQ (picE es).s r := fun r d h => by
      refine ⟨by unfold numE; rw [h]; rfl, fun z => ?_⟩
      have := z.1
      have this : (valE es r).map shpD = none := this
      rw [h] at this
      cases this
    have hno : ∀ r, valE es r = none → numE es r = none := fun r h => by unfold numE; rw [h]; rfl
    have pE : ∀ r d n, valE es r = some d → numD d = some n → 0 ≤ n := fun r d n h1 h2 => entry_pos eL (p := r) (by rw [(hes r d h1).1]; exact h2)
    cases hp : valE es p with
    | some d =>
      obtain ⟨f1, f2⟩ := hes p d hp
      cases hq : valE es q with
      | some e =>
        obtain ⟨g1, g2⟩ := hes q e hq
        rw [f1, g1]
        exact ⟨fun h => Or.inl h, fun h => h.elim id fun z => absurd z.1 f2⟩
      | none =>
        rw [f1, hno q hq]
        refine ⟨?_, fun h => h.elim (fun ⟨n, _, z⟩ => (nomatch z)) fun z => absurd z.1 f2⟩
        rintro ⟨n, h1, h2⟩
        have h0 := pE p d n hp h1
        by_cases pq : passQ (picE es).s q
        · have h2 : (if passQ (picE es).s q then (numE ts q).map (fun n => -1 - n) else none) = some n := h2
          rw [if_pos pq] at h2
          obtain ⟨m, hm, em⟩ := Option.map_eq_some_iff.mp h2
          have := pos q m hm
          omega
        · have h2 : (if passQ (picE es).s q then (numE ts q).map (fun n => -1 - n) else none) = some n := h2
          rw [if_neg pq] at h2
          cases h2
    | none =>
      rw [hno p hp]
      cases hq : valE es q with
      | some e =>
        obtain ⟨g1, g2⟩ := hes q e hq
        refine ⟨?_, fun h => h.elim (fun ⟨n, z, _⟩ => (nomatch z)) fun z => absurd z.2.1 g2⟩
        rintro ⟨n, h1, h2⟩
        have h0 := pE q e n hq h2
        by_cases pq : passQ (picE es).s p
        · have h1 : (if passQ (picE es).s p then (numE ts p).map (fun n => -1 - n) else none) = some n := h1
          rw [if_pos pq] at h1
          obtain ⟨m, hm, em⟩ := Option.map_eq_some_iff.mp h1
          have := pos p m hm
          omega
        · have h1 : (if passQ (picE es).s p then (numE ts p).map (fun n => -1 - n) else none) = some n := h1
          rw [if_neg pq] at h1
          cases h1
      | none =>
        constructor
        · rintro ⟨n, h1, h2⟩
          have h1 : (if passQ (picE es).s p then (numE ts p).map (fun n => -1 - n) else none) = some n := h1
          have h2 : (if passQ (picE es).s q then (numE ts q).map (fun n => -1 - n) else none) = some n := h2
          by_cases pp : passQ (picE es).s p
          · by_cases pq : passQ (picE es).s q
            · rw [if_pos pp] at h1
              rw [if_pos pq] at h2
              obtain ⟨a, ha, ea⟩ := Option.map_eq_some_iff.mp h1
              obtain ⟨b, hb, eb⟩ := Option.map_eq_some_iff.mp h2
              have : a = b := by omega
              subst this
              exact Or.inr ⟨pp, pq, a, ha, hb⟩
            · rw [if_neg pq] at h2
              cases h2
          · rw [if_neg pp] at h1
            cases h1
        · rintro (⟨n, z, _⟩ | ⟨pp, pq, n, h1, h2⟩)
          · exact nomatch z
          · refine ⟨-1 - n, ?_, ?_⟩
            · show (if passQ (picE es).s p then (numE ts p).map (fun n => -1 - n) else none) = _
              rw [if_pos pp, h1]
              rfl
            · show (if passQ (picE es).s q then (numE ts q).map (fun n => -1 - n) else none) = _
              rw [if_pos pq, h2]
              rfl
/-! ### laid -/
def laidE : List Ents → Ents
  | [] => [([], drD)]
  | es :: r => plainE (overE es (laidE r))
def sizeS : List Ents → Nat
  | [] => 1
  | es :: r => es.length + sizeS r
theorem overE_thing {es ts : Ents} (eL : ∀ e ∈ es, entryB e.2 = true) (eT : ∀ e ∈ ts, thingD e.2) : ∀ e ∈ overE es ts, thingD e.2 := by
  intro e he
  unfold overE at he
  rcases List.mem_append.mp he with he | he
  · obtain ⟨x, hx, rfl⟩ := List.mem_map.mp he
    obtain ⟨hx1, hx2⟩ := List.mem_filter.mp hx
    show thingD (asSeenD x.2)
    rcases entry_form (eL x hx1) with ⟨b, hd⟩ | hd | ⟨n, z, hd, _, _⟩
    · rw [hd]
      exact Or.inl rfl
    · rw [hd] at hx2
      exact absurd hx2 (by decide +kernel)
    · rw [hd]
      exact Or.inr ⟨n, z, rfl⟩
  · obtain ⟨x, hx, rfl⟩ := List.mem_map.mp he
    show thingD (apartD x.2)
    rcases eT x (List.mem_filter.mp hx).1 with hd | ⟨n, z, hd⟩
    · rw [hd]
      exact Or.inl rfl
    · rw [hd]
      exact Or.inr ⟨-1 - n, z, rfl⟩
theorem overE_key {es ts : Ents} {e : List Str × PyData} (h : e ∈ overE es ts) : e.1 ∈ es.map (·.1) ∨ e.1 ∈ ts.map (·.1) := by
  unfold overE at h
  rcases List.mem_append.mp h with h | h
  · obtain ⟨x, hx, rfl⟩ := List.mem_map.mp h
    exact Or.inl (List.mem_map.mpr ⟨x, (List.mem_filter.mp hx).1, rfl⟩)
  · obtain ⟨x, hx, rfl⟩ := List.mem_map.mp h
    exact Or.inr (List.mem_map.mpr ⟨x, (List.mem_filter.mp hx).1, rfl⟩)
theorem overE_len (es ts : Ents) : (overE es ts).length ≤ es.length + ts.length := by
  have e3 : (overA es).length ≤ es.length := by
    unfold overA
    rw [List.length_map]
    exact List.length_filter_le _ _
  have e4 : (overB es ts).length ≤ ts.length := by
    unfold overB
    rw [List.length_map]
    exact List.length_filter_le _ _
  unfold overE
  rw [List.length_append]
  omega
structure OkE (ts : Ents) : Prop where
  nd : (ts.map (·.1)).Nodup
  path : ∀ e ∈ ts, goodPath e.1 = true
  thing : ∀ e ∈ ts, thingD e.2
theorem laidE_ok : ∀ {lss : List Ents}, (∀ es ∈ lss, layerB es = true ∧ (es.map (·.1)).Nodup) → OkE (laidE lss) ∧ (laidE lss).length ≤ sizeS lss
  | [], _ => by
    refine ⟨⟨by decide +kernel, fun e he => ?_, fun e he => ?_⟩, Nat.le_refl _⟩
    · rw [List.mem_singleton.mp he]
      decide +kernel
    · rw [List.mem_singleton.mp he]
      exact Or.inl rfl
  | es :: r, h => by
    obtain ⟨ok, len⟩ := laidE_ok fun x hx => h x (List.mem_cons_of_mem _ hx)
    obtain ⟨lay, nd⟩ := h es (List.mem_cons_self ..)
    obtain ⟨_, gL, eL, _, _⟩ := layerB_parts lay
    refine ⟨⟨?_, fun e he => ?_, fun e he => plainE_thing (overE_thing eL ok.thing) e he⟩, ?_⟩
    · show ((plainE _).map (·.1)).Nodup
      rw [plainE_keys]
      exact (keysUpE_perm _).nodup_iff.mpr (overE_nd nd ok.nd)
    · obtain ⟨x, hx, ex⟩ := List.mem_map.mp (plainE_key (show e ∈ plainE _ from he))
      rw [← ex]
      rcases overE_key hx with h1 | h1
      · obtain ⟨y, hy, ey⟩ := List.mem_map.mp h1
        rw [← ey]
        exact gL y hy
      · obtain ⟨y, hy, ey⟩ := List.mem_map.mp h1
        rw [← ey]
        exact ok.path y hy
    · show (plainE _).length ≤ es.length + sizeS r
      rw [plainE_len]
      have := overE_len es (laidE r)
      omega
/-! ### laid, the program's -/
def spLaidP (K : PySem.W.Frag) (P1 P2 P3 P4 P6 P7 P8 : Addr) : Sp := fun vs H Q _ => ∃ l lss, vs = [.ref l] ∧ StackAt K H l lss ∧ GoodLs lss ∧ (∀ es ∈ lss, (es.map (·.1)).Nodup) ∧ sizeS lss ≤ 80 ∧ Tabs8 H P1 P2 P3 P4 P6 P7 P8 ∧
  ∀ H' a kvs, Ex H H' → H' a = some (.dT kvs) → H a = none → RowE K H' kvs (laidE lss) → Q (.ref a) H'
theorem sizeS_drop : ∀ (lss : List Ents) (i : Nat), sizeS (lss.drop i) ≤ sizeS lss
  | _, 0 => Nat.le_refl _
  | [], _ + 1 => Nat.le_refl _
  | es :: r, i + 1 => Nat.le_trans (sizeS_drop r i) (Nat.le_add_left _ _)
section
variable {P : Program} {w : World} {K : PySem.W.Frag} {mg : Str → Option Value} {base : Heap}
abbrev lpdN : List Str := ["stack", "tree", "layer"]
theorem scLaidP : FnScope lpdN ["stack"] (defScope sLaidP) := ⟨rfl, rfl, rfl, by decide +kernel, rfl, by decide +kernel, by decide +kernel⟩
theorem ok_laidP {f fS fO fW P1 P2 P3 P4 P6 P7 P8 aD : Addr} {fd fdS fdO fdW : FuncData} (F : Fun K "laid" "laid" sLaidP f fd) (SD : Cst K mg "DRAWER" [.str "drawer"] aD) (mRev : mg "reversed" = none)
    (GS : FnOk P w K mg base (L2.CX P w) 12 fS fdS ["thing"] (spCheckStack K P1 P2 P3 P4 P6 P8)) (mS : mg "check_stack" = some (.ref fS)) (kS : PySem.W.keepIn K (.ref fS) = true) (bS : Binds K fdS ["thing"] [])
    (GO : FnOk P w K mg base CX0 9 fO fdO ["layer", "tree"] (spLaidOver K P1 P2 P7)) (mO : mg "laid_over" = some (.ref fO)) (kO : PySem.W.keepIn K (.ref fO) = true) (bO : Binds K fdO ["layer", "tree"] [])
    (GW : FnOk P w K mg base (L2.CX P w) 1 fW fdW ["tree"] (spWithRoom K)) (mW : mg "_with_room" = some (.ref fW)) (kW : PySem.W.keepIn K (.ref fW) = true) (bW : Binds K fdW ["tree"] []) :
    FnOk P w K mg base (L2.CX P w) 13 f fd ["stack"] (spLaidP K P1 P2 P3 P4 P6 P7 P8) := by
  refine F.okX scLaidP (fun vs H Q E h => ?_) (fun cdv A outer s H vs Q E hr h => ?_)
  · obtain ⟨l, lss, rfl, _⟩ := h
    rfl
  · obtain ⟨l, lss, rfl, hst, gls, nds, h80, T, k⟩ := h
    have r9 := hr.mono (show 9 ≤ 12 by decide)
    have r1 := hr.mono (show 1 ≤ 12 by decide)
    have hu1 : (A.deeper (envOfC "laid" (defScope sLaidP) s.heap.objs.size f cdv)).units + 1 < cLine := by have := hr.units; omega
    refine ⟨_, pss_cons (ps_expr (pe_call (E := E) GS hr (by rfl) mS kS bS .nil (passes_call (takes_of rfl rfl rfl rfl) (fun _ _ _ _ h => h)) (pa_cons (pv 0) pa_nil)))
      (pss_cons (ps_set (i := 1) scLaidP.nd rfl (Or.inl rfl) (pe_dispT hu1 (pps_cons (pe_tup pa_nil) (pe_glob (v := .ref aD) (by rfl) SD.g rfl) pps_nil) rfl rfl (by simp) (by decide)))
      (pss_cons (ps_for (passes_of rfl) rfl (pi_reversed (by rfl) mRev (pa_cons (pv 0) pa_nil)) (pg_name (i := 2) scLaidP.nd rfl (Or.inl rfl))
        (pss_one (ps_set (i := 1) scLaidP.nd rfl (Or.inl rfl) (pe_call (E := E) GW r1 (by rfl) mW kW bW .nil (passes_call (takes_of rfl rfl rfl rfl) (fun _ _ _ _ h => h)) (pa_cons (pe_call (E := E0) GO r9 (by rfl) mO kO bO .nil pass0 (pa_cons (pv 2) (pa_cons (pv 1) pa_nil))) pa_nil)))))
      (pss_one (ps_ret (pv 1))))), ?_⟩
    obtain ⟨ds, h1, h2, h3⟩ := hst
    have goods : ∀ es ∈ lss, layerB es = true ∧ (es.map (·.1)).Nodup := fun es he => ⟨(gls.2.2 es he).2, nds es he⟩
    refine ⟨_, rfl, l, lss, rfl, ⟨ds, h1, h2, h3⟩, gls, T.t, T.t8, fun H1 x1 => ?_⟩
    intro a0 ha0
    refine ⟨Nat.zero_le _, fun p0 hp0 => ?_⟩
    have d0 : (upd H1 a0 (.dT [])) a0 = some (.dT []) := upd_same
    have xe := Ex.new (o := .tup []) hp0
    have xa := (Ex.new (o := .dT []) ha0).trans xe
    have t1 : PathX (upd (upd H1 a0 (.dT [])) p0 (.tup [])) p0 [] := upd_same
    have d1 := xe.keep _ _ d0 (fun ps z => by cases z)
    generalize upd (upd H1 a0 (.dT [])) p0 (.tup []) = Hm at xa t1 d1 ⊢
    clear d0 xe hp0
    refine ⟨d1, [([], .ref aD)], .cons ⟨⟨p0, rfl, t1⟩, rfl⟩ .nil, (by show 1 ≤ 15; decide), ?_⟩
    have emt : mergeT [] [(([] : List L2.Key), V.ref aD)] = [([], .ref aD)] := rfl
    rw [emt]
    have xb : Ex H1 (upd Hm a0 (.dT [([], .ref aD)])) := Eb.ex xa ha0 (Eb.set d1 (fun ps z => by cases z))
    have e0 : (upd Hm a0 (.dT [([], .ref aD)])) a0 = some (.dT [([], .ref aD)]) := upd_same
    generalize upd Hm a0 (.dT [([], .ref aD)]) = G0 at xb e0 ⊢
    clear t1 d1 xa emt
    have x0 := x1.trans xb
    have r0 : RowE K G0 [([], .ref aD)] (laidE []) := .cons ⟨rfl, .tup (SD.t G0) (.cons (.str _) .nil)⟩ .nil
    have hlen : ds.length = lss.length := Paired.length h3
    have hds : ∀ {d es}, TrAt K H d es → H d ≠ none := by
      rintro d es ⟨kv, h | ⟨o, h⟩, _⟩ z
      · rw [z] at h; cases h
      · rw [z] at h; cases h
    have T0 := T.ex x0
    refine ⟨_, rfl, l, ds.map V.ref, rfl, h2 _ x0, for_it (walk_rev (K := K) (a := l) (xs := ds.map V.ref)) (fun i σ G => ∃ t v kvs, σ = [some (.ref l), some (.ref t), v] ∧ Ex G0 G ∧ H t = none ∧ G t = some (.dT kvs) ∧ RowE K G kvs (laidE (lss.drop (lss.length - i))))
      ⟨a0, none, _, rfl, Ex.refl _, x1.free _ ha0, e0, ?_⟩ (fun i σ G _ h => ?_) ?_ ?_⟩
    · rw [Nat.sub_zero, List.drop_length]
      exact r0
    · obtain ⟨t, v, kvs, _, x, _⟩ := h
      exact h2 _ (x0.trans x)
    · rintro i x σ G G' hi ⟨t, v, kvs, rfl, xg, hT, eT, rT⟩ ⟨rfl, hx⟩
      rw [List.length_map] at hi hx
      rw [List.getElem?_map] at hx
      obtain ⟨d, hd, rfl⟩ := Option.map_eq_some_iff.mp hx
      obtain ⟨es, hes, ht⟩ := paired_get h3 hd
      have hmem := List.mem_of_getElem? hes
      obtain ⟨lay, nd⟩ := goods es hmem
      obtain ⟨ok, len⟩ := laidE_ok (lss := lss.drop (lss.length - i)) fun x hx => goods x (List.mem_of_mem_drop hx)
      have ecut : lss.drop (lss.length - (i + 1)) = es :: lss.drop (lss.length - i) := by
        have hj : lss.length - (i + 1) = ds.length - 1 - i := by omega
        obtain ⟨hjl, hje⟩ := List.getElem?_eq_some_iff.mp hes
        rw [hj, List.drop_eq_getElem_cons hjl, hje]
        congr 2
        omega
      have hsz : es.length + sizeS (lss.drop (lss.length - i)) ≤ 80 := by
        have := sizeS_drop lss (lss.length - (i + 1))
        rw [ecut] at this
        exact Nat.le_trans this h80
      have xG := x0.trans xg
      have TG := T.ex xG
      refine ⟨_, rfl, _, rfl, d, t, es, _, rfl, (fun z => hds ht (by rw [z]; exact hT)), ht.ex xG, lay, nd, ⟨kvs, Or.inl eT, rT⟩, ok.nd, fun e he => ⟨ok.path e he, ok.thing e he⟩, by omega, TG.t.t1, TG.t.t2, TG.t7, fun G2 u ku x2 eu hu ru => ?_⟩
      have hov := overE_len es (laidE (lss.drop (lss.length - i)))
      refine ⟨u, _, rfl, ⟨ku, Or.inl eu, ru⟩, by rw [plainE_len]; omega, u, _, ku, rfl, xg.trans x2, xG.free _ hu, eu, ?_⟩
      rw [ecut]
      exact ru
    · rintro σ G ⟨t, v, kvs, rfl, xg, hT, eT, rT⟩
      rw [List.length_map, hlen, Nat.sub_self, List.drop_zero] at rT
      exact ⟨_, rfl, k G t kvs (x0.trans xg) eT hT rT⟩
end
end LK

namespace LK
open PySem PySem.Spec PyProof.Rows L2 GA LT LE L2H LD
/-! ### a plain tree is a tree -/
theorem tree_thing {es : Ents} (t : treeB es = true) : ∀ e ∈ es, thingD e.2 := fun e he => by
  rcases tree_form ((treeB_parts t).2.2.1 e he) with h | ⟨n, z, h, _, _⟩
  · exact Or.inl h
  · exact Or.inr ⟨n, z, h⟩
theorem tree_fit {es : Ents} (t : treeB es = true) : ∀ e ∈ es, ∀ n z, e.2 = fileD n z → textB z = true ∧ numB (.int n) = true := fun e he n z ez => by
  rcases tree_form ((treeB_parts t).2.2.1 e he) with h | ⟨m, y, h, h1, h2⟩
  · rw [h] at ez; cases ez
  · rw [h] at ez
    obtain ⟨rfl, rfl⟩ := fileD_inj (show fileD m y = fileD n z from ez)
    exact ⟨h2, h1⟩
theorem file_fileB {n : Int} {z : Str} (h1 : numB (.int n) = true) (h2 : textB z = true) : fileB (fileD n z) = true := by
  have := Th.file n z
  rw [h1, h2] at this
  exact this
theorem tree_one {es : Ents} (t : treeB es = true) : OneE (es.map (·.2)) := by
  refine (oneText_iff fun n z h => ?_).mp (treeB_parts t).2.2.2.2
  obtain ⟨e, he, ez⟩ := List.mem_map.mp h
  obtain ⟨h1, h2⟩ := tree_fit t e he n z ez
  exact file_fileB h2 h1
theorem plain_eq {es : Ents} (th : ∀ e ∈ es, thingD e.2) : plainE es = (upE es).map fun e => (e.1, renD (renOf (upE es)).1 e.2) := by
  have hth : ∀ e ∈ upE es, thingD e.2 := fun e he => by
    obtain ⟨x, hx, rfl⟩ := upE_val he
    exact th _ hx
  have h1 := fold_final (upE es) ([], []) hth
  unfold plainE
  exact h1
theorem valE_plain {es : Ents} (th : ∀ e ∈ es, thingD e.2) (nd : (es.map (·.1)).Nodup) (p : List Str) : valE (plainE es) p = (valE es p).map (renD (renOf (upE es)).1) := by
  rw [plain_eq th]
  have e1 : ((upE es).map fun e => (e.1, renD (renOf (upE es)).1 e.2)) = (keysUpE es).map fun q => (q, renD (renOf (upE es)).1 ((valE es q).getD .none)) := by
    show ((keysUpE es).map _).map _ = _
    rw [List.map_map]
    rfl
  rw [e1, valE_tab]
  by_cases h : p ∈ keysUpE es
  · rw [if_pos h]
    have hk := (keysUpE_perm es).mem_iff.mp h
    obtain ⟨x, hx, rfl⟩ := List.mem_map.mp hk
    rw [valE_nd nd hx]
    rfl
  · rw [if_neg h]
    cases hv : valE es p with
    | none => rfl
    | some d =>
      obtain ⟨x, hx, ex, _⟩ := valE_mem hv
      exact absurd ((keysUpE_perm es).mem_iff.mpr (List.mem_map.mpr ⟨x, hx, ex⟩)) h
theorem ren_drawer {s : List Int} {d : PyData} (t : thingD d) : drawerB (renD s d) = drawerB d := by
  rcases t with rfl | ⟨n, z, rfl⟩
  · rw [show renD s drD = drD from (renD_oth (w := "drawer") (ds := []) (by decide +kernel)).1]
  · rw [renD_file.1]
    rfl
theorem drawer_plain {es : Ents} (th : ∀ e ∈ es, thingD e.2) (nd : (es.map (·.1)).Nodup) (p : List Str) : drawerAt (plainE es) p = drawerAt es p := by
  unfold drawerAt
  rw [valE_plain th nd]
  cases hv : valE es p with
  | none => rfl
  | some d =>
    obtain ⟨x, hx, _, rfl⟩ := valE_mem hv
    exact ren_drawer (th x hx)
theorem plain_nd (es : Ents) (nd : (es.map (·.1)).Nodup) : ((plainE es).map (·.1)).Nodup := by
  rw [plainE_keys]
  exact (keysUpE_perm es).nodup_iff.mpr nd
theorem plainE_tree {es : Ents} (t : treeB es = true) (nd : (es.map (·.1)).Nodup) : treeB (plainE es) = true ∧ smallE (plainE es) := by
  have th := tree_thing t
  obtain ⟨h80, hgp, hth, hroof, _⟩ := treeB_parts t
  obtain ⟨F, hn⟩ := plainE_fil th (tree_one t) (fun e he n z ez => (tree_fit t e he n z ez).1)
  have okp : ∀ e ∈ plainE es, goodPath e.1 = true := fun e he => by
    obtain ⟨x, hx, ex⟩ := List.mem_map.mp (plainE_key he)
    rw [← ex]
    exact hgp x hx
  have hth2 : ∀ e ∈ plainE es, drawerB e.2 = true ∨ fileB e.2 = true := fun e he => by
    rcases plainE_thing th e he with hd | ⟨n, z, hd⟩
    · exact Or.inl (by rw [hd]; decide +kernel)
    · have h0 := F.fit e he n z hd
      have h1 := hn e he n z hd
      refine Or.inr ?_
      rw [hd]
      refine file_fileB ?_ h0.2
      unfold numB
      rw [Bool.and_eq_true]
      exact ⟨decide_eq_true h0.1, decide_eq_true (by omega)⟩
  have hl := plainE_len es
  refine ⟨?_, fun e he => ⟨goodPath_small (okp e he), ?_⟩, by omega⟩
  · unfold treeB
    simp only [Bool.and_eq_true, decide_eq_true_eq, List.all_eq_true, Bool.or_eq_true]
    refine ⟨by omega, okp, hth2, ?_, ?_⟩
    · unfold roofB at hroof ⊢
      simp only [Bool.and_eq_true, decide_eq_true_eq, List.all_eq_true, Bool.or_eq_true] at hroof ⊢
      refine ⟨by rw [drawer_plain th nd]; exact hroof.1, fun e he => ?_⟩
      obtain ⟨x, hx, ex⟩ := List.mem_map.mp (plainE_key he)
      rw [drawer_plain th nd, ← ex]
      exact hroof.2 x hx
    · refine (oneText_iff fun n z hm => ?_).mpr F.one
      obtain ⟨x, hx, ex⟩ := List.mem_map.mp hm
      rcases hth2 x hx with h1 | h1
      · rw [ex] at h1
        exact absurd (show false = true from h1) (by decide)
      · rw [ex] at h1
        exact h1
  · rcases plainE_thing th e he with hd | ⟨n, z, hd⟩
    · rw [hd]
      have e2 : decide (("drawer" : Str).length ≤ sizeLine) = true := by decide +kernel
      simp [drD, smallD, smallAll, e2]
    · rw [hd]
      have hz : z.length ≤ 40 := by
        have := (F.fit e he n z hd).2
        unfold textB at this
        rw [Bool.and_eq_true] at this
        exact of_decide_eq_true this.1
      have e1 : decide (z.length ≤ sizeLine) = true := decide_eq_true (by rw [sizeLine_eq]; omega)
      have e2 : decide (("file" : Str).length ≤ sizeLine) = true := by decide +kernel
      simp [smallD, smallAll, e1, e2]
/-- to be made plain twice is to be made plain once -/
theorem plain_idem {es : Ents} (t : treeB es = true) (nd : (es.map (·.1)).Nodup) : plainE (plainE es) = plainE es := by
  have th := tree_thing t
  have ndP := plain_nd es nd
  have keys : keysUpE (plainE es) = keysUpE es := keysUpE_same ndP nd fun p => by
    rw [plainE_keys]
    exact (keysUpE_perm es).mem_iff
  refine plainE_bi (C := fun n m => m ∈ (renOf (upE es)).1 ∧ n = (((renOf (upE es)).1.idxOf m : Nat) : Int)) ?_ keys fun p hp => ?_
  · rintro n m n' m' ⟨h1, h2⟩ ⟨h1', h2'⟩
    constructor
    · intro e
      rw [h2, h2'] at e
      exact idxI_inj h1 h1' (by omega)
    · intro e
      rw [h2, h2', e]
  · rw [keys] at hp
    obtain ⟨x, hx, rfl⟩ := List.mem_map.mp ((keysUpE_perm es).mem_iff.mp hp)
    rw [valE_plain th nd, valE_nd nd hx]
    rcases th x hx with hd | ⟨n, z, hd⟩
    · exact Or.inl ⟨by show renD _ x.2 = drD; rw [hd]; exact (renD_oth (w := "drawer") (ds := []) (by decide +kernel)).1, hd⟩
    · refine Or.inr ⟨_, n, z, by show renD _ x.2 = _; rw [hd]; exact renD_file.1, hd, ?_, rfl⟩
      refine fold_in (upE es) ([], []) (x.1, (valE es x.1).getD .none) ?_ n z ?_
      · exact List.mem_map.mpr ⟨x.1, hp, rfl⟩
      · rw [valE_nd nd hx]
        exact hd
/-! ### what is moved -/
def movedP (p old new : List Str) : List Str := if beginsB p old = true then new ++ p.drop old.length else p
def movedE (es : Ents) (old new : List Str) : Ents := es.map fun e => (movedP e.1 old new, e.2)
theorem begins_iff {p q : List Str} : beginsB p q = true ↔ ∃ r, p = q ++ r := by
  unfold beginsB
  constructor
  · intro h
    have h := of_decide_eq_true h
    exact ⟨p.drop q.length, by rw [← h]; rw [show (p.take q.length).length = q.length from congrArg List.length h]; exact (List.take_append_drop _ _).symm⟩
  · rintro ⟨r, rfl⟩
    exact decide_eq_true (by rw [List.take_append_of_le_length (Nat.le_refl _), List.take_length])
theorem moved_in {r old new : List Str} : movedP (old ++ r) old new = new ++ r := by
  unfold movedP
  rw [if_pos (begins_iff.mpr ⟨r, rfl⟩), List.drop_left]
theorem moved_out {p old new : List Str} (h : beginsB p old = false) : movedP p old new = p := by
  unfold movedP
  rw [if_neg (by rw [h]; decide)]
theorem roof_all {es : Ents} (t : treeB es = true) {p : List Str} (hp : (valE es p).isSome = true) : ∀ j, j < p.length → drawerAt es (p.take j) = true := by
  obtain ⟨_, _, _, h4, _⟩ := treeB_parts t
  unfold roofB at h4
  simp only [Bool.and_eq_true, List.all_eq_true, Bool.or_eq_true, decide_eq_true_eq] at h4
  have up : ∀ q, (valE es q).isSome = true → q ≠ [] → drawerAt es q.dropLast = true := fun q hq hne => by
    obtain ⟨x, hx, rfl⟩ := List.mem_map.mp (valE_key hq)
    exact (h4.2 x hx).resolve_left hne
  have some_of : ∀ q, drawerAt es q = true → (valE es q).isSome = true := fun q h => by
    unfold drawerAt at h
    cases hv : valE es q with
    | none => rw [hv] at h; cases h
    | some d => rfl
  intro j hj
  have : ∀ d, d + j + 1 = p.length ∨ d + j + 1 < p.length → drawerAt es (p.take (p.length - 1 - d)) = true := by
    intro d
    induction d with
    | zero =>
      intro _
      have := up p hp (fun e => by rw [e] at hj; cases hj)
      rwa [List.dropLast_eq_take] at this
    | succ d ih =>
      intro h
      have h1 := ih (by omega)
      have hne : p.take (p.length - 1 - d) ≠ [] := fun e => by
        have := congrArg List.length e
        rw [List.length_take] at this
        have : min (p.length - 1 - d) p.length = 0 := this
        omega
      have := up _ (some_of _ h1) hne
      rw [List.dropLast_eq_take, List.take_take, List.length_take] at this
      rwa [show min (min (p.length - 1 - d) p.length - 1) (p.length - 1 - d) = p.length - 1 - (d + 1) by omega] at this
  have := this (p.length - 1 - j) (by omega)
  rwa [show p.length - 1 - (p.length - 1 - j) = j by omega] at this
theorem drawer_some {es : Ents} {q : List Str} (h : drawerAt es q = true) : (valE es q).isSome = true := by
  unfold drawerAt at h
  cases hv : valE es q with
  | none => rw [hv] at h; cases h
  | some d => rfl
structure MoveOk (es : Ents) (old new : List Str) : Prop where
  there : (valE es old).isSome = true
  ne : old ≠ []
  free : valE es new = none
  roof : drawerAt es new.dropLast = true
  out : beginsB new old = false
  good : goodPath new = true
  five : ∀ e ∈ es, (movedP e.1 old new).length ≤ 5
theorem MoveOk.newne {es : Ents} {old new : List Str} (M : MoveOk es old new) (t : treeB es = true) : new ≠ [] := fun e => by
  have := M.roof
  rw [e] at this
  have := drawer_some this
  rw [show ([] : List Str).dropLast = [] from rfl] at this
  have h := M.free
  rw [e] at h
  rw [h] at this
  cases this
/-- nothing of the tree lies where something is moved to -/
theorem clear_of {es : Ents} {new : List Str} (free : valE es new = none) (t : treeB es = true) {r : List Str} : valE es (new ++ r) = none := by
  cases hv : valE es (new ++ r) with
  | none => rfl
  | some d =>
    exfalso
    by_cases hr : r = []
    · rw [hr, List.append_nil, free] at hv
      cases hv
    · have := roof_all t (p := new ++ r) (by rw [hv]; rfl) new.length (by
        rw [List.length_append]
        have : r.length ≠ 0 := fun e => hr (List.eq_nil_of_length_eq_zero e)
        omega)
      rw [List.take_append_of_le_length (Nat.le_refl _), List.take_length] at this
      have := drawer_some this
      rw [free] at this
      cases this
theorem MoveOk.clear {es : Ents} {old new : List Str} (M : MoveOk es old new) (t : treeB es = true) {r : List Str} : valE es (new ++ r) = none := clear_of M.free t
theorem moved_inj_of {es : Ents} {old new : List Str} (free : valE es new = none) (t : treeB es = true) {p q : List Str} (hp : (valE es p).isSome = true) (hq : (valE es q).isSome = true) (e : movedP p old new = movedP q old new) : p = q := by
  cases h1 : beginsB p old with
  | true =>
    obtain ⟨r, rfl⟩ := begins_iff.mp h1
    rw [moved_in] at e
    cases h2 : beginsB q old with
    | true =>
      obtain ⟨r', rfl⟩ := begins_iff.mp h2
      rw [moved_in] at e
      rw [List.append_cancel_left e]
    | false =>
      rw [moved_out h2] at e
      rw [← e, clear_of free t] at hq
      cases hq
  | false =>
    rw [moved_out h1] at e
    cases h2 : beginsB q old with
    | true =>
      obtain ⟨r', rfl⟩ := begins_iff.mp h2
      rw [moved_in] at e
      rw [e, clear_of free t] at hp
      cases hp
    | false =>
      rw [moved_out h2] at e
      exact e
theorem moved_inj {es : Ents} {old new : List Str} (M : MoveOk es old new) (t : treeB es = true) {p q : List Str} (hp : (valE es p).isSome = true) (hq : (valE es q).isSome = true) (e : movedP p old new = movedP q old new) : p = q := moved_inj_of M.free t hp hq e
theorem movedE_nd {es : Ents} {old new : List Str} (M : MoveOk es old new) (t : treeB es = true) (nd : (es.map (·.1)).Nodup) : ((movedE es old new).map (·.1)).Nodup := by
  unfold movedE
  rw [List.map_map]
  have hmap : (es.map ((fun e : List Str × PyData => e.1) ∘ fun e => (movedP e.1 old new, e.2))) = (es.map (·.1)).map fun p => movedP p old new := by
    rw [List.map_map]
    rfl
  rw [hmap]
  have hin : ∀ p ∈ es.map (·.1), (valE es p).isSome = true := fun p hp => by
    obtain ⟨x, hx, rfl⟩ := List.mem_map.mp hp
    rw [valE_nd nd hx]
    rfl
  generalize es.map (·.1) = ks at nd hin
  induction ks with
  | nil => exact List.nodup_nil
  | cons k ks ih =>
    rw [List.nodup_cons] at nd
    rw [List.map_cons, List.nodup_cons]
    refine ⟨fun h => ?_, ih nd.2 fun p hp => hin p (List.mem_cons_of_mem _ hp)⟩
    obtain ⟨q, hq, e⟩ := List.mem_map.mp h
    have := moved_inj M t (hin q (List.mem_cons_of_mem _ hq)) (hin k (List.mem_cons_self ..)) e
    rw [this] at hq
    exact nd.1 hq
theorem valE_moved {es : Ents} {old new : List Str} (M : MoveOk es old new) (t : treeB es = true) (nd : (es.map (·.1)).Nodup) {p : List Str} {d : PyData} (h : valE es p = some d) : valE (movedE es old new) (movedP p old new) = some d := by
  obtain ⟨x, hx, rfl, rfl⟩ := valE_mem h
  have hm : (movedP x.1 old new, x.2) ∈ movedE es old new := List.mem_map.mpr ⟨x, hx, rfl⟩
  exact valE_nd (movedE_nd M t nd) hm
theorem drawer_moved {es : Ents} {old new : List Str} (M : MoveOk es old new) (t : treeB es = true) (nd : (es.map (·.1)).Nodup) {p : List Str} (h : drawerAt es p = true) : drawerAt (movedE es old new) (movedP p old new) = true := by
  obtain ⟨d, hd⟩ := Option.isSome_iff_exists.mp (drawer_some h)
  unfold drawerAt at h ⊢
  rw [valE_moved M t nd hd]
  rw [hd] at h
  exact h
theorem goodPath_mk {p : List Str} (h1 : p.length ≤ 5) (h2 : ∀ z ∈ p, nameB z = true) : goodPath p = true := by
  unfold goodPath
  rw [Bool.and_eq_true, List.all_eq_true]
  exact ⟨decide_eq_true h1, h2⟩
theorem movedE_tree {es : Ents} {old new : List Str} (M : MoveOk es old new) (t : treeB es = true) (nd : (es.map (·.1)).Nodup) : treeB (movedE es old new) = true := by
  obtain ⟨h80, hgp, hth, hroof, hone⟩ := treeB_parts t
  have hroof' := hroof
  unfold roofB at hroof
  simp only [Bool.and_eq_true, List.all_eq_true, Bool.or_eq_true, decide_eq_true_eq] at hroof
  have hb0 : beginsB [] old = false := by
    cases h : beginsB [] old with
    | false => rfl
    | true =>
      obtain ⟨r, hr⟩ := begins_iff.mp h
      exact absurd (List.append_eq_nil_iff.mp hr.symm).1 M.ne
  unfold treeB
  simp only [Bool.and_eq_true, decide_eq_true_eq, List.all_eq_true, Bool.or_eq_true]
  refine ⟨by unfold movedE; rw [List.length_map]; exact h80, fun e he => ?_, fun e he => ?_, ?_, ?_⟩
  · obtain ⟨x, hx, rfl⟩ := List.mem_map.mp he
    refine goodPath_mk (M.five x hx) fun z hz => ?_
    have hz : z ∈ movedP x.1 old new := hz
    cases h : beginsB x.1 old with
    | true =>
      obtain ⟨r, hr⟩ := begins_iff.mp h
      rw [hr, moved_in] at hz
      rcases List.mem_append.mp hz with hz | hz
      · exact (goodPath_names M.good).2 z hz
      · exact (goodPath_names (hgp x hx)).2 z (by rw [hr]; exact List.mem_append_right _ hz)
    | false =>
      rw [moved_out h] at hz
      exact (goodPath_names (hgp x hx)).2 z hz
  · obtain ⟨x, hx, rfl⟩ := List.mem_map.mp he
    exact hth x hx
  · unfold roofB
    simp only [Bool.and_eq_true, List.all_eq_true, Bool.or_eq_true, decide_eq_true_eq]
    have h0 := drawer_moved M t nd hroof.1
    rw [moved_out hb0] at h0
    refine ⟨h0, fun e he => ?_⟩
    obtain ⟨x, hx, rfl⟩ := List.mem_map.mp he
    show movedP x.1 old new = [] ∨ drawerAt _ (movedP x.1 old new).dropLast = true
    cases h : beginsB x.1 old with
    | true =>
      obtain ⟨r, hr⟩ := begins_iff.mp h
      rw [hr, moved_in]
      by_cases hr0 : r = []
      · rw [hr0, List.append_nil]
        right
        have hout : beginsB new.dropLast old = false := by
          cases hb : beginsB new.dropLast old with
          | false => rfl
          | true =>
            obtain ⟨s, hs⟩ := begins_iff.mp hb
            have : beginsB new old = true := by
              refine begins_iff.mpr ⟨s ++ [new.getLast (M.newne t)], ?_⟩
              rw [← List.append_assoc, ← hs, List.dropLast_concat_getLast]
            rw [M.out] at this
            cases this
        have := drawer_moved M t nd M.roof
        rwa [moved_out hout] at this
      · right
        have h1 := (hroof.2 x hx).resolve_left (fun e => by rw [e] at hr; exact hr0 (List.append_eq_nil_iff.mp hr.symm).2)
        have := drawer_moved M t nd h1
        rw [hr, List.dropLast_append_of_ne_nil hr0, moved_in] at this
        rwa [List.dropLast_append_of_ne_nil hr0]
    | false =>
      rw [moved_out h]
      rcases hroof.2 x hx with h1 | h1
      · exact Or.inl h1
      · right
        have hout : beginsB x.1.dropLast old = false := by
          cases hb : beginsB x.1.dropLast old with
          | false => rfl
          | true =>
            by_cases hx0 : x.1 = []
            · rw [hx0] at hb
              rw [hx0] at h
              rw [show ([] : List Str).dropLast = [] from rfl, h] at hb
              cases hb
            · obtain ⟨s, hs⟩ := begins_iff.mp hb
              have : beginsB x.1 old = true := by
                refine begins_iff.mpr ⟨s ++ [x.1.getLast hx0], ?_⟩
                rw [← List.append_assoc, ← hs, List.dropLast_concat_getLast]
              rw [h] at this
              cases this
        have := drawer_moved M t nd h1
        rwa [moved_out hout] at this
  · have : (movedE es old new).map (·.2) = es.map (·.2) := by
      unfold movedE
      rw [List.map_map]
      rfl
    rw [this]
    exact hone
/-! ### houses: what one looks like, what its methods promise -/
theorem fl_get (d : Addr) : List.lookup ("_tree" : Str) [(("_tree" : Str), V.ref d)] = some (.ref d) := by
  rw [List.lookup_cons, show (("_tree" : Str) == "_tree") = true from beq_iff_eq.mpr rfl]
theorem fl_no (d : Addr) {m : Str} (h : decide (m = "_tree") = false) : List.lookup m [(("_tree" : Str), V.ref d)] = none := by
  have h := of_decide_eq_false h
  rw [List.lookup_cons, show (m == ("_tree" : Str)) = false from beq_eq_false_iff_ne.mpr h]
  rfl
theorem fl_put (d : Addr) (v : V) : putF ("_tree" : Str) v [(("_tree" : Str), V.ref d)] = ([(("_tree" : Str), v)] : List (Str × V)) := by
  show (if ("_tree" : Str) = ("_tree" : Str) then ([(("_tree" : Str), v)] : List (Str × V)) else _) = _
  rw [if_pos rfl]
theorem fl_new (v : V) : putF ("_tree" : Str) v [] = ([(("_tree" : Str), v)] : List (Str × V)) := rfl
structure HsAt (K : PySem.W.Frag) (C : Addr) (H : Hp) (h d : Addr) (es : Ents) : Prop where
  ob : ∃ dx, H h = some (.ins C dx [("_tree", .ref d)])
  dc : ∃ kvs, H d = some (.dT kvs) ∧ RowE K H kvs es
  nd : (es.map (·.1)).Nodup
  tree : treeB es = true
  small : smallE es
theorem HsAt.ex {K : PySem.W.Frag} {C : Addr} {H H' : Hp} {h d : Addr} {es : Ents} (x : Ex H H') (g : HsAt K C H h d es) : HsAt K C H' h d es := by
  obtain ⟨⟨dx, h1⟩, ⟨kvs, h2, h3⟩, h4, h5, h6⟩ := g
  exact ⟨⟨dx, x.keep _ _ h1 (fun ps z => by cases z)⟩, ⟨kvs, x.keep _ _ h2 (fun ps z => by cases z), RowE.ex x h3⟩, h4, h5, h6⟩
theorem HsAt.tr {K : PySem.W.Frag} {C : Addr} {H : Hp} {h d : Addr} {es : Ents} (g : HsAt K C H h d es) : TrAt K H d es := by
  obtain ⟨kvs, h2, h3⟩ := g.dc
  exact ⟨kvs, Or.inl h2, h3⟩
theorem HsAt.len {K : PySem.W.Frag} {C : Addr} {H : Hp} {h d : Addr} {es : Ents} (g : HsAt K C H h d es) : es.length ≤ 80 := (treeB_parts g.tree).1
theorem HsAt.thing {K : PySem.W.Frag} {C : Addr} {H : Hp} {h d : Addr} {es : Ents} (g : HsAt K C H h d es) : ∀ e ∈ es, thingD e.2 := fun e he => by
  rcases tree_form ((treeB_parts g.tree).2.2.1 e he) with h | ⟨n, z, h, _, _⟩
  · exact Or.inl h
  · exact Or.inr ⟨n, z, h⟩
theorem HsAt.ren {K : PySem.W.Frag} {C : Addr} {H : Hp} {h d : Addr} {es : Ents} (g : HsAt K C H h d es) : ∀ e ∈ es, renOk e.2 := fun e he => by
  rcases g.thing e he with h | ⟨n, z, h⟩
  · exact Or.inr ⟨"drawer", [], h, by decide +kernel⟩
  · exact Or.inl ⟨n, z, h⟩
/-- all is kept but the house and its dict -/
structure Fr (h d : Addr) (H H' : Hp) : Prop where
  keep : ∀ b o, b ≠ h → b ≠ d → H b = some o → (∀ ps, o ≠ .tbl ps) → H' b = some o
  tab : ∀ b, TabG H b → TabG H' b
  free : ∀ b, H' b = none → H b = none
theorem Ex.fr {h d : Addr} {H H' : Hp} (x : Ex H H') : Fr h d H H' := ⟨fun b o _ _ e n => x.keep b o e n, x.tab, x.free⟩
theorem Fr.trans {h d d' : Addr} {H H1 H2 : Hp} (a : Fr h d H H1) (b : Fr h d' H1 H2) (n : d' = d ∨ H d' = none) : Fr h d H H2 :=
  ⟨fun c o z1 z2 e m => b.keep c o z1 (fun q => by
    rcases n with n | n
    · exact z2 (q.trans n)
    · rw [q, n] at e; cases e) (a.keep c o z1 z2 e m) m, fun c t => b.tab c (a.tab c t), fun c e => a.free c (b.free c e)⟩
/-- what is no house and no dict is kept -/
theorem Fr.seq {K : PySem.W.Frag} {C : Addr} {H H' : Hp} {h d : Addr} {es : Ents} (g : HsAt K C H h d es) (f : Fr h d H H') : ∀ b o, H b = some o → seqO o → H' b = some o := fun b o e q => by
  obtain ⟨⟨dx, h1⟩, ⟨kvs, h2, _⟩, _⟩ := g
  refine f.keep b o (fun z => ?_) (fun z => ?_) e (fun ps z => ?_)
  · rw [z, h1] at e; cases e; exact q
  · rw [z, h2] at e; cases e; exact q
  · rw [z] at q; exact q
structure HT (K : PySem.W.Frag) (mg : Str → Option Value) (C : Addr) : Prop where
  cl : Cls K C
  nT : NoAttr K C "_tree"
  gC : mg "House" = some (.ref C)
def PathOrX (K : PySem.W.Frag) (H : Hp) (v : V) (bad : Prop) (R : Addr → List Str → Prop) : Prop :=
  (PathB K H v false ∧ bad) ∨ ∃ a p, v = .ref a ∧ PathX H a p ∧ goodPath p = true ∧ R a p
theorem PathX.b {K : PySem.W.Frag} {H : Hp} {a : Addr} {p : List Str} (h : PathX H a p) (g : goodPath p = true) : PathB K H (.ref a) true := by
  have := (h.at (K := K)).b (goodPath_small g)
  rwa [g] at this
/-- a thing at its place -/
theorem dp_thing {K : PySem.W.Frag} {H : Hp} {v : V} {d : PyData} (h : Dp K H v d) (t : thingD d) : ∃ r xs, v = .ref r ∧ SqT K H r xs ∧ ((d = drD ∧ xs = [.str "drawer"]) ∨ ∃ n z, d = fileD n z ∧ xs = [.str "file", .int n, .str z]) := by
  rcases t with rfl | ⟨n, z, rfl⟩
  · cases h with
    | tup hs ha =>
      cases ha with
      | cons h1 h2 =>
        cases h2
        cases h1
        exact ⟨_, _, rfl, hs, Or.inl ⟨rfl, rfl⟩⟩
  · cases h with
    | tup hs ha =>
      cases ha with
      | cons h1 h2 =>
        cases h2 with
        | cons h3 h4 =>
          cases h4 with
          | cons h5 h6 =>
            cases h6
            cases h1
            cases h3
            cases h5
            exact ⟨_, _, rfl, hs, Or.inr ⟨n, z, rfl, rfl⟩⟩
def kindV (es : Ents) (p : List Str) : V := match valE es p with
  | none => .non
  | some d => if drawerB d = true then .str "drawer" else .str "file"
def spTreeM (K : PySem.W.Frag) (C : Addr) : Sp := fun vs H Q _ => ∃ h d es, vs = [.ref h] ∧ HsAt K C H h d es ∧ ∀ H' l kvs, Ex H H' → H' l = some (.dT kvs) → H l = none → RowE K H' kvs (plainE es) → Q (.ref l) H'
def spKindM (K : PySem.W.Frag) (C P1 P2 CP : Addr) : Sp := fun vs H Q E => ∃ h d es v, vs = [.ref h, v] ∧ HsAt K C H h d es ∧ TabG H P1 ∧ TabG H P2 ∧ PathOrX K H v (Refused H E CP) fun _ p => ∀ H', Ex H H' → Q (kindV es p) H'
def spThere (K : PySem.W.Frag) (C CN : Addr) : Sp := fun vs H Q E => ∃ h d es a p, vs = [.ref h, .ref a] ∧ HsAt K C H h d es ∧ PathX H a p ∧ (valE es p = none → Refused H E CN) ∧ (∀ x, valE es p = some x → ∀ H', Ex H H' → Q .non H')
def spAboveM (K : PySem.W.Frag) (C P1 P2 CD : Addr) : Sp := fun vs H Q E => ∃ h d es a p, vs = [.ref h, .ref a] ∧ HsAt K C H h d es ∧ TabG H P1 ∧ TabG H P2 ∧ PathX H a p ∧ goodPath p = true ∧ (p ≠ [] ∧ drawerAt es p.dropLast = false → Refused H E CD) ∧ (p = [] ∨ drawerAt es p.dropLast = true → ∀ H', Ex H H' → Q .non H')
def spPlace (K : PySem.W.Frag) (C P1 P2 CD CT : Addr) : Sp := fun vs H Q E => ∃ h d es a p, vs = [.ref h, .ref a] ∧ HsAt K C H h d es ∧ TabG H P1 ∧ TabG H P2 ∧ PathX H a p ∧ goodPath p = true ∧
  (p ≠ [] ∧ drawerAt es p.dropLast = false → Refused H E CD) ∧ (p = [] ∨ drawerAt es p.dropLast = true → (∀ x, valE es p = some x → Refused H E CT) ∧ (valE es p = none → ∀ H', Ex H H' → Q .non H'))
def spNotRoot (CR : Addr) : Sp := fun vs H Q E => ∃ a p, vs = [.ref a] ∧ PathX H a p ∧ goodPath p = true ∧ (p = [] → Refused H E CR) ∧ (p ≠ [] → ∀ H', Ex H H' → Q .non H')
def spMoved : Sp := fun vs H Q _ => ∃ a b c p old new, vs = [.ref a, .ref b, .ref c] ∧ PathX H a p ∧ PathX H b old ∧ PathX H c new ∧ goodPath p = true ∧ goodPath old = true ∧ goodPath new = true ∧ ∀ H' r, Ex H H' → PathX H' r (movedP p old new) → Q (.ref r) H'
section
variable {P : Program} {w : World} {K : PySem.W.Frag} {mg : Str → Option Value} {base : Heap}
theorem scTreeM : FnScope ["self"] ["self"] (defScope mTree) := ⟨rfl, rfl, rfl, by decide +kernel, rfl, by decide +kernel, by decide +kernel⟩
theorem ok_treeM {f C fR : Addr} {fd fdR : FuncData} (F : Fun K "tree" "House.tree" mTree f fd) (T : HT K mg C)
    (GR : FnOk P w K mg base CX0 1 fR fdR ["tree"] (spRenum K)) (mR : mg "renumbered" = some (.ref fR)) (kR : PySem.W.keepIn K (.ref fR) = true) (bR : Binds K fdR ["tree"] []) : FnOk P w K mg base CX0 2 f fd ["self"] (spTreeM K C) := by
  refine F.ok scTreeM (fun vs H Q E h => ?_) (fun cdv A outer s H vs Q E hr h => ?_)
  · obtain ⟨h, d, es, rfl, _⟩ := h
    rfl
  · obtain ⟨h, d, es, rfl, g, k⟩ := h
    refine ⟨_, pss_one (ps_ret (pe_call (E := E0) GR hr (by rfl) mR kR bR .nil pass0 (pa_cons (pe_fld (pv 0) rfl) pa_nil))), ?_⟩
    obtain ⟨dx, ob⟩ := id g.ob
    have := g.len
    exact ⟨_, rfl, h, C, dx, _, _, rfl, ob, T.cl, T.nT, fl_get d, d, es, rfl, g.tr, g.nd, g.ren, by omega, k⟩
theorem scKindM : FnScope ["self", "path"] ["self", "path"] (defScope mKind) := ⟨rfl, rfl, rfl, by decide +kernel, rfl, by decide +kernel, by decide +kernel⟩
theorem ok_kindM {f C f3 P1 P2 CP : Addr} {fd fd3 : FuncData} (F : Fun K "kind" "House.kind" mKind f fd) (T : HT K mg C)
    (G3 : FnOk P w K mg base (L2.CX P w) 6 f3 fd3 ["thing"] (spCheck K P1 P2 CP)) (m3 : mg "check_path" = some (.ref f3)) (k3 : PySem.W.keepIn K (.ref f3) = true) (b3 : Binds K fd3 ["thing"] []) :
    FnOk P w K mg base (L2.CX P w) 7 f fd ["self", "path"] (spKindM K C P1 P2 CP) := by
  refine F.okX scKindM (fun vs H Q E h => ?_) (fun cdv A outer s H vs Q E hr h => ?_)
  · obtain ⟨h, d, es, v, rfl, _⟩ := h
    rfl
  · obtain ⟨h, d, es, v, rfl, g, hT1, hT2, hp⟩ := h
    have hu1 : (A.deeper (envOfC "House.kind" (defScope mKind) s.heap.objs.size f cdv)).units + 1 < cLine := by have := hr.units; omega
    refine ⟨_, pss_cons (ps_expr (pe_call (E := E) G3 hr (by rfl) m3 k3 b3 .nil (passes_call (takes_of rfl rfl rfl rfl) (fun _ _ _ _ h => h)) (pa_cons (pv 1) pa_nil)))
      (pss_one (ps_ret (pe_ifExp (pt_cmp (pc_din hu1 (pv 1) (pe_fld (pv 0) rfl))) (pe_ix (r := rIxT K) ix_tup (pe_dget hu1 (pe_fld (pv 0) rfl) (pv 1) (fun _ _ => rfl)) pe_int (fun _ _ => rfl)) pe_non))), ?_⟩
    rcases hp with ⟨pb, hbad⟩ | ⟨a, p, rfl, pa, gp, k⟩
    · exact ⟨_, rfl, v, false, rfl, pb, hT1, hT2, (fun z => nomatch z), fun _ => hbad⟩
    · refine ⟨_, rfl, .ref a, true, rfl, PathX.b (K := K) pa gp, hT1, hT2, fun _ H' x => ?_, fun z => nomatch z⟩
      have g' := g.ex x
      obtain ⟨dx, ob⟩ := id g'.ob
      obtain ⟨kvs, hd, row⟩ := id g'.dc
      have pa' := PathX.ex x pa
      refine ⟨_, rfl, _, rfl, h, C, dx, _, _, rfl, ob, T.cl, T.nT, fl_get d, d, _, rfl, get_tr (Or.inl hd) pa', _, rfl, ?_⟩
      have kk := k H' x
      unfold kindV at kk
      rcases row.val (p := p) with ⟨e1, e2⟩ | ⟨u, D, e1, e2, dv⟩
      · rw [e1]
        rw [e2] at kk
        exact iteF kk
      · rw [e1]
        rw [e2] at kk
        have dg : DGet H' d (.ref a) (some u) := by
          have := get_tr (Or.inl hd) pa'
          rwa [e1] at this
        obtain ⟨y, hy, _, ey⟩ := valE_mem e2
        have th := g.thing y hy
        rw [ey] at th
        obtain ⟨r, xs, rfl, hs, h1⟩ := dp_thing dv th
        rcases h1 with ⟨rfl, rfl⟩ | ⟨n, z, rfl, rfl⟩
        · exact iteT ⟨_, rfl, h, C, dx, _, _, rfl, ob, T.cl, T.nT, fl_get d, _, rfl, d, .ref r, rfl, dg, r, _, 0, .str "drawer", rfl, rfl, hs, rfl, kk⟩
        · exact iteT ⟨_, rfl, h, C, dx, _, _, rfl, ob, T.cl, T.nT, fl_get d, _, rfl, d, .ref r, rfl, dg, r, _, 0, .str "file", rfl, rfl, hs, rfl, kk⟩
theorem scThere : FnScope ["self", "path"] ["self", "path"] (defScope mThere) := ⟨rfl, rfl, rfl, by decide +kernel, rfl, by decide +kernel, by decide +kernel⟩
theorem ok_there {f C CN : Addr} {fd : FuncData} (F : Fun K "_check_there" "House._check_there" mThere f fd) (T : HT K mg C) (R : Ref K mg "NotThere" CN) :
    FnOk P w K mg base (L2.CX P w) 1 f fd ["self", "path"] (spThere K C CN) := by
  refine F.okX scThere (fun vs H Q E h => ?_) (fun cdv A outer s H vs Q E hr h => ?_)
  · obtain ⟨h, d, es, a, p, rfl, _⟩ := h
    rfl
  · obtain ⟨h, d, es, a, p, rfl, g, pa, k1, k2⟩ := h
    have hu1 : (A.deeper (envOfC "House._check_there" (defScope mThere) s.heap.objs.size f cdv)).units + 1 < cLine := by have := hr.units; omega
    refine ⟨_, pss_one (ps_if (pt_cmp (pc_dnotin hu1 (pv 1) (pe_fld (pv 0) rfl))) (pss_one (ps_raise rfl (takes_of rfl rfl rfl rfl) (pmk_own PySem.F.excBase_ValueError R.x R.g R.k (raises_own R.b R.t) rfl))) pss_nil), ?_⟩
    obtain ⟨dx, ob⟩ := id g.ob
    obtain ⟨kvs, hd, row⟩ := id g.dc
    refine ⟨_, rfl, _, rfl, h, C, dx, _, _, rfl, ob, T.cl, T.nT, fl_get d, d, _, rfl, get_tr (Or.inl hd) pa, _, rfl, ?_⟩
    rcases row.val (p := p) with ⟨e1, e2⟩ | ⟨u, D, e1, e2, dv⟩
    · rw [e1]
      exact iteT (k1 e2 H (Ex.refl H))
    · rw [e1]
      exact iteF (k2 _ e2 H (Ex.refl H))
end
/-! ### a house's field is set -/
theorem Fr.setH {H Ha : Hp} {h d C dx : Addr} {fs u : List (Str × V)} (x : Ex H Ha) (ho : Ha h = some (.ins C dx fs)) : Fr h d H (upd Ha h (.ins C dx u)) := by
  refine ⟨fun b o z1 _ e n => ?_, fun b t => ?_, fun b e => ?_⟩
  · rw [upd_ne z1]
    exact x.keep b o e n
  · obtain ⟨ps, e, q⟩ := x.tab _ t
    refine ⟨ps, ?_, q⟩
    rw [upd_ne (fun z => by rw [z, ho] at e; cases e)]
    exact e
  · have hb : b ≠ h := fun z => by rw [z, upd_same] at e; cases e
    rw [upd_ne hb] at e
    exact x.free b e
/-! ### a new house -/
def GoodAt (K : PySem.W.Frag) (H : Hp) (d : Addr) (es : Ents) : Prop := TrAt K H d es ∧ smallE es ∧ treeB es = true ∧ (es.map (·.1)).Nodup
theorem GoodAt.ex {K : PySem.W.Frag} {H H' : Hp} {d : Addr} {es : Ents} (x : Ex H H') (h : GoodAt K H d es) : GoodAt K H' d es := ⟨h.1.ex x, h.2⟩
theorem GoodAt.q {K : PySem.W.Frag} {H : Hp} {d : Addr} {es : Ents} (h : GoodAt K H d es) : TreeQ K H (.ref d) true := by
  have := TreeQ.dict h.1 h.2.1
  rwa [h.2.2.1] at this
theorem tree_renOk {d : PyData} (h : drawerB d = true ∨ fileB d = true) : renOk d := by
  rcases tree_form h with rfl | ⟨n, z, rfl, _, _⟩
  · exact Or.inr ⟨"drawer", [], rfl, by decide +kernel⟩
  · exact Or.inl ⟨n, z, rfl⟩
def spPlainX (K : PySem.W.Frag) (P1 P2 P3 P4 P5 CT : Addr) : Sp := fun vs H Q E => ∃ v, vs = [v] ∧ Tabs5 H P1 P2 P3 P4 P5 ∧
  ((TreeQ K H v false ∧ Refused H E CT) ∨ ∃ d es, v = .ref d ∧ GoodAt K H d es ∧ ∀ H' l kvs, Ex H H' → H' l = some (.dT kvs) → H l = none → RowE K H' kvs (plainE es) → Q (.ref l) H')
def rootE : Ents := [([], drD)]
theorem rootE_small : smallE rootE := by
  refine ⟨fun e he => ?_, by decide⟩
  rw [List.mem_singleton.mp he]
  refine ⟨(fun z hz => nomatch hz), ?_⟩
  have e2 : decide (("drawer" : Str).length ≤ sizeLine) = true := by decide +kernel
  simp [drD, smallD, smallAll, e2]
theorem rootE_ok : treeB rootE = true ∧ smallE rootE ∧ (rootE.map (·.1)).Nodup := ⟨by decide +kernel, rootE_small, by decide⟩
def spInit (K : PySem.W.Frag) (C P1 P2 P3 P4 P5 CT : Addr) : Sp := fun vs H Q E => ∃ x dx v, vs = [.ref x, v] ∧ H x = some (.ins C dx []) ∧ Tabs5 H P1 P2 P3 P4 P5 ∧
  ((TreeQ K H v false ∧ v ≠ .non ∧ Refused H E CT) ∨ (v = .non ∧ ∀ H' d, Fr x x H H' → H d = none → HsAt K C H' x d (plainE rootE) → Q .non H') ∨
    ∃ t es, v = .ref t ∧ GoodAt K H t es ∧ ∀ H' d, Fr x x H H' → H d = none → HsAt K C H' x d (plainE es) → Q .non H')
section
variable {P : Program} {w : World} {K : PySem.W.Frag} {mg : Str → Option Value} {base : Heap}
theorem scPlain : FnScope ["tree"] ["tree"] (defScope sPlain) := ⟨rfl, rfl, rfl, by decide +kernel, rfl, by decide +kernel, by decide +kernel⟩
theorem ok_plain {f fT fR P1 P2 P3 P4 P5 CT : Addr} {fd fdT fdR : FuncData} (F : Fun K "plain" "plain" sPlain f fd)
    (GT : FnOk P w K mg base (L2.CX P w) 10 fT fdT ["thing"] (spCheckTree K P1 P2 P3 P4 P5 CT)) (mT : mg "check_tree" = some (.ref fT)) (kT : PySem.W.keepIn K (.ref fT) = true) (bT : Binds K fdT ["thing"] [])
    (GR : FnOk P w K mg base CX0 1 fR fdR ["tree"] (spRenum K)) (mR : mg "renumbered" = some (.ref fR)) (kR : PySem.W.keepIn K (.ref fR) = true) (bR : Binds K fdR ["tree"] []) :
    FnOk P w K mg base (L2.CX P w) 11 f fd ["tree"] (spPlainX K P1 P2 P3 P4 P5 CT) := by
  refine F.okX scPlain (fun vs H Q E h => ?_) (fun cdv A outer s H vs Q E hr h => ?_)
  · obtain ⟨v, rfl, _⟩ := h
    rfl
  · obtain ⟨v, rfl, T, h⟩ := h
    have r1 := hr.mono (show 1 ≤ 10 by decide)
    refine ⟨_, pss_cons (ps_expr (pe_call (E := E) GT hr (by rfl) mT kT bT .nil (passes_call (takes_of rfl rfl rfl rfl) (fun _ _ _ _ h => h)) (pa_cons (pv 0) pa_nil)))
      (pss_one (ps_ret (pe_call (E := E0) GR r1 (by rfl) mR kR bR .nil pass0 (pa_cons (pv 0) pa_nil)))), ?_⟩
    rcases h with ⟨tq, hbad⟩ | ⟨d, es, rfl, g, k⟩
    · exact ⟨_, rfl, v, false, rfl, tq, T, (fun z => nomatch z), fun _ => hbad⟩
    · obtain ⟨h80, _, hth, _, _⟩ := treeB_parts g.2.2.1
      exact ⟨_, rfl, .ref d, true, rfl, g.q, T, fun _ H1 x1 => ⟨_, rfl, d, es, rfl, g.1.ex x1, g.2.2.2, (fun e he => tree_renOk (hth e he)), by omega, fun H' l kvs x hl hn row => k H' l kvs (x1.trans x) hl (x1.free _ hn) row⟩, fun z => nomatch z⟩
theorem scInit : FnScope ["self", "tree"] ["self", "tree"] (defScope mInit) := ⟨rfl, rfl, rfl, by decide +kernel, rfl, by decide +kernel, by decide +kernel⟩
theorem ok_init {f C fP P1 P2 P3 P4 P5 CT aD : Addr} {fd fdP : FuncData} (F : FunD K "__init__" "House.__init__" (defArgs mInit) (defBody mInit) (defScope mInit) [.non] [] f fd) (T : HT K mg C) (SD : Cst K mg "DRAWER" [.str "drawer"] aD)
    (GP : FnOk P w K mg base (L2.CX P w) 11 fP fdP ["tree"] (spPlainX K P1 P2 P3 P4 P5 CT)) (mP : mg "plain" = some (.ref fP)) (kP : PySem.W.keepIn K (.ref fP) = true) (bP : Binds K fdP ["tree"] []) :
    FnOk P w K mg base (L2.CX P w) 12 f fd ["self", "tree"] (spInit K C P1 P2 P3 P4 P5 CT) := by
  refine F.ok scInit (fun vs H Q E h => ?_) (fun cdv A outer s H vs Q E hr h => ?_)
  · obtain ⟨x, dx, v, rfl, _⟩ := h
    rfl
  · obtain ⟨x, dx, v, rfl, ob, TB, h⟩ := h
    have hu1 : (A.deeper (envOfC "House.__init__" (defScope mInit) s.heap.objs.size f cdv)).units + 1 < cLine := by have := hr.units; omega
    refine ⟨_, pss_one (ps_fld (pv 0) (pe_call (E := E) GP hr (by rfl) mP kP bP .nil (passes_call (takes_of rfl rfl rfl rfl) (fun _ _ _ _ h => h))
      (pa_cons (pe_ifExp (pt_cmpR op_isN (pv 1) pe_non (nomark _)) (pe_dispT hu1 (pps_cons (pe_tup pa_nil) (pe_glob (v := .ref aD) (by rfl) SD.g rfl) pps_nil) rfl rfl (by simp) (by decide)) (pv 1)) pa_nil)) rfl), ?_⟩
    -- what follows the plain tree
    have fin : ∀ {es : Ents} {H0 H1 : Hp} {l : Addr} {kvs : List (List L2.Key × V)}, treeB es = true → (es.map (·.1)).Nodup → Ex H H0 → Ex H0 H1 → H1 l = some (.dT kvs) → H0 l = none → RowE K H1 kvs (plainE es) →
        (∀ H' d, Fr x x H H' → H d = none → HsAt K C H' x d (plainE es) → Q .non H') → ∃ a C' dx' fs, V.ref x = V.ref a ∧ H1 a = some (HO.ins C' dx' fs) ∧ Cls K C' ∧ NoAttr K C' "_tree" ∧ fs.length < 1000 ∧ Q .non (upd H1 a (HO.ins C' dx' (putF "_tree" (V.ref l) fs))) := by
      intro es H0 H1 l kvs t nd x0 x1 el hl row kk
      have x01 := x0.trans x1
      have ob1 := x01.keep _ _ ob (fun ps z => by cases z)
      have hlx : l ≠ x := fun z => by
        have := x0.keep _ _ ob (fun ps z => by cases z)
        rw [z, this] at hl
        cases hl
      obtain ⟨t1, t2⟩ := plainE_tree t nd
      have mv := mv_upd (u := .ins C dx [("_tree", V.ref l)]) ob1 (fun q => q)
      refine ⟨x, C, dx, [], rfl, ob1, T.cl, T.nT, (by decide), ?_⟩
      rw [fl_new]
      exact kk _ l (Fr.setH x01 ob1) (x0.free _ hl) ⟨⟨dx, upd_same⟩, ⟨kvs, by rw [upd_ne hlx]; exact el, mv_row mv row⟩, plain_nd _ nd, t1, t2⟩
    rcases h with ⟨tq, hne, hbad⟩ | ⟨rfl, kk⟩ | ⟨t, es, rfl, g, kk⟩
    · refine ⟨_, rfl, rfl, _, rfl, ?_⟩
      rw [decide_eq_false hne]
      exact iteF ⟨_, rfl, v, rfl, TB, .inl ⟨tq, hbad⟩⟩
    · refine ⟨_, rfl, rfl, _, rfl, ?_⟩
      rw [decide_eq_true rfl]
      refine iteT fun a0 ha0 => ?_
      refine ⟨Nat.zero_le _, fun p0 hp0 => ?_⟩
      have d0 : (upd H a0 (.dT [])) a0 = some (.dT []) := upd_same
      have xe := Ex.new (o := .tup []) hp0
      have xa := (Ex.new (o := .dT []) ha0).trans xe
      have t1 : PathX (upd (upd H a0 (.dT [])) p0 (.tup [])) p0 [] := upd_same
      have d1 := xe.keep _ _ d0 (fun ps z => by cases z)
      generalize upd (upd H a0 (.dT [])) p0 (.tup []) = Hm at xa t1 d1 ⊢
      clear d0 xe hp0
      refine ⟨d1, [([], .ref aD)], .cons ⟨⟨p0, rfl, t1⟩, rfl⟩ .nil, (by show 1 ≤ 15; decide), ?_⟩
      have emt : mergeT [] [(([] : List L2.Key), V.ref aD)] = [([], .ref aD)] := rfl
      rw [emt]
      have xb : Ex H (upd Hm a0 (.dT [([], .ref aD)])) := (xa.trans (Ex.refl _)).put ha0
      have e0 : (upd Hm a0 (.dT [([], .ref aD)])) a0 = some (.dT [([], .ref aD)]) := upd_same
      generalize upd Hm a0 (.dT [([], .ref aD)]) = G0 at xb e0 ⊢
      have r0 : RowE K G0 [([], .ref aD)] rootE := .cons ⟨rfl, .tup (SD.t G0) (.cons (.str _) .nil)⟩ .nil
      obtain ⟨o1, o2, o3⟩ := rootE_ok
      exact ⟨.ref a0, rfl, TB.ex xb, .inr ⟨a0, rootE, rfl, ⟨⟨_, Or.inl e0, r0⟩, o2, o1, o3⟩, fun H' l kvs x' hl hn row => ⟨_, rfl, fin o1 o3 xb x' hl hn row kk⟩⟩⟩
    · refine ⟨_, rfl, rfl, _, rfl, ?_⟩
      rw [show decide (V.ref t = V.non) = false from decide_eq_false (fun e => by cases e)]
      exact iteF ⟨_, rfl, .ref t, rfl, TB, .inr ⟨t, es, rfl, g, fun H' l kvs x' hl hn row => ⟨_, rfl, fin g.2.2.1 g.2.2.2 (Ex.refl H) x' hl hn row kk⟩⟩⟩
end
/-! ### files of a house, read -/
def spFileAt (K : PySem.W.Frag) (C CN CI : Addr) : Sp := fun vs H Q E => ∃ h d es a p, vs = [.ref h, .ref a] ∧ HsAt K C H h d es ∧ PathX H a p ∧ (valE es p = none → Refused H E CN) ∧ (valE es p = some drD → Refused H E CI) ∧
  ∀ n z, valE es p = some (fileD n z) → ∀ H' r, Ex H H' → SqT K H' r [.str "file", .int n, .str z] → Q (.ref r) H'
def spReadM (K : PySem.W.Frag) (C P1 P2 CP CN CI : Addr) : Sp := fun vs H Q E => ∃ h d es v, vs = [.ref h, v] ∧ HsAt K C H h d es ∧ TabG H P1 ∧ TabG H P2 ∧ PathOrX K H v (Refused H E CP) fun _ p => (valE es p = none → Refused H E CN) ∧ (valE es p = some drD → Refused H E CI) ∧
  ∀ n z, valE es p = some (fileD n z) → ∀ H', Ex H H' → Q (.str z) H'
section
variable {P : Program} {w : World} {K : PySem.W.Frag} {mg : Str → Option Value} {base : Heap}
theorem scFileAt : FnScope ["self", "path"] ["self", "path"] (defScope mFileAt) := ⟨rfl, rfl, rfl, by decide +kernel, rfl, by decide +kernel, by decide +kernel⟩
theorem ok_fileAt {f C fT CN CI : Addr} {fd fdT : FuncData} (F : Fun K "_file_at" "House._file_at" mFileAt f fd) (T : HT K mg C) (R : Ref K mg "IsDrawer" CI)
    (mT : Meth K C "_check_there" fT) (GT : FnOk P w K mg base (L2.CX P w) 1 fT fdT ["self", "path"] (spThere K C CN)) (bT : Binds K fdT ["self", "path"] []) :
    FnOk P w K mg base (L2.CX P w) 2 f fd ["self", "path"] (spFileAt K C CN CI) := by
  refine F.okX scFileAt (fun vs H Q E h => ?_) (fun cdv A outer s H vs Q E hr h => ?_)
  · obtain ⟨h, d, es, a, p, rfl, _⟩ := h
    rfl
  · obtain ⟨h, d, es, a, p, rfl, g, pa, k1, k2, k3⟩ := h
    have hu1 : (A.deeper (envOfC "House._file_at" (defScope mFileAt) s.heap.objs.size f cdv)).units + 1 < cLine := by have := hr.units; omega
    refine ⟨_, pss_cons (ps_expr (pe_meth (E := E) (pv 0) T.cl mT GT hr bT .nil (passes_call (takes_of rfl rfl rfl rfl) (fun _ _ _ _ h => h)) (pa_cons (pv 1) pa_nil)))
      (pss_cons (ps_if (pt_cmpR op_eq (pe_ix (r := rIxT K) ix_tup (pe_dget hu1 (pe_fld (pv 0) rfl) (pv 1) (fun _ _ => rfl)) pe_int (fun _ _ => rfl)) pe_str (nomark _))
        (pss_one (ps_raise rfl (takes_of rfl rfl rfl rfl) (pmk_own PySem.F.excBase_ValueError R.x R.g R.k (raises_own R.b R.t) rfl))) pss_nil)
      (pss_one (ps_ret (pe_dget hu1 (pe_fld (pv 0) rfl) (pv 1) (fun _ _ => rfl))))), ?_⟩
    obtain ⟨dx, ob⟩ := id g.ob
    refine ⟨_, rfl, h, dx, _, rfl, ob, fl_no d (by decide +kernel), _, rfl, h, d, es, a, p, rfl, g, pa, k1, fun x hx H' x' => ?_⟩
    have g' := g.ex x'
    obtain ⟨dx', ob'⟩ := id g'.ob
    obtain ⟨kvs, hd, row⟩ := id g'.dc
    have pa' := PathX.ex x' pa
    rcases row.val (p := p) with ⟨e1, e2⟩ | ⟨u, D, e1, e2, dv⟩
    · rw [hx] at e2; cases e2
    have dg : DGet H' d (.ref a) (some u) := by
      have := get_tr (Or.inl hd) pa'
      rwa [e1] at this
    obtain ⟨y, hy, _, ey⟩ := valE_mem e2
    have th := g'.thing y hy
    rw [ey] at th
    obtain ⟨r, xs, rfl, hs, h1⟩ := dp_thing dv th
    rcases h1 with ⟨rfl, rfl⟩ | ⟨n, z, rfl, rfl⟩
    · refine ⟨_, rfl, h, C, dx', _, _, rfl, ob', T.cl, T.nT, fl_get d, _, rfl, d, .ref r, rfl, dg, r, _, 0, .str "drawer", rfl, rfl, hs, rfl, rfl, _, rfl, ?_⟩
      rw [show decide (V.str "drawer" = V.str "drawer") = true from decide_eq_true rfl]
      exact iteT (k2 e2 H' x')
    · refine ⟨_, rfl, h, C, dx', _, _, rfl, ob', T.cl, T.nT, fl_get d, _, rfl, d, .ref r, rfl, dg, r, _, 0, .str "file", rfl, rfl, hs, rfl, rfl, _, rfl, ?_⟩
      rw [show decide (V.str "file" = V.str "drawer") = false by decide +kernel]
      exact iteF ⟨_, rfl, h, C, dx', _, _, rfl, ob', T.cl, T.nT, fl_get d, _, rfl, d, .ref r, rfl, dg, k3 n z e2 H' r x' hs⟩
theorem scReadM : FnScope ["self", "path"] ["self", "path"] (defScope mRead) := ⟨rfl, rfl, rfl, by decide +kernel, rfl, by decide +kernel, by decide +kernel⟩
theorem ok_readM {f C f3 fF P1 P2 CP CN CI : Addr} {fd fd3 fdF : FuncData} (F : Fun K "read" "House.read" mRead f fd) (T : HT K mg C)
    (G3 : FnOk P w K mg base (L2.CX P w) 6 f3 fd3 ["thing"] (spCheck K P1 P2 CP)) (m3 : mg "check_path" = some (.ref f3)) (k3 : PySem.W.keepIn K (.ref f3) = true) (b3 : Binds K fd3 ["thing"] [])
    (mF : Meth K C "_file_at" fF) (GF : FnOk P w K mg base (L2.CX P w) 2 fF fdF ["self", "path"] (spFileAt K C CN CI)) (bF : Binds K fdF ["self", "path"] []) :
    FnOk P w K mg base (L2.CX P w) 7 f fd ["self", "path"] (spReadM K C P1 P2 CP CN CI) := by
  refine F.okX scReadM (fun vs H Q E h => ?_) (fun cdv A outer s H vs Q E hr h => ?_)
  · obtain ⟨h, d, es, v, rfl, _⟩ := h
    rfl
  · obtain ⟨h, d, es, v, rfl, g, hT1, hT2, hp⟩ := h
    have r2 := hr.mono (show 2 ≤ 6 by decide)
    refine ⟨_, pss_cons (ps_expr (pe_call (E := E) G3 hr (by rfl) m3 k3 b3 .nil (passes_call (takes_of rfl rfl rfl rfl) (fun _ _ _ _ h => h)) (pa_cons (pv 1) pa_nil)))
      (pss_one (ps_ret (pe_ix (r := rIxT K) ix_tup (pe_meth (E := E) (pv 0) T.cl mF GF r2 bF .nil (passes_call (takes_of rfl rfl rfl rfl) (fun _ _ _ _ h => h)) (pa_cons (pv 1) pa_nil)) pe_int (fun _ _ => rfl)))), ?_⟩
    rcases hp with ⟨pb, hbad⟩ | ⟨a, p, rfl, pa, gp, k1, k2, k3'⟩
    · exact ⟨_, rfl, v, false, rfl, pb, hT1, hT2, (fun z => nomatch z), fun _ => hbad⟩
    · refine ⟨_, rfl, .ref a, true, rfl, PathX.b (K := K) pa gp, hT1, hT2, fun _ H1 x1 => ?_, fun z => nomatch z⟩
      have g1 := g.ex x1
      obtain ⟨dx1, ob1⟩ := id g1.ob
      refine ⟨_, rfl, h, dx1, _, rfl, ob1, fl_no d (by decide +kernel), _, rfl, h, d, es, a, p, rfl, g1, PathX.ex x1 pa, fun e H' x' => k1 e H' (x1.trans x'), fun e H' x' => k2 e H' (x1.trans x'), fun n z e H2 r x2 hs => ?_⟩
      exact ⟨r, _, 2, .str z, rfl, rfl, hs, rfl, k3' n z e H2 (x1.trans x2)⟩
end
end LK

namespace LK
open PySem PySem.Spec PyProof.Rows L2 GA LT LE L2H LD
/-! ### mounts -/
theorem smallE_treeM {es : Ents} (h : treeB es = true) : smallE es := by
  obtain ⟨h80, gp, th, _, _⟩ := treeB_parts h
  refine ⟨fun e he => ⟨fun z hz => goodPath_small (gp e he) z hz, ?_⟩, by omega⟩
  rcases tree_form (th e he) with h | ⟨n, z, h, _, h2⟩
  · rw [h]
    decide +kernel
  · rw [h]
    have hz : z.length ≤ 40 := by
      unfold textB at h2
      rw [Bool.and_eq_true] at h2
      exact of_decide_eq_true h2.1
    have e1 : decide (z.length ≤ sizeLine) = true := decide_eq_true (by rw [sizeLine_eq]; omega)
    have e2 : decide (("file" : Str).length ≤ sizeLine) = true := by decide +kernel
    simp [smallD, smallAll, e1, e2]
structure Mw where
  b : Addr
  t : Addr
  kp : Bool
  e : Addr
  f : Int
  o : Addr
  r : Addr
  h : Int
  s : Int
  pw : V
  dk : Bool
  sl : V
def Mw.fl (x : Mw) : List (Str × V) := [("_below", .ref x.b), ("_base", .ref x.t), ("_keep", .bl x.kp), ("_entries", .ref x.e), ("_files", .int x.f), ("_torn", .ref x.o), ("_readers", .ref x.r), ("_handles", .int x.h), ("_steps", .int x.s), ("_power", x.pw), ("_dark", .bl x.dk), ("_sealed", x.sl)]
structure MT (K : PySem.W.Frag) (mg : Str → Option Value) (C : Addr) : Prop where
  cl : Cls K C
  nb : NoAttr K C "_below"
  nt : NoAttr K C "_base"
  nk : NoAttr K C "_keep"
  ne : NoAttr K C "_entries"
  nf : NoAttr K C "_files"
  no : NoAttr K C "_torn"
  nr : NoAttr K C "_readers"
  nh : NoAttr K C "_handles"
  ns : NoAttr K C "_steps"
  np : NoAttr K C "_power"
  nd : NoAttr K C "_dark"
  nl : NoAttr K C "_sealed"
  gC : mg "Mount" = some (.ref C)
structure RT (K : PySem.W.Frag) (mg : Str → Option Value) (C : Addr) : Prop where
  cl : Cls K C
  nn : NoAttr K C "number"
  nt : NoAttr K C "text"
  nu : NoAttr K C "is_upper"
  nl : NoAttr K C "stale"
  gC : mg "Reader" = some (.ref C)
structure Rw where
  n : Int
  z : Str
  u : Bool
  st : Bool
def Rw.fl (x : Rw) : List (Str × V) := [("number", .int x.n), ("text", .str x.z), ("is_upper", .bl x.u), ("stale", .bl x.st)]
def RdAt (CR : Addr) (H : Hp) (v : V) (d : Rw) : Prop := ∃ a dx, v = .ref a ∧ H a = some (.ins CR dx d.fl)
def RdsAt (CR : Addr) (H : Hp) (r : Addr) (rs : List (Int × Rw)) : Prop := ∃ kvs : List (L2.Key × V), H r = some (.dK kvs) ∧ Paired (fun kv e => kv.1 = Sum.inl e.1 ∧ RdAt CR H kv.2 e.2) kvs rs
def LyAt (K : PySem.W.Frag) (H : Hp) (d : Addr) (es : Ents) : Prop := TrAt K H d es ∧ smallE es ∧ layerB es = true ∧ (es.map (·.1)).Nodup
def TrIn (K : PySem.W.Frag) (H : Hp) (d : Addr) (es : Ents) : Prop := TrAt K H d es ∧ treeB es = true ∧ (es.map (·.1)).Nodup
theorem LyAt.tr {K : PySem.W.Frag} {H : Hp} {d : Addr} {es : Ents} (h : LyAt K H d es) : TrAt K H d es := h.1
theorem TrIn.tr {K : PySem.W.Frag} {H : Hp} {d : Addr} {es : Ents} (h : TrIn K H d es) : TrAt K H d es := h.1
/-- what a dict of entries wants to stay as it is -/
def dictO : HO → Prop
  | .dT _ => True
  | .frz _ (.dT _) => True
  | _ => False
theorem TrAt.kp {K : PySem.W.Frag} {H H' : Hp} {d : Addr} {es : Ents} (x : ∀ b o, H b = some o → dictO o → H' b = some o) (y : ∀ b v, H b = some v → seqO v → H' b = some v) (h : TrAt K H d es) : TrAt K H' d es := by
  obtain ⟨k, e | ⟨o, e⟩, r⟩ := h
  · exact ⟨k, Or.inl (x _ _ e trivial), mv_row y r⟩
  · exact ⟨k, Or.inr ⟨o, x _ _ e trivial⟩, mv_row y r⟩
theorem LyAt.kp {K : PySem.W.Frag} {H H' : Hp} {d : Addr} {es : Ents} (x : ∀ b o, H b = some o → dictO o → H' b = some o) (y : ∀ b v, H b = some v → seqO v → H' b = some v) (h : LyAt K H d es) : LyAt K H' d es := ⟨TrAt.kp x y h.1, h.2⟩
theorem TrIn.kp {K : PySem.W.Frag} {H H' : Hp} {d : Addr} {es : Ents} (x : ∀ b o, H b = some o → dictO o → H' b = some o) (y : ∀ b v, H b = some v → seqO v → H' b = some v) (h : TrIn K H d es) : TrIn K H' d es := ⟨TrAt.kp x y h.1, h.2⟩
structure MoAt (K : PySem.W.Frag) (C CR : Addr) (H : Hp) (m : Addr) (w : Mw) (lss : List Ents) (bs es : Ents) (rs : List (Int × Rw)) : Prop where
  ob : ∃ dx, H m = some (.ins C dx w.fl)
  below : ∃ ds : List Addr, H w.b = some (.lst (ds.map V.ref)) ∧ Paired (fun d ls => LyAt K H d ls) ds lss
  many : 1 ≤ lss.length ∧ lss.length ≤ 4
  base : TrIn K H w.t bs
  ent : LyAt K H w.e es
  et : w.e ≠ w.t
  tree : treeB (plainE (overE es bs)) = true
  rds : RdsAt CR H w.r rs
  fresh : ∀ e ∈ rs, e.1 < w.h
theorem MoAt.ex {K : PySem.W.Frag} {C CR : Addr} {H H' : Hp} {m : Addr} {w : Mw} {lss : List Ents} {bs es : Ents} {rs : List (Int × Rw)} (x : Ex H H') (g : MoAt K C CR H m w lss bs es rs) : MoAt K C CR H' m w lss bs es rs := by
  obtain ⟨⟨dx, ob⟩, ⟨ds, hb, pd⟩, mn, bs, en, et, tr, ⟨kvs, hr, pr⟩, fr⟩ := g
  have kd : ∀ (b : Addr) (o : HO), H b = some o → dictO o → H' b = some o := fun b o e q => x.keep _ _ e (fun ps z => by rw [z] at q; exact q)
  have kt : ∀ (b : Addr) (v : HO), H b = some v → seqO v → H' b = some v := fun b v e q => x.keep _ _ e (fun ps z => by rw [z] at q; exact q)
  exact ⟨⟨dx, x.keep _ _ ob (fun ps z => by cases z)⟩, ⟨ds, x.keep _ _ hb (fun ps z => by cases z), pairImp (fun _ _ q => q.kp kd kt) pd⟩, mn, bs.kp kd kt, en.kp kd kt, et, tr, ⟨kvs, x.keep _ _ hr (fun ps z => by cases z), pairImp (fun _ _ q => ⟨q.1, by
    obtain ⟨a, dx, e1, e2⟩ := q.2
    exact ⟨a, dx, e1, x.keep _ _ e2 (fun ps z => by cases z)⟩⟩) pr⟩, fr⟩
theorem shows_nd {es bs : Ents} (ne : (es.map (·.1)).Nodup) (nb : (bs.map (·.1)).Nodup) : ((plainE (overE es bs)).map (·.1)).Nodup := by
  rw [plainE_keys]
  exact (keysUpE_perm _).nodup_iff.mpr (overE_nd ne nb)
theorem over_things {es bs : Ents} (lay : layerB es = true) (t : treeB bs = true) : ∀ e ∈ overE es bs, renOk e.2 := overE_ren (layerB_parts lay).2.2.1 fun e he => by
  rcases tree_form ((treeB_parts t).2.2.1 e he) with h | ⟨n, z, h, _, _⟩
  · exact Or.inl h
  · exact Or.inr ⟨n, z, h⟩
theorem shows_idem {es bs : Ents} (lay : layerB es = true) (t : treeB bs = true) (ne : (es.map (·.1)).Nodup) (nb : (bs.map (·.1)).Nodup) (h : treeB (plainE (overE es bs)) = true) : plainE (plainE (overE es bs)) = plainE (overE es bs) := by
  have nd := overE_nd ne nb
  have th := over_things lay t
  refine plainE_pic (shows_nd ne nb) nd (fun e he => ?_) th (pic_plain nd th)
  rcases tree_form ((treeB_parts h).2.2.1 e he) with h | ⟨n, z, h, _, _⟩
  · exact thing_ren (Or.inl h)
  · exact thing_ren (Or.inr ⟨n, z, h⟩)
theorem shows_len {es bs : Ents} (h : treeB (plainE (overE es bs)) = true) : (overE es bs).length ≤ 80 := by
  have := (treeB_parts h).1
  rwa [plainE_len] at this
def spLight (K : PySem.W.Frag) (C CD : Addr) : Sp := fun vs H Q E => ∃ m dx w, vs = [.ref m] ∧ H m = some (.ins C dx (Mw.fl w)) ∧ (w.dk = true → Refused H E CD) ∧ (w.dk = false → Q .non H)
def spHouseM (K : PySem.W.Frag) (C CR CH CD P1 P2 P3 P4 P5 P7 : Addr) : Sp := fun vs H Q E => ∃ m w lss bs es rs, vs = [.ref m] ∧ MoAt K C CR H m w lss bs es rs ∧ Tabs5 H P1 P2 P3 P4 P5 ∧ TabG H P7 ∧ (w.dk = true → Refused H E CD) ∧
  (w.dk = false → ∀ H' hh d, Ex H H' → H hh = none → HsAt K CH H' hh d (plainE (overE es bs)) → Q (.ref hh) H')
section
variable {P : Program} {w : World} {K : PySem.W.Frag} {mg : Str → Option Value} {base : Heap}
theorem scLight : FnScope ["self"] ["self"] (defScope uCheckLight) := ⟨rfl, rfl, rfl, by decide +kernel, rfl, by decide +kernel, by decide +kernel⟩
theorem ok_light {f C CD : Addr} {fd : FuncData} (F : Fun K "_check_light" "Mount._check_light" uCheckLight f fd) (T : MT K mg C) (R : Ref K mg "Dark" CD) : FnOk P w K mg base (L2.CX P w) 1 f fd ["self"] (spLight K C CD) := by
  refine F.okX scLight (fun vs H Q E h => ?_) (fun cdv A outer s H vs Q E hr h => ?_)
  · obtain ⟨m, dx, w, rfl, _⟩ := h
    rfl
  · obtain ⟨m, dx, w, rfl, ob, k1, k2⟩ := h
    refine ⟨_, pss_one (ps_if (pt_val (pe_fld (pv 0) rfl)) (pss_one (ps_raise rfl (takes_of rfl rfl rfl rfl) (pmk_own PySem.F.excBase_ValueError R.x R.g R.k (raises_own R.b R.t) rfl))) pss_nil), ?_⟩
    refine ⟨_, rfl, m, C, dx, _, _, rfl, ob, T.cl, T.nd, rfl, ?_⟩
    cases hd : w.dk with
    | true => exact ⟨true, rfl, iteT (k1 hd H (Ex.refl H))⟩
    | false => exact ⟨false, rfl, iteF (k2 hd)⟩
theorem scHouseM : FnScope ["self"] ["self"] (defScope uHouse) := ⟨rfl, rfl, rfl, by decide +kernel, rfl, by decide +kernel, by decide +kernel⟩
theorem ok_houseM {f C CR CH CD CT fL fO fI P1 P2 P3 P4 P5 P7 : Addr} {fd fdL fdO fdI : FuncData} (F : Fun K "_house" "Mount._house" uHouse f fd) (T : MT K mg C) (TH : HT K mg CH) (MK : Mk K CH fI)
    (mL : Meth K C "_check_light" fL) (GL : FnOk P w K mg base (L2.CX P w) 1 fL fdL ["self"] (spLight K C CD)) (bL : Binds K fdL ["self"] [])
    (GO : FnOk P w K mg base CX0 9 fO fdO ["layer", "tree"] (spLaidOver K P1 P2 P7)) (mO : mg "laid_over" = some (.ref fO)) (kO : PySem.W.keepIn K (.ref fO) = true) (bO : Binds K fdO ["layer", "tree"] [])
    (GI : FnOk P w K mg base (L2.CX P w) 12 fI fdI ["self", "tree"] (spInit K CH P1 P2 P3 P4 P5 CT)) (bI : Binds K fdI ["self", "tree"] []) :
    FnOk P w K mg base (L2.CX P w) 14 f fd ["self"] (spHouseM K C CR CH CD P1 P2 P3 P4 P5 P7) := by
  refine F.okX scHouseM (fun vs H Q E h => ?_) (fun cdv A outer s H vs Q E hr h => ?_)
  · obtain ⟨m, w, lss, bs, es, rs, rfl, _⟩ := h
    rfl
  · obtain ⟨m, w, lss, bs, es, rs, rfl, g, TB, t7, k1, k2⟩ := h
    have r9 := hr.mono (show 9 ≤ 13 by decide)
    have r1 := hr.mono (show 1 ≤ 13 by decide)
    refine ⟨_, pss_cons (ps_expr (pe_meth0 (E := E) (pv 0) T.cl mL GL r1 bL .nil (passes_call (takes_of rfl rfl rfl rfl) (fun _ _ _ _ h => h))))
      (pss_one (ps_ret (pe_make (E := E) MK GI hr (by rfl) TH.gC bI .nil (passes_call (takes_of rfl rfl rfl rfl) (fun _ _ _ _ h => h)) (pa_cons (pe_call (E := E0) GO r9 (by rfl) mO kO bO .nil pass0 (pa_cons (pe_fld (pv 0) rfl) (pa_cons (pe_fld (pv 0) rfl) pa_nil))) pa_nil)))), ?_⟩
    obtain ⟨dx, ob⟩ := id g.ob
    refine ⟨_, rfl, m, dx, _, rfl, ob, rfl, m, dx, w, rfl, ob, k1, fun hd => ?_⟩
    have th : ∀ e ∈ bs, goodPath e.1 = true ∧ thingD e.2 := fun e he => ⟨(treeB_parts g.base.2.1).2.1 e he, by
      rcases tree_form ((treeB_parts g.base.2.1).2.2.1 e he) with h | ⟨n, z, h, _, _⟩
      · exact Or.inl h
      · exact Or.inr ⟨n, z, h⟩⟩
    have lb := (treeB_parts g.base.2.1).1
    refine ⟨_, rfl, m, C, dx, _, _, rfl, ob, T.cl, T.ne, rfl, _, rfl, m, C, dx, _, _, rfl, ob, T.cl, T.nt, rfl, w.e, w.t, es, bs, rfl, g.et, g.ent.tr, g.ent.2.2.1, g.ent.2.2.2, g.base.tr, g.base.2.2, th, by omega, TB.t1, TB.t2, t7, fun H1 l kvs x1 el hl rl => ?_⟩
    intro hh dx2 hhn hdn hne
    have nd := shows_nd g.ent.2.2.2 g.base.2.2
    have xe1 := Ex.new (o := .own hh) hdn
    have xe := xe1.trans (Ex.new (o := .ins CH dx2 []) (show upd H1 dx2 (.own hh) hh = none by rw [upd_ne (Ne.symm hne)]; exact hhn))
    have eob : (upd (upd H1 dx2 (.own hh)) hh (.ins CH dx2 [])) hh = some (.ins CH dx2 []) := upd_same
    generalize upd (upd H1 dx2 (.own hh)) hh (.ins CH dx2 []) = Hx at xe eob ⊢
    have tl : TrAt K Hx l (plainE (overE es bs)) := TrAt.ex xe ⟨kvs, Or.inl el, rl⟩
    refine ⟨hh, dx2, .ref l, rfl, eob, (TB.ex x1).ex xe, .inr (.inr ⟨l, _, rfl, ⟨tl, smallE_treeM g.tree, g.tree, nd⟩, fun H4 d fr hdn4 g4 => ⟨rfl, ?_⟩⟩)⟩
    have x4 : Ex H1 H4 := ⟨fun b o e n => fr.keep b o (fun z => by rw [z, hhn] at e; cases e) (fun z => by rw [z, hhn] at e; cases e) (xe.keep b o e n) n, fun b q => fr.tab b (xe.tab b q), fun b e => xe.free b (fr.free b e)⟩
    rw [shows_idem g.ent.2.2.1 g.base.2.1 g.ent.2.2.2 g.base.2.2 g.tree] at g4
    exact k2 hd H4 hh d (x1.trans x4) (x1.free _ hhn) g4
end
end LK

namespace LK
open PySem PySem.Spec PyProof.Rows L2 GA LT LE L2H LD
/-! ### readers, opened and asked -/
def lkR (rs : List (Int × Rw)) (i : Int) : Option Rw := (rs.find? fun e => decide (e.1 = i)).map (·.2)
theorem rds_val {CR : Addr} {H : Hp} {i : Int} : ∀ {kvs : List (L2.Key × V)} {rs : List (Int × Rw)}, Paired (fun kv e => kv.1 = Sum.inl e.1 ∧ RdAt CR H kv.2 e.2) kvs rs →
    (lkR rs i = none ∧ valV kvs (Sum.inl i : L2.Key) = none) ∨ ∃ d v, lkR rs i = some d ∧ valV kvs (Sum.inl i : L2.Key) = some v ∧ RdAt CR H v d
  | _, _, .nil => Or.inl ⟨rfl, rfl⟩
  | kv :: kvs, e :: rs, .cons h t => by
    unfold lkR valV
    rw [List.find?_cons, List.find?_cons]
    by_cases z : e.1 = i
    · rw [decide_eq_true z, decide_eq_true (show kv.1 = Sum.inl i by rw [h.1, z])]
      exact Or.inr ⟨e.2, kv.2, rfl, rfl, h.2⟩
    · rw [decide_eq_false z, decide_eq_false (show ¬ kv.1 = Sum.inl i from fun y => z (by rw [h.1] at y; exact Sum.inl.inj y))]
      exact rds_val t
theorem lkR_new {rs : List (Int × Rw)} {i : Int} (h : ∀ e ∈ rs, e.1 < i) : lkR rs i = none := by
  unfold lkR
  rw [List.find?_eq_none.mpr fun e he => by have := h e he; simp; omega]
  rfl
theorem rds_put {CR : Addr} {H : Hp} {kvs : List (L2.Key × V)} {rs : List (Int × Rw)} {i : Int} {v : V} (p : Paired (fun kv e => kv.1 = Sum.inl e.1 ∧ RdAt CR H kv.2 e.2) kvs rs) (n : lkR rs i = none) : putK kvs (Sum.inl i : L2.Key) v = kvs ++ [(Sum.inl i, v)] := by
  have hn : valV kvs (Sum.inl i : L2.Key) = none := by
    rcases rds_val (i := i) p with ⟨_, h⟩ | ⟨d, v, h, _⟩
    · exact h
    · rw [n] at h; cases h
  unfold putK
  rw [if_neg]
  intro z
  unfold valV at hn
  rw [Option.map_eq_none_iff, List.find?_eq_none] at hn
  obtain ⟨x, hx, y⟩ := List.any_eq_true.mp z
  exact hn x hx y
theorem rds_drop {CR : Addr} {H : Hp} {i : Int} : ∀ {kvs : List (L2.Key × V)} {rs : List (Int × Rw)}, Paired (fun kv e => kv.1 = Sum.inl e.1 ∧ RdAt CR H kv.2 e.2) kvs rs →
    Paired (fun kv e => kv.1 = Sum.inl e.1 ∧ RdAt CR H kv.2 e.2) (dropK kvs (Sum.inl i : L2.Key)) (rs.filter fun e => decide (e.1 ≠ i))
  | _, _, .nil => .nil
  | kv :: kvs, e :: rs, .cons h t => by
    unfold dropK
    rw [List.filter_cons, List.filter_cons]
    by_cases z : e.1 = i
    · rw [decide_eq_false (show ¬ e.1 ≠ i from fun y => y z), decide_eq_false (show ¬ kv.1 ≠ Sum.inl i from fun y => y (by rw [h.1, z]))]
      exact rds_drop t
    · rw [decide_eq_true (show e.1 ≠ i from z), decide_eq_true (show kv.1 ≠ Sum.inl i from fun y => z (by rw [h.1] at y; exact Sum.inl.inj y))]
      exact .cons h (rds_drop t)
/-- what stays when the mount's fields and its readers change -/
theorem MoAt.frd {K : PySem.W.Frag} {C CR : Addr} {H H' : Hp} {m : Addr} {w w' : Mw} {lss : List Ents} {bs es : Ents} {rs rs' : List (Int × Rw)} (g : MoAt K C CR H m w lss bs es rs)
    (fr : Fr m w.r H H') (ob : ∃ dx, H' m = some (.ins C dx w'.fl)) (e1 : w'.b = w.b) (e2 : w'.t = w.t) (e3 : w'.e = w.e) (rd : RdsAt CR H' w'.r rs') (fs : ∀ e ∈ rs', e.1 < w'.h) : MoAt K C CR H' m w' lss bs es rs' := by
  obtain ⟨⟨dx, ob0⟩, ⟨ds, hb, pd⟩, mn, bs0, en, et, tr, ⟨kvs, hr, pr⟩, _⟩ := g
  have kd : ∀ (b : Addr) (o : HO), H b = some o → dictO o → H' b = some o := fun b o e q => fr.keep b _ (fun z => by rw [z, ob0] at e; cases e; exact q) (fun z => by rw [z, hr] at e; cases e; exact q) e (fun ps z => by rw [z] at q; exact q)
  have kt : ∀ (b : Addr) (v : HO), H b = some v → seqO v → H' b = some v := fun b v e q => fr.keep b _ (fun z => by rw [z, ob0] at e; cases e; exact q) (fun z => by rw [z, hr] at e; cases e; exact q) e (fun ps z => by rw [z] at q; exact q)
  refine ⟨ob, ?_, mn, ?_, ?_, ?_, tr, rd, fs⟩
  · rw [e1]
    exact ⟨ds, kt _ _ hb trivial, pairImp (fun _ _ q => q.kp kd kt) pd⟩
  · rw [e2]
    exact bs0.kp kd kt
  · rw [e3]
    exact en.kp kd kt
  · rw [e2, e3]
    exact et
def spRInit (CR : Addr) : Sp := fun vs H Q _ => ∃ (x dx : Addr) (d : Rw), vs = [.ref x, .int d.n, .str d.z, .bl d.u, .bl d.st] ∧ H x = some (.ins CR dx []) ∧ ∀ H', H' x = some (.ins CR dx d.fl) → (∀ b, b ≠ x → H' b = H b) → Q .non H'
def spOpened (K : PySem.W.Frag) (C CR CD CP CN CI P1 P2 P3 P4 P5 P7 : Addr) : Sp := fun vs H Q E => ∃ m w lss bs es rs v, vs = [.ref m, v] ∧ MoAt K C CR H m w lss bs es rs ∧ Tabs5 H P1 P2 P3 P4 P5 ∧ TabG H P7 ∧ rs.length < 1000 ∧ (w.dk = true → Refused H E CD) ∧
  (w.dk = false → PathOrX K H v (Refused H E CP) fun _ p => (valE (plainE (overE es bs)) p = none → Refused H E CN) ∧ (valE (plainE (overE es bs)) p = some drD → Refused H E CI) ∧
    ∀ n z, valE (plainE (overE es bs)) p = some (fileD n z) → ∃ n' z' u, ((valE es p = some (fileD n' z') ∧ u = true) ∨ (valE es p = none ∧ valE bs p = some (fileD n' z') ∧ u = false)) ∧
      ∀ H', Fr m w.r H H' → MoAt K C CR H' m { w with h := w.h + 1 } lss bs es (rs ++ [(w.h, ⟨n', z, u, false⟩)]) → Q (.int w.h) H')
/-- is the thing a handle of them? -/
def hdlB (rs : List (Int × Rw)) : V → Option Rw
  | .int i => lkR rs i
  | _ => none
def spReaderM (K : PySem.W.Frag) (C CR CD CH : Addr) : Sp := fun vs H Q E => ∃ m w lss bs es rs v nm, vs = [.ref m, v] ∧ MoAt K C CR H m w lss bs es rs ∧ Kn K H v nm ∧ (w.dk = true → Refused H E CD) ∧
  (w.dk = false → (hdlB rs v = none → Refused H E CH) ∧ ∀ d a, hdlB rs v = some d → RdAt CR H (.ref a) d → Q (.ref a) H)
section
variable {P : Program} {w : World} {K : PySem.W.Frag} {mg : Str → Option Value} {base : Heap}
theorem scRInit : FnScope ["self", "number", "text", "is_upper", "stale"] ["self", "number", "text", "is_upper", "stale"] (defScope rInit) := ⟨rfl, rfl, rfl, by decide +kernel, rfl, by decide +kernel, by decide +kernel⟩
theorem ok_rInit {f C : Addr} {fd : FuncData} (F : FunD K "__init__" "Reader.__init__" (defArgs rInit) (defBody rInit) (defScope rInit) [.bl false] [] f fd) (T : RT K mg C) : FnOk P w K mg base CX0 1 f fd ["self", "number", "text", "is_upper", "stale"] (spRInit C) := by
  refine F.ok scRInit (fun vs H Q E h => ?_) (fun cdv A outer s H vs Q E hr h => ?_)
  · obtain ⟨x, dx, d, rfl, _⟩ := h
    rfl
  · obtain ⟨x, dx, d, rfl, ob, k⟩ := h
    refine ⟨_, pss_cons (ps_fld (pv 0) (pv 1) rfl) (pss_cons (ps_fld (pv 0) (pv 2) rfl) (pss_cons (ps_fld (pv 0) (pv 3) rfl) (pss_one (ps_fld (pv 0) (pv 4) rfl)))), ?_⟩
    refine ⟨_, rfl, _, rfl, x, C, dx, [], rfl, ob, T.cl, T.nn, (by decide), _, rfl, _, rfl, x, C, dx, _, rfl, upd_same, T.cl, T.nt, (by show 1 < 1000; decide), _, rfl, _, rfl, x, C, dx, _, rfl, upd_same, T.cl, T.nu, (by show 2 < 1000; decide), _, rfl, _, rfl, x, C, dx, _, rfl, upd_same, T.cl, T.nl, (by show 3 < 1000; decide), ?_⟩
    refine k _ upd_same fun b hb => ?_
    rw [upd_ne hb, upd_ne hb, upd_ne hb, upd_ne hb]
theorem scOpened : FnScope ["self", "path", "house", "text", "is_upper", "thing", "handle"] ["self", "path"] (defScope uOpened) := ⟨rfl, rfl, rfl, by decide +kernel, rfl, by decide +kernel, by decide +kernel⟩
theorem ok_opened {f C CR CH CD CP CN CI fH fR fI P1 P2 P3 P4 P5 P7 : Addr} {fd fdH fdR fdI : FuncData} {dv : List Value} (F : Fun K "opened" "Mount.opened" uOpened f fd) (T : MT K mg C) (TH : HT K mg CH) (TR : RT K mg CR) (MK : Mk K CR fI)
    (mH : Meth K C "_house" fH) (GH : FnOk P w K mg base (L2.CX P w) 14 fH fdH ["self"] (spHouseM K C CR CH CD P1 P2 P3 P4 P5 P7)) (bH : Binds K fdH ["self"] [])
    (mR : Meth K CH "read" fR) (GR : FnOk P w K mg base (L2.CX P w) 7 fR fdR ["self", "path"] (spReadM K CH P1 P2 CP CN CI)) (bR : Binds K fdR ["self", "path"] [])
    (GI : FnOk P w K mg base CX0 1 fI fdI ["self", "number", "text", "is_upper", "stale"] (spRInit CR)) (bI : Binds K fdI ["self", "number", "text", "is_upper", "stale"] dv) (vI : Vals [.bl false] dv) :
    FnOk P w K mg base (L2.CX P w) 15 f fd ["self", "path"] (spOpened K C CR CD CP CN CI P1 P2 P3 P4 P5 P7) := by
  refine F.okX scOpened (fun vs H Q E h => ?_) (fun cdv A outer s H vs Q E hr h => ?_)
  · obtain ⟨m, w, lss, bs, es, rs, v, rfl, _⟩ := h
    rfl
  · obtain ⟨m, w, lss, bs, es, rs, v, rfl, g, TB, t7, h1000, k1, k2⟩ := h
    have r7 := hr.mono (show 7 ≤ 14 by decide)
    have r2 := hr.mono (show 2 ≤ 14 by decide)
    have hu1 : (A.deeper (envOfC "Mount.opened" (defScope uOpened) s.heap.objs.size f cdv)).units + 1 < cLine := by have := hr.units; omega
    refine ⟨_, pss_cons (ps_set (i := 2) scOpened.nd rfl (Or.inl rfl) (pe_meth0 (E := E) (pv 0) T.cl mH GH hr bH .nil (passes_call (takes_of rfl rfl rfl rfl) (fun _ _ _ _ h => h))))
      (pss_cons (ps_set (i := 3) scOpened.nd rfl (Or.inl rfl) (pe_meth (E := E) (pv 2) TH.cl mR GR r7 bR .nil (passes_call (takes_of rfl rfl rfl rfl) (fun _ _ _ _ h => h)) (pa_cons (pv 1) pa_nil)))
      (pss_cons (ps_set (i := 4) scOpened.nd rfl (Or.inl rfl) (pe_cmp (pc_din hu1 (pv 1) (pe_fld (pv 0) rfl))))
      (pss_cons (ps_set (i := 5) scOpened.nd rfl (Or.inl rfl) (pe_ifExp (pt_val (pv 4)) (pe_dget hu1 (pe_fld (pv 0) rfl) (pv 1) (fun _ _ => rfl)) (pe_dget hu1 (pe_fld (pv 0) rfl) (pv 1) (fun _ _ => rfl))))
      (pss_cons (ps_set (i := 6) scOpened.nd rfl (Or.inl rfl) (pe_fld (pv 0) rfl))
      (pss_cons (ps_dput hu1 (pe_fld (pv 0) rfl) (pv 6) (pe_make (E := E0) MK GI r2 (by rfl) TR.gC bI vI pass0 (pa_cons (pe_ix (r := rIxT K) ix_tup (pv 5) pe_int (fun _ _ => rfl)) (pa_cons (pv 3) (pa_cons (pv 4) pa_nil)))) rfl)
      (pss_cons (ps_fldaug (pv 0) pe_int in_add)
      (pss_one (ps_ret (pv 6))))))))), ?_⟩
    obtain ⟨dx, ob⟩ := id g.ob
    refine ⟨_, rfl, m, dx, _, rfl, ob, rfl, m, w, lss, bs, es, rs, rfl, g, TB, t7, k1, fun hd H1 hh d x1 hhn gh => ?_⟩
    obtain ⟨dh, oh⟩ := id gh.ob
    have TB1 := TB.ex x1
    have g1 := g.ex x1
    refine ⟨_, rfl, hh, dh, _, rfl, oh, fl_no d (by decide +kernel), _, rfl, hh, d, _, v, rfl, gh, TB1.t1, TB1.t2, ?_⟩
    rcases k2 hd with ⟨pb, bad⟩ | ⟨a, p, rfl, pa, gp, q1, q2, q3⟩
    · exact .inl ⟨pb.ex x1, fun H' x' => bad H' (x1.trans x')⟩
    refine .inr ⟨a, p, rfl, PathX.ex x1 pa, gp, fun e H' x' => q1 e H' (x1.trans x'), fun e H' x' => q2 e H' (x1.trans x'), fun n z ev H2 x2 => ?_⟩
    obtain ⟨n', z', u, hu, kk⟩ := q3 n z ev
    have x12 := x1.trans x2
    have g2 := g1.ex x2
    have pa2 := PathX.ex x12 pa
    obtain ⟨dx2, ob2⟩ := id g2.ob
    obtain ⟨⟨ke, he, re⟩, _⟩ := id g2.ent
    obtain ⟨⟨kb, hb, rb⟩, _⟩ := id g2.base
    have ge : DGet H2 w.e (.ref a) (valV ke (p.map Sum.inr)) := get_tr he pa2
    refine ⟨_, rfl, _, rfl, m, C, dx2, _, _, rfl, ob2, T.cl, T.ne, rfl, w.e, _, rfl, ge, ?_⟩
    -- the thing
    rcases hu with ⟨e1, rfl⟩ | ⟨e0, e1, rfl⟩
    case' refine_2.inr.inl =>
      rcases re.val (p := p) with ⟨_, f2⟩ | ⟨vt, D, f1, f2, dv⟩
      · rw [e1] at f2; cases f2
      rw [e1] at f2
      cases f2
      rw [f1] at ge ⊢
      refine ⟨_, rfl, true, rfl, iteT ⟨_, rfl, m, C, dx2, _, _, rfl, ob2, T.cl, T.ne, rfl, _, rfl, w.e, vt, rfl, ge, ?_⟩⟩
    case' refine_2.inr.inr =>
      rcases re.val (p := p) with ⟨f1, _⟩ | ⟨vt, D, f1, f2, dv⟩
      rotate_left
      · rw [e0] at f2; cases f2
      rw [f1] at ge ⊢
      rcases rb.val (p := p) with ⟨_, f2⟩ | ⟨vt, D, f3, f2, dv⟩
      · rw [e1] at f2; cases f2
      rw [e1] at f2
      cases f2
      have gb : DGet H2 w.t (.ref a) (some vt) := by
        have := get_tr hb pa2
        rwa [f3] at this
      refine ⟨_, rfl, false, rfl, iteF ⟨_, rfl, m, C, dx2, _, _, rfl, ob2, T.cl, T.nt, rfl, _, rfl, w.t, vt, rfl, gb, ?_⟩⟩
    all_goals
      rcases kn_tuple dv with ⟨a0, xs, ds', rfl, ed', ha, hx⟩ | ⟨hno, _⟩
      rotate_left
      · exact absurd rfl (hno _)
      cases ed'
      obtain ⟨w1, at1, d1⟩ := dpAll_get 1 hx (by simp)
      cases d1
      refine ⟨_, rfl, m, C, dx2, _, _, rfl, ob2, T.cl, T.nh, rfl, _, rfl, a0, xs, 1, _, rfl, rfl, ha, at_of (j := 1) rfl at1, _, rfl, _, rfl, fun rr dr hrn hdn hne => ?_⟩
      have eob : (upd (upd H2 dr (.own rr)) rr (.ins CR dr [])) rr = some (.ins CR dr []) := upd_same
      refine ⟨rr, dr, ⟨n', z, _, false⟩, rfl, eob, fun H4 e4 o4 => ⟨rfl, ?_⟩⟩
      have x24 : Ex H2 H4 := by
        have nr : ∀ b o, H2 b = some o → b ≠ rr := fun b o e y => by rw [y, hrn] at e; cases e
        have nd : ∀ b o, H2 b = some o → b ≠ dr := fun b o e y => by rw [y, hdn] at e; cases e
        refine ⟨fun b o e _ => ?_, fun b t => ?_, fun b e => ?_⟩
        · rw [o4 b (nr b o e), upd_ne (nr b o e), upd_ne (nd b o e)]
          exact e
        · obtain ⟨ps, e, q⟩ := t
          exact ⟨ps, by rw [o4 b (nr b _ e), upd_ne (nr b _ e), upd_ne (nd b _ e)]; exact e, q⟩
        · have hb : b ≠ rr := fun y => by rw [y, e4] at e; cases e
          rw [o4 b hb, upd_ne hb] at e
          have hb2 : b ≠ dr := fun y => by rw [y, upd_same] at e; cases e
          rw [upd_ne hb2] at e
          exact e
      have g4 := g2.ex x24
      have x4 := x12.trans x24
      obtain ⟨dx4, ob4⟩ := id g4.ob
      obtain ⟨kvs, hrd, prd⟩ := id g4.rds
      have hmr : m ≠ w.r := fun y => by rw [← y, ob4] at hrd; cases hrd
      have hln := Paired.length prd
      refine ⟨_, rfl, m, C, dx4, _, _, rfl, ob4, T.cl, T.nr, rfl, _, rfl, w.r, _, rfl, .inl ⟨kvs, Sum.inl w.h, hrd, rfl, by rw [sizeLine_eq]; omega, rfl⟩, ?_⟩
      have ob5 : (upd H4 w.r (.dK (putK kvs (Sum.inl w.h) (.ref rr)))) m = some (.ins C dx4 w.fl) := by rw [upd_ne hmr]; exact ob4
      refine ⟨_, rfl, m, C, dx4, _, _, rfl, ob5, T.cl, T.nh, rfl, _, _, rfl, rfl, dx4, w.fl, ob5, (by show 12 < 1000; decide), ?_⟩
      have lk : lkR rs w.h = none := lkR_new g.fresh
      have f46 : Fr m w.r H4 (upd (upd H4 w.r (.dK (putK kvs (Sum.inl w.h) (.ref rr)))) m (.ins C dx4 (putF "_handles" (.int (w.h + 1)) w.fl))) := by
        refine ⟨fun b o z1 z2 e _ => ?_, fun b t => ?_, fun b e => ?_⟩
        · rw [upd_ne z1, upd_ne z2]
          exact e
        · obtain ⟨ps, e, q⟩ := t
          exact ⟨ps, by rw [upd_ne (fun y => by rw [y, ob4] at e; cases e), upd_ne (fun y => by rw [y, hrd] at e; cases e)]; exact e, q⟩
        · have z1 : b ≠ m := fun y => by rw [y, upd_same] at e; cases e
          rw [upd_ne z1] at e
          have z2 : b ≠ w.r := fun y => by rw [y, upd_same] at e; cases e
          rw [upd_ne z2] at e
          exact e
      refine ⟨_, rfl, kk _ ⟨fun b o z1 z2 e n => f46.keep b o z1 z2 (x4.keep b o e n) n, fun b t => f46.tab b (x4.tab b t), fun b e => x4.free b (f46.free b e)⟩ ?_⟩
      refine g4.frd f46 ⟨dx4, upd_same⟩ rfl rfl rfl ⟨_, (by rw [upd_ne (Ne.symm hmr)]; exact upd_same), ?_⟩ fun e he => ?_
      · rw [rds_put prd lk]
        have up : ∀ {v : V} {d : Rw}, RdAt CR H4 v d → RdAt CR (upd (upd H4 w.r (.dK (putK kvs (Sum.inl w.h) (.ref rr)))) m (.ins C dx4 (putF "_handles" (.int (w.h + 1)) w.fl))) v d := fun {v d} q => by
          obtain ⟨a1, dq, rfl, eq⟩ := q
          refine ⟨a1, dq, rfl, ?_⟩
          rw [upd_ne (fun y => ?_), upd_ne (fun y => by rw [y, hrd] at eq; cases eq)]
          · exact eq
          · rw [y, ob4] at eq
            have := (HO.ins.inj (Option.some.inj eq)).2.2
            have := congrArg List.length this
            cases this
        rw [rds_put prd lk] at up
        exact Paired.snoc (pairImp (fun _ _ q => ⟨q.1, up q.2⟩) prd) ⟨rfl, up ⟨rr, dr, rfl, e4⟩⟩
      · rcases List.mem_append.mp he with he | he
        · have := g.fresh e he
          show e.1 < w.h + 1
          omega
        · rw [List.mem_singleton.mp he]
          show w.h < w.h + 1
          omega
end
end LK

namespace LK
open PySem PySem.Spec PyProof.Rows L2 GA LT LE L2H LD
/-! ### handles -/
def spHdl (K : PySem.W.Frag) (C CR CD CH : Addr) (sel : Rw → V) : Sp := fun vs H Q E => ∃ m w lss bs es rs v nm, vs = [.ref m, v] ∧ MoAt K C CR H m w lss bs es rs ∧ Kn K H v nm ∧ (w.dk = true → Refused H E CD) ∧
  (w.dk = false → (hdlB rs v = none → Refused H E CH) ∧ ∀ d, hdlB rs v = some d → Q (sel d) H)
def spShut (K : PySem.W.Frag) (C CR CD CH : Addr) : Sp := fun vs H Q E => ∃ m w lss bs es rs v nm, vs = [.ref m, v] ∧ MoAt K C CR H m w lss bs es rs ∧ Kn K H v nm ∧ (w.dk = true → Refused H E CD) ∧
  (w.dk = false → (hdlB rs v = none → Refused H E CH) ∧ ∀ i d, v = .int i → lkR rs i = some d → ∀ H', Fr m w.r H H' → MoAt K C CR H' m w lss bs es (rs.filter fun e => decide (e.1 ≠ i)) → Q .non H')
theorem hdl_int {rs : List (Int × Rw)} {v : V} {d : Rw} (h : hdlB rs v = some d) : ∃ i, v = .int i ∧ lkR rs i = some d := by
  cases v with
  | int i => exact ⟨i, rfl, h⟩
  | _ => cases h
section
variable {P : Program} {w : World} {K : PySem.W.Frag} {mg : Str → Option Value} {base : Heap}
theorem scReaderM : FnScope ["self", "handle"] ["self", "handle"] (defScope uReader) := ⟨rfl, rfl, rfl, by decide +kernel, rfl, by decide +kernel, by decide +kernel⟩
theorem ok_readerM {f C CR CD CH fL : Addr} {fd fdL : FuncData} (F : Fun K "_reader" "Mount._reader" uReader f fd) (T : MT K mg C) (M : Mg mg) (MR : MgR mg) (R : Ref K mg "NoHandle" CH)
    (mL : Meth K C "_check_light" fL) (GL : FnOk P w K mg base (L2.CX P w) 1 fL fdL ["self"] (spLight K C CD)) (bL : Binds K fdL ["self"] []) : FnOk P w K mg base (L2.CX P w) 2 f fd ["self", "handle"] (spReaderM K C CR CD CH) := by
  refine F.okX scReaderM (fun vs H Q E h => ?_) (fun cdv A outer s H vs Q E hr h => ?_)
  · obtain ⟨m, w, lss, bs, es, rs, v, nm, rfl, _⟩ := h
    rfl
  · obtain ⟨m, w, lss, bs, es, rs, v, nm, rfl, g, kn, k1, k2⟩ := h
    have hu1 : (A.deeper (envOfC "Mount._reader" (defScope uReader) s.heap.objs.size f cdv)).units + 1 < cLine := by have := hr.units; omega
    refine ⟨_, pss_cons (ps_expr (pe_meth0 (E := E) (pv 0) T.cl mL GL hr bL .nil (passes_call (takes_of rfl rfl rfl rfl) (fun _ _ _ _ h => h))))
      (pss_cons (ps_if (PW.pt (pw_or (pt_not (pt_val (pe_callB call_is (by rfl) M.isinstance boot_isinstance (pa_cons (pv 1) (pa_cons (pe_bltn (v := .ty "int") (by rfl) MR.int (by decide +kernel) rfl) pa_nil)))))
          (pw_or (pt_val (pe_callB call_is (by rfl) M.isinstance boot_isinstance (pa_cons (pv 1) (pa_cons (pe_bltn (v := .ty "bool") (by rfl) MR.bool (by decide +kernel) rfl) pa_nil))))
          (pw_or1 (pt_cmp (pc_dnotin hu1 (pv 1) (pe_fld (pv 0) rfl)))))))
        (pss_one (ps_raise rfl (takes_of rfl rfl rfl rfl) (pmk_own PySem.F.excBase_ValueError R.x R.g R.k (raises_own R.b R.t) rfl))) pss_nil)
      (pss_one (ps_ret (pe_dget hu1 (pe_fld (pv 0) rfl) (pv 1) (fun _ _ => rfl))))), ?_⟩
    obtain ⟨dx, ob⟩ := id g.ob
    obtain ⟨kvs, hrd, prd⟩ := id g.rds
    refine ⟨_, rfl, m, dx, _, rfl, ob, rfl, m, dx, w, rfl, ob, k1, fun hd => ?_⟩
    obtain ⟨k3, k4⟩ := k2 hd
    refine ⟨_, rfl, v, nm, "int", rfl, kn, rfl, _, rfl, ?_⟩
    cases kn with
    | int i =>
      rw [show isB "int" "int" = true by decide]
      refine iteF ⟨_, rfl, .int i, "int", "bool", rfl, .int i, rfl, _, rfl, ?_⟩
      rw [show isB "int" "bool" = false by decide]
      have dg : DGet H w.r (.int i) (valV kvs (Sum.inl i : L2.Key)) := .inl ⟨kvs, Sum.inl i, Or.inl hrd, rfl, rfl⟩
      refine iteF ⟨_, rfl, _, rfl, m, C, dx, _, _, rfl, ob, T.cl, T.nr, rfl, w.r, _, rfl, dg, _, rfl, ?_⟩
      rcases rds_val (i := i) prd with ⟨e1, e2⟩ | ⟨d, x, e1, e2, rd⟩
      · rw [e2]
        exact iteT (k3 e1 H (Ex.refl H))
      · rw [e2] at dg ⊢
        obtain ⟨a, dq, rfl, ea⟩ := id rd
        exact iteF ⟨_, rfl, m, C, dx, _, _, rfl, ob, T.cl, T.nr, rfl, _, rfl, w.r, _, rfl, dg, k4 d a e1 rd⟩
    | bl b =>
      rw [show isB "bool" "int" = true by decide]
      refine iteF ⟨_, rfl, .bl b, "bool", "bool", rfl, .bl b, rfl, _, rfl, ?_⟩
      rw [show isB "bool" "bool" = true by decide]
      exact iteT (k3 rfl H (Ex.refl H))
    | non => exact iteT (k3 rfl H (Ex.refl H))
    | str z => exact iteT (k3 rfl H (Ex.refl H))
    | lst e => exact iteT (k3 rfl H (Ex.refl H))
    | tup e => exact iteT (k3 rfl H (Ex.refl H))
    | dK e => exact iteT (k3 rfl H (Ex.refl H))
    | dT e => exact iteT (k3 rfl H (Ex.refl H))
    | dX e c => exact iteT (k3 rfl H (Ex.refl H))
theorem scTextOf : FnScope ["self", "handle"] ["self", "handle"] (defScope uTextOf) := ⟨rfl, rfl, rfl, by decide +kernel, rfl, by decide +kernel, by decide +kernel⟩
theorem ok_textOf {f C CR CD CH fR : Addr} {fd fdR : FuncData} (F : Fun K "text_of" "Mount.text_of" uTextOf f fd) (T : MT K mg C) (TR : RT K mg CR)
    (mR : Meth K C "_reader" fR) (GR : FnOk P w K mg base (L2.CX P w) 2 fR fdR ["self", "handle"] (spReaderM K C CR CD CH)) (bR : Binds K fdR ["self", "handle"] []) : FnOk P w K mg base (L2.CX P w) 3 f fd ["self", "handle"] (spHdl K C CR CD CH fun d => .str d.z) := by
  refine F.okX scTextOf (fun vs H Q E h => ?_) (fun cdv A outer s H vs Q E hr h => ?_)
  · obtain ⟨m, w, lss, bs, es, rs, v, nm, rfl, _⟩ := h
    rfl
  · obtain ⟨m, w, lss, bs, es, rs, v, nm, rfl, g, kn, k1, k2⟩ := h
    refine ⟨_, pss_one (ps_ret (pe_fld (pe_meth (E := E) (pv 0) T.cl mR GR hr bR .nil (passes_call (takes_of rfl rfl rfl rfl) (fun _ _ _ _ h => h)) (pa_cons (pv 1) pa_nil)) rfl)), ?_⟩
    obtain ⟨dx, ob⟩ := id g.ob
    refine ⟨_, rfl, m, dx, _, rfl, ob, rfl, _, rfl, m, w, lss, bs, es, rs, v, nm, rfl, g, kn, k1, fun hd => ⟨(k2 hd).1, fun d a e rd => ?_⟩⟩
    obtain ⟨b, dq, e2, ea⟩ := rd
    cases e2
    exact ⟨a, CR, dq, _, _, rfl, ea, TR.cl, TR.nt, rfl, (k2 hd).2 d e⟩
theorem scIsStale : FnScope ["self", "handle"] ["self", "handle"] (defScope uIsStale) := ⟨rfl, rfl, rfl, by decide +kernel, rfl, by decide +kernel, by decide +kernel⟩
theorem ok_isStale {f C CR CD CH fR : Addr} {fd fdR : FuncData} (F : Fun K "is_stale" "Mount.is_stale" uIsStale f fd) (T : MT K mg C) (TR : RT K mg CR)
    (mR : Meth K C "_reader" fR) (GR : FnOk P w K mg base (L2.CX P w) 2 fR fdR ["self", "handle"] (spReaderM K C CR CD CH)) (bR : Binds K fdR ["self", "handle"] []) : FnOk P w K mg base (L2.CX P w) 3 f fd ["self", "handle"] (spHdl K C CR CD CH fun d => .bl d.st) := by
  refine F.okX scIsStale (fun vs H Q E h => ?_) (fun cdv A outer s H vs Q E hr h => ?_)
  · obtain ⟨m, w, lss, bs, es, rs, v, nm, rfl, _⟩ := h
    rfl
  · obtain ⟨m, w, lss, bs, es, rs, v, nm, rfl, g, kn, k1, k2⟩ := h
    refine ⟨_, pss_one (ps_ret (pe_fld (pe_meth (E := E) (pv 0) T.cl mR GR hr bR .nil (passes_call (takes_of rfl rfl rfl rfl) (fun _ _ _ _ h => h)) (pa_cons (pv 1) pa_nil)) rfl)), ?_⟩
    obtain ⟨dx, ob⟩ := id g.ob
    refine ⟨_, rfl, m, dx, _, rfl, ob, rfl, _, rfl, m, w, lss, bs, es, rs, v, nm, rfl, g, kn, k1, fun hd => ⟨(k2 hd).1, fun d a e rd => ?_⟩⟩
    obtain ⟨b, dq, e2, ea⟩ := rd
    cases e2
    exact ⟨a, CR, dq, _, _, rfl, ea, TR.cl, TR.nl, rfl, (k2 hd).2 d e⟩
theorem scShut : FnScope ["self", "handle"] ["self", "handle"] (defScope uShut) := ⟨rfl, rfl, rfl, by decide +kernel, rfl, by decide +kernel, by decide +kernel⟩
theorem ok_shut {f C CR CD CH fR : Addr} {fd fdR : FuncData} (F : Fun K "shut" "Mount.shut" uShut f fd) (T : MT K mg C)
    (mR : Meth K C "_reader" fR) (GR : FnOk P w K mg base (L2.CX P w) 2 fR fdR ["self", "handle"] (spReaderM K C CR CD CH)) (bR : Binds K fdR ["self", "handle"] []) : FnOk P w K mg base (L2.CX P w) 3 f fd ["self", "handle"] (spShut K C CR CD CH) := by
  refine F.okX scShut (fun vs H Q E h => ?_) (fun cdv A outer s H vs Q E hr h => ?_)
  · obtain ⟨m, w, lss, bs, es, rs, v, nm, rfl, _⟩ := h
    rfl
  · obtain ⟨m, w, lss, bs, es, rs, v, nm, rfl, g, kn, k1, k2⟩ := h
    refine ⟨_, pss_cons (ps_expr (pe_meth (E := E) (pv 0) T.cl mR GR hr bR .nil (passes_call (takes_of rfl rfl rfl rfl) (fun _ _ _ _ h => h)) (pa_cons (pv 1) pa_nil)))
      (pss_one (LD.ps_del (pe_fld (pv 0) rfl) (pv 1))), ?_⟩
    obtain ⟨dx, ob⟩ := id g.ob
    refine ⟨_, rfl, m, dx, _, rfl, ob, rfl, _, rfl, m, w, lss, bs, es, rs, v, nm, rfl, g, kn, k1, fun hd => ⟨(k2 hd).1, fun d a e rd => ?_⟩⟩
    obtain ⟨i, rfl, li⟩ := hdl_int e
    obtain ⟨kvs, hrd, prd⟩ := id g.rds
    have hv : (valV kvs (Sum.inl i : L2.Key)).isSome = true := by
      rcases rds_val (i := i) prd with ⟨e1, _⟩ | ⟨d, x, _, e2, _⟩
      · rw [li] at e1; cases e1
      · rw [e2]; rfl
    have fr : Fr m w.r H (upd H w.r (.dK (dropK kvs (Sum.inl i : L2.Key)))) := by
      refine ⟨fun b o z1 z2 e _ => ?_, fun b t => ?_, fun b e => ?_⟩
      · rw [upd_ne z2]
        exact e
      · obtain ⟨ps, e, q⟩ := t
        exact ⟨ps, by rw [upd_ne (fun y => by rw [y, hrd] at e; cases e)]; exact e, q⟩
      · have z2 : b ≠ w.r := fun y => by rw [y, upd_same] at e; cases e
        rw [upd_ne z2] at e
        exact e
    have hmr : m ≠ w.r := fun y => by rw [← y, ob] at hrd; cases hrd
    refine ⟨_, rfl, m, C, dx, _, _, rfl, ob, T.cl, T.nr, rfl, _, rfl, w.r, kvs, Sum.inl i, rfl, hrd, rfl, hv, (k2 hd).2 i d rfl li _ fr ?_⟩
    refine g.frd fr ⟨dx, by rw [upd_ne hmr]; exact ob⟩ rfl rfl rfl ⟨_, upd_same, pairImp (fun _ _ q => ⟨q.1, ?_⟩) (rds_drop prd)⟩ fun e he => g.fresh e (List.mem_filter.mp he).1
    obtain ⟨a1, dq, e3, eq⟩ := q.2
    exact ⟨a1, dq, e3, by rw [upd_ne (fun y => by rw [y, hrd] at eq; cases eq)]; exact eq⟩
end
end LK

namespace LK
open PySem PySem.Spec PyProof.Rows L2 GA LT LE L2H LD
/-! ### rows of flat tuples stay where tuples stay -/
def flatQ : PyData → Bool
  | .none | .bool _ | .int _ | .str _ => true
  | _ => false
theorem dp_flatQ {K : PySem.W.Frag} {H H' : Hp} {v : V} {d : PyData} (h : Dp K H v d) (f : flatQ d = true) : Dp K H' v d := by
  cases h with
  | non => exact .non
  | bl b => exact .bl b
  | int i => exact .int i
  | str z => exact .str z
  | lst _ _ => exact absurd (show false = true from f) Bool.false_ne_true
  | tup _ _ => exact absurd (show false = true from f) Bool.false_ne_true
theorem dpAll_flatQ {K : PySem.W.Frag} {H H' : Hp} : ∀ {ds : List PyData} {xs : List V}, DpAll K H xs ds → ds.all flatQ = true → DpAll K H' xs ds
  | [], _, .nil, _ => .nil
  | d :: ds, _, .cons a b, f => by
    rw [List.all_cons, Bool.and_eq_true] at f
    exact .cons (dp_flatQ a f.1) (dpAll_flatQ b f.2)
theorem dp_flatT {K : PySem.W.Frag} {H H' : Hp} {v : V} {ds : List PyData} (k : ∀ b xs, SqT K H b xs → SqT K H' b xs) (f : ds.all flatQ = true) (h : Dp K H v (.tuple ds)) : Dp K H' v (.tuple ds) := by
  generalize e : PyData.tuple ds = d at h
  cases h with
  | tup hs ha =>
    injection e with e
    subst e
    exact .tup (k _ _ hs) (dpAll_flatQ ha f)
  | _ => cases e
def FlatE (es : Ents) : Prop := ∀ e ∈ es, ∃ ds, e.2 = .tuple ds ∧ ds.all flatQ = true
theorem flat_entries {es : Ents} (h : ∀ e ∈ es, entryB e.2 = true) : FlatE es := fun e he => by
  rcases entry_form (h e he) with ⟨b, hd⟩ | hd | ⟨n, z, hd, _, _⟩
  · exact ⟨_, hd, rfl⟩
  · exact ⟨_, hd, rfl⟩
  · exact ⟨_, hd, rfl⟩
theorem flat_things {es : Ents} (h : ∀ e ∈ es, thingD e.2) : FlatE es := fun e he => by
  rcases h e he with hd | ⟨n, z, hd⟩
  · exact ⟨_, hd, rfl⟩
  · exact ⟨_, hd, rfl⟩
theorem row_flat {K : PySem.W.Frag} {H H' : Hp} (k : ∀ b xs, SqT K H b xs → SqT K H' b xs) : ∀ {kvs : List (List L2.Key × V)} {es : Ents}, RowE K H kvs es → FlatE es → RowE K H' kvs es
  | _, _, .nil, _ => .nil
  | kv :: kvs, e :: es, .cons a b, f => by
    refine .cons ⟨a.1, ?_⟩ (row_flat k b fun x hx => f x (List.mem_cons_of_mem _ hx))
    obtain ⟨ds, hd, hf⟩ := f e (List.mem_cons_self ..)
    rw [hd]
    exact dp_flatT k hf (by rw [← hd]; exact a.2)
theorem sqT_evF {K : PySem.W.Frag} {tw b : Addr} {H H' : Hp} {xs : List V} (ht : Town tw H) (v : Ev tw H H') (h : SqT K H b xs) : SqT K H' b xs := Ev.tup ht v h
theorem TrAt.evF {K : PySem.W.Frag} {tw d : Addr} {H H' : Hp} {es : Ents} (ht : Town tw H) (v : Ev tw H H') (f : FlatE es) (h : TrAt K H d es) : TrAt K H' d es := by
  obtain ⟨u0, u1, _, et⟩ := id ht
  obtain ⟨kvs, hd, r⟩ := h
  refine ⟨kvs, ?_, row_flat (fun b xs q => sqT_evF ht v q) r f⟩
  rcases hd with hd | ⟨o, hd⟩
  · exact Or.inl (v.keep _ _ (fun z => by rw [z, et] at hd; cases hd) hd (fun ps z => by cases z))
  · exact Or.inr ⟨o, v.keep _ _ (fun z => by rw [z, et] at hd; cases hd) hd (fun ps z => by cases z)⟩
/-! ### a stack copied -/
theorem put_snoc {K : PySem.W.Frag} {H : Hp} {kvs : List (List L2.Key × V)} {es : Ents} {p : List Str} {v : V} (r : RowE K H kvs es) (n : valE es p = none) : putK kvs (p.map Sum.inr) v = kvs ++ [(p.map Sum.inr, v)] := by
  have hn : valV kvs (p.map Sum.inr : List L2.Key) = none := by
    rcases r.val (p := p) with ⟨e, _⟩ | ⟨_, _, _, e, _⟩
    · exact e
    · rw [n] at e; cases e
  unfold putK
  rw [if_neg]
  intro z
  unfold valV at hn
  rw [Option.map_eq_none_iff, List.find?_eq_none] at hn
  obtain ⟨x, hx, y⟩ := List.any_eq_true.mp z
  exact hn x hx y
theorem pairMem {α β : Type} {R S : α → β → Prop} : ∀ {as : List α} {bs : List β}, Paired R as bs → (∀ a b, b ∈ bs → R a b → S a b) → Paired S as bs
  | _, _, .nil, _ => .nil
  | _, b :: _, .cons h t, k => .cons (k _ _ (List.mem_cons_self ..) h) (pairMem t fun a c hc => k a c (List.mem_cons_of_mem _ hc))
def spCopied (K : PySem.W.Frag) : Sp := fun vs H Q _ => ∃ (l : Addr) (ds : List Addr) (lss : List Ents), vs = [.ref l] ∧ SqL K H l (ds.map V.ref) ∧ (∀ H', Ex H H' → SqL K H' l (ds.map V.ref)) ∧ Paired (fun d es => TrAt K H d es) ds lss ∧ (∀ es ∈ lss, (es.map (·.1)).Nodup ∧ es.length ≤ 100 ∧ FlatE es) ∧ lss.length ≤ 100 ∧
  ∀ H' l' ds', Ex H H' → H l' = none → H' l' = some (.lst (ds'.map V.ref)) → Paired (fun d es => H d = none ∧ ∃ kvs, H' d = some (.dT kvs) ∧ RowE K H' kvs es) ds' lss → Q (.ref l') H'
section
variable {P : Program} {w : World} {K : PySem.W.Frag} {mg : Str → Option Value} {base : Heap}
abbrev cpN : List Str := ["stack", "layer", "path", "entry"]
theorem scCopied : FnScope cpN ["stack"] (defScope sCopied) := ⟨rfl, rfl, rfl, by decide +kernel, rfl, by decide +kernel, by decide +kernel⟩
theorem ok_copied {f : Addr} {fd : FuncData} (F : Fun K "_copied" "_copied" sCopied f fd) : FnOk P w K mg base CX0 1 f fd ["stack"] (spCopied K) := by
  refine F.ok scCopied (fun vs H Q E h => ?_) (fun cdv A outer s H vs Q E hr h => ?_)
  · obtain ⟨l, ds, lss, rfl, _⟩ := h
    rfl
  · obtain ⟨l, ds, lss, rfl, hl, hlx, pd, small, h100, k⟩ := h
    have hu0 : (A.deeper (envOfC "_copied" (defScope sCopied) s.heap.objs.size f cdv)).units < cLine := by have := hr.units; omega
    refine ⟨_, pss_one (ps_ret (pe_lc (own := [("layer", 1)]) (g := gName 1) (tt := tYes) rfl scCopied.nd (pi_list (pv 0)) (blkOk_by (N := cpN) (sc := defScope sCopied) (by decide +kernel)) (fun _ _ _ _ _ => pg_name (i := 1) scCopied.nd rfl (Or.inl rfl)) (fun _ _ _ _ _ => pts_nil)
      (fun _ _ _ _ _ => pe_lockR (pe_dcT (own := [("path", 2), ("entry", 3)]) (g := gTup K 2 (gCons (gName 2) (gCons (gName 3) gNil))) (tt := tYes) (tk := tVar 2) (tv := tVar 3) hu0 rfl scCopied.nd (pi_itemsT (pv 1)) (blkOk_by (N := cpN) (sc := { kind := .function, names := [(".0", .local), ("layer", .local)], isGenerator := false, isCoroutine := false }) (by decide +kernel))
        (fun _ _ _ _ _ => by exact pg_tup rfl (pgs_cons (pg_name (i := 2) scCopied.nd rfl (Or.inl rfl)) (pgs_cons (pg_name (i := 3) scCopied.nd rfl (Or.inl rfl)) pgs_nil))) (fun _ _ _ _ _ => pts_nil) (fun _ _ _ _ _ => pv 2) (fun _ _ _ _ _ => pv 3))))), ?_⟩
    refine ⟨_, rfl, l, rfl, ⟨_, hl⟩, fun D hD => ?_⟩
    have hlen := Paired.length pd
    refine lc_it (walk_list (K := K) (a := l) (xs := ds.map V.ref)) (fun i G => Ex H G ∧ ∃ ds' : List Addr, G D = some (.lst (ds'.map V.ref)) ∧ ds'.length = i ∧ Paired (fun d es => H d = none ∧ d ≠ D ∧ ∃ kvs, G d = some (.dT kvs) ∧ RowE K G kvs es) ds' (lss.take i))
      ⟨Ex.new hD, [], upd_same, rfl, .nil⟩ (fun i G _ h => hlx G h.1) ?_ ?_
    · rintro i y G G' hi ⟨xg, ds', hds, hdl, pds⟩ ⟨rfl, hy⟩
      rw [List.length_map] at hi
      rw [List.getElem?_map] at hy
      obtain ⟨d, hd, rfl⟩ := Option.map_eq_some_iff.mp hy
      obtain ⟨es, hes, tr⟩ := paired_get pd hd
      have tr := TrAt.ex xg tr
      have etake : lss.take (i + 1) = lss.take i ++ [es] := by rw [List.take_add_one, hes]; rfl
      obtain ⟨nd, le, flat⟩ := small es (List.mem_of_getElem? hes)
      obtain ⟨kl, hdL, rowL⟩ := tr
      refine ⟨rfl, ?_⟩
      unfold tYes
      refine iteT ?_
      refine lock_go hdL fun H1 od R lk lt lf ld hR => ?_
      have rowL1 : RowE K H1 kl es := rowL.lk hdL lk
      refine ⟨_, rfl, d, od, kl, rfl, ld, fun D2 hD2 => ?_⟩
      have hne : D2 ≠ d := fun z => by rw [z, ld] at hD2; cases hD2
      refine dcT_it (g := gTup K 2 (gCons (gName 2) (gCons (gName 3) gNil))) (tt := tYes) (tk := tVar 2) (tv := tVar 3) (vs := [2, 3]) (σ := List.set (wipe (L2.start cpN [V.ref l]) [1]) 1 (some (V.ref d))) (D := D2) LD.walk_itemsT (fun j F => Ex H1 F ∧ ∃ km, F D2 = some (.dT km) ∧ RowE K F km (es.take j)) ⟨Ex.new hD2, [], upd_same, .nil⟩ (fun j F _ h => h.1.keep _ _ ld (fun ps z => by cases z)) ?_ ?_
      · rintro j x F F' hj ⟨xf, km, hkm, rkm⟩ ⟨Tp, kk, v, q, hk, rfl, hTn, hq, rfl⟩
        obtain ⟨en, hen, ek, dv⟩ := (rowL1.ex xf).get hk
        have ek : kk = en.1.map Sum.inr := ek
        rw [ek] at hq
        have pq : PathX F q en.1 := PathX.of_key hq
        have xT := Ex.new (o := .tup [V.ref q, v]) hTn
        have sT : SqT K (upd F Tp (.tup [V.ref q, v])) Tp [V.ref q, v] := SqT.of upd_same
        have pq' := PathX.ex xT pq
        have dv' := Dp_ex xT dv
        have hkm' := xT.keep _ _ hkm (fun ps z => by cases z)
        have rkm' := rkm.ex xT
        have x3 := xf.trans xT
        generalize upd F Tp (.tup [V.ref q, v]) = G2 at sT pq' dv' hkm' rkm' x3 ⊢
        have et2 : es.take (j + 1) = es.take j ++ [en] := by rw [List.take_add_one, hen]; rfl
        refine ⟨Tp, _, rfl, sT, rfl, _, _, rfl, _, _, rfl, rfl, rfl, ?_⟩
        have hnew : valE (es.take j) en.1 = none := by
          cases hv : valE (es.take j) en.1 with
          | none => rfl
          | some D =>
            obtain ⟨y, hy, y1, _⟩ := valE_mem hv
            exact absurd (List.mem_map.mpr ⟨y, hy, y1⟩) (take_new nd hen)
        have hkl : km.length < sizeLine := by
          have e1 := rkm'.len
          rw [List.length_take] at e1
          rw [sizeLine_eq]
          omega
        have ps := put_snoc (v := v) rkm' hnew
        unfold tYes
        show (if true = true then _ else _)
        rw [if_pos rfl]
        refine ⟨_, rfl, _, rfl, q, km, en.1.map Sum.inr, rfl, pq'.key, hkm', hkl, x3.put hD2, _, upd_same, ?_⟩
        have mv := mv_upd (u := .dT (putK km (en.1.map Sum.inr) v)) hkm' (fun q => q)
        rw [ps] at mv ⊢
        rw [et2]
        exact Paired.snoc (mv_row mv rkm') ⟨rfl, mv_dp mv dv'⟩
      rintro F ⟨xf, km, hkm, rkm⟩
      rw [rowL.len, List.take_length] at rkm
      refine hR _ F xf fun H2 x2 kp => ?_
      have hD0 : H2 D = some (.lst (ds'.map V.ref)) := x2.keep _ _ hds (fun ps z => by cases z)
      have hD2n : G' D2 = none := lf D2 hD2
      have hDD : D2 ≠ D := fun z => by rw [z, hds] at hD2n; cases hD2n
      have e2 : H2 D2 = some (.dT km) := kp _ _ hkm hne
      have frL := xf.keep _ _ ld (fun ps z => by cases z)
      have r2 : RowE K H2 km es := RowE.lk (Or.inr ⟨od, frL⟩) kp rkm
      have tk : ∀ b xs, SqT K H2 b xs → SqT K (upd H2 D (.lst (ds'.map V.ref ++ [.ref D2]))) b xs := fun b xs q => by
        rcases q with (h | ⟨o, h⟩) | h
        · exact Or.inl (Or.inl (by rw [upd_ne (fun z => by rw [z, hD0] at h; cases h)]; exact h))
        · exact Or.inl (Or.inr ⟨o, by rw [upd_ne (fun z => by rw [z, hD0] at h; cases h)]; exact h⟩)
        · exact Or.inr h
      refine ⟨ds'.map V.ref, hD0, by rw [List.length_map, hdl, sizeLine_eq]; omega, (xg.trans x2).put hD, ds' ++ [D2], ?_, by rw [List.length_append, hdl]; rfl, ?_⟩
      · rw [upd_same, List.map_append]
        rfl
      · rw [etake]
        refine Paired.snoc ?_ ⟨xg.free _ hD2n, hDD, km, by rw [upd_ne hDD]; exact e2, row_flat tk r2 flat⟩
        refine pairMem pds fun d0 es0 hm q => ?_
        obtain ⟨q1, q2, k0, q3, q4⟩ := q
        exact ⟨q1, q2, k0, by rw [upd_ne q2]; exact x2.keep _ _ q3 (fun ps z => by cases z), row_flat tk (q4.ex x2) (small es0 (List.mem_of_mem_take hm)).2.2⟩
    · rintro G ⟨xg, ds', hds, hdl, pds⟩
      rw [List.length_map, hlen, List.take_length] at pds
      exact k G D ds' xg hD hds (pairImp (fun _ _ q => ⟨q.1, q.2.2⟩) pds)
end
end LK

namespace LK
open PySem PySem.Spec PyProof.Rows L2 GA LT LE L2H LD
/-! ### mounts are made -/
def seeE : Ents := [([], seeD)]
theorem seeE_ok : layerB seeE = true ∧ smallE seeE ∧ (seeE.map (·.1)).Nodup := by
  refine ⟨by decide +kernel, ⟨fun e he => ?_, by decide⟩, by decide⟩
  rw [List.mem_singleton.mp he]
  refine ⟨(fun z hz => nomatch hz), ?_⟩
  have e2 : decide (("drawer" : Str).length ≤ sizeLine) = true := by decide +kernel
  simp [seeD, smallD, smallAll, e2]
/-- but for one object all stays -/
theorem frx_dict {K : PySem.W.Frag} {x C dx : Addr} {fs : List (Str × V)} {G G' : Hp} (gx : G x = some (.ins C dx fs)) (fr : Fr x x G G') : ∀ b o, G b = some o → dictO o → G' b = some o := fun b o e q =>
  fr.keep b o (fun z => by rw [z, gx] at e; cases e; exact q) (fun z => by rw [z, gx] at e; cases e; exact q) e (fun ps z => by rw [z] at q; exact q)
theorem frx_seq {x C dx : Addr} {fs : List (Str × V)} {G G' : Hp} (gx : G x = some (.ins C dx fs)) (fr : Fr x x G G') : ∀ b o, G b = some o → seqO o → G' b = some o := fun b o e q =>
  fr.keep b o (fun z => by rw [z, gx] at e; cases e; exact q) (fun z => by rw [z, gx] at e; cases e; exact q) e (fun ps z => by rw [z] at q; exact q)
theorem frx_tr {K : PySem.W.Frag} {x C dx d : Addr} {fs : List (Str × V)} {G G' : Hp} {es : Ents} (gx : G x = some (.ins C dx fs)) (fr : Fr x x G G') (h : TrAt K G d es) : TrAt K G' d es := TrAt.kp (frx_dict (K := K) gx fr) (frx_seq gx fr) h
theorem frx_set {x C dx : Addr} {fs u : List (Str × V)} {G : Hp} (gx : G x = some (.ins C dx fs)) : Fr x x G (upd G x (.ins C dx u)) := Fr.setH (Ex.refl G) gx
theorem frx_trans {x : Addr} {G G' G2 : Hp} (a : Fr x x G G') (b : Fr x x G' G2) : Fr x x G G2 := a.trans b (Or.inl rfl)
def LsAt (K : PySem.W.Frag) (H : Hp) (b : Addr) (lss : List Ents) : Prop := ∃ ds : List Addr, H b = some (.lst (ds.map V.ref)) ∧ Paired (fun d ls => LyAt K H d ls) ds lss
theorem LsAt.kp {K : PySem.W.Frag} {H H' : Hp} {b : Addr} {lss : List Ents} (x : ∀ b o, H b = some o → dictO o → H' b = some o) (y : ∀ b v, H b = some v → seqO v → H' b = some v) (h : LsAt K H b lss) : LsAt K H' b lss := by
  obtain ⟨ds, e, p⟩ := h
  exact ⟨ds, y _ _ e trivial, pairImp (fun _ _ q => q.kp x y) p⟩
theorem LsAt.ex {K : PySem.W.Frag} {H H' : Hp} {b : Addr} {lss : List Ents} (x : Ex H H') (h : LsAt K H b lss) : LsAt K H' b lss :=
  h.kp (fun _ _ e q => x.keep _ _ e (fun ps z => by rw [z] at q; exact q)) (fun _ _ e q => x.keep _ _ e (fun ps z => by rw [z] at q; exact q))
theorem frx_trin {K : PySem.W.Frag} {x C dx d : Addr} {fs : List (Str × V)} {G G' : Hp} {es : Ents} (gx : G x = some (.ins C dx fs)) (fr : Fr x x G G') (h : TrIn K G d es) : TrIn K G' d es := h.kp (frx_dict (K := K) gx fr) (frx_seq gx fr)
theorem frx_ly {K : PySem.W.Frag} {x C dx d : Addr} {fs : List (Str × V)} {G G' : Hp} {es : Ents} (gx : G x = some (.ins C dx fs)) (fr : Fr x x G G') (h : LyAt K G d es) : LyAt K G' d es := h.kp (frx_dict (K := K) gx fr) (frx_seq gx fr)
theorem frx_ls {K : PySem.W.Frag} {x C dx d : Addr} {fs : List (Str × V)} {G G' : Hp} {lss : List Ents} (gx : G x = some (.ins C dx fs)) (fr : Fr x x G G') (h : LsAt K G d lss) : LsAt K G' d lss := h.kp (frx_dict (K := K) gx fr) (frx_seq gx fr)
theorem frx_stack {K : PySem.W.Frag} {x C dx d : Addr} {fs : List (Str × V)} {G G' : Hp} {lss : List Ents} (gx : G x = some (.ins C dx fs)) (fr : Fr x x G G') (h : StackAt K G d lss) : StackAt K G' d lss := by
  obtain ⟨ds, h1, _, h3⟩ := h
  have s := mv_sqL (K := K) (frx_seq gx fr) h1
  exact ⟨ds, s, fun H' y => y.lst s, pairImp (fun _ _ q => frx_tr gx fr q) h3⟩
theorem Tabs8.fr {x d : Addr} {H H' : Hp} {P1 P2 P3 P4 P6 P7 P8 : Addr} (f : Fr x d H H') (T : Tabs8 H P1 P2 P3 P4 P6 P7 P8) : Tabs8 H' P1 P2 P3 P4 P6 P7 P8 := ⟨⟨f.tab _ T.t.t1, f.tab _ T.t.t2, f.tab _ T.t.t3, f.tab _ T.t.t4, f.tab _ T.t.t5⟩, f.tab _ T.t7, f.tab _ T.t8⟩
theorem see_row {K : PySem.W.Frag} {G : Hp} {aS : Addr} (h : SqT K G aS [.str "drawer", .bl false]) : RowE K G [([], .ref aS)] seeE := .cons ⟨rfl, .tup h (.cons (.str _) (.cons (.bl _) .nil))⟩ .nil
def spMInit (K : PySem.W.Frag) (C CR CS CT P1 P2 P3 P4 P6 P7 P8 : Addr) : Sp := fun vs H Q E => ∃ (x dx : Addr) (v u : V), vs = [.ref x, v, u] ∧ H x = some (.ins C dx []) ∧ Tabs8 H P1 P2 P3 P4 P6 P7 P8 ∧
  ((StackQ K H v false ∧ Refused H E CS) ∨ (∃ nm, StackQ K H v true ∧ Kn K H u nm ∧ nm ≠ "bool" ∧ Refused H E CT) ∨
   ∃ l lss kp, v = .ref l ∧ u = .bl kp ∧ StackQ K H (.ref l) true ∧ StackAt K H l lss ∧ GoodLs lss ∧ (∀ es ∈ lss, (es.map (·.1)).Nodup) ∧ sizeS lss ≤ 80 ∧ treeB (laidE lss) = true ∧ treeB (plainE (overE seeE (laidE lss))) = true ∧
    ∀ H' w, Fr x x H H' → MoAt K C CR H' x w lss (laidE lss) seeE [] → w.kp = kp → w.f = 0 → w.h = 0 → w.s = 0 → w.pw = .non → w.dk = false → w.sl = .non → H' w.o = some (.lst []) → Q .non H')
section
variable {P : Program} {w : World} {K : PySem.W.Frag} {mg : Str → Option Value} {base : Heap}
theorem scMInit : FnScope ["self", "stack", "keep"] ["self", "stack", "keep"] (defScope uInit) := ⟨rfl, rfl, rfl, by decide +kernel, rfl, by decide +kernel, by decide +kernel⟩
theorem ok_mInit {f C CR CS CT fC fY fD P1 P2 P3 P4 P6 P7 P8 aS : Addr} {fd fdC fdY fdD : FuncData} (F : FunD K "__init__" "Mount.__init__" (defArgs uInit) (defBody uInit) (defScope uInit) [] [("keep", .bl true)] f fd) (T : MT K mg C) (M : Mg mg) (MR : MgR mg) (R : Ref K mg "NoTree" CT)
    (SS : Cst K mg "SEE_THROUGH" [.str "drawer", .bl false] aS)
    (GC : FnOk P w K mg base (L2.CX P w) 12 fC fdC ["thing"] (spCheckStackG K P1 P2 P3 P4 P6 P8 CS)) (mC : mg "check_stack" = some (.ref fC)) (kC : PySem.W.keepIn K (.ref fC) = true) (bC : Binds K fdC ["thing"] [])
    (GY : FnOk P w K mg base CX0 1 fY fdY ["stack"] (spCopied K)) (mY : mg "_copied" = some (.ref fY)) (kY : PySem.W.keepIn K (.ref fY) = true) (bY : Binds K fdY ["stack"] [])
    (GD : FnOk P w K mg base (L2.CX P w) 13 fD fdD ["stack"] (spLaidP K P1 P2 P3 P4 P6 P7 P8)) (mD : mg "laid" = some (.ref fD)) (kD : PySem.W.keepIn K (.ref fD) = true) (bD : Binds K fdD ["stack"] []) :
    FnOk P w K mg base (L2.CX P w) 14 f fd ["self", "stack", "keep"] (spMInit K C CR CS CT P1 P2 P3 P4 P6 P7 P8) := by
  refine F.ok scMInit (fun vs H Q E h => ?_) (fun cdv A outer s H vs Q E hr h => ?_)
  · obtain ⟨x, dx, v, u, rfl, _⟩ := h
    rfl
  · obtain ⟨x, dx, v, u, rfl, ob, TB, h⟩ := h
    have r12 := hr.mono (show 12 ≤ 13 by decide)
    have r1 := hr.mono (show 1 ≤ 13 by decide)
    have hu1 : (A.deeper (envOfC "Mount.__init__" (defScope uInit) s.heap.objs.size f cdv)).units + 1 < cLine := by have := hr.units; omega
    refine ⟨_, pss_cons (ps_expr (pe_call (E := E) GC r12 (by rfl) mC kC bC .nil (passes_call (takes_of rfl rfl rfl rfl) (fun _ _ _ _ h => h)) (pa_cons (pv 1) pa_nil)))
      (pss_cons (ps_if (pt_not (pt_val (pe_callB call_is (by rfl) M.isinstance boot_isinstance (pa_cons (pv 2) (pa_cons (pe_bltn (v := .ty "bool") (by rfl) MR.bool (by decide +kernel) rfl) pa_nil)))))
        (pss_one (ps_raise rfl (takes_of rfl rfl rfl rfl) (pmk_own PySem.F.excBase_ValueError R.x R.g R.k (raises_own R.b R.t) rfl))) pss_nil)
      (pss_cons (ps_fld (pv 0) (pe_call (E := E0) GY r1 (by rfl) mY kY bY .nil pass0 (pa_cons (pv 1) pa_nil)) rfl)
      (pss_cons (ps_fld (pv 0) (pe_call (E := E) GD hr (by rfl) mD kD bD .nil (passes_call (takes_of rfl rfl rfl rfl) (fun _ _ _ _ h => h)) (pa_cons (pv 1) pa_nil)) rfl)
      (pss_cons (ps_fld (pv 0) (pv 2) rfl)
      (pss_cons (ps_fld (pv 0) (pe_dispT hu1 (pps_cons (pe_tup pa_nil) (pe_glob (v := .ref aS) (by rfl) SS.g rfl) pps_nil) rfl rfl (by simp) (by decide)) rfl)
      (pss_cons (ps_fld (pv 0) pe_int rfl)
      (pss_cons (ps_fld (pv 0) (pe_lst pa_nil) rfl)
      (pss_cons (ps_fld (pv 0) pe_dnewK rfl)
      (pss_cons (ps_fld (pv 0) pe_int rfl)
      (pss_cons (ps_fld (pv 0) pe_int rfl)
      (pss_cons (ps_fld (pv 0) pe_non rfl)
      (pss_cons (ps_fld (pv 0) pe_bl rfl)
      (pss_one (ps_fld (pv 0) pe_non rfl)))))))))))))), ?_⟩
    rcases h with ⟨sq, bad⟩ | ⟨nm, sq, kn, nb, bad⟩ | ⟨l, lss, kp, rfl, rfl, sq, st, gl, nd, s80, tl, to, k⟩
    · exact ⟨_, rfl, v, false, rfl, sq, TB.t, TB.t8, (fun z => nomatch z), fun _ => bad⟩
    · refine ⟨_, rfl, v, true, rfl, sq, TB.t, TB.t8, (fun _ H1 x1 => ⟨_, rfl, u, nm, "bool", rfl, kn.ex x1, rfl, _, rfl, ?_⟩), fun z => nomatch z⟩
      have : isB nm "bool" = false := by
        unfold isB
        rw [show (nm == "bool") = false from beq_eq_false_iff_ne.mpr nb]
        simp
      rw [this]
      exact iteT (bad H1 x1)
    refine ⟨_, rfl, .ref l, true, rfl, sq, TB.t, TB.t8, (fun _ H1 x1 => ?_), fun z => nomatch z⟩
    refine ⟨_, rfl, .bl kp, "bool", "bool", rfl, .bl kp, rfl, _, rfl, ?_⟩
    rw [show isB "bool" "bool" = true by decide]
    refine iteF ?_
    have st1 := st.ex x1
    obtain ⟨ds, h1, h2, h3⟩ := id st1
    have flat : ∀ es ∈ lss, FlatE es := fun es he => flat_entries (layerB_parts (gl.2.2 es he).2).2.2.1
    have ob1 := x1.keep _ _ ob (fun ps z => by cases z)
    have lds := Paired.length h3
    refine ⟨_, rfl, l, ds, lss, rfl, h1, h2, h3, (fun es he => ⟨nd es he, by have := (layerB_parts (gl.2.2 es he).2).1; omega, flat es he⟩), by have := gl.2.1; omega, fun H2 b ds' x2 hbn eb pds => ?_⟩
    have lsb : LsAt K H2 b lss := ⟨ds', eb, pairMem pds fun d es he q => ⟨by
      obtain ⟨_, kv, e, r⟩ := q
      exact ⟨kv, Or.inl e, r⟩, (gl.2.2 es he).1, (gl.2.2 es he).2, nd es he⟩⟩
    have x12 := x1.trans x2
    have ob2 := x12.keep _ _ ob (fun ps z => by cases z)
    have st2 := st1.ex x2
    have f2 := frx_set (u := putF "_below" (V.ref b) []) ob2
    have g1 : Fr x x H (upd H2 x (.ins C dx (putF "_below" (V.ref b) []))) := frx_trans (Ex.fr x12) f2
    have stG := frx_stack ob2 f2 st2
    have lsG := frx_ls ob2 f2 lsb
    have obG : (upd H2 x (.ins C dx (putF "_below" (V.ref b) []))) x = some (.ins C dx [("_below", V.ref b)]) := upd_same
    refine ⟨_, rfl, x, C, dx, [], rfl, ob2, T.cl, T.nb, (by decide), ?_⟩
    generalize upd H2 x (.ins C dx (putF "_below" (V.ref b) [])) = G1 at g1 stG lsG obG ⊢
    clear lsb eb pds st1 st2 h1 h2 h3 x1 x2 x12 f2 ob1 ob2 hbn lds
    have TB1 := TB.fr g1
    -- the tree below
    refine ⟨_, rfl, l, lss, rfl, stG, gl, nd, s80, TB1, fun H3 t kt x3 et htn rt => ?_⟩
    have ob3 := x3.keep _ _ obG (fun ps z => by cases z)
    have okb := (laidE_ok (lss := lss) fun es he => ⟨(gl.2.2 es he).2, nd es he⟩).1
    have tb3 : TrIn K H3 t (laidE lss) := ⟨⟨kt, Or.inl et, rt⟩, tl, okb.nd⟩
    have ls3 := lsG.ex x3
    refine ⟨_, rfl, x, C, dx, _, rfl, ob3, T.cl, T.nt, (by show 1 < 1000; decide), _, rfl, _, rfl, x, C, dx, _, rfl, upd_same, T.cl, T.nk, (by show 2 < 1000; decide), ?_⟩
    have f3 : Fr x x H3 (upd (upd H3 x (.ins C dx (putF "_base" (V.ref t) [("_below", V.ref b)]))) x (.ins C dx (putF "_keep" (V.bl kp) (putF "_base" (V.ref t) [("_below", V.ref b)])))) := frx_trans (frx_set ob3) (frx_set upd_same)
    have g3 := frx_trans (frx_trans g1 (Ex.fr x3)) f3
    have tb := frx_trin ob3 f3 tb3
    have ls := frx_ls ob3 f3 ls3
    have ob4 : (upd (upd H3 x (.ins C dx (putF "_base" (V.ref t) [("_below", V.ref b)]))) x (.ins C dx (putF "_keep" (V.bl kp) (putF "_base" (V.ref t) [("_below", V.ref b)])))) x = some (.ins C dx [("_below", V.ref b), ("_base", V.ref t), ("_keep", V.bl kp)]) := upd_same
    generalize upd (upd H3 x (.ins C dx (putF "_base" (V.ref t) [("_below", V.ref b)]))) x (.ins C dx (putF "_keep" (V.bl kp) (putF "_base" (V.ref t) [("_below", V.ref b)]))) = G at g3 tb ls ob4 ⊢
    clear f3 ls3 tb3 et rt htn x3 ob3 TB1 g1 stG lsG obG
    -- the upper layer
    intro a0 ha0
    refine ⟨Nat.zero_le _, fun p0 hp0 => ?_⟩
    have d0 : (upd G a0 (.dT [])) a0 = some (.dT []) := upd_same
    have xe := Ex.new (o := .tup []) hp0
    have xa := (Ex.new (o := .dT []) ha0).trans xe
    have t1 : PathX (upd (upd G a0 (.dT [])) p0 (.tup [])) p0 [] := upd_same
    have d1 := xe.keep _ _ d0 (fun ps z => by cases z)
    generalize upd (upd G a0 (.dT [])) p0 (.tup []) = Hm at xa t1 d1 ⊢
    clear d0 xe hp0
    refine ⟨d1, [([], .ref aS)], .cons ⟨⟨p0, rfl, t1⟩, rfl⟩ .nil, (by show 1 ≤ 15; decide), ?_⟩
    have emt : mergeT [] [(([] : List L2.Key), V.ref aS)] = [([], .ref aS)] := rfl
    rw [emt]
    have xb : Ex G (upd Hm a0 (.dT [([], .ref aS)])) := xa.put ha0
    have e0 : (upd Hm a0 (.dT [([], .ref aS)])) a0 = some (.dT [([], .ref aS)]) := upd_same
    generalize upd Hm a0 (.dT [([], .ref aS)]) = G0 at xb e0 ⊢
    clear t1 d1 xa emt
    have a0t : a0 ≠ t := fun z => by
      obtain ⟨⟨kv, h | ⟨o, h⟩, _⟩, _⟩ := tb
      · rw [← z, ha0] at h; cases h
      · rw [← z, ha0] at h; cases h
    have en0 : LyAt K G0 a0 seeE := ⟨⟨_, Or.inl e0, see_row (SS.t G0)⟩, seeE_ok.2.1, seeE_ok.1, seeE_ok.2.2⟩
    have ob5 := xb.keep _ _ ob4 (fun ps z => by cases z)
    have tb5 := TrIn.kp (K := K) (fun _ _ e q => xb.keep _ _ e (fun ps z => by rw [z] at q; exact q)) (fun _ _ e q => xb.keep _ _ e (fun ps z => by rw [z] at q; exact q)) tb
    have ls5 := ls.ex xb
    refine ⟨_, rfl, x, C, dx, _, rfl, ob5, T.cl, T.ne, (by show 3 < 1000; decide), _, rfl, x, C, dx, _, rfl, upd_same, T.cl, T.nf, (by show 4 < 1000; decide), ?_⟩
    have f5 := frx_trans (frx_set (u := putF "_entries" (V.ref a0) [("_below", V.ref b), ("_base", V.ref t), ("_keep", V.bl kp)]) ob5) (frx_set (u := putF "_files" (V.int 0) (putF "_entries" (V.ref a0) [("_below", V.ref b), ("_base", V.ref t), ("_keep", V.bl kp)])) upd_same)
    have ob6 : (upd (upd G0 x (.ins C dx (putF "_entries" (V.ref a0) [("_below", V.ref b), ("_base", V.ref t), ("_keep", V.bl kp)]))) x (.ins C dx (putF "_files" (V.int 0) (putF "_entries" (V.ref a0) [("_below", V.ref b), ("_base", V.ref t), ("_keep", V.bl kp)])))) x = some (.ins C dx [("_below", V.ref b), ("_base", V.ref t), ("_keep", V.bl kp), ("_entries", V.ref a0), ("_files", V.int 0)]) := upd_same
    have g6 := frx_trans (frx_trans g3 (Ex.fr xb)) f5
    have tb6 := frx_trin ob5 f5 tb5
    have ls6 := frx_ls ob5 f5 ls5
    have en6 := frx_ly ob5 f5 en0
    generalize upd (upd G0 x (.ins C dx (putF "_entries" (V.ref a0) [("_below", V.ref b), ("_base", V.ref t), ("_keep", V.bl kp)]))) x (.ins C dx (putF "_files" (V.int 0) (putF "_entries" (V.ref a0) [("_below", V.ref b), ("_base", V.ref t), ("_keep", V.bl kp)]))) = G6 at g6 tb6 ls6 en6 ob6 ⊢
    clear f5 ls5 tb5 ob5 en0 xb e0 ob4 tb ls g3 ha0
    -- what is torn, and who reads
    refine ⟨Nat.zero_le _, fun o ho => ?_⟩
    have x7 := Ex.new (o := .lst []) ho
    have hox : o ≠ x := fun z => by rw [z, ob6] at ho; cases ho
    have ob7 := x7.keep _ _ ob6 (fun ps z => by cases z)
    have eo : (upd G6 o (.lst [])) o = some (.lst []) := upd_same
    have tb7 := TrIn.kp (K := K) (fun _ _ e q => x7.keep _ _ e (fun ps z => by rw [z] at q; exact q)) (fun _ _ e q => x7.keep _ _ e (fun ps z => by rw [z] at q; exact q)) tb6
    have en7 := LyAt.kp (K := K) (fun _ _ e q => x7.keep _ _ e (fun ps z => by rw [z] at q; exact q)) (fun _ _ e q => x7.keep _ _ e (fun ps z => by rw [z] at q; exact q)) en6
    have ls7 := ls6.ex x7
    have g7 := frx_trans g6 (Ex.fr x7)
    generalize upd G6 o (.lst []) = G7 at ob7 eo tb7 en7 ls7 g7 ⊢
    clear x7 g6 tb6 ls6 en6 ob6 ho
    refine ⟨_, rfl, x, C, dx, _, rfl, ob7, T.cl, T.no, (by show 5 < 1000; decide), fun r hr => ?_⟩
    have f7 := frx_set (u := putF "_torn" (V.ref o) [("_below", V.ref b), ("_base", V.ref t), ("_keep", V.bl kp), ("_entries", V.ref a0), ("_files", V.int 0)]) ob7
    have ob8 : (upd G7 x (.ins C dx (putF "_torn" (V.ref o) [("_below", V.ref b), ("_base", V.ref t), ("_keep", V.bl kp), ("_entries", V.ref a0), ("_files", V.int 0)]))) x = some (.ins C dx [("_below", V.ref b), ("_base", V.ref t), ("_keep", V.bl kp), ("_entries", V.ref a0), ("_files", V.int 0), ("_torn", V.ref o)]) := upd_same
    have tb8 := frx_trin ob7 f7 tb7
    have en8 := frx_ly ob7 f7 en7
    have ls8 := frx_ls ob7 f7 ls7
    have eo8 := frx_seq ob7 f7 o _ eo trivial
    have g8 := frx_trans g7 f7
    generalize upd G7 x (.ins C dx (putF "_torn" (V.ref o) [("_below", V.ref b), ("_base", V.ref t), ("_keep", V.bl kp), ("_entries", V.ref a0), ("_files", V.int 0)])) = G8 at f7 ob8 tb8 en8 ls8 eo8 g8 hr ⊢
    clear f7 tb7 en7 ls7 eo g7 ob7
    have x9 := Ex.new (o := .dK []) hr
    have hrx : r ≠ x := fun z => by rw [z, ob8] at hr; cases hr
    have ob9 := x9.keep _ _ ob8 (fun ps z => by cases z)
    have er : (upd G8 r (.dK [])) r = some (.dK []) := upd_same
    have tb9 := TrIn.kp (K := K) (fun _ _ e q => x9.keep _ _ e (fun ps z => by rw [z] at q; exact q)) (fun _ _ e q => x9.keep _ _ e (fun ps z => by rw [z] at q; exact q)) tb8
    have en9 := LyAt.kp (K := K) (fun _ _ e q => x9.keep _ _ e (fun ps z => by rw [z] at q; exact q)) (fun _ _ e q => x9.keep _ _ e (fun ps z => by rw [z] at q; exact q)) en8
    have ls9 := ls8.ex x9
    have eo9 := x9.keep _ _ eo8 (fun ps z => by cases z)
    have g9 := frx_trans g8 (Ex.fr x9)
    generalize upd G8 r (.dK []) = G9 at ob9 er tb9 en9 ls9 eo9 g9 ⊢
    clear x9 g8 tb8 en8 ls8 eo8 ob8 hr
    have key : ∀ Gf, Fr x x G9 Gf → Gf x = some (.ins C dx (Mw.fl ⟨b, t, kp, a0, 0, o, r, 0, 0, .non, false, .non⟩)) → Q .non Gf := fun Gf f e => by
      refine k Gf ⟨b, t, kp, a0, 0, o, r, 0, 0, .non, false, .non⟩ (frx_trans g9 f) ⟨⟨dx, e⟩, frx_ls ob9 f ls9, ⟨gl.1, gl.2.1⟩, frx_trin ob9 f tb9, frx_ly ob9 f en9, a0t, to, ⟨[], f.keep r _ hrx hrx er (fun ps z => by cases z), .nil⟩, (fun e he => nomatch he)⟩ rfl rfl rfl rfl rfl rfl rfl (frx_seq ob9 f o _ eo9 trivial)
    refine ⟨_, rfl, x, C, dx, _, rfl, ob9, T.cl, T.nr, (by show 6 < 1000; decide), _, rfl, x, C, dx, _, rfl, upd_same, T.cl, T.nh, (by show 7 < 1000; decide), _, rfl, x, C, dx, _, rfl, upd_same, T.cl, T.ns, (by show 8 < 1000; decide),
      _, rfl, x, C, dx, _, rfl, upd_same, T.cl, T.np, (by show 9 < 1000; decide), _, rfl, x, C, dx, _, rfl, upd_same, T.cl, T.nd, (by show 10 < 1000; decide), _, rfl, x, C, dx, _, rfl, upd_same, T.cl, T.nl, (by show 11 < 1000; decide), ?_⟩
    exact key _ (frx_trans (frx_set ob9) (frx_trans (frx_set upd_same) (frx_trans (frx_set upd_same) (frx_trans (frx_set upd_same) (frx_trans (frx_set upd_same) (frx_set upd_same)))))) upd_same
end
end LK

namespace LK
open PySem PySem.Spec PyProof.Rows L2 GA LT LE L2H LD
/-! ### frozen, joined, mended -/
theorem LsAt.stack {K : PySem.W.Frag} {H : Hp} {b : Addr} {lss : List Ents} (h : LsAt K H b lss) : StackAt K H b lss := by
  obtain ⟨ds, e, p⟩ := h
  exact ⟨ds, SqL.of e, fun H' x => SqL.of (x.keep _ _ e (fun ps z => by cases z)), pairImp (fun _ _ q => q.1) p⟩
theorem ls_all {K : PySem.W.Frag} {H : Hp} : ∀ {ds : List Addr} {lss : List Ents}, Paired (fun d ls => LyAt K H d ls) ds lss → ∀ es ∈ lss, smallE es ∧ layerB es = true ∧ (es.map (·.1)).Nodup
  | _, _, .nil, _, h => nomatch h
  | _, _, .cons a t, es, h => by
    rcases List.mem_cons.mp h with rfl | h
    · exact a.2
    · exact ls_all t es h
theorem ly_ex {K : PySem.W.Frag} {H H' : Hp} {d : Addr} {es : Ents} (x : Ex H H') (h : LyAt K H d es) : LyAt K H' d es :=
  LyAt.kp (K := K) (fun _ _ e q => x.keep _ _ e (fun ps z => by rw [z] at q; exact q)) (fun _ _ e q => x.keep _ _ e (fun ps z => by rw [z] at q; exact q)) h
theorem trin_ex {K : PySem.W.Frag} {H H' : Hp} {d : Addr} {es : Ents} (x : Ex H H') (h : TrIn K H d es) : TrIn K H' d es :=
  TrIn.kp (K := K) (fun _ _ e q => x.keep _ _ e (fun ps z => by rw [z] at q; exact q)) (fun _ _ e q => x.keep _ _ e (fun ps z => by rw [z] at q; exact q)) h
/-- what one mount says of another state of it -/
def Mw.like (w' w : Mw) : Prop := w'.kp = w.kp ∧ w'.f = w.f ∧ w'.o = w.o ∧ w'.h = w.h ∧ w'.s = w.s
def spFreeze (K : PySem.W.Frag) (C CR CD CF P1 P2 P3 P4 P6 P7 P8 : Addr) : Sp := fun vs H Q E => ∃ m w lss bs es rs, vs = [.ref m] ∧ MoAt K C CR H m w lss bs es rs ∧ Tabs8 H P1 P2 P3 P4 P6 P7 P8 ∧ (w.dk = true → Refused H E CD) ∧
  (w.dk = false → (4 ≤ lss.length → Refused H E CF) ∧ (lss.length < 4 → layerB (plainE es) = true ∧ smallE (plainE es) ∧ sizeS (plainE es :: lss) ≤ 80 ∧ treeB (laidE (plainE es :: lss)) = true ∧ treeB (plainE (overE seeE (laidE (plainE es :: lss)))) = true ∧
    ∀ H' w', Fr m m H H' → MoAt K C CR H' m w' (plainE es :: lss) (laidE (plainE es :: lss)) seeE [] → w'.like w → w'.pw = w.pw → w'.dk = w.dk → w'.sl = w.sl → Q .non H'))
section
variable {P : Program} {w : World} {K : PySem.W.Frag} {mg : Str → Option Value} {base : Heap}
theorem scFreeze : FnScope ["self"] ["self"] (defScope uFreeze) := ⟨rfl, rfl, rfl, by decide +kernel, rfl, by decide +kernel, by decide +kernel⟩
theorem ok_freeze {f C CR CD CF fL fR fD P1 P2 P3 P4 P6 P7 P8 aS : Addr} {fd fdL fdR fdD : FuncData} (F : Fun K "freeze" "Mount.freeze" uFreeze f fd) (T : MT K mg C) (M : Mg mg) (MK : MgK mg) (R : Ref K mg "Full" CF) (SS : Cst K mg "SEE_THROUGH" [.str "drawer", .bl false] aS)
    (mL : Meth K C "_check_light" fL) (GL : FnOk P w K mg base (L2.CX P w) 1 fL fdL ["self"] (spLight K C CD)) (bL : Binds K fdL ["self"] [])
    (GR : FnOk P w K mg base CX0 1 fR fdR ["tree"] (spRenum K)) (mR : mg "renumbered" = some (.ref fR)) (kR : PySem.W.keepIn K (.ref fR) = true) (bR : Binds K fdR ["tree"] [])
    (GD : FnOk P w K mg base (L2.CX P w) 13 fD fdD ["stack"] (spLaidP K P1 P2 P3 P4 P6 P7 P8)) (mD : mg "laid" = some (.ref fD)) (kD : PySem.W.keepIn K (.ref fD) = true) (bD : Binds K fdD ["stack"] []) :
    FnOk P w K mg base (L2.CX P w) 14 f fd ["self"] (spFreeze K C CR CD CF P1 P2 P3 P4 P6 P7 P8) := by
  refine F.okX scFreeze (fun vs H Q E h => ?_) (fun cdv A outer s H vs Q E hr h => ?_)
  · obtain ⟨m, w, lss, bs, es, rs, rfl, _⟩ := h
    rfl
  · obtain ⟨m, w, lss, bs, es, rs, rfl, g, TB, k1, k2⟩ := h
    have r1 := hr.mono (show 1 ≤ 13 by decide)
    have hu1 : (A.deeper (envOfC "Mount.freeze" (defScope uFreeze) s.heap.objs.size f cdv)).units + 1 < cLine := by have := hr.units; omega
    obtain ⟨tm, hm⟩ := MK.mostLayers
    refine ⟨_, pss_cons (ps_expr (pe_meth0 (E := E) (pv 0) T.cl mL GL r1 bL .nil (passes_call (takes_of rfl rfl rfl rfl) (fun _ _ _ _ h => h))))
      (pss_cons (ps_if (pt_cmpR op_ge (pe_callB call_len_seq (by rfl) M.len PySem.boot_len (pa_cons (pe_fld (pv 0) rfl) pa_nil)) (pe_glob (v := .int 4) (by rfl) hm ⟨_, rfl⟩) (nomark _))
        (pss_one (ps_raise rfl (takes_of rfl rfl rfl rfl) (pmk_own PySem.F.excBase_ValueError R.x R.g R.k (raises_own R.b R.t) rfl))) pss_nil)
      (pss_cons (ps_fld (pv 0) (pe_op op_cat (pe_lst (pa_cons (pe_call (E := E0) GR r1 (by rfl) mR kR bR .nil pass0 (pa_cons (pe_fld (pv 0) rfl) pa_nil)) pa_nil)) (pe_fld (pv 0) rfl)) rfl)
      (pss_cons (ps_fld (pv 0) (pe_call (E := E) GD hr (by rfl) mD kD bD .nil (passes_call (takes_of rfl rfl rfl rfl) (fun _ _ _ _ h => h)) (pa_cons (pe_fld (pv 0) rfl) pa_nil)) rfl)
      (pss_cons (ps_fld (pv 0) (pe_dispT hu1 (pps_cons (pe_tup pa_nil) (pe_glob (v := .ref aS) (by rfl) SS.g rfl) pps_nil) rfl rfl (by simp) (by decide)) rfl)
      (pss_one (ps_fld (pv 0) pe_dnewK rfl)))))), ?_⟩
    obtain ⟨dx, ob⟩ := id g.ob
    obtain ⟨ds, eb, pds⟩ := id g.below
    have ls0 : LsAt K H w.b lss := ⟨ds, eb, pds⟩
    have lds := Paired.length pds
    refine ⟨_, rfl, m, dx, _, rfl, ob, rfl, m, dx, w, rfl, ob, k1, fun hd => ?_⟩
    obtain ⟨k3, k4⟩ := k2 hd
    refine ⟨_, rfl, m, C, dx, _, _, rfl, ob, T.cl, T.nb, rfl, w.b, ds.map V.ref, rfl, Or.inl (SqL.of eb), _, _, rfl, rfl, _, rfl, ?_⟩
    rw [List.length_map, lds]
    by_cases h4 : 4 ≤ lss.length
    · rw [decide_eq_true (show (4 : Int) ≤ ((lss.length : Nat) : Int) by omega)]
      exact iteT (k3 h4 H (Ex.refl H))
    rw [decide_eq_false (show ¬ (4 : Int) ≤ ((lss.length : Nat) : Int) by omega)]
    obtain ⟨lyP, smP, s80, tl, to, k5⟩ := k4 (by omega)
    have ren : ∀ e ∈ es, renOk e.2 := fun e he => (entry_ren ((layerB_parts g.ent.2.2.1).2.2.1 e he))
    have e40 := (layerB_parts g.ent.2.2.1).1
    have ndP : ((plainE es).map (·.1)).Nodup := by
      rw [plainE_keys]
      exact (keysUpE_perm es).nodup_iff.mpr g.ent.2.2.2
    refine iteF ⟨_, rfl, m, C, dx, _, _, rfl, ob, T.cl, T.ne, rfl, w.e, es, rfl, g.ent.1, g.ent.2.2.2, ren, by omega, fun H1 l kl x1 el hl rl => ⟨(by show 1 ≤ sizeLine; decide), fun p hp => ?_⟩⟩
    have x2 := Ex.new (o := .lst [V.ref l]) hp
    have ep : (upd H1 p (.lst [V.ref l])) p = some (.lst [V.ref l]) := upd_same
    have ly2 : LyAt K (upd H1 p (.lst [V.ref l])) l (plainE es) := ly_ex x2 ⟨⟨kl, Or.inl el, rl⟩, smP, lyP, ndP⟩
    have x02 := x1.trans x2
    generalize upd H1 p (.lst [V.ref l]) = H2 at x2 ep ly2 x02 ⊢
    have ob2 := x02.keep _ _ ob (fun ps z => by cases z)
    obtain ⟨ds2, eb2, pds2⟩ := ls0.ex x02
    have lds2 := Paired.length pds2
    refine ⟨_, rfl, m, C, dx, _, _, rfl, ob2, T.cl, T.nb, rfl, p, w.b, [V.ref l], ds2.map V.ref, rfl, rfl, ep, eb2, by rw [List.length_map, lds2, sizeLine_eq]; show 1 + lss.length ≤ _; omega, fun q hq => ?_⟩
    have x3 := Ex.new (o := .lst ([V.ref l] ++ ds2.map V.ref)) hq
    have ls3 : LsAt K (upd H2 q (.lst ([V.ref l] ++ ds2.map V.ref))) q (plainE es :: lss) := ⟨l :: ds2, upd_same, .cons (ly_ex x3 ly2) (pairImp (fun _ _ y => ly_ex x3 y) pds2)⟩
    have x03 := x02.trans x3
    generalize upd H2 q (.lst ([V.ref l] ++ ds2.map V.ref)) = H3 at x3 ls3 x03 ⊢
    clear x2 ep ly2 x02 ob2 eb2 pds2 x1 el rl hl hp hq lds2
    have ob3 := x03.keep _ _ ob (fun ps z => by cases z)
    refine ⟨_, rfl, m, C, dx, _, rfl, ob3, T.cl, T.nb, (by show 12 < 1000; decide), ?_⟩
    have f3 := frx_set (u := putF "_below" (V.ref q) w.fl) ob3
    have ls4 := frx_ls ob3 f3 ls3
    have f4 := frx_trans (Ex.fr x03) f3
    have ob4 : (upd H3 m (.ins C dx (putF "_below" (V.ref q) w.fl))) m = some (.ins C dx (Mw.fl { w with b := q })) := upd_same
    generalize upd H3 m (.ins C dx (putF "_below" (V.ref q) w.fl)) = H4 at f3 ls4 f4 ob4 ⊢
    clear f3 ls3 x3 x03 ob3
    -- the tree below
    have gl : GoodLs (plainE es :: lss) := ⟨by simp, by simp; omega, fun e he => ⟨(ls_all ls4.choose_spec.2 e he).1, (ls_all ls4.choose_spec.2 e he).2.1⟩⟩
    have nds : ∀ e ∈ plainE es :: lss, (e.map (·.1)).Nodup := fun e he => (ls_all ls4.choose_spec.2 e he).2.2
    refine ⟨_, rfl, m, C, dx, _, _, rfl, ob4, T.cl, T.nb, rfl, q, _, rfl, ls4.stack, gl, nds, s80, TB.fr f4, fun H5 t kt x5 et htn rt => ?_⟩
    have okb := (laidE_ok (lss := plainE es :: lss) fun e he => ⟨(gl.2.2 e he).2, nds e he⟩).1
    have tb5 : TrIn K H5 t (laidE (plainE es :: lss)) := ⟨⟨kt, Or.inl et, rt⟩, tl, okb.nd⟩
    have ls5 := ls4.ex x5
    have ob5 := x5.keep _ _ ob4 (fun ps z => by cases z)
    refine ⟨_, rfl, m, C, dx, _, rfl, ob5, T.cl, T.nt, (by show 12 < 1000; decide), ?_⟩
    have f5 := frx_set (u := putF "_base" (V.ref t) (Mw.fl { w with b := q })) ob5
    have f6 := frx_trans (frx_trans f4 (Ex.fr x5)) f5
    have tb := frx_trin ob5 f5 tb5
    have ls := frx_ls ob5 f5 ls5
    have ob6 : (upd H5 m (.ins C dx (putF "_base" (V.ref t) (Mw.fl { w with b := q })))) m = some (.ins C dx (Mw.fl { w with b := q, t := t })) := upd_same
    generalize upd H5 m (.ins C dx (putF "_base" (V.ref t) (Mw.fl { w with b := q }))) = G at f5 f6 tb ls ob6 ⊢
    clear f5 ls5 tb5 et rt htn x5 ob5 f4 ls4 ob4
    -- the upper layer
    intro a0 ha0
    refine ⟨Nat.zero_le _, fun p0 hp0 => ?_⟩
    have d0 : (upd G a0 (.dT [])) a0 = some (.dT []) := upd_same
    have xe := Ex.new (o := .tup []) hp0
    have xa := (Ex.new (o := .dT []) ha0).trans xe
    have t1 : PathX (upd (upd G a0 (.dT [])) p0 (.tup [])) p0 [] := upd_same
    have d1 := xe.keep _ _ d0 (fun ps z => by cases z)
    generalize upd (upd G a0 (.dT [])) p0 (.tup []) = Hm at xa t1 d1 ⊢
    clear d0 xe hp0
    refine ⟨d1, [([], .ref aS)], .cons ⟨⟨p0, rfl, t1⟩, rfl⟩ .nil, (by show 1 ≤ 15; decide), ?_⟩
    have emt : mergeT [] [(([] : List L2.Key), V.ref aS)] = [([], .ref aS)] := rfl
    rw [emt]
    have xb : Ex G (upd Hm a0 (.dT [([], .ref aS)])) := xa.put ha0
    have e0 : (upd Hm a0 (.dT [([], .ref aS)])) a0 = some (.dT [([], .ref aS)]) := upd_same
    generalize upd Hm a0 (.dT [([], .ref aS)]) = G0 at xb e0 ⊢
    clear t1 d1 xa emt
    have a0t : a0 ≠ t := fun z => by
      obtain ⟨⟨kv, h | ⟨o, h⟩, _⟩, _⟩ := tb
      · rw [← z, ha0] at h; cases h
      · rw [← z, ha0] at h; cases h
    have en0 : LyAt K G0 a0 seeE := ⟨⟨_, Or.inl e0, see_row (SS.t G0)⟩, seeE_ok.2.1, seeE_ok.1, seeE_ok.2.2⟩
    have ob7 := xb.keep _ _ ob6 (fun ps z => by cases z)
    have tb7 := trin_ex xb tb
    have ls7 := ls.ex xb
    refine ⟨_, rfl, m, C, dx, _, rfl, ob7, T.cl, T.ne, (by show 12 < 1000; decide), fun r hr => ?_⟩
    have f7 := frx_set (u := putF "_entries" (V.ref a0) (Mw.fl { w with b := q, t := t })) ob7
    have f8 := frx_trans (frx_trans f6 (Ex.fr xb)) f7
    have tb8 := frx_trin ob7 f7 tb7
    have ls8 := frx_ls ob7 f7 ls7
    have en8 := frx_ly ob7 f7 en0
    have ob8 : (upd G0 m (.ins C dx (putF "_entries" (V.ref a0) (Mw.fl { w with b := q, t := t })))) m = some (.ins C dx (Mw.fl { w with b := q, t := t, e := a0 })) := upd_same
    generalize upd G0 m (.ins C dx (putF "_entries" (V.ref a0) (Mw.fl { w with b := q, t := t }))) = G8 at f7 f8 tb8 ls8 en8 ob8 hr ⊢
    clear f7 ls7 tb7 ob7 en0 xb e0 ob6 tb ls f6 ha0
    have x9 := Ex.new (o := .dK []) hr
    have hrm : r ≠ m := fun z => by rw [z, ob8] at hr; cases hr
    have ob9 := x9.keep _ _ ob8 (fun ps z => by cases z)
    have er : (upd G8 r (.dK [])) r = some (.dK []) := upd_same
    have tb9 := trin_ex x9 tb8
    have en9 := ly_ex x9 en8
    have ls9 := ls8.ex x9
    generalize upd G8 r (.dK []) = G9 at x9 ob9 er tb9 en9 ls9 ⊢
    refine ⟨_, rfl, m, C, dx, _, rfl, ob9, T.cl, T.nr, (by show 12 < 1000; decide), ?_⟩
    have f9 := frx_set (u := putF "_readers" (V.ref r) (Mw.fl { w with b := q, t := t, e := a0 })) ob9
    exact k5 _ { w with b := q, t := t, e := a0, r := r } (frx_trans (frx_trans f8 (Ex.fr x9)) f9) ⟨⟨dx, upd_same⟩, frx_ls ob9 f9 ls9, ⟨gl.1, gl.2.1⟩, frx_trin ob9 f9 tb9, frx_ly ob9 f9 en9, a0t, to, ⟨[], f9.keep r _ hrm hrm er (fun ps z => by cases z), .nil⟩, (fun e he => nomatch he)⟩ ⟨rfl, rfl, rfl, rfl, rfl⟩ rfl rfl rfl
end
end LK

namespace LK
open PySem PySem.Spec PyProof.Rows L2 GA LT LE L2H LD
/-! ### joined (one layer), mended -/
def spNo : Sp := fun _ _ _ _ => False
theorem ok_no {P : Program} {w : World} {K : PySem.W.Frag} {mg : Str → Option Value} {base : Heap} {CX : CXT} {f : Addr} {fd : FuncData} {ps : List Str} : FnOk P w K mg base CX 1 f fd ps spNo :=
  ⟨fun _ _ _ _ h => h.elim, fun _ _ _ _ _ _ _ _ _ _ _ _ _ h => h.elim⟩
def spJoin1 (K : PySem.W.Frag) (C CR CD CF : Addr) : Sp := fun vs H Q E => ∃ m w ls bs es rs, vs = [.ref m] ∧ MoAt K C CR H m w [ls] bs es rs ∧ (w.dk = true → Refused H E CD) ∧
  (w.dk = false → ∀ H' w', Fr m m H H' → MoAt K C CR H' m w' [ls] bs es [] → w'.like w → w'.pw = w.pw → w'.dk = w.dk → w'.sl = w.sl → Q .non H')
def spMend0 (K : PySem.W.Frag) (C CR : Addr) : Sp := fun vs H Q _ => ∃ m w lss bs es rs, vs = [.ref m] ∧ MoAt K C CR H m w lss bs es rs ∧ w.sl = .non ∧
  ∀ H' w', Fr m m H H' → MoAt K C CR H' m w' lss bs es [] → w'.like w → w'.pw = .non → w'.dk = false → w'.sl = .non → Q .non H'
section
variable {P : Program} {w : World} {K : PySem.W.Frag} {mg : Str → Option Value} {base : Heap}
theorem scMend : FnScope ["self"] ["self"] (defScope uMend) := ⟨rfl, rfl, rfl, by decide +kernel, rfl, by decide +kernel, by decide +kernel⟩
theorem ok_mend0 {f C CR fS : Addr} {fd fdS : FuncData} (F : Fun K "mend" "Mount.mend" uMend f fd) (T : MT K mg C) (mS : Meth K C "_settle" fS) (GS : FnOk P w K mg base CX0 1 fS fdS ["self", "draft"] spNo) (bS : Binds K fdS ["self", "draft"] []) : FnOk P w K mg base CX0 2 f fd ["self"] (spMend0 K C CR) := by
  refine F.ok scMend (fun vs H Q E h => ?_) (fun cdv A outer s H vs Q E hr h => ?_)
  · obtain ⟨m, w, lss, bs, es, rs, rfl, _⟩ := h
    rfl
  · obtain ⟨m, w, lss, bs, es, rs, rfl, g, hs, k⟩ := h
    refine ⟨_, pss_cons (ps_if (pt_cmpR op_notN (pe_fld (pv 0) rfl) pe_non (nomark _)) (pss_one (ps_expr (pe_meth (E := E0) (pv 0) T.cl mS GS hr bS .nil pass0 (pa_cons (pe_fld (pv 0) rfl) pa_nil)))) pss_nil)
      (pss_cons (ps_fld (pv 0) pe_non rfl)
      (pss_cons (ps_fld (pv 0) pe_bl rfl)
      (pss_cons (ps_fld (pv 0) pe_non rfl)
      (pss_one (ps_fld (pv 0) pe_dnewK rfl))))), ?_⟩
    obtain ⟨dx, ob⟩ := id g.ob
    obtain ⟨b, t, kp, e, ff, o, r, hh, ss, pw, dk, sl⟩ := w
    have hs : sl = .non := hs
    subst hs
    refine ⟨_, rfl, m, C, dx, _, _, rfl, ob, T.cl, T.nl, rfl, rfl, _, rfl, ?_⟩
    rw [show (!decide (V.non = V.non)) = false by rw [decide_eq_true rfl]; rfl]
    refine iteF ⟨_, rfl, m, C, dx, _, rfl, ob, T.cl, T.nl, (by show 12 < 1000; decide), _, rfl, m, C, dx, _, rfl, upd_same, T.cl, T.nd, (by show 12 < 1000; decide), _, rfl, m, C, dx, _, rfl, upd_same, T.cl, T.np, (by show 12 < 1000; decide), ?_⟩
    have key : ∀ G, Fr m m H G → G m = some (.ins C dx (Mw.fl ⟨b, t, kp, e, ff, o, r, hh, ss, .non, false, .non⟩)) → ∀ r2, G r2 = none → Q .non (upd (upd G r2 (.dK [])) m (.ins C dx (Mw.fl ⟨b, t, kp, e, ff, o, r2, hh, ss, .non, false, .non⟩))) := fun G f1 obG r2 hr2 => by
      have x9 := Ex.new (o := .dK []) hr2
      have hrm : r2 ≠ m := fun z => by rw [z, obG] at hr2; cases hr2
      have ob9 := x9.keep _ _ obG (fun ps z => by cases z)
      have f9 := frx_set (u := Mw.fl ⟨b, t, kp, e, ff, o, r2, hh, ss, .non, false, .non⟩) ob9
      have er : (upd G r2 (.dK [])) r2 = some (.dK []) := upd_same
      have fa := frx_trans f1 (Ex.fr x9)
      have ls : LsAt K H b lss := g.below
      exact k _ ⟨b, t, kp, e, ff, o, r2, hh, ss, .non, false, .non⟩ (frx_trans fa f9) ⟨⟨dx, upd_same⟩, frx_ls ob9 f9 (frx_ls ob fa ls), g.many, frx_trin ob9 f9 (frx_trin ob fa g.base), frx_ly ob9 f9 (frx_ly ob fa g.ent), g.et, g.tree, ⟨[], f9.keep r2 _ hrm hrm er (fun ps z => by cases z), .nil⟩, (fun e he => nomatch he)⟩ ⟨rfl, rfl, rfl, rfl, rfl⟩ rfl rfl rfl
    exact fun r2 hr2 => ⟨_, rfl, m, C, dx, _, rfl, (Ex.new (o := .dK []) hr2).keep _ _ upd_same (fun ps z => by cases z), T.cl, T.nr, (by show 12 < 1000; decide), key _ (frx_trans (frx_set ob) (frx_trans (frx_set upd_same) (frx_set upd_same))) upd_same r2 hr2⟩
abbrev jnN : List Str := ["self", "joined", "layer"]
theorem scJoin : FnScope jnN ["self"] (defScope uJoin) := ⟨rfl, rfl, rfl, by decide +kernel, rfl, by decide +kernel, by decide +kernel⟩
theorem ok_join1 {f C CR CD CF fL fG : Addr} {fd fdL fdG : FuncData} (F : Fun K "join" "Mount.join" uJoin f fd) (T : MT K mg C) (M : Mg mg) (ML : ∃ t, mg "MOST_ENTRIES" = some (.int 40 t)) (R : Ref K mg "Full" CF) (mSum : mg "sum" = none) (mRev : mg "reversed" = none)
    (mL : Meth K C "_check_light" fL) (GL : FnOk P w K mg base (L2.CX P w) 1 fL fdL ["self"] (spLight K C CD)) (bL : Binds K fdL ["self"] [])
    (GG : FnOk P w K mg base (L2.CX P w) 1 fG fdG ["upper", "lower"] spNo) (mG : mg "together" = some (.ref fG)) (kG : PySem.W.keepIn K (.ref fG) = true) (bG : Binds K fdG ["upper", "lower"] []) :
    FnOk P w K mg base (L2.CX P w) 2 f fd ["self"] (spJoin1 K C CR CD CF) := by
  refine F.okX scJoin (fun vs H Q E h => ?_) (fun cdv A outer s H vs Q E hr h => ?_)
  · obtain ⟨m, w, ls, bs, es, rs, rfl, _⟩ := h
    rfl
  · obtain ⟨m, w, ls, bs, es, rs, rfl, g, k1, k2⟩ := h
    obtain ⟨tm, hm⟩ := ML
    refine ⟨_, pss_cons (ps_expr (pe_meth0 (E := E) (pv 0) T.cl mL GL hr bL .nil (passes_call (takes_of rfl rfl rfl rfl) (fun _ _ _ _ h => h))))
      (pss_cons (ps_if (pt_cmpR op_gt (pe_callB (L2.cr_sum rfl) (by rfl) mSum (by decide +kernel) (pa_cons (pe_lc (own := [("layer", 2)]) (g := gName 2) (tt := tYes) rfl scJoin.nd (pi_list (pe_fld (pv 0) rfl)) (blkOk_by (N := jnN) (sc := defScope uJoin) (by decide +kernel)) (fun _ _ _ _ _ => pg_name (i := 2) scJoin.nd rfl (Or.inl rfl)) (fun _ _ _ _ _ => pts_nil)
          (fun _ _ _ _ _ => pe_callB call_lenR (by rfl) M.len PySem.boot_len (pa_cons (pv 2) pa_nil))) pa_nil)) (pe_glob (v := .int 40) (by rfl) hm ⟨_, rfl⟩) (nomark _))
        (pss_one (ps_raise rfl (takes_of rfl rfl rfl rfl) (pmk_own PySem.F.excBase_ValueError R.x R.g R.k (raises_own R.b R.t) rfl))) pss_nil)
      (pss_cons (ps_set (i := 1) scJoin.nd rfl (Or.inl rfl) (pe_ix (r := rIxL K) ix_list (pe_fld (pv 0) rfl) (pe_un un_neg pe_int) (fun _ _ => rfl)))
      (pss_cons (ps_for (passes_of rfl) rfl (pi_reversed (by rfl) mRev (pa_cons (pe_slice (r := rSlL K) sl_list (pe_fld (pv 0) rfl) po_none (po_some (pe_un un_neg pe_int))) pa_nil)) (pg_name (i := 2) scJoin.nd rfl (Or.inl rfl))
        (pss_one (ps_set (i := 1) scJoin.nd rfl (Or.inl rfl) (pe_call (E := E) GG hr (by rfl) mG kG bG .nil (passes_call (takes_of rfl rfl rfl rfl) (fun _ _ _ _ h => h)) (pa_cons (pv 2) (pa_cons (pv 1) pa_nil))))))
      (pss_cons (ps_fld (pv 0) (pe_lst (pa_cons (pv 1) pa_nil)) rfl)
      (pss_one (ps_fld (pv 0) pe_dnewK rfl)))))), ?_⟩
    obtain ⟨dx, ob⟩ := id g.ob
    obtain ⟨ds, eb, pds⟩ := g.below
    obtain ⟨d, rfl, ly⟩ : ∃ d, ds = [d] ∧ LyAt K H d ls := by
      cases pds with
      | cons a b =>
        cases b
        exact ⟨_, rfl, a⟩
    refine ⟨_, rfl, m, dx, _, rfl, ob, rfl, m, dx, w, rfl, ob, k1, fun hd => ?_⟩
    refine ⟨_, rfl, m, C, dx, _, _, rfl, ob, T.cl, T.nb, rfl, w.b, rfl, ⟨_, SqL.of eb⟩, fun D hD => ?_⟩
    refine lc_it (walk_list (K := K) (a := w.b) (xs := [V.ref d])) (fun i G => Ex H G ∧ G D = some (.lst (([V.int (ls.length : Nat)] : List V).take i))) ⟨Ex.new hD, upd_same⟩ (fun i G _ h => SqL.of (h.1.keep _ _ eb (fun ps z => by cases z))) ?_ ?_
    · rintro i y G G' hi ⟨xg, eD⟩ ⟨rfl, hy⟩
      obtain rfl : i = 0 := by
        have : i < 1 := hi
        omega
      cases hy
      obtain ⟨kl, hl, rl⟩ := TrAt.ex xg ly.1
      have ll := rl.len
      refine ⟨rfl, ?_⟩
      unfold tYes
      refine iteT ⟨_, rfl, d, kl, rfl, hl, [], eD, (by show 0 < sizeLine; decide), xg.put hD, ?_⟩
      rw [upd_same, ll]
      rfl
    rintro G ⟨xg, eD⟩
    have l40 := (layerB_parts ly.2.2.1).1
    refine ⟨D, [(ls.length : Nat)], rfl, SqL.of eD, _, _, rfl, rfl, _, rfl, ?_⟩
    rw [decide_eq_false (show ¬ (40 : Int) < ([((ls.length : Nat) : Int)]).sum by simp; omega)]
    have ob1 := xg.keep _ _ ob (fun ps z => by cases z)
    have eb1 := xg.keep _ _ eb (fun ps z => by cases z)
    have ec : cutV [V.ref d] none (some (-1)) = ([] : List V) := by rw [cutV_last]; rfl
    refine iteF ⟨_, rfl, m, C, dx, _, _, rfl, ob1, T.cl, T.nb, rfl, _, rfl, w.b, [V.ref d], -1, .ref d, rfl, rfl, SqL.of eb1, rfl, ?_⟩
    refine ⟨_, rfl, m, C, dx, _, _, rfl, ob1, T.cl, T.nb, rfl, 1, rfl, _, rfl, w.b, [V.ref d], rfl, SqL.of eb1, fun p hp => ?_⟩
    rw [ec]
    have x2 := Ex.new (o := .lst []) hp
    have ep : (upd G p (.lst [])) p = some (.lst []) := upd_same
    have x02 := xg.trans x2
    generalize upd G p (.lst []) = G2 at x2 ep x02 ⊢
    refine ⟨p, [], rfl, SqL.of ep, for_it (walk_rev (K := K) (a := p) (xs := [])) (fun i σ F => σ = [some (.ref m), some (.ref d), none] ∧ F = G2) ⟨rfl, rfl⟩ (fun i σ F _ h => by rw [h.2]; exact SqL.of ep) (fun i x σ F F' hi _ _ => absurd hi (Nat.not_lt_zero i)) ?_⟩
    rintro σ F ⟨rfl, rfl⟩
    refine ⟨_, rfl, (by show 1 ≤ sizeLine; decide), fun q hq => ?_⟩
    have x3 := Ex.new (o := .lst [V.ref d]) hq
    have x03 := x02.trans x3
    have ls3 : LsAt K (upd F q (.lst [V.ref d])) q [ls] := ⟨[d], upd_same, .cons (ly_ex x03 ly) .nil⟩
    have ob3 := x03.keep _ _ ob (fun ps z => by cases z)
    have tb3 := trin_ex x03 g.base
    have en3 := ly_ex x03 g.ent
    generalize upd F q (.lst [V.ref d]) = G3 at x3 x03 ls3 ob3 tb3 en3 ⊢
    refine ⟨_, rfl, m, C, dx, _, rfl, ob3, T.cl, T.nb, (by show 12 < 1000; decide), fun r hr => ?_⟩
    have f4 := frx_set (u := putF "_below" (V.ref q) w.fl) ob3
    have ob4 : (upd G3 m (.ins C dx (putF "_below" (V.ref q) w.fl))) m = some (.ins C dx (Mw.fl { w with b := q })) := upd_same
    have ls4 := frx_ls ob3 f4 ls3
    have tb4 := frx_trin ob3 f4 tb3
    have en4 := frx_ly ob3 f4 en3
    generalize upd G3 m (.ins C dx (putF "_below" (V.ref q) w.fl)) = G4 at f4 ob4 ls4 tb4 en4 hr ⊢
    have x9 := Ex.new (o := .dK []) hr
    have hrm : r ≠ m := fun z => by rw [z, ob4] at hr; cases hr
    have ob9 := x9.keep _ _ ob4 (fun ps z => by cases z)
    have er : (upd G4 r (.dK [])) r = some (.dK []) := upd_same
    refine ⟨_, rfl, m, C, dx, _, rfl, ob9, T.cl, T.nr, (by show 12 < 1000; decide), ?_⟩
    have f9 := frx_set (u := putF "_readers" (V.ref r) (Mw.fl { w with b := q })) ob9
    exact k2 hd _ { w with b := q, r := r } (frx_trans (frx_trans (frx_trans (Ex.fr x03) f4) (Ex.fr x9)) f9) ⟨⟨dx, upd_same⟩, frx_ls ob9 f9 (ls4.ex x9), g.many, frx_trin ob9 f9 (trin_ex x9 tb4), frx_ly ob9 f9 (ly_ex x9 en4), g.et, g.tree, ⟨[], f9.keep r _ hrm hrm er (fun ps z => by cases z), .nil⟩, (fun e he => nomatch he)⟩ ⟨rfl, rfl, rfl, rfl, rfl⟩ rfl rfl rfl
end
end LK

namespace LK
open PySem PySem.Spec PyProof.Rows L2 GA LT LE L2H LD
/-! ### a method called with keywords -/
def tMethK (C : Addr) (m : Str) (n mm : Nat) (sp : Sp) (gV : List V → List V → List V) (E : XK) (ta : TE) (t tk : TA) : TE := fun σ H Q => ta σ H fun x H1 => ∃ a dx fs, x = .ref a ∧ H1 a = some (.ins C dx fs) ∧ fs.lookup m = none ∧
  t σ H1 fun vs H2 => tk σ H2 fun zs H3 => (V.ref a :: vs).length = n ∧ zs.length = mm ∧ sp (gV (.ref a :: vs) zs) H3 Q E
theorem pe_methK {X : Cx} {CX : CXT} {k n : Nat} {C f : Addr} {m : Str} {fd : FuncData} {ps ks : List Str} {sp : Sp} {E : XK} {apos pos : Pos} {o e : Expr} {es : List Expr} {kws : List Keyword} {ta : TE} {t tk : TA} {g : List Value → List Value → List Value} {gV : List V → List V → List V} {pl : Sem Bool}
    (he : PE X o ta) (c : Cls X.K C) (hm : Meth X.K C m f) (F : FnOk X.prog X.w X.K X.mg X.base CX k f fd ps sp) (hr : Room k X.A) (hb : KBn X.K fd ps n ks g gV) (hx : Passes CX X E) (ha : PA X (e :: es) t) (hkw : PK X kws tk)
    (hall : (backToKw pos (keywordEach kws X.env)).all (·.1.isSome) = true := by rfl) (hks : (backToKw pos (keywordEach kws X.env)).filterMap (·.1) = ks := by rfl)
    (hst : starEach (e :: es) X.env = (false, eval e X.env) :: starEach es X.env := by rfl)
    (hpl : ((backTo pos (starEach (e :: es) X.env)).any (·.1) || (backToKw pos (keywordEach kws X.env)).any (·.1.isNone)) = false := by rfl)
    (ht : eval (.Call (.Attribute o m apos) (e :: es) kws pos) X.env = (do
      let ov ← eval o X.env
      standAt apos.atName
      let (f, first) ← holding [ov] (getMethod ov m pl)
      callWith pos f first (backTo pos (starEach (e :: es) X.env)) (backToKw pos (keywordEach kws X.env))) := by rfl) :
    PE X (.Call (.Attribute o m apos) (e :: es) kws pos) (tMethK C m n ks.length sp gV E ta t tk) := by
  refine ⟨fun pins s σ H Q I h => ?_⟩
  refine PySem.W.methodCall_KW (pl := pl) (thn (he.run pins s σ H _ I h) fun u s1 ⟨x, H1, I1, rx, a, dx, fs, ex, ea, l, q⟩ => ?_) ht
  subst ex
  obtain rfl : u = Value.ref a := rx
  refine getmeth_ok I1 ea c hm l ?_
  refine PySem.W.callWith_KW (first := [.ref a]) (h₀ := X.base) I.ok.mod.kin hm.kp hall (thn (ha.run pos pins s1 σ H1 _ I1 q) fun us s2 ⟨vs, H2, I2, r, q2⟩ => ?_) hpl hst
  refine thn (hkw.run pos pins s2 σ H2 _ I2 q2) fun ws s3 ⟨zs, H3, I3, rz, l1, l2, q3⟩ => ⟨I3.kIn, ?_⟩
  rw [hks]
  exact run_fnN (us := .ref a :: us) (vs := .ref a :: vs) F hr hb hx I3 (.cons rfl r) rz l1 l2 q3
theorem Vals.app {vs zs : List V} {us ws : List Value} (a : Vals vs us) (b : Vals zs ws) : Vals (vs ++ zs) (us ++ ws) := by
  induction a with
  | nil => exact b
  | cons h _ ih => exact .cons h ih
/-- a def without defaults: n written, the others by their names -/
theorem Fun.kw {K : PySem.W.Frag} {x qual : Str} {st : Stmt} {f : Addr} {fd : FuncData} {ps ks : List Str} {n : Nat} (F : Fun K x qual st f fd)
    (h : ∀ (kV doc pm : Value) (an : Option Addr) (cdv ct : Value) (us ws : List Value), us.length = n → ws.length = ks.length → bindArgs (PySem.W.fnOf x qual (defArgs st) (defBody st) (defScope st) .none kV doc pm an cdv ct) ⟨us, ks.zip ws⟩ = pure (ps.zip (us ++ ws))) :
    KBn K fd ps n ks (fun us ws => us ++ ws) (fun vs zs => vs ++ zs) := by
  obtain ⟨oc, od, kV, doc, pm, an, cdv, ct, osl, rfl, lk, hcd⟩ := F.ex
  exact ⟨fun s us ws _ l1 l2 => .of_eq (h kV doc pm an cdv ct us ws l1 l2), fun a b => Vals.app a b⟩
/-! ### a method called in a suite that catches -/
def tMethE (C : Addr) (m : Str) (sp : Sp) (E : L2.St → XK) (ta : TE) (t : TA) : TE := fun σ H Q => ta σ H fun x H1 => ∃ a dx fs, x = .ref a ∧ H1 a = some (.ins C dx fs) ∧ fs.lookup m = none ∧ t σ H1 fun vs H2 => sp (.ref a :: vs) H2 Q (E σ)
theorem pe_methE {X : Cx} {CX : CXT} {k : Nat} {C f : Addr} {m : Str} {fd : FuncData} {ps : List Str} {sp : Sp} {E : L2.St → XK} {apos pos : Pos} {o e : Expr} {es : List Expr} {ta : TE} {t : TA} {pl : Sem Bool}
    (he : PE X o ta) (c : Cls X.K C) (hm : Meth X.K C m f) (F : FnOk X.prog X.w X.K X.mg X.base CX k f fd ps sp) (hr : Room k X.A) (hb : Binds X.K fd ps []) (hx : ∀ σ, PassesAt CX X σ (E σ)) (ha : PA X (e :: es) t)
    (hst : starEach (e :: es) X.env = (false, eval e X.env) :: starEach es X.env := by rfl) (hpl : (backTo pos (starEach es X.env)).any (·.1) = false := by rfl)
    (ht : eval (.Call (.Attribute o m apos) (e :: es) [] pos) X.env = (do
      let ov ← eval o X.env
      standAt apos.atName
      let (f, first) ← holding [ov] (getMethod ov m pl)
      callWith pos f first (backTo pos (starEach (e :: es) X.env)) (backToKw pos (keywordEach [] X.env))) := by rfl) :
    PE X (.Call (.Attribute o m apos) (e :: es) [] pos) (tMethE C m sp E ta t) := by
  refine ⟨fun pins s σ H Q I h => ?_⟩
  refine PySem.W.methodCall_KW (pl := pl) (thn (he.run pins s σ H _ I h) fun u s1 ⟨x, H1, I1, rx, a, dx, fs, ex, ea, l, q⟩ => ?_) ht
  subst ex
  obtain rfl : u = Value.ref a := rx
  refine getmeth_ok I1 ea c hm l ?_
  refine PySem.W.callWith_K (first := [.ref a]) (h₀ := X.base) I1.ok.mod.kin hm.kp (thn (ha.run pos pins s1 σ H1 _ I1 q) fun us s2 ⟨vs, H2, I2, r, q2⟩ => ⟨I2.kIn, ?_⟩) hst hpl
  exact run_fnS (us := .ref a :: us) (vs := .ref a :: vs) F hr hb (hx σ) I2 (.cons rfl r) q2
def tMethE0 (C : Addr) (m : Str) (sp : Sp) (E : L2.St → XK) (ta : TE) : TE := fun σ H Q => ta σ H fun x H1 => ∃ a dx fs, x = .ref a ∧ H1 a = some (.ins C dx fs) ∧ fs.lookup m = none ∧ sp [.ref a] H1 Q (E σ)
theorem pe_methE0 {X : Cx} {CX : CXT} {k : Nat} {C f : Addr} {m : Str} {fd : FuncData} {ps : List Str} {sp : Sp} {E : L2.St → XK} {apos pos : Pos} {o : Expr} {ta : TE} {pl : Sem Bool}
    (he : PE X o ta) (c : Cls X.K C) (hm : Meth X.K C m f) (F : FnOk X.prog X.w X.K X.mg X.base CX k f fd ps sp) (hr : Room k X.A) (hb : Binds X.K fd ps []) (hx : ∀ σ, PassesAt CX X σ (E σ))
    (ht : eval (.Call (.Attribute o m apos) [] [] pos) X.env = (do
      let ov ← eval o X.env
      standAt apos.atName
      let (f, first) ← holding [ov] (getMethod ov m pl)
      callWith pos f first (backTo pos (starEach [] X.env)) (backToKw pos (keywordEach [] X.env))) := by rfl) :
    PE X (.Call (.Attribute o m apos) [] [] pos) (tMethE0 C m sp E ta) := by
  refine ⟨fun pins s σ H Q I h => ?_⟩
  refine PySem.W.methodCall_KW (pl := pl) (thn (he.run pins s σ H _ I h) fun u s1 ⟨x, H1, I1, rx, a, dx, fs, ex, ea, l, q⟩ => ?_) ht
  subst ex
  obtain rfl : u = Value.ref a := rx
  refine getmeth_ok I1 ea c hm l ?_
  exact PySem.W.callWith_K0 (first := [.ref a]) I1.kIn hm.kp (run_fnS (us := [.ref a]) (vs := [.ref a]) F hr hb (hx σ) I1 (.cons rfl .nil) q)
theorem run_fnNS {X : Cx} {CX : CXT} {k n : Nat} {f : Addr} {fd : FuncData} {ps ks : List Str} {sp : Sp} {E : L2.St → XK} {g : List Value → List Value → List Value} {gV : List V → List V → List V} {pins : List (Addr × Obj)} {σ : L2.St} {H : Hp} {s : Shared} {Q : VK} {us ws : List Value} {vs zs : List V}
    (F : FnOk X.prog X.w X.K X.mg X.base CX k f fd ps sp) (hr : Room k X.A) (hb : KBn X.K fd ps n ks g gV) (hx : PassesAt CX X σ (E σ))
    (I : Inv X pins σ H s) (r : Vals vs us) (rz : Vals zs ws) (l1 : vs.length = n) (l2 : zs.length = ks.length) (h : sp (gV vs zs) H Q (E σ)) : wpAny (model X.prog X.w) X.A (call (.ref f) us (ks.zip ws)) (EP X pins σ Q) X.xe s := by
  have r2 := hb.rel r rz
  refine wpAny_call (codeAny_mono (F.run X.A X.stack s H ⟨us, ks.zip ws⟩ (g us ws) (gV vs zs) Q (E σ) hr I.env0 (hb.to s us ws I.kIn (r.length.symm.trans l1) (rz.length.symm.trans l2)) r2 h) fun r s' hq => ?_)
  cases r with
  | error e => exact hx pins H s e s' I hq
  | ok fl =>
    cases fl with
    | ret u => exact I.after hq
    | next => exact False.elim hq
    | brk => exact False.elim hq
    | cont => exact False.elim hq
def tMethKE (C : Addr) (m : Str) (n mm : Nat) (sp : Sp) (gV : List V → List V → List V) (E : L2.St → XK) (ta : TE) (t tk : TA) : TE := fun σ H Q => ta σ H fun x H1 => ∃ a dx fs, x = .ref a ∧ H1 a = some (.ins C dx fs) ∧ fs.lookup m = none ∧
  t σ H1 fun vs H2 => tk σ H2 fun zs H3 => (V.ref a :: vs).length = n ∧ zs.length = mm ∧ sp (gV (.ref a :: vs) zs) H3 Q (E σ)
theorem pe_methKE {X : Cx} {CX : CXT} {k n : Nat} {C f : Addr} {m : Str} {fd : FuncData} {ps ks : List Str} {sp : Sp} {E : L2.St → XK} {apos pos : Pos} {o e : Expr} {es : List Expr} {kws : List Keyword} {ta : TE} {t tk : TA} {g : List Value → List Value → List Value} {gV : List V → List V → List V} {pl : Sem Bool}
    (he : PE X o ta) (c : Cls X.K C) (hm : Meth X.K C m f) (F : FnOk X.prog X.w X.K X.mg X.base CX k f fd ps sp) (hr : Room k X.A) (hb : KBn X.K fd ps n ks g gV) (hx : ∀ σ, PassesAt CX X σ (E σ)) (ha : PA X (e :: es) t) (hkw : PK X kws tk)
    (hall : (backToKw pos (keywordEach kws X.env)).all (·.1.isSome) = true := by rfl) (hks : (backToKw pos (keywordEach kws X.env)).filterMap (·.1) = ks := by rfl)
    (hst : starEach (e :: es) X.env = (false, eval e X.env) :: starEach es X.env := by rfl)
    (hpl : ((backTo pos (starEach (e :: es) X.env)).any (·.1) || (backToKw pos (keywordEach kws X.env)).any (·.1.isNone)) = false := by rfl)
    (ht : eval (.Call (.Attribute o m apos) (e :: es) kws pos) X.env = (do
      let ov ← eval o X.env
      standAt apos.atName
      let (f, first) ← holding [ov] (getMethod ov m pl)
      callWith pos f first (backTo pos (starEach (e :: es) X.env)) (backToKw pos (keywordEach kws X.env))) := by rfl) :
    PE X (.Call (.Attribute o m apos) (e :: es) kws pos) (tMethKE C m n ks.length sp gV E ta t tk) := by
  refine ⟨fun pins s σ H Q I h => ?_⟩
  refine PySem.W.methodCall_KW (pl := pl) (thn (he.run pins s σ H _ I h) fun u s1 ⟨x, H1, I1, rx, a, dx, fs, ex, ea, l, q⟩ => ?_) ht
  subst ex
  obtain rfl : u = Value.ref a := rx
  refine getmeth_ok I1 ea c hm l ?_
  refine PySem.W.callWith_KW (first := [.ref a]) (h₀ := X.base) I.ok.mod.kin hm.kp hall (thn (ha.run pos pins s1 σ H1 _ I1 q) fun us s2 ⟨vs, H2, I2, r, q2⟩ => ?_) hpl hst
  refine thn (hkw.run pos pins s2 σ H2 _ I2 q2) fun ws s3 ⟨zs, H3, I3, rz, l1, l2, q3⟩ => ⟨I3.kIn, ?_⟩
  rw [hks]
  exact run_fnNS (us := .ref a :: us) (vs := .ref a :: vs) F hr hb (hx σ) I3 (.cons rfl r) rz l1 l2 q3
/-! ### which refusal is told -/
/-- the refusal of number i is told -/
def ToldI (K : PySem.W.Frag) (H : Hp) (Q : VK) (i : Int) : Prop := ∀ H' r, Ex H H' → RefAt K H' r i → Q (.ref r) H'
theorem PathOr.map {K : PySem.W.Frag} {H H' : Hp} {v : V} {b b' : Prop} {R R' : Addr → List Str → Prop} (x : Ex H H') (h : PathOr K H v b R) (hb : b → b') (hr : ∀ a p, R a p → R' a p) : PathOr K H' v b' R' := by
  rcases h with ⟨h1, h2⟩ | ⟨a, p, h1, h2, h3, h4⟩
  · exact Or.inl ⟨h1.ex x, hb h2⟩
  · exact Or.inr ⟨a, p, h1, h2.ex x, h3, hr a p h4⟩
/-! ### what is asked of handles -/
structure MoIn (K : PySem.W.Frag) (C CR : Addr) (H : Hp) (m : Addr) (w : Mw) (lss : List Ents) (bs es : Ents) (rs : List (Int × Rw)) (P1 P2 P3 P4 P5 P7 : Addr) : Prop where
  g : MoAt K C CR H m w lss bs es rs
  t : Tabs5 H P1 P2 P3 P4 P5
  t7 : TabG H P7
  dk : w.dk = false
  few : rs.length < 1000
inductive HanQ (K : PySem.W.Frag) (C CR : Addr) (H : Hp) (Q : VK) (m : Addr) (w : Mw) (lss : List Ents) (bs es : Ents) (rs : List (Int × Rw)) : Int → V → Prop
  | open_ {v : V} (h : PathOrX K H v (ToldI K H Q 0) fun _ p => (valE (plainE (overE es bs)) p = none → ToldI K H Q 8) ∧ (valE (plainE (overE es bs)) p = some drD → ToldI K H Q 10) ∧
      ∀ n z, valE (plainE (overE es bs)) p = some (fileD n z) → ∃ n' z' u, ((valE es p = some (fileD n' z') ∧ u = true) ∨ (valE es p = none ∧ valE bs p = some (fileD n' z') ∧ u = false)) ∧
        ∀ H', Fr m w.r H H' → MoAt K C CR H' m { w with h := w.h + 1 } lss bs es (rs ++ [(w.h, ⟨n', z, u, false⟩)]) → Q (.int w.h) H') : HanQ K C CR H Q m w lss bs es rs 0 v
  | text {v : V} {nm : String} (kn : Kn K H v nm) (b : hdlB rs v = none → ToldI K H Q 5) (k : ∀ d, hdlB rs v = some d → Q (.str d.z) H) : HanQ K C CR H Q m w lss bs es rs 1 v
  | stale {v : V} {nm : String} (kn : Kn K H v nm) (b : hdlB rs v = none → ToldI K H Q 5) (k : ∀ d, hdlB rs v = some d → Q (.bl d.st) H) : HanQ K C CR H Q m w lss bs es rs 2 v
  | shut {v : V} {nm : String} (kn : Kn K H v nm) (b : hdlB rs v = none → ToldI K H Q 5) (k : ∀ i d, v = .int i → lkR rs i = some d → ∀ H', Fr m w.r H H' → MoAt K C CR H' m w lss bs es (rs.filter fun e => decide (e.1 ≠ i)) → Q .non H') : HanQ K C CR H Q m w lss bs es rs 3 v
def spHandled (K : PySem.W.Frag) (C CR P1 P2 P3 P4 P5 P7 : Addr) : Sp := fun vs H Q _ => ∃ m w lss bs es rs n v, vs = [.ref m, .int n, v] ∧ MoIn K C CR H m w lss bs es rs P1 P2 P3 P4 P5 P7 ∧ HanQ K C CR H Q m w lss bs es rs n v
section
variable {P : Program} {w : World} {K : PySem.W.Frag} {mg : Str → Option Value} {base : Heap}
theorem scHandled : FnScope ["_law_mount", "_law_what", "_law_thing", "_law_e"] ["_law_mount", "_law_what", "_law_thing"] (defScope sHandled) := ⟨rfl, rfl, rfl, by decide +kernel, rfl, by decide +kernel, by decide +kernel⟩
theorem ok_handled {f C CR CD CP CN CI CH T fO fT fS fX fW P1 P2 P3 P4 P5 P7 : Addr} {fd fdO fdT fdS fdX fdW : FuncData} (F : Fun K "_law_handled" "_law_handled" sHandled f fd) (TM : MT K mg C) (gT : mg "TreeError" = some (.ref T))
    (e0 : PySem.W.exmOne K (.ref CP) (.ref T) = some true) (e8 : PySem.W.exmOne K (.ref CN) (.ref T) = some true) (eA : PySem.W.exmOne K (.ref CI) (.ref T) = some true) (e5 : PySem.W.exmOne K (.ref CH) (.ref T) = some true)
    (W0 : Wh K mg CP 0) (W8 : Wh K mg CN 8) (WA : Wh K mg CI 10) (W5 : Wh K mg CH 5)
    (mO : Meth K C "opened" fO) (GO : FnOk P w K mg base (L2.CX P w) 15 fO fdO ["self", "path"] (spOpened K C CR CD CP CN CI P1 P2 P3 P4 P5 P7)) (bO : Binds K fdO ["self", "path"] [])
    (mT : Meth K C "text_of" fT) (GT : FnOk P w K mg base (L2.CX P w) 3 fT fdT ["self", "handle"] (spHdl K C CR CD CH fun d => .str d.z)) (bT : Binds K fdT ["self", "handle"] [])
    (mS : Meth K C "is_stale" fS) (GS : FnOk P w K mg base (L2.CX P w) 3 fS fdS ["self", "handle"] (spHdl K C CR CD CH fun d => .bl d.st)) (bS : Binds K fdS ["self", "handle"] [])
    (mX : Meth K C "shut" fX) (GX : FnOk P w K mg base (L2.CX P w) 3 fX fdX ["self", "handle"] (spShut K C CR CD CH)) (bX : Binds K fdX ["self", "handle"] [])
    (GW : FnE P w K mg base CX0 1 fW fdW ["_law_e"] (spWhich K mg)) (mW : mg "_law_which" = some (.ref fW)) (kW : PySem.W.keepIn K (.ref fW) = true) (bW : Binds K fdW ["_law_e"] []) :
    FnOk P w K mg base CX0 16 f fd ["_law_mount", "_law_what", "_law_thing"] (spHandled K C CR P1 P2 P3 P4 P5 P7) := by
  refine F.ok scHandled (fun vs H Q E h => ?_) (fun cdv A outer s H vs Q E hr h => ?_)
  · obtain ⟨m, w, lss, bs, es, rs, n, v, rfl, _⟩ := h
    rfl
  · obtain ⟨m, w', lss, bs, es, rs, n, v, rfl, g, h⟩ := h
    have r3 := hr.mono (show 3 ≤ 15 by decide)
    refine ⟨_, pss_one (ps_try_as (i := 3) (ts := fun a cls d => tRet (tCallS (spWhich K mg a cls d) (fun _ _ _ _ => False) (tCons (tVar 3) tNil))) (Wout := fun _ _ _ _ => False) rfl rfl scHandled.nd rfl rfl ⟨rfl, by decide, Or.inl gT⟩ takes0
      (fun W pn xe tk _ => pss_cons (ps_if (pt_cmpR op_eq (pv 1) pe_int (nomark _)) (pss_one (ps_ret (pe_methE (E := WE W) (pv 0) TM.cl mO GO hr bO (fun σ => passAt tk σ) (pa_cons (pv 2) pa_nil)))) pss_nil)
        (pss_cons (ps_if (pt_cmpR op_eq (pv 1) pe_int (nomark _)) (pss_one (ps_ret (pe_methE (E := WE W) (pv 0) TM.cl mT GT r3 bT (fun σ => passAt tk σ) (pa_cons (pv 2) pa_nil)))) pss_nil)
        (pss_one (ps_ret (pe_ifExp (pt_cmpR op_eq (pv 1) pe_int (nomark _)) (pe_methE (E := WE W) (pv 0) TM.cl mS GS r3 bS (fun σ => passAt tk σ) (pa_cons (pv 2) pa_nil)) (pe_methE (E := WE W) (pv 0) TM.cl mX GX r3 bX (fun σ => passAt tk σ) (pa_cons (pv 2) pa_nil)))))))
      (fun a oe cls d pn hz hf => pss_one (ps_ret (pe_callE GW (by have r1 : Room 1 _ := hr.mono (by decide); exact ⟨r1.dp, r1.un⟩) ⟨hz, hf⟩ List.mem_cons_self (by rfl) mW kW bW (fun _ _ _ _ _ _ _ z => z.elim) (pa_cons (pv 3) pa_nil))))), ?_⟩
    have ref : ∀ (D : Addr) (i : Nat), PySem.W.exmOne K (.ref D) (.ref T) = some true → Wh K mg D i → ToldI K H Q i → Refused H (WE (wAs K (.ref T) 3 (fun a cls d => tRet (tCallS (spWhich K mg a cls d) (fun _ _ _ _ => False) (tCons (tVar 3) tNil))) (fun _ _ _ _ => False)
        { nx := fun _ G => Q .non G, rt := Q }) [some (.ref m), some (.int n), some v, none]) D := fun D i eT Wi b H2 x2 =>
      ⟨true, eT, fun _ a _ => ⟨_, rfl, D, i, rfl, rfl, rfl, Wi, fun H3 r x3 hr => b H3 r (x2.trans x3) hr⟩, fun z => nomatch z⟩
    obtain ⟨dx, ob⟩ := id g.g.ob
    have nod : ∀ {X : Prop}, w'.dk = true → X := fun e => by rw [g.dk] at e; cases e
    cases h with
    | open_ h =>
      refine ⟨_, rfl, rfl, _, rfl, ?_⟩
      rw [decide_eq_true rfl]
      refine iteT ⟨_, rfl, m, dx, _, rfl, ob, rfl, _, rfl, m, w', lss, bs, es, rs, v, rfl, g.g, g.t, g.t7, g.few, (fun e => nod e), fun _ => ?_⟩
      rcases h with ⟨pb, t0⟩ | ⟨a, p, rfl, pa, gp, q1, q2, q3⟩
      · exact .inl ⟨pb, ref CP 0 e0 W0 t0⟩
      · exact .inr ⟨a, p, rfl, pa, gp, fun e => ref CN 8 e8 W8 (q1 e), fun e => ref CI 10 eA WA (q2 e), q3⟩
    | text kn b k =>
      refine ⟨_, rfl, rfl, _, rfl, ?_⟩
      rw [show decide (V.int 1 = V.int 0) = false by decide +kernel]
      refine iteF ⟨_, rfl, rfl, _, rfl, ?_⟩
      rw [decide_eq_true rfl]
      exact iteT ⟨_, rfl, m, dx, _, rfl, ob, rfl, _, rfl, m, w', lss, bs, es, rs, v, _, rfl, g.g, kn, (fun e => nod e), fun _ => ⟨fun e => ref CH 5 e5 W5 (b e), k⟩⟩
    | stale kn b k =>
      refine ⟨_, rfl, rfl, _, rfl, ?_⟩
      rw [show decide (V.int 2 = V.int 0) = false by decide +kernel]
      refine iteF ⟨_, rfl, rfl, _, rfl, ?_⟩
      rw [show decide (V.int 2 = V.int 1) = false by decide +kernel]
      refine iteF ⟨_, rfl, rfl, _, rfl, ?_⟩
      rw [decide_eq_true rfl]
      exact iteT ⟨_, rfl, m, dx, _, rfl, ob, rfl, _, rfl, m, w', lss, bs, es, rs, v, _, rfl, g.g, kn, (fun e => nod e), fun _ => ⟨fun e => ref CH 5 e5 W5 (b e), k⟩⟩
    | shut kn b k =>
      refine ⟨_, rfl, rfl, _, rfl, ?_⟩
      rw [show decide (V.int 3 = V.int 0) = false by decide +kernel]
      refine iteF ⟨_, rfl, rfl, _, rfl, ?_⟩
      rw [show decide (V.int 3 = V.int 1) = false by decide +kernel]
      refine iteF ⟨_, rfl, rfl, _, rfl, ?_⟩
      rw [show decide (V.int 3 = V.int 2) = false by decide +kernel]
      exact iteF ⟨_, rfl, m, dx, _, rfl, ob, rfl, _, rfl, m, w', lss, bs, es, rs, v, _, rfl, g.g, kn, (fun e => nod e), fun _ => ⟨fun e => ref CH 5 e5 W5 (b e), k⟩⟩
end
end LK

namespace LK
open PySem PySem.Spec PyProof.Rows L2 GA LT LE L2H LD
/-! ### literals -/
/-- a tuple of texts written out; one of flat things -/
inductive LitKA : TA → List Str → Prop
  | nil : LitKA tNil []
  | cons {a : TA} {p : List Str} {z : Str} (h : LitKA a p) : LitKA (tCons (tC (.str z)) a) (z :: p)
inductive LitK : TE → List Str → Prop
  | mk {a : TA} {p : List Str} (h : LitKA a p) : LitK (tTup a) p
inductive LitA : TA → List PyData → Prop
  | nil : LitA tNil []
  | str {a : TA} {ds : List PyData} {z : Str} (h : LitA a ds) : LitA (tCons (tC (.str z)) a) (.str z :: ds)
  | int {a : TA} {ds : List PyData} {i : Int} (h : LitA a ds) : LitA (tCons (tC (.int i)) a) (.int i :: ds)
  | bl {a : TA} {ds : List PyData} {b : Bool} (h : LitA a ds) : LitA (tCons (tC (.bl b)) a) (.bool b :: ds)
  | non {a : TA} {ds : List PyData} (h : LitA a ds) : LitA (tCons (tC .non) a) (.none :: ds)
  | mul {a : TA} {ds : List PyData} {z : Str} {n : Int} (m : MulOk z n) (h : LitA a ds) : LitA (tCons (tOp (fun x y H Q => ∃ (z : Str) (n : Int), x = .str z ∧ y = .int n ∧ MulOk z n ∧ Q (.str (Txt.mul z n)) H) (tC (.str z)) (tC (.int n))) a) (.str (Txt.mul z n) :: ds)
inductive LitT : TE → List PyData → Prop
  | mk {a : TA} {ds : List PyData} (h : LitA a ds) : LitT (tTup a) ds
theorem LitKA.run {σ : L2.St} {H : Hp} {a : TA} {p : List Str} (l : LitKA a p) : ∀ {Q : List V → Hp → Prop}, Q (p.map V.str) H → a σ H Q := by
  induction l with
  | nil => exact fun h => h
  | cons _ ih => exact fun {Q} h => ih (Q := fun xs H2 => Q (_ :: xs) H2) h
theorem LitK.run {σ : L2.St} {H : Hp} {Q : VK} {t : TE} {p : List Str} (l : LitK t p) (hl : p.length ≤ 100) (h : ∀ b, H b = none → Q (.ref b) (upd H b (.tup (p.map V.str)))) : t σ H Q := by
  cases l with
  | mk l => exact l.run ⟨by rw [List.length_map]; exact Nat.le_trans hl (by decide), h⟩
def vOf : PyData → V
  | .bool b => .bl b
  | .int i => .int i
  | .str z => .str z
  | _ => .non
def flatP : PyData → Bool
  | .none | .bool _ | .int _ | .str _ => true
  | _ => false
theorem dp_flat {K : PySem.W.Frag} {H : Hp} {d : PyData} (h : flatP d = true) : Dp K H (vOf d) d := by
  cases d <;> first | exact .non | exact .bl _ | exact .int _ | exact .str _ | exact absurd (show false = true from h) Bool.false_ne_true
theorem dpAll_flat {K : PySem.W.Frag} {H : Hp} : ∀ {ds : List PyData}, ds.all flatP = true → DpAll K H (ds.map vOf) ds
  | [], _ => .nil
  | d :: ds, h => by
    rw [List.all_cons, Bool.and_eq_true] at h
    exact .cons (dp_flat h.1) (dpAll_flat h.2)
theorem LitA.run {σ : L2.St} {H : Hp} {a : TA} {ds : List PyData} (l : LitA a ds) : ∀ {Q : List V → Hp → Prop}, Q (ds.map vOf) H → a σ H Q := by
  induction l with
  | nil => exact fun h => h
  | str _ ih => exact fun {Q} h => ih (Q := fun xs H2 => Q (_ :: xs) H2) h
  | int _ ih => exact fun {Q} h => ih (Q := fun xs H2 => Q (_ :: xs) H2) h
  | bl _ ih => exact fun {Q} h => ih (Q := fun xs H2 => Q (_ :: xs) H2) h
  | non _ ih => exact fun {Q} h => ih (Q := fun xs H2 => Q (_ :: xs) H2) h
  | mul m _ ih => exact fun {Q} h => ⟨_, _, rfl, rfl, m, ih (Q := fun xs H2 => Q (_ :: xs) H2) h⟩
theorem LitA.flat {a : TA} {ds : List PyData} (l : LitA a ds) : ds.all flatP = true := by
  induction l with
  | nil => rfl
  | str _ ih => exact ih
  | int _ ih => exact ih
  | bl _ ih => exact ih
  | non _ ih => exact ih
  | mul _ _ ih => exact ih
theorem LitT.run {σ : L2.St} {H : Hp} {Q : VK} {t : TE} {ds : List PyData} (l : LitT t ds) (hl : ds.length ≤ 100) (h : ∀ b, H b = none → Q (.ref b) (upd H b (.tup (ds.map vOf)))) : t σ H Q := by
  cases l with
  | mk l => exact l.run ⟨by rw [List.length_map]; exact Nat.le_trans hl (by decide), h⟩
theorem LitT.flat {t : TE} {ds : List PyData} (l : LitT t ds) : ds.all flatP = true := by
  cases l with
  | mk l => exact l.flat
/-- what a literal dict of paths has -/
abbrev Lits := List (List Str × List PyData)
def litE (es : Lits) : Ents := es.map fun e => (e.1, .tuple e.2)
inductive LitPs : List (TE × TE) → Lits → Prop
  | nil : LitPs [] []
  | cons {tk tv : TE} {r : List (TE × TE)} {p : List Str} {ds : List PyData} {es : Lits} (hk : LitK tk p) (hv : LitT tv ds) (h : LitPs r es) : LitPs ((tk, tv) :: r) ((p, ds) :: es)
def litOk (es : Lits) : Bool := es.all fun e => decide (e.1.length ≤ 100) && decide (e.2.length ≤ 100)
theorem LitPs.run {K : PySem.W.Frag} {σ : L2.St} {trs : List (TE × TE)} {es : Lits} (l : LitPs trs es) : ∀ {G : Hp} {R : List (V × V) → Hp → Prop}, litOk es = true →
    (∀ G' qs kvs, Ex G G' → LD.PairsT G' qs kvs → RowE K G' kvs (litE es) → R qs G') → tPairs trs σ G R := by
  induction l with
  | nil => exact fun {G R} _ h => h G [] [] (Ex.refl G) .nil .nil
  | @cons tk tv r p0 ds es hk hv _ ih =>
    intro G R ok h
    unfold litOk at ok
    rw [List.all_cons, Bool.and_eq_true] at ok
    obtain ⟨o1, o2⟩ := ok
    simp only [Bool.and_eq_true, decide_eq_true_eq] at o1
    show tk σ G fun x H1 => tv σ H1 fun y H2 => tPairs r σ H2 fun ps H3 => R ((x, y) :: ps) H3
    refine hk.run o1.1 fun p hp => hv.run o1.2 fun q hq => ?_
    have x1 := Ex.new (o := .tup (p0.map V.str)) hp
    have x2 := Ex.new (o := .tup (ds.map vOf)) hq
    have p1 : PathX (upd G p (.tup (p0.map V.str))) p p0 := upd_same
    have q1 : (upd (upd G p (.tup (p0.map V.str))) q (.tup (ds.map vOf))) q = some (.tup (ds.map vOf)) := upd_same
    refine ih o2 fun G' qs kvs x hp2 row => ?_
    refine h G' ((.ref p, .ref q) :: qs) ((p0.map Sum.inr, .ref q) :: kvs) ((x1.trans x2).trans x) (.cons ⟨⟨p, rfl, ?_⟩, rfl⟩ hp2) (.cons ⟨rfl, ?_⟩ row)
    · exact (PathX.ex (x2.trans x) p1).key
    · exact .tup (SqT.of (x.keep _ _ q1 (fun ps z => by cases z))) (dpAll_flat hv.flat)
theorem merge_new : ∀ {more acc : List (List L2.Key × V)}, ((acc ++ more).map (·.1)).Nodup → LD.mergeT acc more = acc ++ more
  | [], acc, _ => (List.append_nil _).symm
  | kv :: more, acc, nd => by
    have hn : valV acc kv.1 = none := by
      cases h : valV acc kv.1 with
      | none => rfl
      | some v =>
        exfalso
        rw [List.map_append, List.nodup_append] at nd
        have : ∃ x ∈ acc, x.1 = kv.1 := by
          unfold valV at h
          obtain ⟨x, hx, _⟩ := Option.map_eq_some_iff.mp h
          have h2 := List.find?_some hx
          exact ⟨x, List.mem_of_find?_eq_some hx, of_decide_eq_true h2⟩
        obtain ⟨x, hx, ex⟩ := this
        exact nd.2.2 x.1 (List.mem_map.mpr ⟨x, hx, rfl⟩) kv.1 (List.mem_map.mpr ⟨kv, List.mem_cons_self .., rfl⟩) ex
    show LD.mergeT (putK acc kv.1 kv.2) more = _
    rw [putK_new _ hn, merge_new (by rw [List.append_assoc]; exact nd), List.append_assoc]
    rfl
theorem nodup_inr {ps : List (List Str)} (h : ps.Nodup) : (ps.map fun p => p.map (Sum.inr : Str → L2.Key)).Nodup := by
  refine List.pairwise_map.mpr (List.Pairwise.imp ?_ h)
  intro a b hab e
  have := congrArg pathOf e
  rw [pathOf_inr, pathOf_inr] at this
  exact hab this
/-- a literal dict of paths -/
theorem disp_lit {K : PySem.W.Frag} {σ : L2.St} {H : Hp} {Q : VK} {trs : List (TE × TE)} {es : Lits} (l : LitPs trs es) (ok : litOk es = true) (nd : (es.map (·.1)).Nodup) (hl : es.length ≤ 15)
    (h : ∀ H' p kvs, Ex H H' → H p = none → H' p = some (.dT kvs) → RowE K H' kvs (litE es) → Q (.ref p) H') : LD.tDispT trs σ H Q := by
  intro p hp
  have x1 := Ex.new (o := .dT []) hp
  have e1 : (upd H p (.dT [])) p = some (.dT []) := upd_same
  refine l.run (K := K) ok fun G qs kvs x hq row => ?_
  have eG := x.keep _ _ e1 (fun ps z => by cases z)
  have hk : kvs.map (·.1) = (es.map (·.1)).map fun q => q.map Sum.inr := by
    have := RowE.keys row
    unfold LS.KeysP at this
    rw [this]
    unfold litE
    rw [List.map_map, List.map_map, List.map_map]
    rfl
  have hnd : ((([] : List (List L2.Key × V)) ++ kvs).map (·.1)).Nodup := by
    rw [List.nil_append, hk]
    exact nodup_inr nd
  have hlen : kvs.length = es.length := by
    have := row.len
    unfold litE at this
    rwa [List.length_map] at this
  refine ⟨eG, kvs, hq, by omega, ?_⟩
  rw [merge_new hnd, List.nil_append]
  exact h _ p kvs ((x1.trans x).put hp) hp upd_same (mv_row (mv_upd (u := .dT kvs) eG (fun q => q)) row)
theorem disp_facts {K : PySem.W.Frag} {H G : Hp} {p : Addr} {kvs : List (List L2.Key × V)} {es : Lits} (x : Ex (upd H p (.dT [])) G) (row : RowE K G kvs (litE es)) (nd : (es.map (·.1)).Nodup) (hl : es.length ≤ 15) (hp : H p = none) :
    G p = some (.dT []) ∧ kvs.length ≤ 15 ∧ LD.mergeT [] kvs = kvs ∧ Ex H (upd G p (.dT kvs)) ∧ RowE K (upd G p (.dT kvs)) kvs (litE es) := by
  have x1 := Ex.new (o := .dT []) hp
  have eG := x.keep _ _ (show (upd H p (.dT [])) p = some (.dT []) from upd_same) (fun ps z => by cases z)
  have hk : kvs.map (·.1) = (es.map (·.1)).map fun q => q.map Sum.inr := by
    have := RowE.keys row
    unfold LS.KeysP at this
    rw [this]
    unfold litE
    rw [List.map_map, List.map_map, List.map_map]
    rfl
  have hnd : ((([] : List (List L2.Key × V)) ++ kvs).map (·.1)).Nodup := by
    rw [List.nil_append, hk]
    exact nodup_inr nd
  have hlen : kvs.length = es.length := by
    have := row.len
    unfold litE at this
    rwa [List.length_map] at this
  exact ⟨eG, by omega, by rw [merge_new hnd, List.nil_append], (x1.trans x).put hp, mv_row (mv_upd (u := .dT kvs) eG (fun q => q)) row⟩
/-! ### the layer that the law mounts -/
theorem keysUpE_sorted {es : Ents} (h : (es.map (·.1)).Pairwise fun a b => LS.ltP b a = false) : keysUpE es = es.map (·.1) := by
  have := keysUpE_of (es := es) (ys := es.map fun e => (0, e.1)) (by rw [List.map_map]; exact List.Perm.refl _) (by
    unfold LS.Rising
    rw [List.pairwise_map] at h ⊢
    exact h)
  rw [← this, List.map_map]
  rfl
def lit42 : Lits := [([], [.str "drawer", .bool false]), ([("a" : Str)], [.str "file", .int 0, .str "x"]), ([("d" : Str)], [.str "drawer", .bool false])]
def base42 : Ents := [([], drD), ([("a" : Str)], fileD 0 "x"), ([("d" : Str)], drD)]
def mid42 : Ents := [([], drD), ([("a" : Str)], fileD (-1) "x"), ([("d" : Str)], drD)]
theorem over42 : overE (litE lit42) [([], drD)] = base42 := by kernel_rfl
theorem see42 : overE seeE base42 = mid42 := by kernel_rfl
theorem plain42 : plainE base42 = base42 := by
  unfold plainE upE
  rw [keysUpE_sorted (by decide +kernel)]
  kernel_rfl
theorem plainM42 : plainE mid42 = base42 := by
  unfold plainE upE
  rw [keysUpE_sorted (by decide +kernel)]
  kernel_rfl
theorem plainS42 : plainE seeE = seeE := by
  unfold plainE upE
  rw [keysUpE_sorted (by decide +kernel)]
  kernel_rfl
theorem laid42 : laidE [litE lit42] = base42 := by
  show plainE (overE (litE lit42) [([], drD)]) = _
  rw [over42, plain42]
theorem show42 : plainE (overE seeE base42) = base42 := by rw [see42, plainM42]
theorem laid42f : laidE [seeE, litE lit42] = base42 := by
  show plainE (overE seeE (laidE [litE lit42])) = _
  rw [laid42, show42]
theorem tree42 : treeB base42 = true := by decide +kernel
theorem val42 : valE base42 [("a" : Str)] = some (fileD 0 "x") ∧ valE base42 [("q" : Str)] = none ∧ valE base42 [("d" : Str)] = some drD ∧ valE base42 [] = some drD ∧ valE seeE [("a" : Str)] = none := by
  refine ⟨?_, ?_, ?_, ?_, ?_⟩ <;> kernel_rfl
theorem lay42 : layerB (litE lit42) = true ∧ ((litE lit42).map (·.1)).Nodup := by
  refine ⟨by decide +kernel, by decide +kernel⟩
end LK

namespace LK
open PySem PySem.Spec PyProof.Rows L2 GA LT LE L2H LD
/-! ### the mount beside the law's town -/
theorem TrIn.evF {K : PySem.W.Frag} {tw d : Addr} {H H' : Hp} {es : Ents} (ht : Town tw H) (v : Ev tw H H') (h : TrIn K H d es) : TrIn K H' d es := by
  refine ⟨TrAt.evF ht v (flat_things fun e he => ?_) h.1, h.2⟩
  rcases tree_form ((treeB_parts h.2.1).2.2.1 e he) with h | ⟨n, z, h, _, _⟩
  · exact Or.inl h
  · exact Or.inr ⟨n, z, h⟩
theorem LyAt.evF {K : PySem.W.Frag} {tw d : Addr} {H H' : Hp} {es : Ents} (ht : Town tw H) (v : Ev tw H H') (h : LyAt K H d es) : LyAt K H' d es := ⟨TrAt.evF ht v (flat_entries (layerB_parts h.2.2.1).2.2.1) h.1, h.2⟩
theorem MoAt.ev {K : PySem.W.Frag} {C CR tw : Addr} {H H' : Hp} {m : Addr} {w : Mw} {lss : List Ents} {bs es : Ents} {rs : List (Int × Rw)} (ht : Town tw H) (v : Ev tw H H') (g : MoAt K C CR H m w lss bs es rs) : MoAt K C CR H' m w lss bs es rs := by
  obtain ⟨t0, t1, _, et⟩ := id ht
  obtain ⟨⟨dx, ob⟩, ⟨ds, hb, pd⟩, mn, bs, en, e1, tr, ⟨kvs, hr, pr⟩, fr⟩ := g
  refine ⟨⟨dx, v.keep _ _ (fun z => by rw [z, et] at ob; cases ob) ob (fun ps z => by cases z)⟩, ⟨ds, v.keep _ _ (fun z => ?_) hb (fun ps z => by cases z), pairImp (fun _ _ q => q.evF ht v) pd⟩, mn, bs.evF ht v, en.evF ht v, e1, tr, ⟨kvs, v.keep _ _ (fun z => by rw [z, et] at hr; cases hr) hr (fun ps z => by cases z), pairImp (fun _ _ q => ⟨q.1, ?_⟩) pr⟩, fr⟩
  · rw [z, et] at hb
    have e := HO.lst.inj (Option.some.inj hb)
    cases ds with
    | nil => cases e
    | cons d r => cases (List.cons.inj e).1
  · obtain ⟨a, dq, e2, e3⟩ := q.2
    exact ⟨a, dq, e2, v.keep _ _ (fun z => by rw [z, et] at e3; cases e3) e3 (fun ps z => by cases z)⟩
theorem Lw.frm {K : PySem.W.Frag} {C m r dx sc tw : Addr} {H H' : Hp} {fs : List (Str × V)} {ns : List Int} (L : Lw K H sc tw ns) (ob : H m = some (.ins C dx fs)) (hr : r = m ∨ ∃ kvs : List (L2.Key × V), H r = some (.dK kvs)) (f : Fr m r H H') : Lw K H' sc tw ns := by
  have kp : ∀ b o, H b = some o → (∀ C dx fs, o ≠ .ins C dx fs) → (∀ k : List (L2.Key × V), o ≠ .dK k) → (∀ ps, o ≠ .tbl ps) → H' b = some o := fun b o e n1 n2 n3 => by
    have h1 : b ≠ m := fun z => n1 _ _ _ (Option.some.inj (e.symm.trans ((congrArg H z).trans ob)))
    refine f.keep b o h1 (fun z => ?_) e n3
    rcases hr with hr | ⟨k, hr⟩
    · exact h1 (z.trans hr)
    · exact n2 k (Option.some.inj (e.symm.trans ((congrArg H z).trans hr)))
  refine ⟨?_, ?_, L.len⟩
  · rcases L.at_ with ⟨h1 | ⟨o, h1⟩, h2⟩ | h
    · exact Or.inl ⟨Or.inl (kp _ _ h1 (fun _ _ _ z => by cases z) (fun _ z => by cases z) (fun _ z => by cases z)), h2⟩
    · exact Or.inl ⟨Or.inr ⟨o, kp _ _ h1 (fun _ _ _ z => by cases z) (fun _ z => by cases z) (fun _ z => by cases z)⟩, h2⟩
    · exact Or.inr h
  · obtain ⟨t0, t1, h0, e⟩ := L.town
    exact ⟨t0, t1, h0, kp _ _ e (fun _ _ _ z => by cases z) (fun _ z => by cases z) (fun _ z => by cases z)⟩
/-- where the law stands -/
structure K42 (K : PySem.W.Frag) (C CR P1 P2 P3 P4 P5 P6 P7 P8 sc tw : Addr) (ns : List Int) (m : Addr) (w : Mw) (lss : List Ents) (rs : List (Int × Rw)) (H : Hp) : Prop where
  lw : Lw K H sc tw ns
  g : MoAt K C CR H m w lss base42 seeE rs
  t : Tabs8 H P1 P2 P3 P4 P6 P7 P8
  t5 : TabG H P5
  dk : w.dk = false
  few : rs.length ≤ 100
section
variable {K : PySem.W.Frag} {C CR P1 P2 P3 P4 P5 P6 P7 P8 sc tw : Addr} {ns : List Int} {m : Addr} {w : Mw} {lss : List Ents} {rs : List (Int × Rw)} {H H' : Hp}
theorem K42.ex (S : K42 K C CR P1 P2 P3 P4 P5 P6 P7 P8 sc tw ns m w lss rs H) (x : Ex H H') : K42 K C CR P1 P2 P3 P4 P5 P6 P7 P8 sc tw ns m w lss rs H' := ⟨S.lw.ex x, S.g.ex x, S.t.ex x, x.tab _ S.t5, S.dk, S.few⟩
theorem K42.ev (S : K42 K C CR P1 P2 P3 P4 P5 P6 P7 P8 sc tw ns m w lss rs H) (v : Ev tw H H') : K42 K C CR P1 P2 P3 P4 P5 P6 P7 P8 sc tw ns m w lss rs H' :=
  ⟨S.lw.ev v, S.g.ev S.lw.town v, ⟨⟨v.tab _ S.t.t.t1, v.tab _ S.t.t.t2, v.tab _ S.t.t.t3, v.tab _ S.t.t.t4, v.tab _ S.t.t.t5⟩, v.tab _ S.t.t7, v.tab _ S.t.t8⟩, v.tab _ S.t5, S.dk, S.few⟩
theorem K42.mo (S : K42 K C CR P1 P2 P3 P4 P5 P6 P7 P8 sc tw ns m w lss rs H) : MoIn K C CR H m w lss base42 seeE rs P1 P2 P3 P4 P5 P7 := ⟨S.g, ⟨S.t.t.t1, S.t.t.t2, S.t.t.t3, S.t.t.t4, S.t5⟩, S.t.t7, S.dk, by have := S.few; omega⟩
/-- a deed that leaves the layers as they are, but for the mount's fields and its readers -/
theorem K42.fr {w' : Mw} {lss' : List Ents} {rs' : List (Int × Rw)} (S : K42 K C CR P1 P2 P3 P4 P5 P6 P7 P8 sc tw ns m w lss rs H) {r : Addr} (hr : r = m ∨ r = w.r) (f : Fr m r H H') (g : MoAt K C CR H' m w' lss' base42 seeE rs') (dk : w'.dk = false) (few : rs'.length ≤ 100) :
    K42 K C CR P1 P2 P3 P4 P5 P6 P7 P8 sc tw ns m w' lss' rs' H' := by
  obtain ⟨dx, ob⟩ := id S.g.ob
  obtain ⟨kvs, h, _⟩ := id S.g.rds
  exact ⟨Lw.frm S.lw ob (hr.imp id fun e => ⟨kvs, by rw [e]; exact h⟩) f, g, S.t.fr f, f.tab _ S.t5, dk, few⟩
end
end LK

namespace LK
open PySem PySem.Spec PyProof.Rows L2 GA LT LE L2H LD
/-! ### the same answer so many times -/
theorem flat_rep {α : Type} (v : α) : ∀ n, (List.replicate n [v]).flatten = List.replicate n v
  | 0 => rfl
  | n + 1 => by rw [List.replicate_succ, List.flatten_cons, flat_rep v n, List.replicate_succ]; rfl
theorem rep_ref {K : PySem.W.Frag} {σ : L2.St} {G2 : Hp} {i : Int} {n : Nat} (h100 : n ≤ 100) {tn : TE} {Q : VK} (hn : ∀ G (R : VK), Ex G2 G → R (.int (n : Nat)) G → tn σ G R)
    (k : ∀ G3 y, Ex G2 G3 → Dp K G3 y (.list (List.replicate n (refD i))) → Q y G3) :
    tOp rRep (tLst (tCons (tTup (tCons (tC (.str "refused")) (tCons (tC (.int i)) tNil))) tNil)) tn σ G2 Q := by
  refine ⟨(by show 2 ≤ sizeLine; decide), fun q1 hq1 => ⟨(by show 1 ≤ sizeLine; decide), fun q2 hq2 => ?_⟩⟩
  have y1 := Ex.new (o := .tup [.str "refused", .int i]) hq1
  have e1 : RefAt K (upd G2 q1 (.tup [.str "refused", .int i])) q1 i := SqT.of upd_same
  have y2 := Ex.new (o := .lst [.ref q1]) hq2
  have hq := e1.ex y2
  have e2 : (upd (upd G2 q1 (.tup [.str "refused", .int i])) q2 (.lst [.ref q1])) q2 = some (.lst [.ref q1]) := upd_same
  have y := y1.trans y2
  generalize upd (upd G2 q1 (.tup [.str "refused", .int i])) q2 (.lst [.ref q1]) = G at y hq e2 ⊢
  refine hn G _ y ⟨q2, n, _, rfl, rfl, e2, by omega, by omega, (by show 1 * n ≤ sizeLine; rw [sizeLine_eq]; omega), fun q3 hq3 => ?_⟩
  rw [Int.toNat_natCast, flat_rep]
  have y3 := Ex.new (o := .lst (List.replicate n (V.ref q1))) hq3
  have hq3' := hq.ex y3
  refine k _ _ (y.trans y3) (.lst (SqL.of upd_same) ?_)
  have h := dpAll_refs (K := K) (rs := List.replicate n q1) (i := i) fun r hr => by
    rw [(List.mem_replicate.mp hr).2]
    exact hq3'
  rw [List.map_replicate, List.length_replicate] at h
  exact h
theorem shaped_refs : ∀ n, n ≤ 8 → SeqAt.shaped (.list (List.replicate n (refD 5))) = true := by decide +kernel
theorem han_no {K : PySem.W.Frag} {C CR : Addr} {H : Hp} {Q : VK} {m : Addr} {w : Mw} {lss : List Ents} {bs es : Ents} {rs : List (Int × Rw)} {n : Int} {v : V} {nm : String} (kn : Kn K H v nm) (no : hdlB rs v = none) (t : ToldI K H Q 5) (h : n = 1 ∨ n = 2 ∨ n = 3) : HanQ K C CR H Q m w lss bs es rs n v := by
  have bad : ∀ {X : Prop} {d : Rw}, hdlB rs v = some d → X := fun e => by rw [no] at e; cases e
  rcases h with rfl | rfl | rfl
  · exact .text kn (fun _ => t) fun d e => bad e
  · exact .stale kn (fun _ => t) fun d e => bad e
  · refine .shut kn (fun _ => t) fun i d e l => ?_
    subst e
    exact bad (d := d) l
/-- the readers of the file, opened so many times -/
def rd42 : Rw := ⟨0, "x", false, false⟩
def rsN (n : Nat) : List (Int × Rw) := (List.range n).map fun (j : Nat) => ((j : Int), rd42)
theorem rsN_succ (n : Nat) : rsN (n + 1) = rsN n ++ [((n : Int), rd42)] := by
  unfold rsN
  rw [List.range_succ, List.map_append]
  rfl
theorem rsN_len (n : Nat) : (rsN n).length = n := by unfold rsN; rw [List.length_map, List.length_range]
/-- a list of the law's own grows beside the mount -/
theorem moD {K : PySem.W.Frag} {C CR m D : Addr} {H G : Hp} {w0 w' : Mw} {lss : List Ents} {bs es : Ents} {rs0 rs : List (Int × Rw)} {xs ys : List V} (g0 : MoAt K C CR H m w0 lss bs es rs0) (fr : Fr m w0.r H G) (g : MoAt K C CR G m w' lss bs es rs)
    (e : w'.b = w0.b ∧ w'.t = w0.t ∧ w'.e = w0.e ∧ w'.r = w0.r) (hD : H D = none) (eD : G D = some (.lst xs)) : Fr m w0.r H (upd G D (.lst ys)) ∧ MoAt K C CR (upd G D (.lst ys)) m w' lss bs es rs := by
  have f2 : Fr m w0.r H (upd G D (.lst ys)) := by
    refine ⟨fun b o z1 z2 e n => ?_, fun b t => ?_, fun b e => ?_⟩
    · rw [upd_ne (fun z => by rw [z, hD] at e; cases e)]
      exact fr.keep b o z1 z2 e n
    · obtain ⟨ps, e, q⟩ := fr.tab b t
      exact ⟨ps, by rw [upd_ne (fun z => by rw [z, eD] at e; cases e)]; exact e, q⟩
    · have hb : b ≠ D := fun z => by rw [z, upd_same] at e; cases e
      rw [upd_ne hb] at e
      exact fr.free b e
  refine ⟨f2, ?_⟩
  obtain ⟨e1, e2, e3, e4⟩ := e
  obtain ⟨dx, ob⟩ := id g.ob
  obtain ⟨kvs, hr, pr⟩ := id g.rds
  refine g0.frd f2 ⟨dx, by rw [upd_ne (fun z => by rw [← z, ob] at eD; cases eD)]; exact ob⟩ e1 e2 e3 ⟨kvs, by rw [upd_ne (fun z => by rw [← z, hr] at eD; cases eD)]; exact hr, pairImp (fun _ _ q => ⟨q.1, ?_⟩) pr⟩ g.fresh
  obtain ⟨a, dq, q1, q2⟩ := q.2
  exact ⟨a, dq, q1, by rw [upd_ne (fun z => by rw [z, eD] at q2; cases q2)]; exact q2⟩
theorem dpAll_ints {K : PySem.W.Frag} {H : Hp} : ∀ l : List Nat, DpAll K H (l.map fun (j : Nat) => V.int j) (l.map fun (j : Nat) => PyData.int j)
  | [] => .nil
  | n :: l => .cons (.int _) (dpAll_ints l)
theorem shaped_ints : ∀ n, n ≤ 8 → SeqAt.shaped (.list ((List.range n).map fun (j : Nat) => PyData.int j)) = true := by decide +kernel
theorem lkR_app (a b : List (Int × Rw)) (i : Int) : lkR (a ++ b) i = (lkR a i).or (lkR b i) := by
  unfold lkR
  rw [List.find?_append]
  cases a.find? fun e => decide (e.1 = i) <;> rfl
theorem lkR_rsN (n : Nat) (i : Nat) : lkR (rsN n) (i : Nat) = if i < n then some rd42 else none := by
  induction n with
  | zero => rfl
  | succ n ih =>
    rw [rsN_succ, lkR_app, ih]
    by_cases h : i < n
    · rw [if_pos h, if_pos (by omega)]
      rfl
    · rw [if_neg h]
      by_cases e : i = n
      · subst e
        rw [if_pos (by omega)]
        simp [lkR]
      · rw [if_neg (by omega)]
        have : ¬ ((n : Int) = (i : Int)) := by omega
        simp [lkR, this]
theorem lkR_not (rs : List (Int × Rw)) (j i : Int) : lkR (rs.filter fun e => decide (e.1 ≠ j)) i = if i = j then none else lkR rs i := by
  induction rs with
  | nil => unfold lkR; split <;> rfl
  | cons e rs ih =>
    rw [List.filter_cons]
    by_cases h : e.1 = j
    · rw [if_neg (by simp [h]), ih]
      by_cases q : i = j
      · rw [if_pos q, if_pos q]
      · rw [if_neg q, if_neg q]
        unfold lkR
        rw [List.find?_cons, decide_eq_false (show ¬ e.1 = i from fun z => q (z.symm.trans h))]
    · rw [if_pos (by simp [h])]
      unfold lkR at ih ⊢
      rw [List.find?_cons, List.find?_cons]
      by_cases q : e.1 = i
      · rw [decide_eq_true q, if_neg (fun z => h (q.trans z))]
      · rw [decide_eq_false q]
        exact ih
theorem dpAll_strs {K : PySem.W.Frag} {H : Hp} (z : Str) : ∀ n : Nat, DpAll K H (List.replicate n (V.str z)) (List.replicate n (PyData.str z))
  | 0 => .nil
  | n + 1 => .cons (.str _) (dpAll_strs z n)
theorem shaped_xs : ∀ n, n ≤ 8 → SeqAt.shaped (.list (List.replicate n (PyData.str "x"))) = true := by decide +kernel
end LK

namespace LK
open PySem PySem.Spec PyProof.Rows L2 GA LT LE L2H LD
/-! ### k42 -/
def spLaw (K : PySem.W.Frag) (P1 P2 P3 P4 P5 P6 P7 P8 : Addr) : Sp := fun vs H Q _ => ∃ (a : Addr) (ns : List Int), vs = [.ref a] ∧ SqL K H a (ns.map V.int) ∧ ns.length ≤ 63 ∧ TabG H P1 ∧ TabG H P2 ∧ TabG H P3 ∧ TabG H P4 ∧ TabG H P5 ∧ TabG H P6 ∧ TabG H P7 ∧ TabG H P8 ∧ ∀ H', Q (.bl true) H'
section
variable {P : Program} {w : World} {K : PySem.W.Frag} {mg : Str → Option Value} {base : Heap}
abbrev lawN : List Str := ["_law_script", "_law_town", "_law_mount", "_law_odd", "_law_what", "_law_many", "_law_k", "_law_one"]
theorem scLaw : FnScope lawN ["_law_script"] (defScope sLaw) := ⟨rfl, rfl, rfl, by decide +kernel, rfl, by decide +kernel, by decide +kernel⟩
theorem ok_law {f fI fK fN fD fH fO fZ fJ fE C CR CS CT CD CP CN CI CF P1 P2 P3 P4 P5 P6 P7 P8 : Addr} {fd fdI fdK fdN fdD fdH fdO fdZ fdJ fdE : FuncData} {dv : List Value} (F : Fun K "law" "law" sLaw f fd) (TM : MT K mg C) (MKM : Mk K C fI) (M : Mg mg) (MR : MgR mg)
    (GI : FnOk P w K mg base (L2.CX P w) 14 fI fdI ["self", "stack", "keep"] (spMInit K C CR CS CT P1 P2 P3 P4 P6 P7 P8)) (bI : Binds K fdI ["self", "stack", "keep"] dv) (vI : Vals [.bl true] dv)
    (GK : FnOk P w K mg base CX0 2 fK fdK ["_law_script", "_law_town", "_law_some"] (spPick K)) (mK : mg "_law_pick" = some (.ref fK)) (kK : PySem.W.keepIn K (.ref fK) = true) (bK : Binds K fdK ["_law_script", "_law_town", "_law_some"] [])
    (GN : FnOk P w K mg base CX0 3 fN fdN ["_law_script", "_law_town"] (spNoPath K)) (mN : mg "_law_no_path" = some (.ref fN)) (kN : PySem.W.keepIn K (.ref fN) = true) (bN : Binds K fdN ["_law_script", "_law_town"] [])
    (GD : FnOk P w K mg base CX0 1 fD fdD ["_law_script", "_law_town", "_law_many"] (spDraw K)) (mD : mg "_law_draw" = some (.ref fD)) (kD : PySem.W.keepIn K (.ref fD) = true) (bD : Binds K fdD ["_law_script", "_law_town", "_law_many"] [])
    (GH : FnOk P w K mg base CX0 16 fH fdH ["_law_mount", "_law_what", "_law_thing"] (spHandled K C CR P1 P2 P3 P4 P5 P7)) (mH : mg "_law_handled" = some (.ref fH)) (kH : PySem.W.keepIn K (.ref fH) = true) (bH : Binds K fdH ["_law_mount", "_law_what", "_law_thing"] [])
    (mO : Meth K C "opened" fO) (GO : FnOk P w K mg base (L2.CX P w) 15 fO fdO ["self", "path"] (spOpened K C CR CD CP CN CI P1 P2 P3 P4 P5 P7)) (bO : Binds K fdO ["self", "path"] [])
    (mZ : Meth K C "freeze" fZ) (GZ : FnOk P w K mg base (L2.CX P w) 14 fZ fdZ ["self"] (spFreeze K C CR CD CF P1 P2 P3 P4 P6 P7 P8)) (bZ : Binds K fdZ ["self"] [])
    (mJ : Meth K C "join" fJ) (GJ : FnOk P w K mg base (L2.CX P w) 2 fJ fdJ ["self"] (spJoin1 K C CR CD CF)) (bJ : Binds K fdJ ["self"] [])
    (mE : Meth K C "mend" fE) (GE : FnOk P w K mg base CX0 2 fE fdE ["self"] (spMend0 K C CR)) (bE : Binds K fdE ["self"] []) :
    FnOk P w K mg base CX0 17 f fd ["_law_script"] (spLaw K P1 P2 P3 P4 P5 P6 P7 P8) := by
  refine F.ok scLaw (fun vs H Q E h => ?_) (fun cdv A outer s H vs Q E hr h => ?_)
  · obtain ⟨a, ns, rfl, _⟩ := h
    rfl
  · obtain ⟨sc, ns, rfl, hsq, h63, hT1, hT2, hT3, hT4, hT5, hT6, hT7, hT8, k⟩ := h
    have r15 := hr.mono (show 15 ≤ 16 by decide)
    have r14 := hr.mono (show 14 ≤ 16 by decide)
    have r3 := hr.mono (show 3 ≤ 16 by decide)
    have r2 := hr.mono (show 2 ≤ 16 by decide)
    have r1 := hr.mono (show 1 ≤ 16 by decide)
    have hu1 : (A.deeper (envOfC "law" (defScope sLaw) s.heap.objs.size f cdv)).units + 1 < cLine := by have := hr.units; omega
    refine ⟨_, pss_cons (ps_set (i := 1) scLaw.nd rfl (Or.inl rfl) (pe_lst (pa_cons pe_int (pa_cons pe_int pa_nil))))
      (pss_cons (ps_set (i := 2) scLaw.nd rfl (Or.inr rfl) (pe_make (E := E0) MKM GI r15 (by rfl) TM.gC bI vI passL (pa_cons (pe_lst (pa_cons (pe_dispT hu1 (pps_cons (pe_tup pa_nil) (pe_tup (pa_cons pe_str (pa_cons pe_bl pa_nil))) (pps_cons (pe_tup (pa_cons pe_str pa_nil)) (pe_tup (pa_cons pe_str (pa_cons pe_int (pa_cons pe_str pa_nil)))) (pps_cons (pe_tup (pa_cons pe_str pa_nil)) (pe_tup (pa_cons pe_str (pa_cons pe_bl pa_nil))) pps_nil))) rfl rfl (by simp) (by decide)) pa_nil)) pa_nil)))
      (pss_cons (ps_set (i := 3) scLaw.nd rfl (Or.inr rfl) (pe_call (E := E0) GK r2 (by rfl) mK kK bK .nil pass0 (pa_cons (pv 0) (pa_cons (pv 1) (pa_cons (pe_lst (pa_cons pe_non (pa_cons (pe_un un_neg pe_int) (pa_cons pe_int (pa_cons pe_bl (pa_cons pe_str (pa_cons (pe_tup (pa_cons pe_int pa_nil)) (pa_cons pe_int pa_nil)))))))) pa_nil)))))
      (pss_cons (ps_if (pt_cmpR (op_neD hr.units) (pe_lc (own := [("_law_what", 4)]) (g := gName 4) (tt := tYes) rfl scLaw.nd (pi_tup (pe_tup (pa_cons pe_int (pa_cons pe_int (pa_cons pe_int pa_nil))))) (blkOk_by (N := lawN) (sc := defScope sLaw) (by decide +kernel)) (fun _ _ _ _ _ => pg_name (i := 4) scLaw.nd rfl (Or.inl rfl)) (fun _ _ _ _ _ => pts_nil)
          (fun _ _ _ _ _ => pe_call (E := E0) GH hr (by rfl) mH kH bH .nil pass0 (pa_cons (pv 2) (pa_cons (pv 4) (pa_cons (pv 3) pa_nil))))) (pe_op op_rep (pe_lst (pa_cons (pe_tup (pa_cons pe_str (pa_cons pe_int pa_nil))) pa_nil)) pe_int) (nomark _)) (pss_one (ps_ret pe_bl)) pss_nil)
      (pss_cons (ps_if (pt_cmpR (op_neD hr.units) (pe_call (E := E0) GH hr (by rfl) mH kH bH .nil pass0 (pa_cons (pv 2) (pa_cons pe_int (pa_cons (pe_call (E := E0) GN r3 (by rfl) mN kN bN .nil pass0 (pa_cons (pv 0) (pa_cons (pv 1) pa_nil))) pa_nil)))) (pe_tup (pa_cons pe_str (pa_cons pe_int pa_nil))) (nomark _)) (pss_one (ps_ret pe_bl)) pss_nil)
      (pss_cons (ps_if (pt_cmpR (op_neD hr.units) (pe_call (E := E0) GH hr (by rfl) mH kH bH .nil pass0 (pa_cons (pv 2) (pa_cons pe_int (pa_cons (pe_tup (pa_cons pe_str pa_nil)) pa_nil)))) (pe_tup (pa_cons pe_str (pa_cons pe_int pa_nil))) (nomark _)) (pss_one (ps_ret pe_bl)) pss_nil)
      (pss_cons (ps_if (PW.pt (pw_or (pt_cmpR (op_neD hr.units) (pe_call (E := E0) GH hr (by rfl) mH kH bH .nil pass0 (pa_cons (pv 2) (pa_cons pe_int (pa_cons (pe_tup (pa_cons pe_str pa_nil)) pa_nil)))) (pe_tup (pa_cons pe_str (pa_cons pe_int pa_nil))) (nomark _))
          (pw_or1 (pt_cmpR (op_neD hr.units) (pe_call (E := E0) GH hr (by rfl) mH kH bH .nil pass0 (pa_cons (pv 2) (pa_cons pe_int (pa_cons (pe_tup pa_nil) pa_nil)))) (pe_tup (pa_cons pe_str (pa_cons pe_int pa_nil))) (nomark _))))) (pss_one (ps_ret pe_bl)) pss_nil)
      (pss_cons (ps_set (i := 5) scLaw.nd rfl (Or.inl rfl) (pe_op op_add pe_int (pe_call (E := E0) GD r1 (by rfl) mD kD bD .nil pass0 (pa_cons (pv 0) (pa_cons (pv 1) (pa_cons pe_int pa_nil))))))
      (pss_cons (ps_if (pt_cmpR (op_neD hr.units) (pe_lc (own := [("_law_k", 6)]) (g := gName 6) (tt := tYes) rfl scLaw.nd (pi_range1 (by rfl) M.range (pa_cons (pv 5) pa_nil)) (blkOk_by (N := lawN) (sc := defScope sLaw) (by decide +kernel)) (fun _ _ _ _ _ => pg_name (i := 6) scLaw.nd rfl (Or.inl rfl)) (fun _ _ _ _ _ => pts_nil)
          (fun _ _ _ _ _ => pe_meth (E := E0) (pv 2) TM.cl mO GO r15 bO .nil passL (pa_cons (pe_tup (pa_cons pe_str pa_nil)) pa_nil))) (pe_callTy (LD.call_list_rng rfl) (by rfl) MR.list (by decide +kernel) (pa_cons (pe_callTy LD.cr_range1 (by rfl) M.range (by decide +kernel) (pa_cons (pv 5) pa_nil)) pa_nil)) (nomark _)) (pss_one (ps_ret pe_bl)) pss_nil)
      (pss_cons (ps_set (i := 7) scLaw.nd rfl (Or.inr rfl) (pe_call (E := E0) GD r1 (by rfl) mD kD bD .nil pass0 (pa_cons (pv 0) (pa_cons (pv 1) (pa_cons (pv 5) pa_nil)))))
      (pss_cons (ps_if (pt_cmpR op_notN (pe_call (E := E0) GH hr (by rfl) mH kH bH .nil pass0 (pa_cons (pv 2) (pa_cons pe_int (pa_cons (pv 7) pa_nil)))) pe_non (nomark _)) (pss_one (ps_ret pe_bl)) pss_nil)
      (pss_cons (ps_if (pt_cmpR (op_neD hr.units) (pe_lc (own := [("_law_what", 4)]) (g := gName 4) (tt := tYes) rfl scLaw.nd (pi_tup (pe_tup (pa_cons pe_int (pa_cons pe_int (pa_cons pe_int pa_nil))))) (blkOk_by (N := lawN) (sc := defScope sLaw) (by decide +kernel)) (fun _ _ _ _ _ => pg_name (i := 4) scLaw.nd rfl (Or.inl rfl)) (fun _ _ _ _ _ => pts_nil)
          (fun _ _ _ _ _ => pe_call (E := E0) GH hr (by rfl) mH kH bH .nil pass0 (pa_cons (pv 2) (pa_cons (pv 4) (pa_cons (pv 7) pa_nil))))) (pe_op op_rep (pe_lst (pa_cons (pe_tup (pa_cons pe_str (pa_cons pe_int pa_nil))) pa_nil)) pe_int) (nomark _)) (pss_one (ps_ret pe_bl)) pss_nil)
      (pss_cons (ps_if (pt_cmpR (op_neD hr.units) (pe_lc (own := [("_law_k", 6)]) (g := gName 6) (tt := tTest (tOp rNe (tVar 6) (tVar 7))) rfl scLaw.nd (pi_range1 (by rfl) M.range (pa_cons (pv 5) pa_nil)) (blkOk_by (N := lawN) (sc := defScope sLaw) (by decide +kernel)) (fun _ _ _ _ _ => pg_name (i := 6) scLaw.nd rfl (Or.inl rfl)) (fun _ _ _ _ _ => pts_one (pt_cmpR op_ne (pv 6) (pv 7) (nomark _)))
          (fun _ _ _ _ _ => pe_call (E := E0) GH hr (by rfl) mH kH bH .nil pass0 (pa_cons (pv 2) (pa_cons pe_int (pa_cons (pv 6) pa_nil))))) (pe_op op_rep (pe_lst (pa_cons pe_str pa_nil)) (pe_op op_sub (pv 5) pe_int)) (nomark _)) (pss_one (ps_ret pe_bl)) pss_nil)
      (pss_cons (ps_if (PW.pt (pw_or (pt_cmpR (op_neD hr.units) (pe_call (E := E0) GH hr (by rfl) mH kH bH .nil pass0 (pa_cons (pv 2) (pa_cons pe_int (pa_cons (pv 5) pa_nil)))) (pe_tup (pa_cons pe_str (pa_cons pe_int pa_nil))) (nomark _))
          (pw_or1 (pt_cmpR op_ne (pe_meth (E := E0) (pv 2) TM.cl mO GO r15 bO .nil passL (pa_cons (pe_tup (pa_cons pe_str pa_nil)) pa_nil)) (pv 5) (nomark _))))) (pss_one (ps_ret pe_bl)) pss_nil)
      (pss_cons (ps_set (i := 4) scLaw.nd rfl (Or.inl rfl) (pe_call (E := E0) GD r1 (by rfl) mD kD bD .nil pass0 (pa_cons (pv 0) (pa_cons (pv 1) (pa_cons pe_int pa_nil)))))
      (pss_cons (ps_if (pt_cmpR op_eq (pv 4) pe_int (nomark _)) (pss_one (ps_expr (pe_meth0 (E := E0) (pv 2) TM.cl mZ GZ r14 bZ .nil passL))) pss_nil)
      (pss_cons (ps_if (pt_cmpR op_eq (pv 4) pe_int (nomark _)) (pss_one (ps_expr (pe_meth0 (E := E0) (pv 2) TM.cl mJ GJ r2 bJ .nil passL))) pss_nil)
      (pss_cons (ps_if (pt_cmpR op_eq (pv 4) pe_int (nomark _)) (pss_one (ps_expr (pe_meth0 (E := E0) (pv 2) TM.cl mE GE r2 bE .nil pass0))) pss_nil)
      (pss_cons (ps_if (pt_cmpR (op_neD hr.units) (pe_lc (own := [("_law_k", 6)]) (g := gName 6) (tt := tYes) rfl scLaw.nd (pi_range1 (by rfl) M.range (pa_cons (pe_op op_add (pv 5) pe_int) pa_nil)) (blkOk_by (N := lawN) (sc := defScope sLaw) (by decide +kernel)) (fun _ _ _ _ _ => pg_name (i := 6) scLaw.nd rfl (Or.inl rfl)) (fun _ _ _ _ _ => pts_nil)
          (fun _ _ _ _ _ => pe_call (E := E0) GH hr (by rfl) mH kH bH .nil pass0 (pa_cons (pv 2) (pa_cons pe_int (pa_cons (pv 6) pa_nil))))) (pe_op op_rep (pe_lst (pa_cons (pe_tup (pa_cons pe_str (pa_cons pe_int pa_nil))) pa_nil)) (pe_op op_add (pv 5) pe_int)) (nomark _)) (pss_one (ps_ret pe_bl)) pss_nil)
      (pss_one (ps_ret (pe_cmpR op_eq (pe_meth (E := E0) (pv 2) TM.cl mO GO r15 bO .nil passL (pa_cons (pe_tup (pa_cons pe_str pa_nil)) pa_nil)) (pe_op op_add (pv 5) pe_int) (nomark _)))))))))))))))))))))), ?_⟩
    refine ⟨(by show 2 ≤ sizeLine; decide), fun tw htw => ?_⟩
    have xa := Ex.new (o := .lst [.int 0, .int 0]) htw
    have L1 : Lw K (upd H tw (.lst [.int 0, .int 0])) sc tw ns := Lw.make hsq h63 htw
    have T1 : Tabs8 (upd H tw (.lst [.int 0, .int 0])) P1 P2 P3 P4 P6 P7 P8 := ⟨⟨xa.tab _ hT1, xa.tab _ hT2, xa.tab _ hT3, xa.tab _ hT4, xa.tab _ hT6⟩, xa.tab _ hT7, xa.tab _ hT8⟩
    have t51 := xa.tab _ hT5
    generalize upd H tw (.lst [.int 0, .int 0]) = H1 at L1 T1 t51 ⊢
    clear xa hsq hT1 hT2 hT3 hT4 hT5 hT6 hT7 hT8
    -- the mount
    intro dt hdt
    refine LitPs.run (K := K) (es := lit42) (.cons (.mk .nil) (.mk (.str (.bl .nil))) (.cons (.mk (.cons .nil)) (.mk (.str (.int (.str .nil)))) (.cons (.mk (.cons .nil)) (.mk (.str (.bl .nil))) .nil))) (by decide +kernel) fun G kqs kvs x hq row => ?_
    obtain ⟨eG, hl, em, x2, row2⟩ := disp_facts x row (by decide +kernel) (by decide) hdt
    refine ⟨eG, kvs, hq, hl, ?_⟩
    rw [em]
    have ed : (upd G dt (.dT kvs)) dt = some (.dT kvs) := upd_same
    generalize upd G dt (.dT kvs) = H2 at ed x2 row2 ⊢
    clear eG hl em hq x row hdt
    refine ⟨(by show 1 ≤ sizeLine; decide), fun l hl => ?_⟩
    have x3 := Ex.new (o := .lst [V.ref dt]) hl
    have el : (upd H2 l (.lst [V.ref dt])) l = some (.lst [V.ref dt]) := upd_same
    have x13 := x2.trans x3
    have td : TrAt K (upd H2 l (.lst [V.ref dt])) dt (litE lit42) := TrAt.ex x3 ⟨kvs, Or.inl ed, row2⟩
    generalize upd H2 l (.lst [V.ref dt]) = H3 at x3 el x13 td ⊢
    clear ed row2 x2 x3 hl
    intro mm dx hmn hdn hne
    have xe1 := Ex.new (o := .own mm) hdn
    have xe := xe1.trans (Ex.new (o := .ins C dx []) (show upd H3 dx (.own mm) mm = none by rw [upd_ne (Ne.symm hne)]; exact hmn))
    have eob : (upd (upd H3 dx (.own mm)) mm (.ins C dx [])) mm = some (.ins C dx []) := upd_same
    generalize upd (upd H3 dx (.own mm)) mm (.ins C dx []) = Hx at xe eob ⊢
    obtain ⟨lay, nd⟩ := lay42
    have sm : smallE (litE lit42) := by
      refine ⟨fun e he => ⟨fun z hz => goodPath_small ((layerB_parts lay).2.1 e he) z hz, ?_⟩, by decide⟩
      simp only [litE, lit42, List.map_cons, List.map_nil, List.mem_cons, List.not_mem_nil, or_false] at he
      rcases he with rfl | rfl | rfl <;> decide +kernel
    have elx := xe.keep _ _ el (fun ps z => by cases z)
    have tdx := TrAt.ex xe td
    have lq : LayerQ K Hx (.ref dt) true := by
      have := LayerQ.dict tdx sm
      rwa [lay] at this
    have sq : StackQ K Hx (.ref l) true := by
      have := StackQ.lst (K := K) (bs := [true]) elx (.cons lq .nil) (by show 1 ≤ 100; decide)
      exact this
    have st : StackAt K Hx l [litE lit42] := ⟨[dt], SqL.of elx, fun H' y => SqL.of (y.keep _ _ elx (fun ps z => by cases z)), .cons tdx .nil⟩
    refine ⟨mm, dx, .ref l, .bl true, rfl, eob, (T1.ex x13).ex xe, .inr (.inr ⟨l, [litE lit42], true, rfl, rfl, sq, st, ⟨by decide, by decide, fun e he => ?_⟩, fun e he => ?_, by decide, ?_, ?_, fun H4 w4 fr mo e1 e2 e3 e4 e5 e6 e7 e8 => ⟨rfl, ?_⟩⟩)⟩
    · rw [List.mem_singleton.mp he]
      exact ⟨sm, lay⟩
    · rw [List.mem_singleton.mp he]
      exact nd
    · rw [laid42]
      exact tree42
    · rw [laid42, show42]
      exact tree42
    rw [laid42] at mo
    have x34 : Ex H3 H4 := ⟨fun b o e n => fr.keep b o (fun z => by rw [z, hmn] at e; cases e) (fun z => by rw [z, hmn] at e; cases e) (xe.keep b o e n) n, fun b q => fr.tab b (xe.tab b q), fun b e => xe.free b (fr.free b e)⟩
    have x14 := x13.trans x34
    have S4 : K42 K C CR P1 P2 P3 P4 P5 P6 P7 P8 sc tw ns mm w4 [litE lit42] [] H4 := ⟨L1.ex x14, mo, T1.ex x14, x14.tab _ t51, e6, by decide⟩
    clear x14 x34 mo fr xe eob hmn hdn hne xe1 elx tdx lq sq st x13 td el L1 T1 t51 e1 e2 e4
    have w4h : w4.h = 0 := e3
    have w4s : w4.sl = .non := e7
    clear e3 e5 e6 e7 e8 htw h63
    -- what is no handle
    refine ⟨_, rfl, _, rfl, 1, rfl, (by show 1 ≤ sizeLine; decide), fun tp htp => ⟨(by show 7 ≤ sizeLine; decide), fun lo hlo => ?_⟩⟩
    have xa := Ex.new (o := .tup [V.int 0]) htp
    have etp : (upd H4 tp (.tup [V.int 0])) tp = some (.tup [V.int 0]) := upd_same
    have xb := Ex.new (o := .lst [V.non, V.int (-1), V.int 0, V.bl true, V.str "0", V.ref tp, V.int 5]) hlo
    have elo : (upd (upd H4 tp (.tup [V.int 0])) lo (.lst [V.non, V.int (-1), V.int 0, V.bl true, V.str "0", V.ref tp, V.int 5])) lo = some (.lst [V.non, V.int (-1), V.int 0, V.bl true, V.str "0", V.ref tp, V.int 5]) := upd_same
    have etp := xb.keep _ _ etp (fun ps z => by cases z)
    have S5 := (S4.ex xa).ex xb
    have ltw : lo ≠ tw := fun z => by
      obtain ⟨t0, t1, _, et⟩ := S5.lw.town
      rw [← z, elo] at et
      cases et
    generalize upd (upd H4 tp (.tup [V.int 0])) lo (.lst [V.non, V.int (-1), V.int 0, V.bl true, V.str "0", V.ref tp, V.int 5]) = H5 at etp elo S5 ⊢
    clear S4 xa xb htp hlo
    refine ⟨sc, tw, lo, ns, _, rfl, S5.lw, SqL.of elo, ltw, by show 0 < 7; decide, by show 7 < 1000; decide, fun H6 odd v6 hodd => ?_⟩
    have S6 := S5.ev v6
    have etp6 : SqT K H6 tp [V.int 0] := Ev.tup S5.lw.town v6 (SqT.of etp)
    obtain ⟨nm, kn⟩ : ∃ nm, Kn K H6 odd nm := by
      simp only [List.mem_cons, List.not_mem_nil, or_false] at hodd
      rcases hodd with rfl | rfl | rfl | rfl | rfl | rfl | rfl
      · exact ⟨_, .non⟩
      · exact ⟨_, .int _⟩
      · exact ⟨_, .int _⟩
      · exact ⟨_, .bl _⟩
      · exact ⟨_, .str _⟩
      · exact ⟨_, .tup etp6⟩
      · exact ⟨_, .int _⟩
    have no0 : ∀ v, hdlB [] v = none := fun v => by cases v <;> rfl
    clear S5 etp elo ltw v6 hodd etp6
    -- three questions about it
    refine ⟨(by show 3 ≤ sizeLine; decide), fun tm htm => ?_⟩
    have xm := Ex.new (o := .tup [V.int 1, V.int 2, V.int 3]) htm
    have em : (upd H6 tm (.tup [V.int 1, V.int 2, V.int 3])) tm = some (.tup [V.int 1, V.int 2, V.int 3]) := upd_same
    have S7 := S6.ex xm
    have kn7 := kn.ex xm
    generalize upd H6 tm (.tup [V.int 1, V.int 2, V.int 3]) = H7 at em S7 kn7 ⊢
    clear S6 kn xm htm
    refine ⟨tm, rfl, ⟨_, SqT.of em⟩, fun D hD => lc_it (walk_tup (K := K) (a := tm) (xs := [V.int 1, V.int 2, V.int 3])) (fun i G => Ex H7 G ∧ ∃ rs : List Addr, G D = some (.lst (rs.map V.ref)) ∧ rs.length = i ∧ ∀ r ∈ rs, RefAt K G r 5)
      ⟨Ex.new hD, [], upd_same, rfl, fun r hr => nomatch hr⟩ (fun i G _ h => SqT.of (h.1.keep _ _ em (fun ps z => by cases z))) ?_ ?_⟩
    · rintro j y G G' hj ⟨xh, rs, hrs, hn, hp⟩ ⟨rfl, hy⟩
      have hj3 : j < 3 := hj
      obtain ⟨nn, rfl, hnn⟩ : ∃ nn, y = V.int nn ∧ (nn = 1 ∨ nn = 2 ∨ nn = 3) := by
        match j, hj3, hy with
        | 0, _, hy => exact ⟨_, (Option.some.inj hy).symm, Or.inl rfl⟩
        | 1, _, hy => exact ⟨_, (Option.some.inj hy).symm, Or.inr (Or.inl rfl)⟩
        | 2, _, hy => exact ⟨_, (Option.some.inj hy).symm, Or.inr (Or.inr rfl)⟩
      refine ⟨rfl, ?_⟩
      unfold tYes
      refine iteT ⟨_, rfl, _, rfl, _, rfl, mm, w4, _, _, _, [], nn, odd, rfl, (S7.ex xh).mo, han_no (kn7.ex xh) (no0 _) (fun G4 r x4 hr4 => ?_) hnn⟩
      have hrs2 := x4.keep _ _ hrs (fun ps z => by cases z)
      refine ⟨rs.map V.ref, hrs2, by rw [List.length_map, hn, sizeLine_eq]; omega, (xh.trans x4).put hD, rs ++ [r], by rw [upd_same, List.map_append]; rfl, by rw [List.length_append, hn]; rfl, fun q hq => ?_⟩
      rcases List.mem_append.mp hq with h | h
      · exact sqT_put ((hp q h).ex x4) hrs2
      · rw [List.mem_singleton.mp h]
        exact sqT_put hr4 hrs2
    rintro G2 ⟨xh, rs, hrs, hn, hp⟩
    have hn3 : rs.length = 3 := hn
    refine rep_ref (K := K) (n := 3) (by decide) (fun G R x h => h) fun G3 y x3 d2 => ?_
    have d1 : Dp K G3 (.ref D) (.list (List.replicate 3 (refD 5))) := by
      rw [← hn3]
      exact .lst (SqL.of (x3.keep _ _ hrs (fun ps z => by cases z))) (dpAll_refs fun r hr => (hp r hr).ex x3)
    refine ⟨_, _, d1, d2, shaped_refs 3 (by decide), shaped_refs 3 (by decide), _, rfl, ?_⟩
    rw [eqv_same _ (shaped_refs 3 (by decide))]
    have S8 := S7.ex (xh.trans x3)
    clear S7 kn7 em hD hrs hp d1 d2 xh x3 hn hn3
    -- what is no path
    refine iteF ?_
    refine ⟨_, rfl, _, rfl, _, rfl, sc, tw, ns, rfl, S8.lw, fun H9 bad v9 hb9 => ?_⟩
    have S9 := S8.ev v9
    clear S8 v9
    obtain ⟨va, vq, vd, vr, vu⟩ := val42
    have nq : ∀ {X : Prop} {d : PyData}, valE (plainE (overE seeE base42)) [("q" : Str)] = some d → X := fun e => by rw [show42, vq] at e; cases e
    have nd0 : ∀ {X : Prop}, valE (plainE (overE seeE base42)) [("d" : Str)] = none → X := fun e => by rw [show42, vd] at e; cases e
    have nd1 : ∀ {X : Prop} {n : Int} {z : Str}, valE (plainE (overE seeE base42)) [("d" : Str)] = some (fileD n z) → X := fun e => by
      rw [show42, vd] at e
      have := Option.some.inj e
      unfold drD fileD at this
      cases this
    have nr0 : ∀ {X : Prop}, valE (plainE (overE seeE base42)) [] = none → X := fun e => by rw [show42, vr] at e; cases e
    have nr1 : ∀ {X : Prop} {n : Int} {z : Str}, valE (plainE (overE seeE base42)) [] = some (fileD n z) → X := fun e => by
      rw [show42, vr] at e
      have := Option.some.inj e
      unfold drD fileD at this
      cases this
    refine ⟨mm, w4, _, _, _, [], 0, bad, rfl, S9.mo, .open_ (.inl ⟨hb9, fun Ga r xa hra => ?_⟩)⟩
    refine ⟨(by show 2 ≤ sizeLine; decide), fun b hb => ?_⟩
    have xb := Ex.new (o := .tup [V.str "refused", V.int 0]) hb
    have hrb : RefAt K (upd Ga b (.tup [V.str "refused", V.int 0])) b 0 := SqT.of upd_same
    refine ⟨refD 0, refD 0, (hra.ex xb).dp, hrb.dp, shaped_ref 0, shaped_ref 0, _, rfl, ?_⟩
    rw [eqv_same _ (shaped_ref 0)]
    have Sa := S9.ex (xa.trans xb)
    generalize upd Ga b (.tup [V.str "refused", V.int 0]) = Hb at Sa ⊢
    clear S9 xa xb hrb hra hb hb9
    -- where nothing is
    refine iteF ⟨_, rfl, (by show 1 ≤ sizeLine; decide), fun q hq => ?_⟩
    have xq := Ex.new (o := .tup [V.str "q"]) hq
    have pq : PathX (upd Hb q (.tup [V.str "q"])) q [("q" : Str)] := upd_same
    have Sb := Sa.ex xq
    generalize upd Hb q (.tup [V.str "q"]) = Hc at pq Sb ⊢
    clear Sa xq hq
    refine ⟨mm, w4, _, _, _, [], 0, .ref q, rfl, Sb.mo, .open_ (.inr ⟨q, _, rfl, pq, by decide +kernel, fun _ Ga r xa hra => ?_, (fun e => nq e), (fun n z e => nq e)⟩)⟩
    refine ⟨(by show 2 ≤ sizeLine; decide), fun b hb => ?_⟩
    have xb := Ex.new (o := .tup [V.str "refused", V.int 8]) hb
    have hrb : RefAt K (upd Ga b (.tup [V.str "refused", V.int 8])) b 8 := SqT.of upd_same
    refine ⟨refD 8, refD 8, (hra.ex xb).dp, hrb.dp, shaped_ref 8, shaped_ref 8, _, rfl, ?_⟩
    rw [eqv_same _ (shaped_ref 8)]
    have Sc := Sb.ex (xa.trans xb)
    generalize upd Ga b (.tup [V.str "refused", V.int 8]) = Hd at Sc ⊢
    clear Sb xa xb hrb hra hb pq
    -- where a drawer is
    refine iteF ⟨_, rfl, (by show 1 ≤ sizeLine; decide), fun q hq => ?_⟩
    have xq := Ex.new (o := .tup [V.str "d"]) hq
    have pq : PathX (upd Hd q (.tup [V.str "d"])) q [("d" : Str)] := upd_same
    have Sb := Sc.ex xq
    generalize upd Hd q (.tup [V.str "d"]) = Hc at pq Sb ⊢
    clear Sc xq hq
    refine ⟨mm, w4, _, _, _, [], 0, .ref q, rfl, Sb.mo, .open_ (.inr ⟨q, _, rfl, pq, by decide +kernel, (fun e => nd0 e), (fun _ Ga r xa hra => ?_), (fun n z e => nd1 e)⟩)⟩
    refine ⟨(by show 2 ≤ sizeLine; decide), fun b hb => ?_⟩
    have xb := Ex.new (o := .tup [V.str "refused", V.int 10]) hb
    have hrb : RefAt K (upd Ga b (.tup [V.str "refused", V.int 10])) b 10 := SqT.of upd_same
    refine ⟨refD 10, refD 10, (hra.ex xb).dp, hrb.dp, shaped_ref 10, shaped_ref 10, _, rfl, ?_⟩
    rw [eqv_same _ (shaped_ref 10)]
    have Sd := Sb.ex (xa.trans xb)
    generalize upd Ga b (.tup [V.str "refused", V.int 10]) = He at Sd ⊢
    clear Sb xa xb hrb hra hb pq
    refine iteF ⟨_, rfl, Nat.zero_le _, fun q hq => ?_⟩
    have xq := Ex.new (o := .tup []) hq
    have pq : PathX (upd He q (.tup [])) q [] := upd_same
    have Sb := Sd.ex xq
    generalize upd He q (.tup []) = Hf at pq Sb ⊢
    clear Sd xq hq
    refine ⟨mm, w4, _, _, _, [], 0, .ref q, rfl, Sb.mo, .open_ (.inr ⟨q, _, rfl, pq, by decide +kernel, (fun e => nr0 e), (fun _ Ga r xa hra => ?_), (fun n z e => nr1 e)⟩)⟩
    refine ⟨(by show 2 ≤ sizeLine; decide), fun b hb => ?_⟩
    have xb := Ex.new (o := .tup [V.str "refused", V.int 10]) hb
    have hrb : RefAt K (upd Ga b (.tup [V.str "refused", V.int 10])) b 10 := SqT.of upd_same
    refine ⟨refD 10, refD 10, (hra.ex xb).dp, hrb.dp, shaped_ref 10, shaped_ref 10, _, rfl, ?_⟩
    rw [eqv_same _ (shaped_ref 10)]
    have Se := Sb.ex (xa.trans xb)
    generalize upd Ga b (.tup [V.str "refused", V.int 10]) = Hg at Se ⊢
    clear Sb xa xb hrb hra hb pq
    -- the file is opened so many times
    have na0 : ∀ {X : Prop}, valE (plainE (overE seeE base42)) [("a" : Str)] = none → X := fun e => by rw [show42, va] at e; cases e
    have na1 : ∀ {X : Prop}, valE (plainE (overE seeE base42)) [("a" : Str)] = some drD → X := fun e => by
      rw [show42, va] at e
      have := Option.some.inj e
      unfold drD fileD at this
      cases this
    have naz : ∀ {n : Int} {z : Str}, valE (plainE (overE seeE base42)) [("a" : Str)] = some (fileD n z) → z = "x" := fun e => by
      rw [show42, va] at e
      exact (fileD_inj (Option.some.inj e)).2.symm
    refine iteF ⟨_, rfl, _, rfl, sc, tw, ns, 5, rfl, Se.lw, by decide, by decide, fun Hh n0 vh p0 p5 => ⟨1, n0, rfl, rfl, ?_⟩⟩
    obtain ⟨k0, rfl⟩ : ∃ k0 : Nat, n0 = (k0 : Int) := ⟨n0.toNat, by omega⟩
    have hk : k0 < 5 := by omega
    have Sf := Se.ev vh
    rw [show (fun (i j : Int) => V.int (i + j)) 1 (k0 : Int) = V.int ((k0 + 1 : Nat) : Int) from congrArg V.int (by omega)]
    clear Se vh p0 p5
    obtain ⟨wb, wt, wk, we, wf, wo, wr, wh, ws, wp, wd, wl⟩ := w4
    have w4h : wh = 0 := w4h
    have w4s : wl = .non := w4s
    subst w4h w4s
    refine ⟨_, rfl, _, rfl, (by omega), (by omega), fun D hD => lc_it walk_range (fun i G => G D = some (.lst ((List.range i).map fun (j : Nat) => V.int j)) ∧ Fr mm wr Hh G ∧ MoAt K C CR G mm ⟨wb, wt, wk, we, wf, wo, wr, (i : Nat), ws, wp, wd, .non⟩ [litE lit42] base42 seeE (rsN i))
      ⟨upd_same, Ex.fr (Ex.new hD), Sf.g.ex (Ex.new hD)⟩ (fun _ _ _ _ => trivial) ?_ ?_⟩
    · rintro i y G G' hi ⟨eD, f0, g⟩ ⟨rfl, rfl⟩
      have hi5 : i < k0 + 1 := by
        have := hi
        omega
      have S := Sf.fr (Or.inr rfl) f0 g Sf.dk (by rw [rsN_len]; omega)
      refine ⟨rfl, ?_⟩
      unfold tYes
      obtain ⟨dx', ob'⟩ := id S.g.ob
      refine iteT ⟨_, rfl, mm, dx', _, rfl, ob', rfl, (by show 1 ≤ sizeLine; decide), fun q hq => ?_⟩
      have xq := Ex.new (o := .tup [V.str "a"]) hq
      have pq : PathX (upd G' q (.tup [V.str "a"])) q [("a" : Str)] := upd_same
      have S2 := S.ex xq
      have eD2 := xq.keep _ _ eD (fun ps z => by cases z)
      have f2 : Fr mm wr Hh (upd G' q (.tup [V.str "a"])) := f0.trans (Ex.fr xq) (Or.inl rfl)
      generalize upd G' q (.tup [V.str "a"]) = G2 at pq S2 eD2 f2 ⊢
      refine ⟨mm, _, _, _, _, _, .ref q, rfl, S2.g, S2.mo.t, S2.t.t7, S2.mo.few, (fun e => by rw [S2.dk] at e; cases e), fun _ => .inr ⟨q, _, rfl, pq, by decide +kernel, (fun e => na0 e), (fun e => na1 e), fun n z e => ⟨0, "x", false, .inr ⟨vu, va, rfl⟩, fun H' f mo => ?_⟩⟩⟩
      obtain rfl := naz e
      obtain ⟨dx2, ob2⟩ := id S2.g.ob
      obtain ⟨kv2, hr2, _⟩ := id S2.g.rds
      have eD3 := f.keep D _ (fun z => by rw [z, ob2] at eD2; cases eD2) (fun z => by rw [z, hr2] at eD2; cases eD2) eD2 (fun ps z => by cases z)
      have f3 : Fr mm wr Hh H' := f2.trans f (Or.inl rfl)
      obtain ⟨f4, g4⟩ := moD (ys := (List.range i).map (fun (j : Nat) => V.int j) ++ [V.int (i : Nat)]) Sf.g f3 mo ⟨rfl, rfl, rfl, rfl⟩ hD eD3
      refine ⟨_, eD3, by rw [List.length_map, List.length_range, sizeLine_eq]; omega, by rw [upd_same, List.range_succ, List.map_append]; rfl, f4, ?_⟩
      rw [rsN_succ]
      exact g4
    rintro G ⟨eD, f0, g⟩
    rw [Int.toNat_natCast] at eD g
    have S10 := Sf.fr (Or.inr rfl) f0 g Sf.dk (by rw [rsN_len]; omega)
    clear f0 g Sf hD
    refine ⟨_, rfl, _, rfl, fun p hp => ⟨p, k0 + 1, rfl, upd_same, (by omega), fun q hq => ?_⟩⟩
    have xp := Ex.new (o := .rng 0 ((k0 + 1 : Nat) : Int)) hp
    have xq := Ex.new (o := .lst ((List.range (k0 + 1)).map fun (j : Nat) => V.int j)) hq
    have eq : (upd (upd G p (.rng 0 ((k0 + 1 : Nat) : Int))) q (.lst ((List.range (k0 + 1)).map fun (j : Nat) => V.int j))) q = some (.lst ((List.range (k0 + 1)).map fun (j : Nat) => V.int j)) := upd_same
    have x := xp.trans xq
    generalize upd (upd G p (.rng 0 ((k0 + 1 : Nat) : Int))) q (.lst ((List.range (k0 + 1)).map fun (j : Nat) => V.int j)) = Hi at eq x ⊢
    have d1 : Dp K Hi (.ref D) (.list ((List.range (k0 + 1)).map fun (j : Nat) => PyData.int j)) := .lst (SqL.of (x.keep _ _ eD (fun ps z => by cases z))) (dpAll_ints _)
    have d2 : Dp K Hi (.ref q) (.list ((List.range (k0 + 1)).map fun (j : Nat) => PyData.int j)) := .lst (SqL.of eq) (dpAll_ints _)
    refine ⟨_, _, d1, d2, shaped_ints _ (by omega), shaped_ints _ (by omega), _, rfl, ?_⟩
    rw [eqv_same _ (shaped_ints _ (by omega))]
    have Sg := S10.ex x
    clear S10 d1 d2 x xp xq eq eD hp hq
    -- one of them is shut
    refine iteF ⟨_, rfl, _, rfl, _, rfl, sc, tw, ns, _, rfl, Sg.lw, by omega, by omega, fun Hj one vj o0 o5 => ?_⟩
    obtain ⟨j0, rfl⟩ : ∃ j0 : Nat, one = (j0 : Int) := ⟨one.toNat, by omega⟩
    have hj : j0 < k0 + 1 := by omega
    have Sh := Sg.ev vj
    clear Sg vj o0 o5
    have lj : lkR (rsN (k0 + 1)) (j0 : Nat) = some rd42 := by rw [lkR_rsN, if_pos hj]
    refine ⟨_, rfl, _, rfl, mm, _, _, _, _, _, 3, .int (j0 : Nat), rfl, Sh.mo, .shut (.int _) (fun e => ?_) fun i d ei li H' f mo => ?_⟩
    · have e : lkR (rsN (k0 + 1)) (j0 : Nat) = none := e
      rw [lj] at e
      cases e
    obtain rfl := V.int.inj ei
    have Si := Sh.fr (Or.inr rfl) f mo Sh.dk (Nat.le_trans (List.length_filter_le _ _) (by rw [rsN_len]; omega))
    refine ⟨rfl, _, rfl, ?_⟩
    rw [show (!decide (V.non = V.non)) = false by rw [decide_eq_true rfl]; rfl]
    clear Sh f mo li d
    -- three questions about it
    refine iteF ⟨(by show 3 ≤ sizeLine; decide), fun tm htm => ?_⟩
    have xm := Ex.new (o := .tup [V.int 1, V.int 2, V.int 3]) htm
    have em : (upd H' tm (.tup [V.int 1, V.int 2, V.int 3])) tm = some (.tup [V.int 1, V.int 2, V.int 3]) := upd_same
    have S7 := Si.ex xm
    generalize upd H' tm (.tup [V.int 1, V.int 2, V.int 3]) = H7 at em S7 ⊢
    clear Si xm htm
    have noj : hdlB ((rsN (k0 + 1)).filter fun e => decide (e.1 ≠ ((j0 : Nat) : Int))) (.int (j0 : Nat)) = none := by
      show lkR _ _ = none
      rw [lkR_not, if_pos rfl]
    refine ⟨tm, rfl, ⟨_, SqT.of em⟩, fun D hD => lc_it (walk_tup (K := K) (a := tm) (xs := [V.int 1, V.int 2, V.int 3])) (fun i G => Ex H7 G ∧ ∃ rs : List Addr, G D = some (.lst (rs.map V.ref)) ∧ rs.length = i ∧ ∀ r ∈ rs, RefAt K G r 5)
      ⟨Ex.new hD, [], upd_same, rfl, fun r hr => nomatch hr⟩ (fun i G _ h => SqT.of (h.1.keep _ _ em (fun ps z => by cases z))) ?_ ?_⟩
    · rintro j y G G' hj2 ⟨xh, rs, hrs, hn, hp⟩ ⟨rfl, hy⟩
      have hj3 : j < 3 := hj2
      obtain ⟨nn, rfl, hnn⟩ : ∃ nn, y = V.int nn ∧ (nn = 1 ∨ nn = 2 ∨ nn = 3) := by
        match j, hj3, hy with
        | 0, _, hy => exact ⟨_, (Option.some.inj hy).symm, Or.inl rfl⟩
        | 1, _, hy => exact ⟨_, (Option.some.inj hy).symm, Or.inr (Or.inl rfl)⟩
        | 2, _, hy => exact ⟨_, (Option.some.inj hy).symm, Or.inr (Or.inr rfl)⟩
      refine ⟨rfl, ?_⟩
      unfold tYes
      refine iteT ⟨_, rfl, _, rfl, _, rfl, mm, _, _, _, _, _, nn, .int (j0 : Nat), rfl, (S7.ex xh).mo, han_no (.int _) noj (fun G4 r x4 hr4 => ?_) hnn⟩
      have hrs2 := x4.keep _ _ hrs (fun ps z => by cases z)
      refine ⟨rs.map V.ref, hrs2, by rw [List.length_map, hn, sizeLine_eq]; omega, (xh.trans x4).put hD, rs ++ [r], by rw [upd_same, List.map_append]; rfl, by rw [List.length_append, hn]; rfl, fun q hq => ?_⟩
      rcases List.mem_append.mp hq with h | h
      · exact sqT_put ((hp q h).ex x4) hrs2
      · rw [List.mem_singleton.mp h]
        exact sqT_put hr4 hrs2
    rintro G2 ⟨xh, rs, hrs, hn, hp⟩
    have hn3 : rs.length = 3 := hn
    refine rep_ref (K := K) (n := 3) (by decide) (fun G R x h => h) fun G3 y x3 d2 => ?_
    have d1 : Dp K G3 (.ref D) (.list (List.replicate 3 (refD 5))) := by
      rw [← hn3]
      exact .lst (SqL.of (x3.keep _ _ hrs (fun ps z => by cases z))) (dpAll_refs fun r hr => (hp r hr).ex x3)
    refine ⟨_, _, d1, d2, shaped_refs 3 (by decide), shaped_refs 3 (by decide), _, rfl, ?_⟩
    rw [eqv_same _ (shaped_refs 3 (by decide))]
    have Sj := S7.ex (xh.trans x3)
    clear S7 em hD hrs hp d1 d2 xh x3 hn hn3
    -- the others tell their text
    refine iteF ⟨_, rfl, _, rfl, (by omega), (by omega), fun D hD => lc_it walk_range (fun i G => Ex G3 G ∧ G D = some (.lst (List.replicate (if j0 < i then i - 1 else i) (V.str "x")))) ⟨Ex.new hD, upd_same⟩ (fun _ _ _ _ => trivial) ?_ ?_⟩
    · rintro i y G G' hi ⟨xh, eD⟩ ⟨rfl, rfl⟩
      have hi5 : i < k0 + 1 := by
        have := hi
        omega
      refine ⟨rfl, ?_⟩
      have e0 : (fun (i : Nat) => V.int (0 + (i : Int))) i = V.int (i : Nat) := congrArg V.int (by omega)
      rw [e0]
      refine ⟨_, rfl, _, rfl, rfl, _, rfl, ?_⟩
      by_cases hij : i = j0
      · subst hij
        rw [show (!decide (V.int ((i : Nat) : Int) = V.int ((i : Nat) : Int))) = false by rw [decide_eq_true rfl]; rfl]
        show (if false = true then _ else _)
        rw [if_neg Bool.false_ne_true]
        refine ⟨xh, ?_⟩
        rw [if_pos (by omega), eD, if_neg (by omega)]
        rfl
      · rw [show (!decide (V.int ((i : Nat) : Int) = V.int ((j0 : Nat) : Int))) = true by rw [decide_eq_false (fun z => hij (by have := V.int.inj z; omega))]; rfl]
        show (if true = true then _ else _)
        rw [if_pos rfl]
        have li : hdlB ((rsN (k0 + 1)).filter fun e => decide (e.1 ≠ ((j0 : Nat) : Int))) (.int (i : Nat)) = some rd42 := by
          show lkR _ _ = _
          rw [lkR_not, if_neg (by omega), lkR_rsN, if_pos hi5]
        refine ⟨_, rfl, _, rfl, mm, _, _, _, _, _, 1, .int (i : Nat), rfl, (Sj.ex xh).mo, .text (.int _) (fun e => by rw [li] at e; cases e) (fun d e => ?_)⟩
        rw [li] at e
        cases e
        refine ⟨_, eD, by rw [List.length_replicate, sizeLine_eq]; split <;> omega, xh.put hD, ?_⟩
        rw [upd_same]
        have : (if j0 < i + 1 then i + 1 - 1 else i + 1) = (if j0 < i then i - 1 else i) + 1 := by
          split <;> split <;> omega
        rw [this, List.replicate_succ']
        rfl
    rintro G ⟨xh, eD⟩
    rw [Int.toNat_natCast] at eD
    have eD : G D = some (.lst (List.replicate k0 (V.str "x"))) := by
      rw [eD, if_pos (by omega)]
      rfl
    refine ⟨(by show 1 ≤ sizeLine; decide), fun q2 hq2 => ⟨_, rfl, _, _, rfl, rfl, ?_⟩⟩
    have x2 := Ex.new (o := .lst [V.str "x"]) hq2
    refine ⟨q2, _, [V.str "x"], rfl, rfl, upd_same, by omega, by omega, (by show 1 * _ ≤ sizeLine; rw [sizeLine_eq]; omega), fun q3 hq3 => ?_⟩
    rw [show (((k0 + 1 : Nat) : Int) - 1).toNat = k0 by omega, flat_rep]
    have x3 := Ex.new (o := .lst (List.replicate k0 (V.str "x"))) hq3
    have e3 : (upd (upd G q2 (.lst [V.str "x"])) q3 (.lst (List.replicate k0 (V.str "x")))) q3 = some (.lst (List.replicate k0 (V.str "x"))) := upd_same
    have x := x2.trans x3
    generalize upd (upd G q2 (.lst [V.str "x"])) q3 (.lst (List.replicate k0 (V.str "x"))) = Hk at e3 x ⊢
    have d1 : Dp K Hk (.ref D) (.list (List.replicate k0 (PyData.str "x"))) := .lst (SqL.of (x.keep _ _ eD (fun ps z => by cases z))) (dpAll_strs _ _)
    have d2 : Dp K Hk (.ref q3) (.list (List.replicate k0 (PyData.str "x"))) := .lst (SqL.of e3) (dpAll_strs _ _)
    refine ⟨_, _, d1, d2, shaped_xs _ (by omega), shaped_xs _ (by omega), _, rfl, ?_⟩
    rw [eqv_same _ (shaped_xs _ (by omega))]
    have Sk := Sj.ex (xh.trans x)
    clear Sj d1 d2 x x2 x3 e3 eD xh hq2 hq3 hD
    -- the next one is no handle yet
    have nom : hdlB ((rsN (k0 + 1)).filter fun e => decide (e.1 ≠ ((j0 : Nat) : Int))) (.int ((k0 + 1 : Nat) : Int)) = none := by
      show lkR _ _ = none
      rw [lkR_not, lkR_rsN, if_neg (by omega : ¬ k0 + 1 < k0 + 1)]
      split <;> rfl
    refine iteF ⟨_, rfl, _, rfl, mm, _, _, _, _, _, 1, .int ((k0 + 1 : Nat) : Int), rfl, Sk.mo, han_no (.int _) nom (fun Ga r xa hra => ?_) (Or.inl rfl)⟩
    refine ⟨(by show 2 ≤ sizeLine; decide), fun b hb => ?_⟩
    have xb := Ex.new (o := .tup [V.str "refused", V.int 5]) hb
    have hrb : RefAt K (upd Ga b (.tup [V.str "refused", V.int 5])) b 5 := SqT.of upd_same
    refine ⟨refD 5, refD 5, (hra.ex xb).dp, hrb.dp, shaped_ref 5, shaped_ref 5, _, rfl, ?_⟩
    rw [eqv_same _ (shaped_ref 5)]
    have Sl := Sk.ex (xa.trans xb)
    generalize upd Ga b (.tup [V.str "refused", V.int 5]) = Hl at Sl ⊢
    clear Sk xa xb hrb hra hb
    -- but the next that is opened
    obtain ⟨dx', ob'⟩ := id Sl.g.ob
    refine iteF ⟨_, rfl, mm, dx', _, rfl, ob', rfl, (by show 1 ≤ sizeLine; decide), fun q hq => ?_⟩
    have xq := Ex.new (o := .tup [V.str "a"]) hq
    have pq : PathX (upd Hl q (.tup [V.str "a"])) q [("a" : Str)] := upd_same
    have S2 := Sl.ex xq
    generalize upd Hl q (.tup [V.str "a"]) = G2 at pq S2 ⊢
    clear Sl xq hq ob'
    refine ⟨mm, _, _, _, _, _, .ref q, rfl, S2.g, S2.mo.t, S2.t.t7, S2.mo.few, (fun e => by rw [S2.dk] at e; cases e), fun _ => .inr ⟨q, _, rfl, pq, by decide +kernel, (fun e => na0 e), (fun e => na1 e), fun n z e => ⟨0, "x", false, .inr ⟨vu, va, rfl⟩, fun Hm f mo => ?_⟩⟩⟩
    obtain rfl := naz e
    have Sm := S2.fr (Or.inr rfl) f mo S2.dk (by
      rw [List.length_append]
      have := List.length_filter_le (fun e : Int × Rw => decide (e.1 ≠ ((j0 : Nat) : Int))) (rsN (k0 + 1))
      rw [rsN_len] at this
      simp only [List.length_cons, List.length_nil]
      omega)
    clear S2 f mo pq
    refine ⟨_, rfl, rfl, _, rfl, ?_⟩
    rw [show (!decide (V.int ((k0 + 1 : Nat) : Int) = V.int ((k0 + 1 : Nat) : Int))) = false by rw [decide_eq_true rfl]; rfl]
    refine iteF ⟨_, rfl, _, rfl, sc, tw, ns, 3, rfl, Sm.lw, by decide, by decide, fun Hn what vn p0 p3 => ?_⟩
    have Sn := Sm.ev vn
    clear Sm vn nom noj lj
    obtain ⟨dx', ob'⟩ := id Sn.g.ob
    have h3 : what = 0 ∨ what = 1 ∨ what = 2 := by omega
    have T5 : Tabs5 Hn P1 P2 P3 P4 P5 := Sn.mo.t
    rcases h3 with rfl | rfl | rfl
    case' inl =>
      refine ⟨_, rfl, rfl, _, rfl, ?_⟩
      rw [decide_eq_true rfl]
      refine iteT ⟨_, rfl, mm, dx', _, rfl, ob', rfl, mm, _, _, _, _, _, rfl, Sn.g, Sn.t, (fun e => by rw [Sn.dk] at e; cases e), fun _ => ⟨(fun h => absurd h (by decide)), fun _ => ?_⟩⟩
      rw [plainS42, laid42f, show42]
      refine ⟨seeE_ok.1, seeE_ok.2.1, by decide, tree42, tree42, fun Hz wz fz mz lz pz dz sz => ?_⟩
      have Sz := Sn.fr (Or.inl rfl) fz mz (dz.trans Sn.dk) (by decide)
      refine ⟨_, rfl, rfl, _, rfl, ?_⟩
      rw [show decide (V.int 0 = V.int 1) = false by decide +kernel]
      refine iteF ⟨_, rfl, rfl, _, rfl, ?_⟩
      rw [show decide (V.int 0 = V.int 2) = false by decide +kernel]
      refine iteF ?_
    case' inr.inl =>
      refine ⟨_, rfl, rfl, _, rfl, ?_⟩
      rw [show decide (V.int 1 = V.int 0) = false by decide +kernel]
      refine iteF ⟨_, rfl, rfl, _, rfl, ?_⟩
      rw [decide_eq_true rfl]
      refine iteT ⟨_, rfl, mm, dx', _, rfl, ob', rfl, mm, _, _, _, _, _, rfl, Sn.g, (fun e => by rw [Sn.dk] at e; cases e), fun _ Hz wz fz mz lz pz dz sz => ?_⟩
      have Sz := Sn.fr (Or.inl rfl) fz mz (dz.trans Sn.dk) (by decide)
      refine ⟨_, rfl, rfl, _, rfl, ?_⟩
      rw [show decide (V.int 1 = V.int 2) = false by decide +kernel]
      refine iteF ?_
    case' inr.inr =>
      refine ⟨_, rfl, rfl, _, rfl, ?_⟩
      rw [show decide (V.int 2 = V.int 0) = false by decide +kernel]
      refine iteF ⟨_, rfl, rfl, _, rfl, ?_⟩
      rw [show decide (V.int 2 = V.int 1) = false by decide +kernel]
      refine iteF ⟨_, rfl, rfl, _, rfl, ?_⟩
      rw [decide_eq_true rfl]
      refine iteT ⟨_, rfl, mm, dx', _, rfl, ob', rfl, mm, _, _, _, _, _, rfl, Sn.g, rfl, fun Hz wz fz mz lz pz dz sz => ?_⟩
      have Sz := Sn.fr (Or.inl rfl) fz mz dz (by decide)
    all_goals
      have hz : wz.h = ((k0 + 1 : Nat) : Int) + 1 := lz.2.2.2.1
      clear Sn fz mz dx' ob' T5
      refine ⟨_, rfl, _, _, rfl, rfl, _, rfl, (by omega), (by omega), fun D hD => lc_it walk_range (fun i G => Ex Hz G ∧ ∃ rs : List Addr, G D = some (.lst (rs.map V.ref)) ∧ rs.length = i ∧ ∀ r ∈ rs, RefAt K G r 5)
        ⟨Ex.new hD, [], upd_same, rfl, fun r hr => nomatch hr⟩ (fun _ _ _ _ => trivial) ?_ ?_⟩
      · rintro i y G G' hi ⟨xh, rs, hrs, hn, hp⟩ ⟨rfl, rfl⟩
        have hi7 : i < 7 := by
          have := hi
          omega
        refine ⟨rfl, ?_⟩
        unfold tYes
        refine iteT ⟨_, rfl, _, rfl, mm, _, _, _, _, _, 1, _, rfl, (Sz.ex xh).mo, han_no (.int _) (no0 _) (fun G4 r x4 hr4 => ?_) (Or.inl rfl)⟩
        have hrs2 := x4.keep _ _ hrs (fun ps z => by cases z)
        refine ⟨rs.map V.ref, hrs2, by rw [List.length_map, hn, sizeLine_eq]; omega, (xh.trans x4).put hD, rs ++ [r], by rw [upd_same, List.map_append]; rfl, by rw [List.length_append, hn]; rfl, fun q hq => ?_⟩
        rcases List.mem_append.mp hq with h | h
        · exact sqT_put ((hp q h).ex x4) hrs2
        · rw [List.mem_singleton.mp h]
          exact sqT_put hr4 hrs2
      rintro G2 ⟨xh, rs, hrs, hn, hp⟩
      have hn3 : rs.length = k0 + 2 := by omega
      refine rep_ref (K := K) (n := k0 + 2) (by omega) (fun G R x h => ⟨_, rfl, _, _, rfl, rfl, h⟩) fun G3 y x3 d2 => ?_
      have d1 : Dp K G3 (.ref D) (.list (List.replicate (k0 + 2) (refD 5))) := by
        rw [← hn3]
        exact .lst (SqL.of (x3.keep _ _ hrs (fun ps z => by cases z))) (dpAll_refs fun r hr => (hp r hr).ex x3)
      refine ⟨_, _, d1, d2, shaped_refs _ (by omega), shaped_refs _ (by omega), _, rfl, ?_⟩
      rw [eqv_same _ (shaped_refs _ (by omega))]
      have S1 := Sz.ex (xh.trans x3)
      clear Sz hD hrs hp d1 d2 xh x3 hn hn3
      obtain ⟨dx', ob'⟩ := id S1.g.ob
      refine iteF ⟨_, rfl, mm, dx', _, rfl, ob', rfl, (by show 1 ≤ sizeLine; decide), fun q hq => ?_⟩
      have xq := Ex.new (o := .tup [V.str "a"]) hq
      have pq : PathX (upd G3 q (.tup [V.str "a"])) q [("a" : Str)] := upd_same
      have S2 := S1.ex xq
      generalize upd G3 q (.tup [V.str "a"]) = G2 at pq S2 ⊢
      refine ⟨mm, _, _, _, _, _, .ref q, rfl, S2.g, S2.mo.t, S2.t.t7, S2.mo.few, (fun e => by rw [S2.dk] at e; cases e), fun _ => .inr ⟨q, _, rfl, pq, by decide +kernel, (fun e => na0 e), (fun e => na1 e), fun n z e => ⟨0, "x", false, .inr ⟨vu, va, rfl⟩, fun Hm f mo => ?_⟩⟩⟩
      refine ⟨_, rfl, _, _, rfl, rfl, rfl, ?_⟩
      rw [hz, decide_eq_true rfl]
      exact k _
end
end LK

namespace LK
open PySem PySem.Spec PyProof.Rows L2 GA LT LE L2H LD
/-! ### what the head tells, by names -/
def whB (K : PySem.W.Frag) (N : Str) (i : Nat) : Bool :=
  decide (PySem.W.subIn K (.ref (He.ga K N)) (.type "BaseException") = some true) && (He.eqO (PySem.W.findIn K (.ref (He.ga K N)) "__getattribute__") (some (some (.builtin "BaseException.__getattribute__"))) && (He.eqO (PySem.W.findIn K (.ref (He.ga K N)) "__getattr__") (some none) &&
  (PySem.W.hasDictIn K (He.ga K N) && (He.eqO (PySem.W.findIn K (.ref (He.ga K N)) "__class__") (some (some (.builtin "object.__class__"))) && (He.eqO (PySem.W.specialIn K (.builtin "object.__class__") "__get__") (some (some (.builtin "getset_descriptor.__get__"))) &&
  (decide (PySem.W.takesIn K (.builtin "object.__class__") = some true) && (decide (PySem.W.mroIn K (He.ga K N) (.type "object") = some true) && (decide (PySem.W.kitOne K (.ref (He.ga K N)) (.type "ValueError") = some true) &&
  (refusals.zipIdx.all fun q => (He.Fa.glo q.1).ok K && decide (PySem.W.kitOne K (.ref (He.ga K N)) (.ref (He.ga K q.1)) = some (decide (q.2 = i))))))))))))
theorem wh_of {K : PySem.W.Frag} {h : Heap} {mg : Str → Option Value} (X : K.In h) (G : h.Ns mainGlobals mg) {N : Str} {i : Nat} (hi : i < 17) (e : whB K N i = true) : Wh K mg (He.ga K N) i := by
  unfold whB at e
  simp only [Bool.and_eq_true, decide_eq_true_eq] at e
  obtain ⟨e1, e2, e3, e4, e5, e6, e7, e8, e9, e10⟩ := e
  refine ⟨⟨He.eqO_ok e2, He.eqO_ok e3, e1, e4, He.eqO_ok e5, He.eqO_ok e6, e7, e8⟩, hi, fun j x hj => ?_, e9⟩
  have m : (x, j) ∈ refusals.zipIdx := List.mem_zipIdx_iff_getElem?.mpr hj
  have := List.all_eq_true.mp e10 _ m
  simp only [Bool.and_eq_true, decide_eq_true_eq] at this
  exact ⟨_, He.glo_ok X G this.1, this.2⟩
theorem ref_of {K : PySem.W.Frag} {h : Heap} {mg : Str → Option Value} (X : K.In h) (G : h.Ns mainGlobals mg) {N : Str} (a : (He.Fa.glo N).ok K = true) (b : (He.Fa.exc N).ok K = true) : Ref K mg N (He.ga K N) := by
  obtain ⟨b1, b2, b3, b4⟩ := He.exc_ok b
  exact ⟨He.glo_ok X G a, b1, b2, b3, b4⟩
theorem funC_of {K : PySem.W.Frag} {x qual : Str} {st : Stmt} {p : He.Defn} {fd : FuncData} (F : FunD K x qual (defArgs st) (defBody st) (defScope st) [] [] (He.fAd K p) fd) : FunC K x qual st (He.fAd K p) fd (He.cT K p).1 := by
  obtain ⟨⟨oc, od, dV, kV, doc, pm, an, cdv, ct, osl, e, lk, hc, dv, _⟩, kp⟩ := F
  obtain ⟨c, rfl⟩ := He.codeIn_ref hc
  rcases dv with ⟨_, rfl⟩ | ⟨z, _⟩
  · have : (He.cT K p).1 = c := He.codeOf_eq lk (by rw [e])
    rw [this]
    exact ⟨⟨oc, od, kV, doc, pm, an, ct, osl, e, lk, hc⟩, kp⟩
  · exact absurd rfl z
theorem fun_ofD {K : PySem.W.Frag} {x qual : Str} {st : Stmt} {f : Addr} {fd : FuncData} (F : FunD K x qual (defArgs st) (defBody st) (defScope st) [] [] f fd) : Fun K x qual st f fd := by
  obtain ⟨⟨oc, od, dV, kV, doc, pm, an, cdv, ct, osl, e, lk, hc, dv, _⟩, kp⟩ := F
  rcases dv with ⟨_, rfl⟩ | ⟨z, _⟩
  · exact ⟨⟨oc, od, kV, doc, pm, an, cdv, ct, osl, e, lk, hc⟩, kp⟩
  · exact absurd rfl z
/-! ### a hook that looks at given addresses -/
abbrev AlF : Type := He.AlX
def obsF (as : List Addr) (fa : List He.Fa) (fn : List He.DefD) (tf : List He.Defn) (ex : PySem.W.Frag → Bool) (g : Addr → Option Obj) : AlF :=
  (fun K => (He.obsT fa fn [] K, ex K && He.tabsB g tf K)) (He.frT g as)
theorem saysF {as : List Addr} {fa : List He.Fa} {fn : List He.DefD} {tf : List He.Defn} {ex : PySem.W.Frag → Bool} {w : World} {h : Heap} (e : obsF as fa fn tf ex h.get? = He.valX fn [] w) : He.SaysX fa fn [] tf ex w h (He.frT h.get? as) := by
  have e1 := congrArg Prod.fst e
  have e2 := Bool.and_eq_true_iff.mp (congrArg Prod.snd e)
  have tb : ∀ p ∈ tf, PySem.W.codeHdIn (He.frT h.get? as) (He.cT (He.frT h.get? as) p).1 (He.cT (He.frT h.get? as) p).2 = true ∧ ∃ u, h.get? (He.cT (He.frT h.get? as) p).2 = some u ∧ He.emptyTab u = true := fun p hp => by
    have q := Bool.and_eq_true_iff.mp (List.all_eq_true.mp e2.2 p hp)
    refine ⟨q.1, ?_⟩
    have q2 := q.2
    split at q2
    · exact ⟨_, by assumption, q2⟩
    · cases q2
  refine ⟨e1, e2.1, fun p hp => (tb p hp).1, fun p hp => ?_, fun p hp => ?_⟩
  · obtain ⟨_, u, h1, h2⟩ := tb p hp
    exact He.frT_none h1 h2
  · obtain ⟨_, u, h1, h2⟩ := tb p hp
    exact h1.trans (congrArg some (He.emptyTab_eq h2))
def hookF (as : List Addr) (fa : List He.Fa) (fn : List He.DefD) (tf : List He.Defn) (ex : PySem.W.Frag → Bool) : PySem.W.Hook where
  α := AlF
  obs := fun s => obsF as fa fn tf ex s.heap.get?
  val := fun w => He.valX fn [] w
  says := fun w h => ∃ K : PySem.W.Frag, K.In h ∧ He.SaysX fa fn [] tf ex w h K
  of := fun _ _ e => ⟨_, He.frT_in, saysF e⟩
  keeps := fun _ _ _ y k => by
    obtain ⟨K, h1, c⟩ := y
    exact ⟨K, h1.keeps k, c.t, c.more, c.hd, c.out, fun p hp => k _ _ (c.empty p hp)⟩
theorem obsF_eq {as : List Addr} {fa : List He.Fa} {fn : List He.DefD} {tf : List He.Defn} {ex : PySem.W.Frag → Bool} {g : Addr → Option Obj} {s : Shared} (h : ∀ a, g a = s.heap.get? a) : obsF as fa fn tf ex g = (hookF as fa fn tf ex).obs s := congrArg (obsF as fa fn tf ex) (funext h)
/-! ### what the top has written -/
def dd0 : He.DefD := ⟨("is_name", none), "is_name", "is_name", defArgs sIsName, defBody sIsName, defScope sIsName, [], []⟩
def dd1 : He.DefD := ⟨("is_path", none), "is_path", "is_path", defArgs sIsPath, defBody sIsPath, defScope sIsPath, [], []⟩
def dd2 : He.DefD := ⟨("is_kind", none), "is_kind", "is_kind", defArgs sIsKind, defBody sIsKind, defScope sIsKind, [], []⟩
def dd3 : He.DefD := ⟨("is_number", none), "is_number", "is_number", defArgs sIsNumber, defBody sIsNumber, defScope sIsNumber, [], []⟩
def dd4 : He.DefD := ⟨("is_text", none), "is_text", "is_text", defArgs sIsText, defBody sIsText, defScope sIsText, [], []⟩
def dd5 : He.DefD := ⟨("is_file", none), "is_file", "is_file", defArgs sIsFile, defBody sIsFile, defScope sIsFile, [], []⟩
def dd6 : He.DefD := ⟨("_is_entry", none), "_is_entry", "_is_entry", defArgs sIsEntry, defBody sIsEntry, defScope sIsEntry, [], []⟩
def dd7 : He.DefD := ⟨("check_path", none), "check_path", "check_path", defArgs sCheckPath, defBody sCheckPath, defScope sCheckPath, [], []⟩
def dd8 : He.DefD := ⟨("above", none), "above", "above", defArgs sAbove, defBody sAbove, defScope sAbove, [], []⟩
def dd9 : He.DefD := ⟨("has_drawers_above", none), "has_drawers_above", "has_drawers_above", defArgs sHasDrawers, defBody sHasDrawers, defScope sHasDrawers, [], []⟩
def dd10 : He.DefD := ⟨("has_one_text_each", none), "has_one_text_each", "has_one_text_each", defArgs sHasOneText, defBody sHasOneText, defScope sHasOneText, [], []⟩
def dd11 : He.DefD := ⟨("is_layer", none), "is_layer", "is_layer", defArgs sIsLayer, defBody sIsLayer, defScope sIsLayer, [], []⟩
def dd12 : He.DefD := ⟨("is_stack", none), "is_stack", "is_stack", defArgs sIsStack, defBody sIsStack, defScope sIsStack, [], []⟩
def dd13 : He.DefD := ⟨("check_stack", none), "check_stack", "check_stack", defArgs sCheckStack, defBody sCheckStack, defScope sCheckStack, [], []⟩
def dd14 : He.DefD := ⟨("_copied", none), "_copied", "_copied", defArgs sCopied, defBody sCopied, defScope sCopied, [], []⟩
def dd15 : He.DefD := ⟨("_as_seen", none), "_as_seen", "_as_seen", defArgs sAsSeen, defBody sAsSeen, defScope sAsSeen, [], []⟩
def dd16 : He.DefD := ⟨("apart", none), "apart", "apart", defArgs sApart, defBody sApart, defScope sApart, [], []⟩
def dd17 : He.DefD := ⟨("beginnings", none), "beginnings", "beginnings", defArgs sBeginnings, defBody sBeginnings, defScope sBeginnings, [], []⟩
def dd18 : He.DefD := ⟨("longest", none), "longest", "longest", defArgs sLongest, defBody sLongest, defScope sLongest, [], []⟩
def dd19 : He.DefD := ⟨("lets_through", none), "lets_through", "lets_through", defArgs sLetsThrough, defBody sLetsThrough, defScope sLetsThrough, [], []⟩
def dd20 : He.DefD := ⟨("renumbered", none), "renumbered", "renumbered", defArgs sRenumbered, defBody sRenumbered, defScope sRenumbered, [], []⟩
def dd21 : He.DefD := ⟨("laid_over", none), "laid_over", "laid_over", defArgs sLaidOver, defBody sLaidOver, defScope sLaidOver, [], []⟩
def dd22 : He.DefD := ⟨("_with_room", none), "_with_room", "_with_room", defArgs sWithRoom, defBody sWithRoom, defScope sWithRoom, [], []⟩
def dd23 : He.DefD := ⟨("laid", none), "laid", "laid", defArgs sLaidP, defBody sLaidP, defScope sLaidP, [], []⟩
def dd24 : He.DefD := ⟨("Mount", some "__init__"), "__init__", "Mount.__init__", defArgs uInit, defBody uInit, defScope uInit, [], [("keep", .bl true)]⟩
def dd25 : He.DefD := ⟨("_law_draw", none), "_law_draw", "_law_draw", defArgs sDraw, defBody sDraw, defScope sDraw, [], []⟩
def dd26 : He.DefD := ⟨("_law_pick", none), "_law_pick", "_law_pick", defArgs sPick, defBody sPick, defScope sPick, [], []⟩
def dd27 : He.DefD := ⟨("_law_no_path", none), "_law_no_path", "_law_no_path", defArgs sNoPath, defBody sNoPath, defScope sNoPath, [], []⟩
def dd28 : He.DefD := ⟨("Reader", some "__init__"), "__init__", "Reader.__init__", defArgs rInit, defBody rInit, defScope rInit, [.bl false], []⟩
def dd29 : He.DefD := ⟨("is_drawer", none), "is_drawer", "is_drawer", defArgs sIsDrawer, defBody sIsDrawer, defScope sIsDrawer, [], []⟩
def dd30 : He.DefD := ⟨("is_tree", none), "is_tree", "is_tree", defArgs sIsTree, defBody sIsTree, defScope sIsTree, [], []⟩
def dd31 : He.DefD := ⟨("check_tree", none), "check_tree", "check_tree", defArgs sCheckTree, defBody sCheckTree, defScope sCheckTree, [], []⟩
def dd32 : He.DefD := ⟨("plain", none), "plain", "plain", defArgs sPlain, defBody sPlain, defScope sPlain, [], []⟩
def dd33 : He.DefD := ⟨("House", some "__init__"), "__init__", "House.__init__", defArgs mInit, defBody mInit, defScope mInit, [.non], []⟩
def dd34 : He.DefD := ⟨("Mount", some "_check_light"), "_check_light", "Mount._check_light", defArgs uCheckLight, defBody uCheckLight, defScope uCheckLight, [], []⟩
def dd35 : He.DefD := ⟨("Mount", some "_house"), "_house", "Mount._house", defArgs uHouse, defBody uHouse, defScope uHouse, [], []⟩
def dd36 : He.DefD := ⟨("House", some "_check_there"), "_check_there", "House._check_there", defArgs mThere, defBody mThere, defScope mThere, [], []⟩
def dd37 : He.DefD := ⟨("House", some "_file_at"), "_file_at", "House._file_at", defArgs mFileAt, defBody mFileAt, defScope mFileAt, [], []⟩
def dd38 : He.DefD := ⟨("House", some "read"), "read", "House.read", defArgs mRead, defBody mRead, defScope mRead, [], []⟩
def dd39 : He.DefD := ⟨("Mount", some "opened"), "opened", "Mount.opened", defArgs uOpened, defBody uOpened, defScope uOpened, [], []⟩
def dd40 : He.DefD := ⟨("Mount", some "_reader"), "_reader", "Mount._reader", defArgs uReader, defBody uReader, defScope uReader, [], []⟩
def dd41 : He.DefD := ⟨("Mount", some "text_of"), "text_of", "Mount.text_of", defArgs uTextOf, defBody uTextOf, defScope uTextOf, [], []⟩
def dd42 : He.DefD := ⟨("Mount", some "is_stale"), "is_stale", "Mount.is_stale", defArgs uIsStale, defBody uIsStale, defScope uIsStale, [], []⟩
def dd43 : He.DefD := ⟨("Mount", some "shut"), "shut", "Mount.shut", defArgs uShut, defBody uShut, defScope uShut, [], []⟩
def dd44 : He.DefD := ⟨("_law_which", none), "_law_which", "_law_which", defArgs sWhich, defBody sWhich, defScope sWhich, [], []⟩
def dd45 : He.DefD := ⟨("_law_handled", none), "_law_handled", "_law_handled", defArgs sHandled, defBody sHandled, defScope sHandled, [], []⟩
def dd46 : He.DefD := ⟨("Mount", some "freeze"), "freeze", "Mount.freeze", defArgs uFreeze, defBody uFreeze, defScope uFreeze, [], []⟩
def dd47 : He.DefD := ⟨("together", none), "together", "together", defArgs sTogether, defBody sTogether, defScope sTogether, [], []⟩
def dd48 : He.DefD := ⟨("Mount", some "join"), "join", "Mount.join", defArgs uJoin, defBody uJoin, defScope uJoin, [], []⟩
def dd49 : He.DefD := ⟨("Mount", some "_settle"), "_settle", "Mount._settle", defArgs uSettle, defBody uSettle, defScope uSettle, [], []⟩
def dd50 : He.DefD := ⟨("Mount", some "mend"), "mend", "Mount.mend", defArgs uMend, defBody uMend, defScope uMend, [], []⟩
def dd51 : He.DefD := ⟨("law", none), "law", "law", defArgs sLaw, defBody sLaw, defScope sLaw, [], []⟩
def fnL0 : List He.DefD := [dd0, dd1, dd2, dd3, dd4, dd5, dd6, dd7, dd8, dd9, dd10, dd11, dd12, dd13, dd14, dd15, dd16, dd17, dd18, dd19, dd20, dd21, dd22, dd23, dd24]
def fnL1 : List He.DefD := [dd25, dd26, dd27, dd28, dd29, dd30, dd31, dd32, dd33, dd34, dd35, dd36, dd37, dd38, dd39, dd40, dd41, dd42, dd43, dd44, dd45, dd46, dd47, dd48, dd49]
def fnL2 : List He.DefD := [dd50, dd51]
def fnL : List He.DefD := fnL0 ++ (fnL1 ++ (fnL2))
def faL0 : List He.Fa := [.glo "House", .cls "House", .noat "House" "_tree", .mkr "House", .glo "Reader", .cls "Reader", .noat "Reader" "number", .noat "Reader" "text", .noat "Reader" "is_upper", .noat "Reader" "stale", .mkr "Reader", .glo "Mount", .cls "Mount", .noat "Mount" "_below", .noat "Mount" "_base", .noat "Mount" "_keep", .noat "Mount" "_entries", .noat "Mount" "_files", .noat "Mount" "_torn", .noat "Mount" "_readers", .noat "Mount" "_handles", .noat "Mount" "_steps", .noat "Mount" "_power", .noat "Mount" "_dark", .noat "Mount" "_sealed"]
def faL1 : List He.Fa := [.mkr "Mount", .glo "is_name", .glo "is_path", .glo "is_kind", .glo "is_number", .glo "is_text", .glo "is_file", .glo "_is_entry", .glo "check_path", .glo "above", .glo "has_drawers_above", .glo "has_one_text_each", .glo "is_layer", .glo "is_stack", .glo "check_stack", .glo "_copied", .glo "_as_seen", .glo "apart", .glo "beginnings", .glo "longest", .glo "lets_through", .glo "renumbered", .glo "laid_over", .glo "_with_room", .glo "laid"]
def faL2 : List He.Fa := [.meth "Mount" "__init__", .glo "_law_draw", .glo "_law_pick", .glo "_law_no_path", .meth "Reader" "__init__", .glo "is_drawer", .glo "is_tree", .glo "check_tree", .glo "plain", .meth "House" "__init__", .meth "Mount" "_check_light", .meth "Mount" "_house", .meth "House" "_check_there", .meth "House" "_file_at", .meth "House" "read", .meth "Mount" "opened", .meth "Mount" "_reader", .meth "Mount" "text_of", .meth "Mount" "is_stale", .meth "Mount" "shut", .glo "_law_which", .glo "_law_handled", .meth "Mount" "freeze", .glo "together", .meth "Mount" "join"]
def faL3 : List He.Fa := [.meth "Mount" "_settle", .meth "Mount" "mend", .glo "law", .free "ValueError", .free "all", .free "bool", .free "dict", .free "int", .free "isinstance", .free "len", .free "list", .free "range", .free "reversed", .free "sorted", .free "str", .free "sum", .free "tuple", .int "LAST_NUMBER" 999, .str "LETTERS" lettersS, .int "MOST_ENTRIES" 40, .int "MOST_LAYERS" 4, .int "MOST_LETTERS" 4, .int "MOST_NAMES" 5, .int "MOST_PATHS" 80, .int "MOST_SIGNS" 40]
def faL4 : List He.Fa := [.str "SIGNS" signsS, .glo "NoPath", .exc "NoPath", .glo "NoText", .exc "NoText", .glo "NoTree", .exc "NoTree", .glo "NoLayer", .exc "NoLayer", .glo "NoStack", .exc "NoStack", .glo "NoHandle", .exc "NoHandle", .glo "NoPower", .exc "NoPower", .glo "Root", .exc "Root", .glo "NotThere", .exc "NotThere", .glo "NoDrawer", .exc "NoDrawer", .glo "IsDrawer", .exc "IsDrawer", .glo "Taken", .exc "Taken"]
def faL5 : List He.Fa := [.glo "NotEmpty", .exc "NotEmpty", .glo "Within", .exc "Within", .glo "TooLong", .exc "TooLong", .glo "Full", .exc "Full", .glo "Dark", .exc "Dark", .glo "TreeError", .exm "NoPath" "TreeError" true, .exm "NoHandle" "TreeError" true, .exm "NotThere" "TreeError" true, .exm "IsDrawer" "TreeError" true, .glo "DRAWER", .glo "GONE", .glo "SEE_THROUGH"]
def faL : List He.Fa := faL0 ++ (faL1 ++ (faL2 ++ (faL3 ++ (faL4 ++ (faL5)))))
def tfL : List He.Defn := [("is_name", none), ("is_path", none), ("is_text", none), ("has_drawers_above", none), ("is_layer", none), ("is_stack", none), ("lets_through", none), ("is_tree", none)]
def exL (K : PySem.W.Frag) : List Bool := [He.tupB K "DRAWER" [.str "drawer"], He.tupB K "GONE" [.str "gone"], He.tupB K "SEE_THROUGH" [.str "drawer", .bl false], whB K "NoPath" 0, whB K "NoHandle" 5, whB K "NotThere" 8, whB K "IsDrawer" 10]
def exB (K : PySem.W.Frag) : Bool := (exL K).all id
theorem ex_at {K : PySem.W.Frag} (h : exB K = true) (i : Nat) {b : Bool} (e : (exL K)[i]? = some b) : b = true := List.all_eq_true.mp h b (List.mem_of_getElem? e)
def loL0 : List Str := ["_wall", "TreeError", "NoPath", "NoText", "NoTree", "NoLayer", "NoStack", "NoHandle", "NoPower", "Root", "NotThere", "NoDrawer", "IsDrawer", "Taken", "NotEmpty", "Within", "TooLong", "Full", "Dark", "LETTERS", "SIGNS", "MOST_LETTERS", "MOST_NAMES", "MOST_SIGNS", "is_name"]
def loL1 : List Str := ["is_path", "is_text", "check_path", "check_text", "above", "beginnings", "DRAWER", "MOST_PATHS", "LAST_NUMBER", "is_number", "is_kind", "is_drawer", "is_file", "has_drawers_above", "has_one_text_each", "is_tree", "check_tree", "renumbered", "plain", "SEE_THROUGH", "GONE", "MOST_ENTRIES", "MOST_LAYERS", "_is_entry", "is_layer"]
def loL2 : List Str := ["is_stack", "check_layer", "check_stack", "put_entry", "apart", "longest", "lets_through", "_as_seen", "laid_over", "_with_room", "laid", "_of_file", "Draft", "_check_not_root", "House", "Reader", "_check_few", "_over", "together", "_copied", "Mount", "_law_draw", "_law_pick", "_law_no_path", "_law_which"]
def loL3 : List Str := ["_law_handled"]
def loL : List Str := loL0 ++ (loL1 ++ (loL2 ++ (loL3)))
theorem all_mk {l : PySem.W.OpenLaw} {w : World} {K : PySem.W.Frag} {h : Heap} {mg : Str → Option Value} {fz : Addr} (X : K.In h) (G : h.Ns mainGlobals mg) (hfa : mg "law" = some (.ref fz)) (c : He.SaysX faL fnL [] tfL exB w h K)
    : LamX.LawAtS l w K (fun _ _ _ _ _ _ => False) 17 63 "_law_script" mg fz h := by
  have e := hfa.symm.trans (He.glo_ok X G (c.t.d.fact 77 rfl))
  cases e
  have TH : HT K mg (He.ga K "House") := ⟨He.cls_ok (c.t.d.fact 1 rfl), He.noat_ok (c.t.d.fact 2 rfl), He.glo_ok X G (c.t.d.fact 0 rfl)⟩
  have TR : RT K mg (He.ga K "Reader") := ⟨He.cls_ok (c.t.d.fact 5 rfl), He.noat_ok (c.t.d.fact 6 rfl), He.noat_ok (c.t.d.fact 7 rfl), He.noat_ok (c.t.d.fact 8 rfl), He.noat_ok (c.t.d.fact 9 rfl), He.glo_ok X G (c.t.d.fact 4 rfl)⟩
  have TM : MT K mg (He.ga K "Mount") := ⟨He.cls_ok (c.t.d.fact 12 rfl), He.noat_ok (c.t.d.fact 13 rfl), He.noat_ok (c.t.d.fact 14 rfl), He.noat_ok (c.t.d.fact 15 rfl), He.noat_ok (c.t.d.fact 16 rfl), He.noat_ok (c.t.d.fact 17 rfl), He.noat_ok (c.t.d.fact 18 rfl), He.noat_ok (c.t.d.fact 19 rfl), He.noat_ok (c.t.d.fact 20 rfl), He.noat_ok (c.t.d.fact 21 rfl), He.noat_ok (c.t.d.fact 22 rfl), He.noat_ok (c.t.d.fact 23 rfl), He.noat_ok (c.t.d.fact 24 rfl), He.glo_ok X G (c.t.d.fact 11 rfl)⟩
  obtain ⟨fd0, D0⟩ := c.t.d.def_ 0 (d := dd0) rfl
  have F0 : FunC K "is_name" "is_name" sIsName (He.ga K "is_name") fd0 (He.cT K ("is_name", none)).1 := funC_of (p := ("is_name", none)) D0
  have b0 := F0.fn.binds (ps := ["thing"]) fun _ _ _ _ _ _ us hl => match us, hl with | [_], _ => rfl
  have k0 := F0.kp
  have m0 := He.glo_ok X G (c.t.d.fact 26 rfl)
  obtain ⟨fd1, D1⟩ := c.t.d.def_ 1 (d := dd1) rfl
  have F1 : FunC K "is_path" "is_path" sIsPath (He.ga K "is_path") fd1 (He.cT K ("is_path", none)).1 := funC_of (p := ("is_path", none)) D1
  have b1 := F1.fn.binds (ps := ["thing"]) fun _ _ _ _ _ _ us hl => match us, hl with | [_], _ => rfl
  have k1 := F1.kp
  have m1 := He.glo_ok X G (c.t.d.fact 27 rfl)
  obtain ⟨fd2, D2⟩ := c.t.d.def_ 2 (d := dd2) rfl
  have F2 : Fun K "is_kind" "is_kind" sIsKind (He.ga K "is_kind") fd2 := fun_ofD D2
  have b2 := F2.binds (ps := ["thing", "word", "many"]) fun _ _ _ _ _ _ us hl => match us, hl with | [_, _, _], _ => rfl
  have k2 := F2.kp
  have m2 := He.glo_ok X G (c.t.d.fact 28 rfl)
  obtain ⟨fd3, D3⟩ := c.t.d.def_ 3 (d := dd3) rfl
  have F3 : Fun K "is_number" "is_number" sIsNumber (He.ga K "is_number") fd3 := fun_ofD D3
  have b3 := F3.binds (ps := ["thing"]) fun _ _ _ _ _ _ us hl => match us, hl with | [_], _ => rfl
  have k3 := F3.kp
  have m3 := He.glo_ok X G (c.t.d.fact 29 rfl)
  obtain ⟨fd4, D4⟩ := c.t.d.def_ 4 (d := dd4) rfl
  have F4 : FunC K "is_text" "is_text" sIsText (He.ga K "is_text") fd4 (He.cT K ("is_text", none)).1 := funC_of (p := ("is_text", none)) D4
  have b4 := F4.fn.binds (ps := ["thing"]) fun _ _ _ _ _ _ us hl => match us, hl with | [_], _ => rfl
  have k4 := F4.kp
  have m4 := He.glo_ok X G (c.t.d.fact 30 rfl)
  obtain ⟨fd5, D5⟩ := c.t.d.def_ 5 (d := dd5) rfl
  have F5 : Fun K "is_file" "is_file" sIsFile (He.ga K "is_file") fd5 := fun_ofD D5
  have b5 := F5.binds (ps := ["thing"]) fun _ _ _ _ _ _ us hl => match us, hl with | [_], _ => rfl
  have k5 := F5.kp
  have m5 := He.glo_ok X G (c.t.d.fact 31 rfl)
  obtain ⟨fd6, D6⟩ := c.t.d.def_ 6 (d := dd6) rfl
  have F6 : Fun K "_is_entry" "_is_entry" sIsEntry (He.ga K "_is_entry") fd6 := fun_ofD D6
  have b6 := F6.binds (ps := ["thing"]) fun _ _ _ _ _ _ us hl => match us, hl with | [_], _ => rfl
  have k6 := F6.kp
  have m6 := He.glo_ok X G (c.t.d.fact 32 rfl)
  obtain ⟨fd7, D7⟩ := c.t.d.def_ 7 (d := dd7) rfl
  have F7 : Fun K "check_path" "check_path" sCheckPath (He.ga K "check_path") fd7 := fun_ofD D7
  have b7 := F7.binds (ps := ["thing"]) fun _ _ _ _ _ _ us hl => match us, hl with | [_], _ => rfl
  have k7 := F7.kp
  have m7 := He.glo_ok X G (c.t.d.fact 33 rfl)
  obtain ⟨fd8, D8⟩ := c.t.d.def_ 8 (d := dd8) rfl
  have F8 : Fun K "above" "above" sAbove (He.ga K "above") fd8 := fun_ofD D8
  have b8 := F8.binds (ps := ["path"]) fun _ _ _ _ _ _ us hl => match us, hl with | [_], _ => rfl
  have k8 := F8.kp
  have m8 := He.glo_ok X G (c.t.d.fact 34 rfl)
  obtain ⟨fd9, D9⟩ := c.t.d.def_ 9 (d := dd9) rfl
  have F9 : FunC K "has_drawers_above" "has_drawers_above" sHasDrawers (He.ga K "has_drawers_above") fd9 (He.cT K ("has_drawers_above", none)).1 := funC_of (p := ("has_drawers_above", none)) D9
  have b9 := F9.fn.binds (ps := ["tree"]) fun _ _ _ _ _ _ us hl => match us, hl with | [_], _ => rfl
  have k9 := F9.kp
  have m9 := He.glo_ok X G (c.t.d.fact 35 rfl)
  obtain ⟨fd10, D10⟩ := c.t.d.def_ 10 (d := dd10) rfl
  have F10 : Fun K "has_one_text_each" "has_one_text_each" sHasOneText (He.ga K "has_one_text_each") fd10 := fun_ofD D10
  have b10 := F10.binds (ps := ["things"]) fun _ _ _ _ _ _ us hl => match us, hl with | [_], _ => rfl
  have k10 := F10.kp
  have m10 := He.glo_ok X G (c.t.d.fact 36 rfl)
  obtain ⟨fd11, D11⟩ := c.t.d.def_ 11 (d := dd11) rfl
  have F11 : FunC K "is_layer" "is_layer" sIsLayer (He.ga K "is_layer") fd11 (He.cT K ("is_layer", none)).1 := funC_of (p := ("is_layer", none)) D11
  have b11 := F11.fn.binds (ps := ["thing"]) fun _ _ _ _ _ _ us hl => match us, hl with | [_], _ => rfl
  have k11 := F11.kp
  have m11 := He.glo_ok X G (c.t.d.fact 37 rfl)
  obtain ⟨fd12, D12⟩ := c.t.d.def_ 12 (d := dd12) rfl
  have F12 : FunC K "is_stack" "is_stack" sIsStack (He.ga K "is_stack") fd12 (He.cT K ("is_stack", none)).1 := funC_of (p := ("is_stack", none)) D12
  have b12 := F12.fn.binds (ps := ["thing"]) fun _ _ _ _ _ _ us hl => match us, hl with | [_], _ => rfl
  have k12 := F12.kp
  have m12 := He.glo_ok X G (c.t.d.fact 38 rfl)
  obtain ⟨fd13, D13⟩ := c.t.d.def_ 13 (d := dd13) rfl
  have F13 : Fun K "check_stack" "check_stack" sCheckStack (He.ga K "check_stack") fd13 := fun_ofD D13
  have b13 := F13.binds (ps := ["thing"]) fun _ _ _ _ _ _ us hl => match us, hl with | [_], _ => rfl
  have k13 := F13.kp
  have m13 := He.glo_ok X G (c.t.d.fact 39 rfl)
  obtain ⟨fd14, D14⟩ := c.t.d.def_ 14 (d := dd14) rfl
  have F14 : Fun K "_copied" "_copied" sCopied (He.ga K "_copied") fd14 := fun_ofD D14
  have b14 := F14.binds (ps := ["stack"]) fun _ _ _ _ _ _ us hl => match us, hl with | [_], _ => rfl
  have k14 := F14.kp
  have m14 := He.glo_ok X G (c.t.d.fact 40 rfl)
  obtain ⟨fd15, D15⟩ := c.t.d.def_ 15 (d := dd15) rfl
  have F15 : Fun K "_as_seen" "_as_seen" sAsSeen (He.ga K "_as_seen") fd15 := fun_ofD D15
  have b15 := F15.binds (ps := ["entry"]) fun _ _ _ _ _ _ us hl => match us, hl with | [_], _ => rfl
  have k15 := F15.kp
  have m15 := He.glo_ok X G (c.t.d.fact 41 rfl)
  obtain ⟨fd16, D16⟩ := c.t.d.def_ 16 (d := dd16) rfl
  have F16 : Fun K "apart" "apart" sApart (He.ga K "apart") fd16 := fun_ofD D16
  have b16 := F16.binds (ps := ["thing"]) fun _ _ _ _ _ _ us hl => match us, hl with | [_], _ => rfl
  have k16 := F16.kp
  have m16 := He.glo_ok X G (c.t.d.fact 42 rfl)
  obtain ⟨fd17, D17⟩ := c.t.d.def_ 17 (d := dd17) rfl
  have F17 : Fun K "beginnings" "beginnings" sBeginnings (He.ga K "beginnings") fd17 := fun_ofD D17
  have b17 := F17.binds (ps := ["path"]) fun _ _ _ _ _ _ us hl => match us, hl with | [_], _ => rfl
  have k17 := F17.kp
  have m17 := He.glo_ok X G (c.t.d.fact 43 rfl)
  obtain ⟨fd18, D18⟩ := c.t.d.def_ 18 (d := dd18) rfl
  have F18 : Fun K "longest" "longest" sLongest (He.ga K "longest") fd18 := fun_ofD D18
  have b18 := F18.binds (ps := ["layer", "path"]) fun _ _ _ _ _ _ us hl => match us, hl with | [_, _], _ => rfl
  have k18 := F18.kp
  have m18 := He.glo_ok X G (c.t.d.fact 44 rfl)
  obtain ⟨fd19, D19⟩ := c.t.d.def_ 19 (d := dd19) rfl
  have F19 : FunC K "lets_through" "lets_through" sLetsThrough (He.ga K "lets_through") fd19 (He.cT K ("lets_through", none)).1 := funC_of (p := ("lets_through", none)) D19
  have b19 := F19.fn.binds (ps := ["layer", "path"]) fun _ _ _ _ _ _ us hl => match us, hl with | [_, _], _ => rfl
  have k19 := F19.kp
  have m19 := He.glo_ok X G (c.t.d.fact 45 rfl)
  obtain ⟨fd20, D20⟩ := c.t.d.def_ 20 (d := dd20) rfl
  have F20 : Fun K "renumbered" "renumbered" sRenumbered (He.ga K "renumbered") fd20 := fun_ofD D20
  have b20 := F20.binds (ps := ["tree"]) fun _ _ _ _ _ _ us hl => match us, hl with | [_], _ => rfl
  have k20 := F20.kp
  have m20 := He.glo_ok X G (c.t.d.fact 46 rfl)
  obtain ⟨fd21, D21⟩ := c.t.d.def_ 21 (d := dd21) rfl
  have F21 : Fun K "laid_over" "laid_over" sLaidOver (He.ga K "laid_over") fd21 := fun_ofD D21
  have b21 := F21.binds (ps := ["layer", "tree"]) fun _ _ _ _ _ _ us hl => match us, hl with | [_, _], _ => rfl
  have k21 := F21.kp
  have m21 := He.glo_ok X G (c.t.d.fact 47 rfl)
  obtain ⟨fd22, D22⟩ := c.t.d.def_ 22 (d := dd22) rfl
  have F22 : Fun K "_with_room" "_with_room" sWithRoom (He.ga K "_with_room") fd22 := fun_ofD D22
  have b22 := F22.binds (ps := ["tree"]) fun _ _ _ _ _ _ us hl => match us, hl with | [_], _ => rfl
  have k22 := F22.kp
  have m22 := He.glo_ok X G (c.t.d.fact 48 rfl)
  obtain ⟨fd23, D23⟩ := c.t.d.def_ 23 (d := dd23) rfl
  have F23 : Fun K "laid" "laid" sLaidP (He.ga K "laid") fd23 := fun_ofD D23
  have b23 := F23.binds (ps := ["stack"]) fun _ _ _ _ _ _ us hl => match us, hl with | [_], _ => rfl
  have k23 := F23.kp
  have m23 := He.glo_ok X G (c.t.d.fact 49 rfl)
  obtain ⟨fd24, D24⟩ := c.t.d.def_ 24 (d := dd24) rfl
  have F24 : FunD K "__init__" "Mount.__init__" (defArgs uInit) (defBody uInit) (defScope uInit) [] [("keep", .bl true)] (He.ma K (He.ga K "Mount") "__init__") fd24 := D24
  obtain ⟨dsD24, hvD24, bD24⟩ := F24.binds0 (ps := ["self", "stack", "keep"]) 2 (by simp) rfl (fun D doc pm an cdv ct us ks h1 h2 => match us, ks, h1, h2 with
      | [_, _], [_], _, _ => ⟨_, _, _, _, _, _, rfl, rfl, rfl⟩)
  have k24 := F24.kp
  have m24 := He.meth_ok (c.t.d.fact 50 rfl)
  obtain ⟨fd25, D25⟩ := c.t.d.def_ 25 (d := dd25) rfl
  have F25 : Fun K "_law_draw" "_law_draw" sDraw (He.ga K "_law_draw") fd25 := fun_ofD D25
  have b25 := F25.binds (ps := ["_law_script", "_law_town", "_law_many"]) fun _ _ _ _ _ _ us hl => match us, hl with | [_, _, _], _ => rfl
  have k25 := F25.kp
  have m25 := He.glo_ok X G (c.t.d.fact 51 rfl)
  obtain ⟨fd26, D26⟩ := c.t.d.def_ 26 (d := dd26) rfl
  have F26 : Fun K "_law_pick" "_law_pick" sPick (He.ga K "_law_pick") fd26 := fun_ofD D26
  have b26 := F26.binds (ps := ["_law_script", "_law_town", "_law_some"]) fun _ _ _ _ _ _ us hl => match us, hl with | [_, _, _], _ => rfl
  have k26 := F26.kp
  have m26 := He.glo_ok X G (c.t.d.fact 52 rfl)
  obtain ⟨fd27, D27⟩ := c.t.d.def_ 27 (d := dd27) rfl
  have F27 : Fun K "_law_no_path" "_law_no_path" sNoPath (He.ga K "_law_no_path") fd27 := fun_ofD D27
  have b27 := F27.binds (ps := ["_law_script", "_law_town"]) fun _ _ _ _ _ _ us hl => match us, hl with | [_, _], _ => rfl
  have k27 := F27.kp
  have m27 := He.glo_ok X G (c.t.d.fact 53 rfl)
  obtain ⟨fd28, D28⟩ := c.t.d.def_ 28 (d := dd28) rfl
  have F28 : FunD K "__init__" "Reader.__init__" (defArgs rInit) (defBody rInit) (defScope rInit) [.bl false] [] (He.ma K (He.ga K "Reader") "__init__") fd28 := D28
  obtain ⟨ds28, hv28, b28⟩ := F28.binds1 (ps := ["self", "number", "text", "is_upper", "stale"]) 5 1 (by simp) rfl (fun T kV doc pm an cdv ct us its h1 h2 => match us, its, h1, h2 with
      | [_, _, _, _, _], [_], _, _ => ⟨_, rfl, rfl⟩)
  have hv28 : Vals [] ds28 := hv28
  cases hv28
  obtain ⟨dsD28, hvD28, bD28⟩ := F28.binds1 (ps := ["self", "number", "text", "is_upper", "stale"]) 4 0 (by simp) rfl (fun T kV doc pm an cdv ct us its h1 h2 => match us, its, h1, h2 with
      | [_, _, _, _], [_], _, _ => ⟨_, rfl, rfl⟩)
  have k28 := F28.kp
  have m28 := He.meth_ok (c.t.d.fact 54 rfl)
  obtain ⟨fd29, D29⟩ := c.t.d.def_ 29 (d := dd29) rfl
  have F29 : Fun K "is_drawer" "is_drawer" sIsDrawer (He.ga K "is_drawer") fd29 := fun_ofD D29
  have b29 := F29.binds (ps := ["thing"]) fun _ _ _ _ _ _ us hl => match us, hl with | [_], _ => rfl
  have k29 := F29.kp
  have m29 := He.glo_ok X G (c.t.d.fact 55 rfl)
  obtain ⟨fd30, D30⟩ := c.t.d.def_ 30 (d := dd30) rfl
  have F30 : FunC K "is_tree" "is_tree" sIsTree (He.ga K "is_tree") fd30 (He.cT K ("is_tree", none)).1 := funC_of (p := ("is_tree", none)) D30
  have b30 := F30.fn.binds (ps := ["thing"]) fun _ _ _ _ _ _ us hl => match us, hl with | [_], _ => rfl
  have k30 := F30.kp
  have m30 := He.glo_ok X G (c.t.d.fact 56 rfl)
  obtain ⟨fd31, D31⟩ := c.t.d.def_ 31 (d := dd31) rfl
  have F31 : Fun K "check_tree" "check_tree" sCheckTree (He.ga K "check_tree") fd31 := fun_ofD D31
  have b31 := F31.binds (ps := ["thing"]) fun _ _ _ _ _ _ us hl => match us, hl with | [_], _ => rfl
  have k31 := F31.kp
  have m31 := He.glo_ok X G (c.t.d.fact 57 rfl)
  obtain ⟨fd32, D32⟩ := c.t.d.def_ 32 (d := dd32) rfl
  have F32 : Fun K "plain" "plain" sPlain (He.ga K "plain") fd32 := fun_ofD D32
  have b32 := F32.binds (ps := ["tree"]) fun _ _ _ _ _ _ us hl => match us, hl with | [_], _ => rfl
  have k32 := F32.kp
  have m32 := He.glo_ok X G (c.t.d.fact 58 rfl)
  obtain ⟨fd33, D33⟩ := c.t.d.def_ 33 (d := dd33) rfl
  have F33 : FunD K "__init__" "House.__init__" (defArgs mInit) (defBody mInit) (defScope mInit) [.non] [] (He.ma K (He.ga K "House") "__init__") fd33 := D33
  obtain ⟨ds33, hv33, b33⟩ := F33.binds1 (ps := ["self", "tree"]) 2 1 (by simp) rfl (fun T kV doc pm an cdv ct us its h1 h2 => match us, its, h1, h2 with
      | [_, _], [_], _, _ => ⟨_, rfl, rfl⟩)
  have hv33 : Vals [] ds33 := hv33
  cases hv33
  obtain ⟨dsD33, hvD33, bD33⟩ := F33.binds1 (ps := ["self", "tree"]) 1 0 (by simp) rfl (fun T kV doc pm an cdv ct us its h1 h2 => match us, its, h1, h2 with
      | [_], [_], _, _ => ⟨_, rfl, rfl⟩)
  have k33 := F33.kp
  have m33 := He.meth_ok (c.t.d.fact 59 rfl)
  obtain ⟨fd34, D34⟩ := c.t.d.def_ 34 (d := dd34) rfl
  have F34 : Fun K "_check_light" "Mount._check_light" uCheckLight (He.ma K (He.ga K "Mount") "_check_light") fd34 := fun_ofD D34
  have b34 := F34.binds (ps := ["self"]) fun _ _ _ _ _ _ us hl => match us, hl with | [_], _ => rfl
  have k34 := F34.kp
  have m34 := He.meth_ok (c.t.d.fact 60 rfl)
  obtain ⟨fd35, D35⟩ := c.t.d.def_ 35 (d := dd35) rfl
  have F35 : Fun K "_house" "Mount._house" uHouse (He.ma K (He.ga K "Mount") "_house") fd35 := fun_ofD D35
  have b35 := F35.binds (ps := ["self"]) fun _ _ _ _ _ _ us hl => match us, hl with | [_], _ => rfl
  have k35 := F35.kp
  have m35 := He.meth_ok (c.t.d.fact 61 rfl)
  obtain ⟨fd36, D36⟩ := c.t.d.def_ 36 (d := dd36) rfl
  have F36 : Fun K "_check_there" "House._check_there" mThere (He.ma K (He.ga K "House") "_check_there") fd36 := fun_ofD D36
  have b36 := F36.binds (ps := ["self", "path"]) fun _ _ _ _ _ _ us hl => match us, hl with | [_, _], _ => rfl
  have k36 := F36.kp
  have m36 := He.meth_ok (c.t.d.fact 62 rfl)
  obtain ⟨fd37, D37⟩ := c.t.d.def_ 37 (d := dd37) rfl
  have F37 : Fun K "_file_at" "House._file_at" mFileAt (He.ma K (He.ga K "House") "_file_at") fd37 := fun_ofD D37
  have b37 := F37.binds (ps := ["self", "path"]) fun _ _ _ _ _ _ us hl => match us, hl with | [_, _], _ => rfl
  have k37 := F37.kp
  have m37 := He.meth_ok (c.t.d.fact 63 rfl)
  obtain ⟨fd38, D38⟩ := c.t.d.def_ 38 (d := dd38) rfl
  have F38 : Fun K "read" "House.read" mRead (He.ma K (He.ga K "House") "read") fd38 := fun_ofD D38
  have b38 := F38.binds (ps := ["self", "path"]) fun _ _ _ _ _ _ us hl => match us, hl with | [_, _], _ => rfl
  have k38 := F38.kp
  have m38 := He.meth_ok (c.t.d.fact 64 rfl)
  obtain ⟨fd39, D39⟩ := c.t.d.def_ 39 (d := dd39) rfl
  have F39 : Fun K "opened" "Mount.opened" uOpened (He.ma K (He.ga K "Mount") "opened") fd39 := fun_ofD D39
  have b39 := F39.binds (ps := ["self", "path"]) fun _ _ _ _ _ _ us hl => match us, hl with | [_, _], _ => rfl
  have k39 := F39.kp
  have m39 := He.meth_ok (c.t.d.fact 65 rfl)
  obtain ⟨fd40, D40⟩ := c.t.d.def_ 40 (d := dd40) rfl
  have F40 : Fun K "_reader" "Mount._reader" uReader (He.ma K (He.ga K "Mount") "_reader") fd40 := fun_ofD D40
  have b40 := F40.binds (ps := ["self", "handle"]) fun _ _ _ _ _ _ us hl => match us, hl with | [_, _], _ => rfl
  have k40 := F40.kp
  have m40 := He.meth_ok (c.t.d.fact 66 rfl)
  obtain ⟨fd41, D41⟩ := c.t.d.def_ 41 (d := dd41) rfl
  have F41 : Fun K "text_of" "Mount.text_of" uTextOf (He.ma K (He.ga K "Mount") "text_of") fd41 := fun_ofD D41
  have b41 := F41.binds (ps := ["self", "handle"]) fun _ _ _ _ _ _ us hl => match us, hl with | [_, _], _ => rfl
  have k41 := F41.kp
  have m41 := He.meth_ok (c.t.d.fact 67 rfl)
  obtain ⟨fd42, D42⟩ := c.t.d.def_ 42 (d := dd42) rfl
  have F42 : Fun K "is_stale" "Mount.is_stale" uIsStale (He.ma K (He.ga K "Mount") "is_stale") fd42 := fun_ofD D42
  have b42 := F42.binds (ps := ["self", "handle"]) fun _ _ _ _ _ _ us hl => match us, hl with | [_, _], _ => rfl
  have k42 := F42.kp
  have m42 := He.meth_ok (c.t.d.fact 68 rfl)
  obtain ⟨fd43, D43⟩ := c.t.d.def_ 43 (d := dd43) rfl
  have F43 : Fun K "shut" "Mount.shut" uShut (He.ma K (He.ga K "Mount") "shut") fd43 := fun_ofD D43
  have b43 := F43.binds (ps := ["self", "handle"]) fun _ _ _ _ _ _ us hl => match us, hl with | [_, _], _ => rfl
  have k43 := F43.kp
  have m43 := He.meth_ok (c.t.d.fact 69 rfl)
  obtain ⟨fd44, D44⟩ := c.t.d.def_ 44 (d := dd44) rfl
  have F44 : Fun K "_law_which" "_law_which" sWhich (He.ga K "_law_which") fd44 := fun_ofD D44
  have b44 := F44.binds (ps := ["_law_e"]) fun _ _ _ _ _ _ us hl => match us, hl with | [_], _ => rfl
  have k44 := F44.kp
  have m44 := He.glo_ok X G (c.t.d.fact 70 rfl)
  obtain ⟨fd45, D45⟩ := c.t.d.def_ 45 (d := dd45) rfl
  have F45 : Fun K "_law_handled" "_law_handled" sHandled (He.ga K "_law_handled") fd45 := fun_ofD D45
  have b45 := F45.binds (ps := ["_law_mount", "_law_what", "_law_thing"]) fun _ _ _ _ _ _ us hl => match us, hl with | [_, _, _], _ => rfl
  have k45 := F45.kp
  have m45 := He.glo_ok X G (c.t.d.fact 71 rfl)
  obtain ⟨fd46, D46⟩ := c.t.d.def_ 46 (d := dd46) rfl
  have F46 : Fun K "freeze" "Mount.freeze" uFreeze (He.ma K (He.ga K "Mount") "freeze") fd46 := fun_ofD D46
  have b46 := F46.binds (ps := ["self"]) fun _ _ _ _ _ _ us hl => match us, hl with | [_], _ => rfl
  have k46 := F46.kp
  have m46 := He.meth_ok (c.t.d.fact 72 rfl)
  obtain ⟨fd47, D47⟩ := c.t.d.def_ 47 (d := dd47) rfl
  have F47 : Fun K "together" "together" sTogether (He.ga K "together") fd47 := fun_ofD D47
  have b47 := F47.binds (ps := ["upper", "lower"]) fun _ _ _ _ _ _ us hl => match us, hl with | [_, _], _ => rfl
  have k47 := F47.kp
  have m47 := He.glo_ok X G (c.t.d.fact 73 rfl)
  obtain ⟨fd48, D48⟩ := c.t.d.def_ 48 (d := dd48) rfl
  have F48 : Fun K "join" "Mount.join" uJoin (He.ma K (He.ga K "Mount") "join") fd48 := fun_ofD D48
  have b48 := F48.binds (ps := ["self"]) fun _ _ _ _ _ _ us hl => match us, hl with | [_], _ => rfl
  have k48 := F48.kp
  have m48 := He.meth_ok (c.t.d.fact 74 rfl)
  obtain ⟨fd49, D49⟩ := c.t.d.def_ 49 (d := dd49) rfl
  have F49 : Fun K "_settle" "Mount._settle" uSettle (He.ma K (He.ga K "Mount") "_settle") fd49 := fun_ofD D49
  have b49 := F49.binds (ps := ["self", "draft"]) fun _ _ _ _ _ _ us hl => match us, hl with | [_, _], _ => rfl
  have k49 := F49.kp
  have m49 := He.meth_ok (c.t.d.fact 75 rfl)
  obtain ⟨fd50, D50⟩ := c.t.d.def_ 50 (d := dd50) rfl
  have F50 : Fun K "mend" "Mount.mend" uMend (He.ma K (He.ga K "Mount") "mend") fd50 := fun_ofD D50
  have b50 := F50.binds (ps := ["self"]) fun _ _ _ _ _ _ us hl => match us, hl with | [_], _ => rfl
  have k50 := F50.kp
  have m50 := He.meth_ok (c.t.d.fact 76 rfl)
  obtain ⟨fd51, D51⟩ := c.t.d.def_ 51 (d := dd51) rfl
  have F51 : Fun K "law" "law" sLaw (He.ga K "law") fd51 := fun_ofD D51
  have b51 := F51.binds (ps := ["_law_script"]) fun _ _ _ _ _ _ us hl => match us, hl with | [_], _ => rfl
  have k51 := F51.kp
  have m51 := He.glo_ok X G (c.t.d.fact 77 rfl)
  have MKHouse := He.mkr_ok (c.t.d.fact 3 rfl)
  have MKMount := He.mkr_ok (c.t.d.fact 25 rfl)
  have MKReader := He.mkr_ok (c.t.d.fact 10 rfl)
  have n_ValueError := He.free_ok X G (c.t.d.fact 78 rfl)
  have n_all := He.free_ok X G (c.t.d.fact 79 rfl)
  have n_bool := He.free_ok X G (c.t.d.fact 80 rfl)
  have n_dict := He.free_ok X G (c.t.d.fact 81 rfl)
  have n_int := He.free_ok X G (c.t.d.fact 82 rfl)
  have n_isinstance := He.free_ok X G (c.t.d.fact 83 rfl)
  have n_len := He.free_ok X G (c.t.d.fact 84 rfl)
  have n_list := He.free_ok X G (c.t.d.fact 85 rfl)
  have n_range := He.free_ok X G (c.t.d.fact 86 rfl)
  have n_reversed := He.free_ok X G (c.t.d.fact 87 rfl)
  have n_sorted := He.free_ok X G (c.t.d.fact 88 rfl)
  have n_str := He.free_ok X G (c.t.d.fact 89 rfl)
  have n_sum := He.free_ok X G (c.t.d.fact 90 rfl)
  have n_tuple := He.free_ok X G (c.t.d.fact 91 rfl)
  obtain ⟨t_LAST_NUMBER, v_LAST_NUMBER⟩ := He.int_ok X G (c.t.d.fact 92 rfl)
  obtain ⟨t_LETTERS, v_LETTERS⟩ := He.str_ok X G (c.t.d.fact 93 rfl)
  obtain ⟨t_MOST_ENTRIES, v_MOST_ENTRIES⟩ := He.int_ok X G (c.t.d.fact 94 rfl)
  obtain ⟨t_MOST_LAYERS, v_MOST_LAYERS⟩ := He.int_ok X G (c.t.d.fact 95 rfl)
  obtain ⟨t_MOST_LETTERS, v_MOST_LETTERS⟩ := He.int_ok X G (c.t.d.fact 96 rfl)
  obtain ⟨t_MOST_NAMES, v_MOST_NAMES⟩ := He.int_ok X G (c.t.d.fact 97 rfl)
  obtain ⟨t_MOST_PATHS, v_MOST_PATHS⟩ := He.int_ok X G (c.t.d.fact 98 rfl)
  obtain ⟨t_MOST_SIGNS, v_MOST_SIGNS⟩ := He.int_ok X G (c.t.d.fact 99 rfl)
  obtain ⟨t_SIGNS, v_SIGNS⟩ := He.str_ok X G (c.t.d.fact 100 rfl)
  have R0 := ref_of X G (c.t.d.fact 101 rfl) (c.t.d.fact 102 rfl)
  have R1 := ref_of X G (c.t.d.fact 103 rfl) (c.t.d.fact 104 rfl)
  have R2 := ref_of X G (c.t.d.fact 105 rfl) (c.t.d.fact 106 rfl)
  have R3 := ref_of X G (c.t.d.fact 107 rfl) (c.t.d.fact 108 rfl)
  have R4 := ref_of X G (c.t.d.fact 109 rfl) (c.t.d.fact 110 rfl)
  have R5 := ref_of X G (c.t.d.fact 111 rfl) (c.t.d.fact 112 rfl)
  have R6 := ref_of X G (c.t.d.fact 113 rfl) (c.t.d.fact 114 rfl)
  have R7 := ref_of X G (c.t.d.fact 115 rfl) (c.t.d.fact 116 rfl)
  have R8 := ref_of X G (c.t.d.fact 117 rfl) (c.t.d.fact 118 rfl)
  have R9 := ref_of X G (c.t.d.fact 119 rfl) (c.t.d.fact 120 rfl)
  have R10 := ref_of X G (c.t.d.fact 121 rfl) (c.t.d.fact 122 rfl)
  have R11 := ref_of X G (c.t.d.fact 123 rfl) (c.t.d.fact 124 rfl)
  have R12 := ref_of X G (c.t.d.fact 125 rfl) (c.t.d.fact 126 rfl)
  have R13 := ref_of X G (c.t.d.fact 127 rfl) (c.t.d.fact 128 rfl)
  have R14 := ref_of X G (c.t.d.fact 129 rfl) (c.t.d.fact 130 rfl)
  have R15 := ref_of X G (c.t.d.fact 131 rfl) (c.t.d.fact 132 rfl)
  have R16 := ref_of X G (c.t.d.fact 133 rfl) (c.t.d.fact 134 rfl)
  refine ⟨fd51, [(He.cT K ("is_name", none)), (He.cT K ("is_path", none)), (He.cT K ("is_text", none)), (He.cT K ("has_drawers_above", none)), (He.cT K ("is_layer", none)), (He.cT K ("is_stack", none)), (He.cT K ("lets_through", none)), (He.cT K ("is_tree", none))], spLaw K (He.cT K ("is_name", none)).2 (He.cT K ("is_path", none)).2 (He.cT K ("is_text", none)).2 (He.cT K ("has_drawers_above", none)).2 (He.cT K ("is_tree", none)).2 (He.cT K ("is_layer", none)).2 (He.cT K ("lets_through", none)).2 (He.cT K ("is_stack", none)).2, ?_, ?_, ?_, ?_, ?_, ?_⟩
  · intro p hp
    simp only [List.mem_cons, List.not_mem_nil, or_false] at hp
    rcases hp with rfl | rfl | rfl | rfl | rfl | rfl | rfl | rfl
    · exact c.empty _ (by simp [tfL])
    · exact c.empty _ (by simp [tfL])
    · exact c.empty _ (by simp [tfL])
    · exact c.empty _ (by simp [tfL])
    · exact c.empty _ (by simp [tfL])
    · exact c.empty _ (by simp [tfL])
    · exact c.empty _ (by simp [tfL])
    · exact c.empty _ (by simp [tfL])
  · intro p hp
    simp only [List.mem_cons, List.not_mem_nil, or_false] at hp
    rcases hp with rfl | rfl | rfl | rfl | rfl | rfl | rfl | rfl
    · exact c.out _ (by simp [tfL])
    · exact c.out _ (by simp [tfL])
    · exact c.out _ (by simp [tfL])
    · exact c.out _ (by simp [tfL])
    · exact c.out _ (by simp [tfL])
    · exact c.out _ (by simp [tfL])
    · exact c.out _ (by simp [tfL])
    · exact c.out _ (by simp [tfL])
  · intro p hp
    simp only [List.mem_cons, List.not_mem_nil, or_false] at hp
    rcases hp with rfl | rfl | rfl | rfl | rfl | rfl | rfl | rfl
    · exact PySem.W.codeHd_of_K X (c.hd _ (by simp [tfL]))
    · exact PySem.W.codeHd_of_K X (c.hd _ (by simp [tfL]))
    · exact PySem.W.codeHd_of_K X (c.hd _ (by simp [tfL]))
    · exact PySem.W.codeHd_of_K X (c.hd _ (by simp [tfL]))
    · exact PySem.W.codeHd_of_K X (c.hd _ (by simp [tfL]))
    · exact PySem.W.codeHd_of_K X (c.hd _ (by simp [tfL]))
    · exact PySem.W.codeHd_of_K X (c.hd _ (by simp [tfL]))
    · exact PySem.W.codeHd_of_K X (c.hd _ (by simp [tfL]))
  · exact fun s v => (FunD.bindsA (ps := ["_law_script"]) D51 fun _ _ _ _ _ _ us hl => match us, hl with | [_], _ => rfl) s [v] rfl
  · intro H a ns hl _ hH hS
    exact ⟨a, ns, rfl, hS, hl, ⟨#[], hH (He.cT K ("is_name", none)) (by simp), trivial⟩, ⟨#[], hH (He.cT K ("is_path", none)) (by simp), trivial⟩, ⟨#[], hH (He.cT K ("is_text", none)) (by simp), trivial⟩, ⟨#[], hH (He.cT K ("has_drawers_above", none)) (by simp), trivial⟩, ⟨#[], hH (He.cT K ("is_tree", none)) (by simp), trivial⟩, ⟨#[], hH (He.cT K ("is_layer", none)) (by simp), trivial⟩, ⟨#[], hH (He.cT K ("lets_through", none)) (by simp), trivial⟩, ⟨#[], hH (He.cT K ("is_stack", none)) (by simp), trivial⟩, fun _ => rfl⟩
  · intro base _ _ hTB
    have TB1 := hTB (He.cT K ("is_name", none)) (by simp)
    have TB2 := hTB (He.cT K ("is_path", none)) (by simp)
    have TB3 := hTB (He.cT K ("is_text", none)) (by simp)
    have TB4 := hTB (He.cT K ("has_drawers_above", none)) (by simp)
    have TB6 := hTB (He.cT K ("is_layer", none)) (by simp)
    have TB8 := hTB (He.cT K ("is_stack", none)) (by simp)
    have TB7 := hTB (He.cT K ("lets_through", none)) (by simp)
    have TB5 := hTB (He.cT K ("is_tree", none)) (by simp)
    have M : Mg mg := ⟨n_isinstance, n_str, n_tuple, n_len, n_all, n_range, ⟨_, v_LETTERS⟩, ⟨_, v_MOST_LETTERS⟩, ⟨_, v_MOST_NAMES⟩⟩
    have MT : MgT mg := ⟨⟨_, v_SIGNS⟩, ⟨_, v_MOST_SIGNS⟩⟩
    have MR : MgR mg := ⟨n_int, n_bool, n_dict, n_list, ⟨_, v_LAST_NUMBER⟩, ⟨_, v_MOST_PATHS⟩⟩
    have ML : MgL mg := ⟨⟨_, v_MOST_ENTRIES⟩⟩
    have MLY : MgK mg := ⟨⟨_, v_MOST_LAYERS⟩⟩
    have SD : Cst K mg "DRAWER" [.str "drawer"] (He.ga K "DRAWER") := ⟨He.glo_ok X G (c.t.d.fact 140 rfl), fun H => He.tupB_ok (ex_at c.more 0 rfl) H⟩
    have SG : Cst K mg "GONE" [.str "gone"] (He.ga K "GONE") := ⟨He.glo_ok X G (c.t.d.fact 141 rfl), fun H => He.tupB_ok (ex_at c.more 1 rfl) H⟩
    have SS : Cst K mg "SEE_THROUGH" [.str "drawer", .bl false] (He.ga K "SEE_THROUGH") := ⟨He.glo_ok X G (c.t.d.fact 142 rfl), fun H => He.tupB_ok (ex_at c.more 2 rfl) H⟩
    have W0 : Wh K mg (He.ga K "NoPath") 0 := wh_of X G (by decide) (ex_at c.more 3 rfl)
    have W5 : Wh K mg (He.ga K "NoHandle") 5 := wh_of X G (by decide) (ex_at c.more 4 rfl)
    have W8 : Wh K mg (He.ga K "NotThere") 8 := wh_of X G (by decide) (ex_at c.more 5 rfl)
    have W10 : Wh K mg (He.ga K "IsDrawer") 10 := wh_of X G (by decide) (ex_at c.more 6 rfl)
    have gT := He.glo_ok X G (c.t.d.fact 135 rfl)
    have te2_0 := He.exm_ok (c.t.d.fact 136 rfl)
    have te2_5 := He.exm_ok (c.t.d.fact 137 rfl)
    have te2_8 := He.exm_ok (c.t.d.fact 138 rfl)
    have te2_10 := He.exm_ok (c.t.d.fact 139 rfl)
    have G0 := ok_isName (P := l.prog) (w := w) (K := K) (mg := mg) (base := base) F0 M TB1
    have G1 := ok_isPath (P := l.prog) (w := w) (K := K) (mg := mg) (base := base) F1 M TB2 G0 m0 k0 b0
    have G2 := ok_isKind (P := l.prog) (w := w) (K := K) (mg := mg) (base := base) F2 M
    have G3 := ok_isNumber (P := l.prog) (w := w) (K := K) (mg := mg) (base := base) F3 M MR
    have G4 := ok_isText (P := l.prog) (w := w) (K := K) (mg := mg) (base := base) F4 M MT TB3
    have G5 := ok_isFile (P := l.prog) (w := w) (K := K) (mg := mg) (base := base) F5 G2 m2 k2 b2 G3 m3 k3 b3 G4 m4 k4 b4
    have G6 := ok_isEntry (P := l.prog) (w := w) (K := K) (mg := mg) (base := base) F6 M MR G2 m2 k2 b2 G5 m5 k5 b5
    have G7 := ok_checkPath (P := l.prog) (w := w) (K := K) (mg := mg) (base := base) F7 R0 G1 m1 k1 b1
    have G8 := ok_aboveX (P := l.prog) (w := w) (K := K) (mg := mg) (base := base) F8 G7 m7 k7 b7
    have G9 := ok_hasDrawers (P := l.prog) (w := w) (K := K) (mg := mg) (base := base) F9 M TB4 G8 m8 k8 b8
    have G10 := ok_hasOneText (P := l.prog) (w := w) (K := K) (mg := mg) (base := base) F10 G5 m5 k5 b5
    have G11 := ok_isLayer (P := l.prog) (w := w) (K := K) (mg := mg) (base := base) F11 M MR ML TB6 G1 m1 k1 b1 G6 m6 k6 b6 G9 m9 k9 b9 G10 m10 k10 b10
    have G12 := ok_isStackG (P := l.prog) (w := w) (K := K) (mg := mg) (base := base) F12 M MR MLY TB8 G11 m11 k11 b11
    have G13 := ok_checkStackG (P := l.prog) (w := w) (K := K) (mg := mg) (base := base) F13 R4 G12 m12 k12 b12
    have G14 := ok_copied (P := l.prog) (w := w) (K := K) (mg := mg) (base := base) F14
    have G12_ok_isStack := ok_isStack (P := l.prog) (w := w) (K := K) (mg := mg) (base := base) F12 M MR MLY TB8 G11 m11 k11 b11
    have G13_ok_checkStack := ok_checkStack (P := l.prog) (w := w) (K := K) (mg := mg) (base := base) F13 R4 G12_ok_isStack m12 k12 b12
    have G15 := ok_asSeen (P := l.prog) (w := w) (K := K) (mg := mg) (base := base) F15 SD
    have G16 := ok_apart (P := l.prog) (w := w) (K := K) (mg := mg) (base := base) F16
    have G17 := ok_beginningsX (P := l.prog) (w := w) (K := K) (mg := mg) (base := base) F17 M G7 m7 k7 b7
    have G18 := ok_longest (P := l.prog) (w := w) (K := K) (mg := mg) (base := base) F18 G17 m17 k17 b17
    have G19 := ok_lets (P := l.prog) (w := w) (K := K) (mg := mg) (base := base) F19 M TB7 SS G17 m17 k17 b17
    have G20 := ok_renum (P := l.prog) (w := w) (K := K) (mg := mg) (base := base) F20 M n_sorted
    have G21 := ok_laidOver (P := l.prog) (w := w) (K := K) (mg := mg) (base := base) F21 SG G15 m15 k15 b15 G16 m16 k16 b16 G18 m18 k18 b18 G19 m19 k19 b19 G20 m20 k20 b20
    have G22 := ok_withRoom (P := l.prog) (w := w) (K := K) (mg := mg) (base := base) F22 M MR R15
    have G23 := ok_laidP (P := l.prog) (w := w) (K := K) (mg := mg) (base := base) F23 SD n_reversed G13_ok_checkStack m13 k13 b13 G21 m21 k21 b21 G22 m22 k22 b22
    have G24 := ok_mInit (P := l.prog) (w := w) (K := K) (mg := mg) (base := base) (CR := He.ga K "Reader") F24 TM M MR R2 SS G13 m13 k13 b13 G14 m14 k14 b14 G23 m23 k23 b23
    have G25 := ok_draw (P := l.prog) (w := w) (K := K) (mg := mg) (base := base) F25 n_len
    have G26 := ok_pick (P := l.prog) (w := w) (K := K) (mg := mg) (base := base) F26 n_len G25 m25 k25 b25
    have G27 := ok_noPath (P := l.prog) (w := w) (K := K) (mg := mg) (base := base) F27 G26 m26 k26 b26
    have G28 := ok_rInit (P := l.prog) (w := w) (K := K) (mg := mg) (base := base) F28 TR
    have G29 := ok_isDrawer (P := l.prog) (w := w) (K := K) (mg := mg) (base := base) F29 G2 m2 k2 b2
    have G30 := ok_isTree (P := l.prog) (w := w) (K := K) (mg := mg) (base := base) F30 M MR TB5 G1 m1 k1 b1 G29 m29 k29 b29 G5 m5 k5 b5 G9 m9 k9 b9 G10 m10 k10 b10
    have G31 := ok_checkTree (P := l.prog) (w := w) (K := K) (mg := mg) (base := base) F31 R2 G30 m30 k30 b30
    have G32 := ok_plain (P := l.prog) (w := w) (K := K) (mg := mg) (base := base) F32 G31 m31 k31 b31 G20 m20 k20 b20
    have G33 := ok_init (P := l.prog) (w := w) (K := K) (mg := mg) (base := base) F33 TH SD G32 m32 k32 b32
    have G34 := ok_light (P := l.prog) (w := w) (K := K) (mg := mg) (base := base) F34 TM R16
    have G35 := ok_houseM (P := l.prog) (w := w) (K := K) (mg := mg) (base := base) (CR := He.ga K "Reader") F35 TM TH MKHouse m34 G34 b34 G21 m21 k21 b21 G33 b33
    have G36 := ok_there (P := l.prog) (w := w) (K := K) (mg := mg) (base := base) F36 TH R8
    have G37 := ok_fileAt (P := l.prog) (w := w) (K := K) (mg := mg) (base := base) F37 TH R10 m36 G36 b36
    have G38 := ok_readM (P := l.prog) (w := w) (K := K) (mg := mg) (base := base) F38 TH G7 m7 k7 b7 m37 G37 b37
    have G39 := ok_opened (P := l.prog) (w := w) (K := K) (mg := mg) (base := base) F39 TM TH TR MKReader m35 G35 b35 m38 G38 b38 G28 bD28 hvD28
    have G40 := ok_readerM (P := l.prog) (w := w) (K := K) (mg := mg) (base := base) (CR := He.ga K "Reader") F40 TM M MR R5 m34 G34 b34
    have G41 := ok_textOf (P := l.prog) (w := w) (K := K) (mg := mg) (base := base) F41 TM TR m40 G40 b40
    have G42 := ok_isStale (P := l.prog) (w := w) (K := K) (mg := mg) (base := base) F42 TM TR m40 G40 b40
    have G43 := ok_shut (P := l.prog) (w := w) (K := K) (mg := mg) (base := base) F43 TM m40 G40 b40
    have G44 := ok_which (P := l.prog) (w := w) (K := K) (mg := mg) (base := base) F44 n_isinstance n_ValueError
    have G45 := ok_handled (P := l.prog) (w := w) (K := K) (mg := mg) (base := base) F45 TM gT te2_0 te2_8 te2_10 te2_5 W0 W8 W10 W5 m39 G39 b39 m41 G41 b41 m42 G42 b42 m43 G43 b43 G44 m44 k44 b44
    have G46 := ok_freeze (P := l.prog) (w := w) (K := K) (mg := mg) (base := base) (CR := He.ga K "Reader") F46 TM M MLY R15 SS m34 G34 b34 G20 m20 k20 b20 G23 m23 k23 b23
    have G48 := ok_join1 (P := l.prog) (w := w) (K := K) (mg := mg) (base := base) (CR := He.ga K "Reader") F48 TM M ⟨_, v_MOST_ENTRIES⟩ R15 n_sum n_reversed m34 G34 b34 ok_no m47 k47 b47
    have G50 := ok_mend0 (P := l.prog) (w := w) (K := K) (mg := mg) (base := base) (CR := He.ga K "Reader") F50 TM m49 ok_no b49
    exact ok_law (P := l.prog) (w := w) (K := K) (mg := mg) (base := base) F51 TM MKMount M MR G24 bD24 hvD24 G26 m26 k26 b26 G27 m27 k27 b27 G25 m25 k25 b25 G45 m45 k45 b45 m39 G39 b39 m46 G46 b46 m48 G48 b48 m50 G50 b50
def asL0 : List Addr := [3, 245, 244, 252, 251, 300, 299, 293, 292, 259, 258, 314, 313, 363, 362, 266, 265, 280, 279, 319, 318, 326, 325, 370, 369]
def asL1 : List Addr := [377, 376, 391, 390, 776, 775, 424, 423, 405, 404, 285, 284, 410, 409, 417, 416, 347, 346, 429, 428, 436, 435, 443, 442, 1049]
def asL2 : List Addr := [1048, 1056, 1055, 1063, 1062, 307, 306, 333, 332, 340, 339, 354, 353, 1070, 1069, 1077, 1076, 771, 770, 1082, 1081, 44, 43, 31, 56]
def asL3 : List Addr := [55, 68, 67, 80, 79, 92, 91, 104, 103, 116, 115, 128, 127, 140, 139, 152, 151, 164, 163, 176, 175, 188, 187, 200, 199]
def asL4 : List Addr := [212, 211, 224, 223, 236, 235, 30, 286, 356, 355, 712, 711, 557, 556, 550, 660, 659, 688, 687, 620, 619, 748, 747, 731, 730]
def asL5 : List Addr := [724, 1038, 1037, 791, 790, 784, 986, 985, 993, 992, 922, 921, 1007, 1006, 929, 928, 936, 935, 943, 942, 910, 909, 915, 914, 1035]
def asL6 : List Addr := [1034, 972, 971]
def asL : List Addr := asL0 ++ (asL1 ++ (asL2 ++ (asL3 ++ (asL4 ++ (asL5 ++ (asL6))))))
/-! ### the head: one run -/
abbrev RRow : PySem.W.OpenRow := PySem.W.OpenLaw.row PySem.Challenge.rw_laidtrees_k42_handles_refused
abbrev hkX : PySem.W.Hook := hookF asL faL fnL tfL exB
def obF (s : PySem.W.SharedT) : He.AlX := obsF asL faL fnL tfL exB (HandSHeadRun.getT s)
theorem obF_eq (s : PySem.W.SharedT) : obF s = hkX.obs s.abs := obsF_eq (HandSHeadRun.getT_eq s)
end LK

namespace LK
open PySem PySem.Spec PyProof.Rows L2 GA LT LE L2H LD
set_option maxHeartbeats 0 in
theorem runF (w : World) : HandSHeadRun.RunEq RRow (PySem.W.view RRow.prog [86]) hkX obF 9000 loL w := by
  intro os
  kernel_rfl
end LK
open PySem PySem.W PySem.Calls PyProof.Rows
set_option maxRecDepth 100000 in
set_option maxHeartbeats 0 in
theorem PySem.Challenge.cw_laidtrees_k42_handles_refused_holds : PySem.Challenge.rw_laidtrees_k42_handles_refused.Holds := by
  w_on; o_law
  refine HandSHeadRun.head_any (r := OpenLaw.row PySem.Challenge.rw_laidtrees_k42_handles_refused) (q := view (OpenLaw.row PySem.Challenge.rw_laidtrees_k42_handles_refused).prog [86]) (H := LK.hkX) (ob := LK.obF) (M := 9000) (loose := LK.loL) (d := HandSHeadRun.topDef (OpenLaw.row PySem.Challenge.rw_laidtrees_k42_handles_refused).prog 86) (kwd := []) LK.obF_eq
    (by kernel_rfl) (fun s => by kernel_rfl) LK.runF (by kernel_rfl) (by kernel_rfl) (by kernel_rfl) (by rfl) (by first | assumption | decide +kernel) (by decide +kernel) ⟨rfl, rfl, rfl, rfl, rfl, by decide +kernel⟩ ?hw ?hc
  case hw => w_witness2
  case hc =>
    refine LamX.walk_ofTsE (l := PySem.Challenge.rw_laidtrees_k42_handles_refused) (n := 63) (k := 17) (x := "_law_script") (CX := fun _ => fun _ _ _ _ _ _ => False) rfl (by decide) (by kernel_rfl) ⟨rfl, by decide, by decide⟩ ?F (fun _ _ _ _ _ z => z)
    intro w mg fa h Y G hmg0
    obtain ⟨K, KX, c⟩ := Y
    have hmg : mg ("law" : PySem.Str) = some (.ref fa) := by
      have e : (HandSHeadRun.topDef (OpenLaw.row PySem.Challenge.rw_laidtrees_k42_handles_refused).prog 86).name = ("law" : PySem.Str) := by kernel_rfl
      rw [← e]
      exact hmg0
    exact ⟨K, KX, LK.all_mk KX G hmg c⟩
#print axioms PySem.Challenge.cw_laidtrees_k42_handles_refused_holds

