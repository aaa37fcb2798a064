import PyProof.Rows.All
import Wide.All
import OpenK.AllK
import Wide.FinOn
import HandS.ForMost
import HandS.AnyAll
import HandS.GenList
import HandS.Lambda
import HandS.EndTab
import HandS.ForExc
import HandS.IsInst
import HandS.TupAny
import HandS.Wide
import HandS.Conv
import HandS.Style
import HandS.TupMul
import HandS.SetFor
import HandS.EndBits
import HandS.HotCalls
import HandS.ExcIs
import PySem.Challenge.RW_laidtrees_k02_paths_refused
set_option Elab.async false
set_option linter.all false
set_option maxRecDepth 100000
set_option maxHeartbeats 4000000
/-! all(elt for x in iter), any(..): the element may call defs, allocate, and let tables of code objects grow. -/
namespace GA
open PySem PySem.Spec PyProof.Rows L2 GenW

/-- the context of the generator's own frame, resumed within A -/
abbrev gcx (X : Cx) (A : Around) (s : Shared) (H : Hp) (ge : Env) (N : List Str) (fp : List Addr) (pn : List (Addr × Obj)) : Cx :=
  { X with
    A := A, N := N, s_0 := s, H_0 := H, env := ge, outer := X.stack, stack := ge :: X.stack,
    ex := fp, fn := fun _ => false, calm := true, pn := pn, xe := fun _ _ => False }

/-- the names of the generator's frame: those of the def (N0), pad more slots, its own name x at slot j -/
structure GN (N0 : List Str) (sc scope : Scope) (x : Str) (N : List Str) (pad j : Nat) : Prop where
  kind : scope.kind = .function
  co : scope.isCoroutine = false
  cell : ∀ y ∈ scope.names, y.2 ≠ .cell
  dot : scope.names.lookup (".0" : Str) = some NameKind.local
  loc : scope.names.lookup x = some .local
  only : ∀ y ∈ scope.names, y.2 = .local → y.1 = x ∨ y.1 ∉ N
  free : ∀ y ∈ scope.names, y.2 = .free → sc.names.lookup y.1 = some .cell ∨ sc.names.lookup y.1 = some .free
  nd : N.Nodup
  jx : N[j]? = some x
  len : N.length = N0.length + pad
  pre : N.take N0.length = N0

/-- the slots of the generator's frame -/
abbrev gsl (σ : L2.St) (pad j : Nat) (v : Option V) : L2.St := (σ ++ List.replicate pad none).set j v

section
variable {X : Cx} {pins : List (Addr × Obj)} {σ : L2.St} {H : Hp} {s : Shared}

theorem gfree {N : List Str} {scope : Scope} {x : Str} {pad j : Nat} (I : Inv X pins σ H s) (G : GN X.N X.env.scope scope x N pad j) :
    ∀ y ∈ scope.names, y.2 = .free → ∃ c, X.env.cells.lookup y.1 = some c := by
  intro y hy e
  rcases G.free y hy e with h | h
  · exact I.ok.has _ (Or.inl h)
  · exact I.ok.has _ (Or.inr h)

/-- the frame has just been made -/
theorem gstart {N : List Str} {scope : Scope} {x : Str} {pad j : Nat} {A : Around} {fp : List Addr} {code itv : Value} {h5 : Heap} {gs : Array GenState} {tk : Nat} {a : Addr} {go : Obj}
    (I : Inv X pins σ H s) (G : GN X.N X.env.scope scope x N pad j) (hA : A.handled = none)
    (hfr : A.frames = some (genEnv scope (cloFrom X.env.cells scope.names []) s.heap.objs.size code builtinsNs X.env :: X.stack))
    (hfp : ∀ b ∈ fp, FpOk X pins H b ∧ b < s.heap.objs.size)
    (kp : ∀ b o, s.heap.get? b = some o → h5.get? b = some o)
    (hn : h5.Ns s.heap.objs.size (fun y => if y = ".0" then some itv else none)) (hb : AllBare gs)
    (ha : h5.get? a = some go) (hlt : s.heap.objs.size < a) (hgo : ∀ v, go.data ≠ .cell v) :
    Inv (gcx X A s H (genEnv scope (cloFrom X.env.cells scope.names []) s.heap.objs.size code builtinsNs X.env) N fp [(a, go)]) []
      (gsl σ pad j none) H { s with gens := gs, toks := tk, heap := h5 } := by
  have cm : ∀ {y c}, (y, c) ∈ cloFrom X.env.cells scope.names [] → X.env.cells.lookup y = some c ∧ (y, NameKind.free) ∈ scope.names := by
    intro y c hm
    rcases cloFrom_mem hm with h | ⟨h1, rfl⟩
    · cases h
    · obtain ⟨c, hc⟩ := gfree I G _ h1 rfl
      rw [hc]
      exact ⟨rfl, h1⟩
  have cl : ∀ {y c}, (cloFrom X.env.cells scope.names []).lookup y = some c → X.env.cells.lookup y = some c :=
    fun e => (cm (PySem.mem_of_lookup e)).1
  have clt : ∀ {y c}, X.env.cells.lookup y = some c → c < s.heap.objs.size := by
    intro y c e
    obtain ⟨v, z⟩ := I.cell _ _ e
    exact z.lt
  have frC : H s.heap.objs.size = none := I.hok.fresh (Nat.le_refl _)
  have okg : (gcx X A s H (genEnv scope (cloFrom X.env.cells scope.names []) s.heap.objs.size code builtinsNs X.env) N fp [(a, go)]).Ok := by
    constructor
    case mod => exact I.ok.mod
    case kind => exact G.kind
    case glob => exact I.ok.glob
    case blt => rfl
    case above => exact Nat.le_refl _
    case inj => exact fun y z c e1 e2 => I.ok.inj y z c (cl e1) (cl e2)
    case has =>
      intro y hy
      have hy : scope.names.lookup y = some .cell ∨ scope.names.lookup y = some .free := hy
      rcases hy with hy | hy
      · exact absurd rfl (G.cell _ (PySem.mem_of_lookup hy))
      · exact mem_lookup (cloFrom_has (cells := X.env.cells) (acc := []) (PySem.mem_of_lookup hy))
    case cab => exact fun y c z _ => nomatch z
    case hd => exact fun _ => hA
    case frames => exact hfr
    case stk => exact .inr ⟨rfl, rfl⟩
    case exf =>
      intro b hb
      obtain ⟨⟨_, _, _, _, f5, _⟩, f7⟩ := hfp b hb
      exact ⟨Nat.ne_of_lt f7, fun y c e => f5 y c (cl e)⟩
    case bs => exact I.bs
    case bsz => exact Nat.le_trans I.ok.bsz I.sz
    case noex =>
      intro b o e hb
      obtain ⟨⟨_, _, _, f4, _, _⟩, _⟩ := hfp b hb
      rcases f4 with z | z
      · exact I.ok.noex b o e z
      · have h1 := Heap.lt_size e
        exact absurd (Nat.lt_of_lt_of_le (Nat.lt_of_lt_of_le h1 I.ok.bsz) z) (Nat.lt_irrefl _)
    case exfs =>
      intro b hb z
      obtain ⟨⟨_, f2, f3, _, _, _⟩, _⟩ := hfp b hb
      rcases List.mem_cons.mp (I.stkSub b z) with y | y
      · exact f2 y
      · exact f3 y
    case funs => exact I.stack
    case frf => exact I.stkFree
  refine ⟨okg, rfl, hb, Un.kept kp, ⟨_, hn, ?_⟩, ?_, frC, ?_, ?_, I.hok.kept kp, ?_⟩
  · intro i y v h1 h2 h3
    have hij : i ≠ j := by
      intro e
      subst e
      have h2 : (gsl σ pad i none)[i]? = some (some v) := h2
      rw [List.getElem?_set] at h2
      split at h2
      · split at h2 <;> cases h2
      · rename_i z; exact z rfl
    have h2' : (σ ++ List.replicate pad none)[i]? = some (some v) := by
      have h2 : (gsl σ pad j none)[i]? = some (some v) := h2
      rw [List.getElem?_set_ne (Ne.symm hij)] at h2
      exact h2
    have hi : i < σ.length := by
      rcases Nat.lt_or_ge i σ.length with z | z
      · exact z
      · rw [List.getElem?_append_right z, List.getElem?_replicate] at h2'
        split at h2' <;> cases h2'
    rw [List.getElem?_append_left hi] at h2'
    have hN : X.N[i]? = some y := by
      have e : (N.take X.N.length)[i]? = some y := by
        rw [List.getElem?_take_of_lt (by rw [← I.len]; exact hi)]
        exact h1
      rw [G.pre] at e
      exact e
    have hyx : y ≠ x := by
      intro e
      subst e
      exact hij (nodup_ix G.nd h1 G.jx)
    have h3 : scope.names.lookup y = some .local ∨ scope.names.lookup y = some .cell ∨ scope.names.lookup y = some .free := h3
    rcases h3 with z | z | z
    · rcases G.only _ (PySem.mem_of_lookup z) rfl with q | q
      · exact absurd q hyx
      · exact absurd (List.mem_of_getElem? h1) q
    · exact absurd rfl (G.cell _ (PySem.mem_of_lookup z))
    · have hv : X.env.scope.names.lookup y = some .cell ∨ X.env.scope.names.lookup y = some .free := G.free _ (PySem.mem_of_lookup z) rfl
      obtain ⟨m, hm, hl⟩ := I.loc
      obtain ⟨u, r, lk⟩ := hl i y v hN h2' (.inr hv)
      refine ⟨u, r, .inr ⟨.inr z, ?_⟩⟩
      obtain ⟨c', e'⟩ := mem_lookup (cloFrom_has (cells := X.env.cells) (acc := []) (PySem.mem_of_lookup z))
      refine ⟨c', e', ?_⟩
      rcases lk with ⟨k, _⟩ | ⟨_, c, e, ic⟩
      · have k : X.env.scope.names.lookup y = some .local := k
        rcases hv with q | q <;> (rw [q] at k; cases k)
      · have e2 := cl e'
        rw [e2] at e
        cases e
        obtain ⟨ob, ho, hd⟩ := ic
        exact ⟨ob, kp _ _ ho, hd⟩
  · intro y c e
    obtain ⟨v, ob, ho, hd⟩ := I.cell y c (cl e)
    exact ⟨v, ob, kp _ _ ho, hd⟩
  · exact fun y c e => I.freeC y c (cl e)
  · intro p hp
    have hp : p ∈ [(a, go)] ++ ([] : List (Addr × Obj)) := hp
    rw [List.append_nil] at hp
    rw [List.mem_singleton.mp hp]
    have hle := Nat.le_of_lt hlt
    refine ⟨ha, I.hok.fresh hle, Ne.symm (Nat.ne_of_lt hlt), ?_, hgo⟩
    intro z
    rcases List.mem_cons.mp (I.stkSub a z) with y | y
    · rw [y] at hlt
      exact absurd (Nat.lt_trans hlt I.lt) (Nat.lt_irrefl _)
    · exact I.nofs hle y
  · show ((σ ++ List.replicate pad none).set j none).length = N.length
    rw [List.length_set, List.length_append, List.length_replicate, I.len, G.len]
end

/-! ### the turns -/
/-- the end of the run, an item on its way -/
def gEnd (Xg : Cx) (Qe : Hp → Prop) : GenEnd := fun _ _ r s1 =>
  ((r = .ok (.ret .none) ∨ r = .ok .next) ∧ ∃ σ' H', Inv Xg [] σ' H' s1 ∧ Qe H') ∨ ∃ e : Value, r = .error e ∧ False
/-- go: the truth that lets the walk go on; Qb: what is wanted of the other one -/
def gItem (Xg : Cx) (go : Bool) (Qb : Hp → Prop) : Protocol := fun _ _ v s1 kap =>
  ∃ b H', v = Value.bool b ∧ (∃ pns σ', Inv Xg pns σ' H' s1) ∧ (b ≠ go → Qb H') ∧
    (b = go → ∀ s', s'.heap = s1.heap → s'.os = s1.os → AllBare s'.gens → kap (.send .none) s')

section
variable {X : Cx} {elt iter : Expr} {x : Str} {px gpos : Pos} {scope : Scope}
theorem gen_seg {A : Around} {s4 : Shared} {H4 : Hp} {ge : Env} {N : List Str} {fp : List Addr} {pn : List (Addr × Obj)} {it : Addr} {J : It} {tn : Nat → Heap → Prop} {te : TE} {σ0 : L2.St} {j : Nat} {go : Bool} {Qe Qb : Hp → Prop}
    (T : Turn X.prog X.w X.K (.Name x px) J fp it tn) (hnd : N.Nodup) (hj : N[j]? = some x) (hloc : ge.scope.names.lookup x = some .local) (hco : ge.scope.isCoroutine = false)
    (hpnf : ∀ p ∈ pn, p.1 ∉ fp)
    (pe : PE (gcx X ((A.over (.compLoop (.GeneratorExp elt [⟨.Name x px, iter, [], 0⟩] scope gpos) 0 (.ref it) .none ge) [])) s4 H4 ge N fp pn) elt te)
    (W : Nat → Nat → Hp → Prop) (h0 : σ0[j]? = some none)
    (turn : ∀ i m H, W i m H → (J.stop i H ∧ Qe H) ∨ (J.go i H ∧ ∀ y H', J.yld i H y H' → te (σ0.set j (some y)) H' fun v H3 => ∃ b, v = .bl b ∧ (b ≠ go → Qb H3) ∧ (b = go → ∃ m', m' < m ∧ W (i + 1) m' H3))) :
    ∀ (n i m : Nat) (H : Hp) (s0 s : Shared), m < n → W i m H → Inv (gcx X ((A.over (.compLoop (.GeneratorExp elt [⟨.Name x px, iter, [], 0⟩] scope gpos) 0 (.ref it) .none ge) [])) s4 H4 ge N fp pn) [] σ0 H s →
      tn i s.heap → (∀ b ∈ fp, H b = none) →
      Seg (model X.prog X.w) A (gEnd (gcx X ((A.over (.compLoop (.GeneratorExp elt [⟨.Name x px, iter, [], 0⟩] scope gpos) 0 (.ref it) .none ge) [])) s4 H4 ge N fp pn) Qe)
        (gItem (gcx X ((A.over (.compLoop (.GeneratorExp elt [⟨.Name x px, iter, [], 0⟩] scope gpos) 0 (.ref it) .none ge) [])) s4 H4 ge N fp pn) go Qb) n s0
        (.compLoop (.GeneratorExp elt [⟨.Name x px, iter, [], 0⟩] scope gpos) 0 (.ref it) .none ge)
        ((model X.prog X.w).den (.compLoop (.GeneratorExp elt [⟨.Name x px, iter, [], 0⟩] scope gpos) 0 (.ref it) .none ge)) [] s := by
  generalize hAg : (A.over (.compLoop (.GeneratorExp elt [⟨.Name x px, iter, [], 0⟩] scope gpos) 0 (.ref it) .none ge) []) = Ag at pe ⊢
  have stat : ∀ {ps : List (Addr × Obj)} {σ' : L2.St} {H' : Hp} {s' : Shared}, (∀ p ∈ ps, p.1 ∉ fp) → Inv (gcx X Ag s4 H4 ge N fp pn) ps σ' H' s' → (∀ b ∈ fp, H' b = none) → ∀ b ∈ fp, FpOk (gcx X Ag s4 H4 ge N fp pn) ps H' b := by
    intro ps σ' H' s' hps I' hn b hb
    refine ⟨hn b hb, (I'.ok.exf b hb).1, I'.ok.exfs b hb, .inl hb, fun x c e => (I'.ok.exf b hb).2 x c e, fun p hp z => ?_⟩
    rcases List.mem_append.mp hp with q | q
    · exact hpnf p q (z ▸ hb)
    · exact hps p q (z ▸ hb)
  have nop : ∀ p ∈ ([] : List (Addr × Obj)), p.1 ∉ fp := fun p hp => by simp at hp
  intro n
  induction n with
  | zero => intro i m H s0 s hm; omega
  | succ n ih =>
    intro i m H s0 s hm hw I st nf
    show Seg _ A _ _ _ s0 _ ((compTurn (.GeneratorExp elt [⟨.Name x px, iter, [], 0⟩] scope gpos) 0 (.ref it) .none ge).onRaise (leaving ge)) [] s
    rw [compTurn_gen, Sem.onRaise_eq_wrap]
    refine seg_bind_wrap (wpAny_standAt ?_)
    rcases turn i m H hw with ⟨stop, qq⟩ | ⟨goes, step⟩
    · refine seg_bind_wrap ?_
      rw [hAg]
      refine thnF (T.done (gcx X Ag s4 H4 ge N fp pn) rfl rfl rfl rfl i [] s σ0 H (fun _ _ => False) I (stat nop I nf) st stop) fun r s6 hr6 => ?_
      obtain ⟨hr, I6⟩ := hr6
      subst hr
      exact seg_end (.ok .next) (.inl ⟨.inr rfl, σ0, H, I6, qq⟩)
    · refine seg_bind_wrap ?_
      rw [hAg]
      refine thnF (T.item (gcx X Ag s4 H4 ge N fp pn) rfl rfl rfl rfl i [] s σ0 H (fun _ _ => False) I (stat nop I nf) st goes) fun r s6 hr6 => ?_
      obtain ⟨u, hr, h6⟩ := hr6
      subst hr
      refine seg_bind_wrap ?_
      rw [hAg]
      refine thnF h6 fun _ s7 hs7 => ?_
      obtain ⟨y, H7, I7, r7, y7, st7, n7⟩ := hs7
      have I7' := I7.pinned (stat nop I7 n7) (T.obj _ _ st7)
      refine seg_bind_wrap ?_
      rw [hAg]
      refine wpAny_assign_Name (store_ok (i := j) (v := y) I7' hnd hj (.inl hloc) r7 (fun s8 I8 => ?_) (.inr hloc))
      refine seg_bind_wrap ?_
      simp only [List.forIn_nil]
      refine wpAny_pure ?_
      simp only [if_true]
      have hy : ∀ v, yieldOut ge v = yieldValue v := fun v => by simp only [yieldOut, hco, Bool.false_eq_true, if_false]
      simp only [hy]
      rw [Sem.bind_eq_wrap', Sem.bind_eq_wrap', Sem.wrap_wrap, Sem.wrap_wrap]
      refine seg_wrap ?_
      rw [hAg]
      refine thnF (pe.run _ s8 _ H7 _ I8 (step y H7 y7)) fun z s9 hz => ?_
      obtain ⟨v, H9, I9, r9, b, rfl, hno, hgo⟩ := hz
      obtain rfl : z = Value.bool b := r9
      refine seg_at (seg_yield rfl rfl rfl ⟨b, H9, rfl, ⟨_, _, I9⟩, hno, fun e s'' hh hos hb => ?_⟩)
      obtain ⟨m', hlt, w'⟩ := hgo e
      have I10 : Inv (gcx X Ag s4 H4 ge N fp pn) ([] ++ pinsAt fp s7.heap) (σ0.set j (some y)) H9 s'' :=
        I9.call' (ch := []) hos (by rw [hh]; exact Un.refl) (by rw [hh]; exact I9.hok) hb (fun b hb => by simp at hb)
      have pin' : ∀ b ∈ fp, ∀ o, s7.heap.get? b = some o → s''.heap.get? b = some o ∧ H9 b = none := fun b hb o e =>
        let z := I10.pin (b, o) (List.mem_append_right _ (List.mem_append_right _ (mem_pinsAt hb e)))
        ⟨z.1, z.2.1⟩
      refine seg_again rfl (ih (i + 1) m' H9 s'' s'' (by omega) w' ((I10.unpinned (pins := [])).weak (by rw [List.length_set]) fun k v e2 => ?_) (T.keep _ _ _ st7 fun b hb o e => (pin' b hb o e).1) fun b hb => ?_)
      · have hk : k ≠ j := fun q => by
          rw [q, h0] at e2
          cases e2
        rw [List.getElem?_set_ne (Ne.symm hk)]
        exact e2
      · obtain ⟨o, e2, _⟩ := T.obj _ _ st7 b hb
        exact (pin' b hb o e2).2
end

/-! ### the consumer -/
section
variable {P : Program} {w : World}
/-- what the consumer's loop makes of an item: «all» goes on by True, «any» by False -/
theorem loop_all {Xg : Cx} {A : Around} {R : Result → Shared → Prop} {a : Addr} {g : Nat} {Qe Qb : Hp → Prop} (hh : A.handled = none) (hd : A.depth < recursionLimit)
    (gen : ∀ pns σ' H' s', Inv Xg pns σ' H' s' → s'.heap.IsGen a g)
    (hend : ∀ (b : Bool) pns σ' H' s1, Inv Xg pns σ' H' s1 → (if b = true then Qe H' else Qb H') → ∀ s', s'.os = s1.os → AllBare s'.gens → (∀ c o, s1.heap.get? c = some o → s'.heap.get? c = some o) → R (.ok (.ret (.bool b))) s') :
    ∀ (n : Nat) (s : Shared), s.heap.IsGen a g → s.heap.NoLimit →
      (∃ gs, s.gens[g]? = some gs ∧ gs.Goes (model P w) A.in1.in1 (gEnd Xg Qe) (gItem Xg true Qb) n (.send .none) (s.setGen g .running)) →
      codeAny (model P w) A (.builtin "all.loop" ⟨[.ref a], []⟩) R s := by
  intro n
  induction n with
  | zero =>
    intro s hg hl hgo
    obtain ⟨gs, hgs, hgo⟩ := hgo
    refine codeAny_builtin F.entry_all_loop ?_
    rw [Around.under_plainId F.plain_all_loop _]
    show wpAny _ A.in1 (pyNext (.ref a) >>= _) _ _ s
    refine wpAny_bind (next_genG (A := A.in1) (Er := fun _ _ => False) hh hl hd hg hgs hgo (fun v s₁ gs' hbare hv => ?_) (fun s₁ hp h' hk => ?_) fun e s₁ he => he.elim)
    · obtain ⟨b, H', rfl, ⟨pns, σ', J⟩, hno, hgo⟩ := hv
      cases b with
      | true => exact (hgo rfl s₁ rfl rfl J.bare).elim
      | false =>
        refine wpAny_bind (wpAny_holding (wpAny_truthy_bool ?_))
        refine wpAny_bind (wpAny_letGo ?_)
        simp only [Bool.false_eq_true, if_false]
        refine wpAny_bind (wpAny_rule (wpAny_pure ?_))
        exact hend false pns σ' H' s₁ J (hno (by decide)) _ rfl (allBare_setGen J.bare hbare) fun _ _ e => e
    · obtain ⟨σ', H', J, q⟩ := hp
      refine wpAny_bind (wpAny_rule (wpAny_pure ?_))
      exact hend true [] σ' H' s₁ J q _ rfl (allBare_setGen J.bare rfl) hk
  | succ n ih =>
    intro s hg hl hgo
    obtain ⟨gs, hgs, hgo⟩ := hgo
    have hgl : g < s.gens.size := (Array.getElem?_eq_some_iff.mp hgs).1
    refine codeAny_builtin F.entry_all_loop ?_
    rw [Around.under_plainId F.plain_all_loop _]
    show wpAny _ A.in1 (pyNext (.ref a) >>= _) _ _ s
    refine wpAny_bind (wpAny_gsz (n := g + 1) hgl (next_genG (A := A.in1) (Er := fun _ _ => False) hh hl hd hg hgs hgo (fun v s₁ gs' hbare hv => ?_) (fun s₁ hp h' hk => ?_) fun e s₁ he => he.elim))
    · intro hsz
      obtain ⟨b, H', rfl, ⟨pns, σ', J⟩, hno, hgo⟩ := hv
      refine wpAny_bind (wpAny_holding (wpAny_truthy_bool ?_))
      refine wpAny_bind (wpAny_letGo ?_)
      cases b with
      | true =>
        simp only [if_true]
        have hsz1 : g < s₁.gens.size := by
          have q : (s₁.setGen g gs').gens.size = s₁.gens.size := setGen_size _ _ _
          have hsz' : g + 1 ≤ (s₁.setGen g gs').gens.size := hsz
          omega
        refine wpAny_pure ⟨plainId_quiet F.plain_all_loop _, ih (s₁.setGen g gs') (show s₁.heap.IsGen a g from gen _ _ _ _ J) (show s₁.heap.NoLimit from J.nolimit) ⟨gs', setGen_at hsz1, ?_⟩⟩
        exact hgo rfl ((s₁.setGen g gs').setGen g .running) rfl rfl (allBare_setGen (allBare_setGen J.bare hbare) rfl)
      | false =>
        simp only [Bool.false_eq_true, if_false]
        refine wpAny_bind (wpAny_rule (wpAny_pure ?_))
        exact hend false pns σ' H' s₁ J (hno (by decide)) _ rfl (allBare_setGen J.bare hbare) fun _ _ e => e
    · intro _
      obtain ⟨σ', H', J, q⟩ := hp
      refine wpAny_bind (wpAny_rule (wpAny_pure ?_))
      exact hend true [] σ' H' s₁ J q _ rfl (allBare_setGen J.bare rfl) hk

theorem loop_any {Xg : Cx} {A : Around} {R : Result → Shared → Prop} {a : Addr} {g : Nat} {Qe Qb : Hp → Prop} (hh : A.handled = none) (hd : A.depth < recursionLimit)
    (gen : ∀ pns σ' H' s', Inv Xg pns σ' H' s' → s'.heap.IsGen a g)
    (hend : ∀ (b : Bool) pns σ' H' s1, Inv Xg pns σ' H' s1 → (if b = true then Qb H' else Qe H') → ∀ s', s'.os = s1.os → AllBare s'.gens → (∀ c o, s1.heap.get? c = some o → s'.heap.get? c = some o) → R (.ok (.ret (.bool b))) s') :
    ∀ (n : Nat) (s : Shared), s.heap.IsGen a g → s.heap.NoLimit →
      (∃ gs, s.gens[g]? = some gs ∧ gs.Goes (model P w) A.in1.in1 (gEnd Xg Qe) (gItem Xg false Qb) n (.send .none) (s.setGen g .running)) →
      codeAny (model P w) A (.builtin "any.loop" ⟨[.ref a], []⟩) R s := by
  intro n
  induction n with
  | zero =>
    intro s hg hl hgo
    obtain ⟨gs, hgs, hgo⟩ := hgo
    refine codeAny_builtin F.entry_any_loop ?_
    rw [Around.under_plainId F.plain_any_loop _]
    show wpAny _ A.in1 (pyNext (.ref a) >>= _) _ _ s
    refine wpAny_bind (next_genG (A := A.in1) (Er := fun _ _ => False) hh hl hd hg hgs hgo (fun v s₁ gs' hbare hv => ?_) (fun s₁ hp h' hk => ?_) fun e s₁ he => he.elim)
    · obtain ⟨b, H', rfl, ⟨pns, σ', J⟩, hno, hgo⟩ := hv
      cases b with
      | false => exact (hgo rfl s₁ rfl rfl J.bare).elim
      | true =>
        refine wpAny_bind (wpAny_holding (wpAny_truthy_bool ?_))
        refine wpAny_bind (wpAny_letGo ?_)
        simp only [if_true]
        refine wpAny_bind (wpAny_rule (wpAny_pure ?_))
        exact hend true pns σ' H' s₁ J (hno (by decide)) _ rfl (allBare_setGen J.bare hbare) fun _ _ e => e
    · obtain ⟨σ', H', J, q⟩ := hp
      refine wpAny_bind (wpAny_rule (wpAny_pure ?_))
      exact hend false [] σ' H' s₁ J q _ rfl (allBare_setGen J.bare rfl) hk
  | succ n ih =>
    intro s hg hl hgo
    obtain ⟨gs, hgs, hgo⟩ := hgo
    have hgl : g < s.gens.size := (Array.getElem?_eq_some_iff.mp hgs).1
    refine codeAny_builtin F.entry_any_loop ?_
    rw [Around.under_plainId F.plain_any_loop _]
    show wpAny _ A.in1 (pyNext (.ref a) >>= _) _ _ s
    refine wpAny_bind (wpAny_gsz (n := g + 1) hgl (next_genG (A := A.in1) (Er := fun _ _ => False) hh hl hd hg hgs hgo (fun v s₁ gs' hbare hv => ?_) (fun s₁ hp h' hk => ?_) fun e s₁ he => he.elim))
    · intro hsz
      obtain ⟨b, H', rfl, ⟨pns, σ', J⟩, hno, hgo⟩ := hv
      refine wpAny_bind (wpAny_holding (wpAny_truthy_bool ?_))
      refine wpAny_bind (wpAny_letGo ?_)
      cases b with
      | false =>
        simp only [Bool.false_eq_true, if_false]
        have hsz1 : g < s₁.gens.size := by
          have q : (s₁.setGen g gs').gens.size = s₁.gens.size := setGen_size _ _ _
          have hsz' : g + 1 ≤ (s₁.setGen g gs').gens.size := hsz
          omega
        refine wpAny_pure ⟨plainId_quiet F.plain_any_loop _, ih (s₁.setGen g gs') (show s₁.heap.IsGen a g from gen _ _ _ _ J) (show s₁.heap.NoLimit from J.nolimit) ⟨gs', setGen_at hsz1, ?_⟩⟩
        exact hgo rfl ((s₁.setGen g gs').setGen g .running) rfl rfl (allBare_setGen (allBare_setGen J.bare hbare) rfl)
      | true =>
        simp only [if_true]
        refine wpAny_bind (wpAny_rule (wpAny_pure ?_))
        exact hend true pns σ' H' s₁ J (hno (by decide)) _ rfl (allBare_setGen J.bare hbare) fun _ _ e => e
    · intro _
      obtain ⟨σ', H', J, q⟩ := hp
      refine wpAny_bind (wpAny_rule (wpAny_pure ?_))
      exact hend false [] σ' H' s₁ J q _ rfl (allBare_setGen J.bare rfl) hk
end

/-! ### the expression -/
/-- some table stands at P -/
def TabG (H : Hp) (P : Addr) : Prop := ∃ ps : Array Value, H P = some (.tbl ps) ∧ TriplesOk ps.toList
/-- H' is H but for the table at P -/
def Tabd (P : Addr) (H H' : Hp) : Prop := TabG H' P ∧ ∀ b, b ≠ P → H' b = H b
/-- what a walk by a generator asks: go is the item's truth that lets it go on -/
def GW (J : It) (te : TE) (σ0 : L2.St) (j : Nat) (go : Bool) (Q : Bool → Hp → Prop) (H : Hp) : Prop :=
  ∃ W : Nat → Nat → Hp → Prop, (∃ m, W 0 m H) ∧ ∀ i m H, W i m H →
    (J.stop i H ∧ Q go H) ∨ (J.go i H ∧ ∀ y H', J.yld i H y H' → te (σ0.set j (some y)) H' fun v H3 => ∃ b, v = .bl b ∧ (b ≠ go → Q (!go) H3) ∧ (b = go → ∃ m', m' < m ∧ W (i + 1) m' H3))
/-- the reading -/
def tGen (P : Addr) (go : Bool) (wi : TI) (te : TE) (pad j : Nat) : TE := fun σ H Q => wi σ H fun J H1 => TabG H1 P ∧
  ∀ H2, Tabd P H1 H2 → GW J te (gsl σ pad j none) j go (fun b H3 => Q (.bl b) H3) H2

section
variable {X : Cx} {c P : Addr} {elt iter : Expr} {x : Str} {px p pos gpos : Pos} {scope : Scope} {wi : TI} {te : TE} {k pad j : Nat} {N : List Str}

theorem room_gen {A : Around} {gx : Expr} {it : Value} {ge : Env} (hr : Room (k + 1) A) (hf : Code.isFrame (.compLoop gx 0 it .none ge) = true := by rfl) :
    Room k (A.in1.in1.over (.compLoop gx 0 it .none ge) []) := by
  have h1 := hr.dp
  have h2 := hr.un
  have e1 : (Code.compLoop gx 0 it .none ge).weight ≤ 1 := by
    show Code.frames _ + _ + _ + _ ≤ 1
    have : (Code.compLoop gx 0 it .none ge).frames ≤ 1 := by
      show (if Code.isFrame (.compLoop gx 0 it .none ge) = true then 1 else 0) ≤ 1
      split <;> omega
    simpa [Code.isCreation, Code.isGuard, Code.isCaller] using this
  have e2 : (Code.compLoop gx 0 it .none ge).cUnits ≤ 3 := by
    show 3 * (Code.compLoop gx 0 it .none ge).frames ≤ 3
    have : (Code.compLoop gx 0 it .none ge).frames ≤ 1 := by
      show (if Code.isFrame (.compLoop gx 0 it .none ge) = true then 1 else 0) ≤ 1
      split <;> omega
    omega
  refine ⟨hr.hd, ?_, ?_⟩
  · show A.depth + 0 + (Code.compLoop gx 0 it .none ge).weight + 3 * k + 5 < recursionLimit
    omega
  · show A.units + 1 + 1 + 0 + (Code.compLoop gx 0 it .none ge).cUnits + 16 * k + 200 < cLine
    omega

theorem gen_core {Q : Bool → Hp → Prop} {Q' : Value → Shared → Prop} {pins : List (Addr × Obj)} {σ : L2.St} {H : Hp} {s : Shared} {go : Bool} (hr : Room (k + 1) X.A) (hc : X.calm = true) (TB : LamX.TabB X.base X.mg c P) (hcode : X.env.code = .ref c)
    (G : GN X.N X.env.scope scope x N pad j) (hi : PI X (.Name x px) iter wi)
    (hel : ∀ (A : Around) (s : Shared) (H : Hp) (cl : List (Str × Addr)) (C : Addr) (code : Value) (fp : List Addr) (pn : List (Addr × Obj)), Room k A → PE (gcx X A s H (genEnv scope cl C code builtinsNs X.env) N fp pn) elt te)
    (hs : ∀ v, genFold iter X.env v = pure v) (I : Inv X pins σ H s)
    (h : wi σ H fun J H1 => TabG H1 P ∧ ∀ H2, Tabd P H1 H2 → GW J te (gsl σ pad j none) j go Q H2)
    (hQ : ∀ (Xg : Cx) (a : Addr) (g n : Nat) (s5 : Shared),
      (∀ pns σ' H' s', Inv Xg pns σ' H' s' → s'.heap.IsGen a g) →
      (∀ pns σ' H' s1, Inv Xg pns σ' H' s1 → ∀ s', s'.os = s1.os → AllBare s'.gens → (∀ b o, s1.heap.get? b = some o → s'.heap.get? b = some o) → Inv X pins σ H' s') →
      s5.heap.IsGen a g → s5.heap.NoLimit →
      (∃ gs, s5.gens[g]? = some gs ∧ gs.Goes (model X.prog X.w) X.A.in1.in1 (gEnd Xg (Q go)) (gItem Xg go (Q (!go))) n (.send .none) (s5.setGen g .running)) →
      Q' (.ref a) s5) :
    wpAny (model X.prog X.w) X.A (eval (.GeneratorExp elt [⟨.Name x px, iter, [], 0⟩] scope gpos) X.env) Q' X.xe s := by
  refine wpAny_GeneratorExp_make G.co (closure_ok (gfree I G)) G.cell G.dot G.kind hr.depth ?_ hs
  refine thn (hi.run pins s σ H _ I h) fun xv s0 h0 => thn h0 fun itv s1 h1 => ?_
  obtain ⟨it, fp, tn, J, H1, rfl, I1, T, st1, f1, ⟨ps, hP, ht⟩, q1⟩ := h1
  refine ⟨I1.nolimit, ?_⟩
  have hPs : s1.heap.get? P = some { cls := .none, data := .fields ps } := I1.hok P _ hP
  have nPf : ∀ b ∈ fp, b ≠ P := fun b hb z => by
    have e := (f1 b hb).1
    rw [z, hP] at e
    cases e
  have lt1 : ∀ b ∈ fp, b < s1.heap.objs.size := fun b hb => by
    obtain ⟨o, e, _⟩ := T.obj _ _ st1 b hb
    exact Heap.lt_size e
  have cd : PySem.W.CodeHd s1.heap c P := TB.code.keeps fun b u e => I1.bk b u e
  -- behind the code object's making
  have cont : ∀ (code : Value) (s4 : Shared) (H4 : Hp), Inv X pins σ H4 s4 → Tabd P H1 H4 → (∀ b o, b ≠ P → s1.heap.get? b = some o → s4.heap.get? b = some o) →
      wpAny (model X.prog X.w) X.A (builtinsFor X.env.globals X.env.builtins) (fun bi s₄ =>
        ∀ h', h'.Ns s₄.heap.objs.size (fun y => if y = ".0" then some (.ref it) else none) → Heap.SameBut s₄.heap.objs.size (s₄.heap.push { cls := .type "frame", data := .dict #[] }) h' →
          Q' (.ref h'.objs.size) { s₄ with
            gens := s₄.gens.push (.fresh (.compStart (.GeneratorExp elt [⟨.Name x px, iter, [], 0⟩] scope gpos) 0 (.ref it) .none (genEnv scope (cloFrom X.env.cells scope.names []) s₄.heap.objs.size code bi X.env))),
            toks := s₄.toks + 1 + 1 + 1,
            heap := h'.push { cls := .type "generator", data := .fields #[.int s₄.gens.size 0, .str "<genexpr>" (s₄.toks + 1), .str (X.env.qual ++ "<genexpr>") (s₄.toks + 1 + 1)] } }) X.xe s4 := by
    intro code s4 H4 I4 hT k4
    obtain ⟨bm, ob, e1, e2, e3, e4, e5, e6, e7, e8⟩ := TB.bm
    refine wpAny_builtinsFor (m := X.mg) (by rw [I4.ok.glob]; exact I4.mod.glob.keeps I4.bk) e1 e2 (I4.bk _ _ e5) e6 e7 e8 ?_
    intro h' hn hsb
    have sz' : h'.objs.size = s4.heap.objs.size + 1 := by rw [hsb.1, Heap.size_push]
    have kp' : ∀ b o, s4.heap.get? b = some o → h'.get? b = some o := fun b o e =>
      hsb.extBut b o (Nat.ne_of_lt (Heap.lt_size e)) (Heap.get?_push_of_some _ e)
    generalize hgo : ({ cls := .type "generator", data := .fields #[.int s4.gens.size 0, .str "<genexpr>" (s4.toks + 1), .str (X.env.qual ++ "<genexpr>") (s4.toks + 1 + 1)] } : Obj) = gob
    have hgc : ∀ v, gob.data ≠ .cell v := fun v z => by rw [← hgo] at z; cases z
    have hga : (h'.push gob).get? h'.objs.size = some gob := Heap.get?_push_size _ (by rw [← hgo]; rfl)
    have kp5 : ∀ b o, s4.heap.get? b = some o → (h'.push gob).get? b = some o := fun b o e => Heap.get?_push_of_some _ (kp' b o e)
    have gfpn : ∀ b ∈ fp, H4 b = none := fun b hb => by rw [hT.2 b (nPf b hb)]; exact (f1 b hb).1
    have st4 : tn 0 s4.heap := T.keep _ _ _ st1 fun b hb o e => k4 b o (nPf b hb) e
    have lt4 : ∀ b ∈ fp, b < s4.heap.objs.size := fun b hb => by
      obtain ⟨o, e, _⟩ := T.obj _ _ st4 b hb
      exact Heap.lt_size e
    have f4 : ∀ b ∈ fp, FpOk X pins H4 b ∧ b < s4.heap.objs.size := fun b hb => ⟨⟨gfpn b hb, (f1 b hb).2⟩, lt4 b hb⟩
    generalize hge : genEnv scope (cloFrom X.env.cells scope.names []) s4.heap.objs.size code builtinsNs X.env = ge
    have hAg : Room k (X.A.in1.in1.over (.compLoop (.GeneratorExp elt [⟨.Name x px, iter, [], 0⟩] scope gpos) 0 (.ref it) .none ge) []) := room_gen hr
    have hfr : (X.A.in1.in1.over (.compLoop (.GeneratorExp elt [⟨.Name x px, iter, [], 0⟩] scope gpos) 0 (.ref it) .none ge) []).frames = some (ge :: X.stack) := by
      show (X.A.frames).map _ = _
      rw [I4.ok.frames]
      rfl
    have hbg : AllBare (s4.gens.push (.fresh (.compStart (.GeneratorExp elt [⟨.Name x px, iter, [], 0⟩] scope gpos) 0 (.ref it) .none ge))) := I4.bare.push rfl
    generalize hs5 : ({ s4 with
      gens := s4.gens.push (.fresh (.compStart (.GeneratorExp elt [⟨.Name x px, iter, [], 0⟩] scope gpos) 0 (.ref it) .none ge)),
      toks := s4.toks + 1 + 1 + 1, heap := h'.push gob } : Shared) = s5
    have I5 : ∀ gs : Array GenState, AllBare gs → Inv (gcx X (X.A.in1.in1.over (.compLoop (.GeneratorExp elt [⟨.Name x px, iter, [], 0⟩] scope gpos) 0 (.ref it) .none ge) []) s4 H4 ge N fp [(h'.objs.size, gob)]) []
        (gsl σ pad j none) H4 { s4 with gens := gs, toks := s4.toks + 1 + 1 + 1, heap := h'.push gob } := by
      intro gs hb
      subst hge
      exact gstart I4 G hAg.hd hfr f4 kp5 (hn.push _) hb hga (by rw [sz']; exact Nat.lt_succ_self _) hgc
    have isg : ∀ h : Heap, h.get? h'.objs.size = some gob → h.IsGen h'.objs.size s4.gens.size := fun h e => by
      subst hgo
      exact ⟨_, _, _, e, rfl, rfl, rfl⟩
    obtain ⟨W, ⟨m0, w0⟩, turn⟩ := q1 H4 hT
    have pe := hel _ s4 H4 (cloFrom X.env.cells scope.names []) s4.heap.objs.size code fp [(h'.objs.size, gob)] hAg
    rw [hge] at pe
    have hloc : ge.scope.names.lookup x = some .local := by subst hge; exact G.loc
    have hco : ge.scope.isCoroutine = false := by subst hge; exact G.co
    have hpnf : ∀ p ∈ [(h'.objs.size, gob)], p.1 ∉ fp := fun p hp hm => by
      rw [List.mem_singleton.mp hp] at hm
      have := lt4 _ hm
      rw [sz'] at this
      exact absurd (Nat.lt_trans this (Nat.lt_succ_self _)) (Nat.lt_irrefl _)
    have hjl : (gsl σ pad j none)[j]? = some none := by
      have hl : j < (σ ++ List.replicate pad none).length := by
        rw [List.length_append, List.length_replicate, I4.len, ← G.len]
        exact (List.getElem?_eq_some_iff.mp G.jx).1
      show ((σ ++ List.replicate pad none).set j none)[j]? = some none
      rw [List.getElem?_set_self hl]
    refine hQ (gcx X (X.A.in1.in1.over (.compLoop (.GeneratorExp elt [⟨.Name x px, iter, [], 0⟩] scope gpos) 0 (.ref it) .none ge) []) s4 H4 ge N fp [(h'.objs.size, gob)]) h'.objs.size s4.gens.size (m0 + 1) s5 ?_ ?_ ?_ ?_ ?_
    · intro pns σ' H' s' J'
      exact isg _ (J'.pin (h'.objs.size, gob) (List.mem_append_left _ (List.mem_singleton.mpr rfl))).1
    · intro pns σ' H' s1' J' s' hos hbare hk
      exact I4.call' (ch := fp) (hos.trans J'.os) (J'.base.trans (Un.kept hk)) (J'.hok.kept hk) hbare fun b hb =>
        ⟨(f4 b hb).1.2.2.2.1, (f4 b hb).1.2.1, (f4 b hb).1.2.2.2.2.1, (f4 b hb).1.2.2.2.2.2⟩
    · subst hs5; exact isg _ hga
    · subst hs5; exact I4.nolimit.keeps kp5
    · refine ⟨.fresh (.compStart (.GeneratorExp elt [⟨.Name x px, iter, [], 0⟩] scope gpos) 0 (.ref it) .none ge), by subst hs5; exact Array.getElem?_push_size .., rfl, ?_⟩
      have hb5 : AllBare (s5.setGen s4.gens.size .running).gens := by
        subst hs5
        exact allBare_setGen hbg rfl
      have loop := gen_seg (A := X.A.in1.in1) (gpos := gpos) (go := go) (Qe := Q go) (Qb := Q (!go)) T G.nd G.jx hloc hco hpnf pe W hjl turn (m0 + 1) 0 m0 H4 (s5.setGen s4.gens.size .running) (s5.setGen s4.gens.size .running) (Nat.lt_succ_self _) w0
        (by subst hs5; exact I5 _ hb5) (by subst hs5; exact T.keep _ _ _ st4 fun b _ o e => kp5 b o e) gfpn
      show Seg _ X.A.in1.in1 _ _ _ _ _ ((compStart (.GeneratorExp elt [⟨.Name x px, iter, [], 0⟩] scope gpos) 0 (.ref it) .none ge).onRaise (leaving ge)) [] _
      unfold compStart
      rw [Sem.onRaise_eq_wrap]
      show Seg _ X.A.in1.in1 _ _ _ _ _ ((ask >>= _).wrap _ _ _ _) [] _
      refine seg_bind_wrap (wpAny_askSetting ?_)
      split
      · exact seg_again rfl loop
      · have self : ∀ (A' : Around) (R' : Value → Shared → Prop) (E' : Value → Shared → Prop), R' (.ref it) (s5.setGen s4.gens.size .running) → wpAny (model X.prog X.w) A' (pyIter (.ref it)) R' E' (s5.setGen s4.gens.size .running) :=
          fun A' R' E' hR => T.self A' 0 _ _ _ (by subst hs5; exact T.keep _ _ _ st4 fun b _ o e => kp5 b o e) hR
        first
          | exact seg_bind_wrap (wpAny_rule (seg_bind_wrap (wpAny_standAt (seg_bind_wrap (self _ _ _ (seg_again rfl loop))))))
          | (refine seg_bind_wrap (wpAny_rule ?_); show Seg _ X.A.in1.in1 _ _ _ _ _ ((standAt iter.pos >>= _).wrap _ _ _ _) [] _; exact seg_bind_wrap (wpAny_standAt (seg_bind_wrap (self _ _ _ (seg_again rfl loop)))))
  cases hf : codeAmong gpos ps.toList with
  | none =>
    refine wpAny_genexprCodeX hcode (cd.code hPs ht) (cd.tab hPs) hf fun c' h' tk hx hge hlt hco' _ htab' _ => ?_
    obtain ⟨o1, vs, f9, tf, fl, tg, inF, tx, tt, op, _, _, _, _, _, _, _, _, _, htr, _⟩ := hco'
    have hP3 := htab'.2
    refine cont _ _ (upd H1 P (.tbl (ps ++ #[rawInt gpos.line, rawInt gpos.col, .ref c']))) (GxR.inv_tab (g' := s1.gens) (d' := s1.drawn) I1 hP (fun b o hb e => hx b o hb e) hP3 I1.bare) ⟨⟨_, upd_same, htr⟩, fun b hb => upd_ne hb⟩ fun b o hb e => hx b o hb e
  | some cv =>
    refine wpAny_genexprCode_hit hcode (cd.code hPs ht) hf ?_
    exact cont cv s1 H1 I1 ⟨⟨ps, hP, ht⟩, fun _ _ => rfl⟩ fun b o _ e => e
/-- all(elt for x in iter) -/
theorem pe_all (hr : Room (k + 1) X.A) (hc : X.calm = true) (hg : Gl X "all") (hm : X.mg "all" = none) (TB : LamX.TabB X.base X.mg c P) (hcode : X.env.code = .ref c)
    (G : GN X.N X.env.scope scope x N pad j) (hi : PI X (.Name x px) iter wi)
    (hel : ∀ (A : Around) (s : Shared) (H : Hp) (cl : List (Str × Addr)) (C : Addr) (code : Value) (fp : List Addr) (pn : List (Addr × Obj)), Room k A → PE (gcx X A s H (genEnv scope cl C code builtinsNs X.env) N fp pn) elt te)
    (hs : ∀ v, genFold iter X.env v = pure v := by intro _; rfl)
    (he : starEach [.GeneratorExp elt [⟨.Name x px, iter, [], 0⟩] scope gpos] X.env = (false, eval (.GeneratorExp elt [⟨.Name x px, iter, [], 0⟩] scope gpos) X.env) :: starEach [] X.env := by rfl) :
    PE X (.Call (.Name "all" p) [.GeneratorExp elt [⟨.Name x px, iter, [], 0⟩] scope gpos] [] pos) (tGen P true wi te pad j) := by
  constructor
  intro pins s σ H Q I h
  refine wpAny_Call_Name_kw (ld_blt I hg hm boot_all ?_)
  refine PyProof.Rows.callWith_builtin1 ?_ he (by rfl)
  rw [he]
  show wpAny _ _ (spliced ((false, eval (.GeneratorExp elt [⟨.Name x px, iter, [], 0⟩] scope gpos) X.env) :: backTo pos (starEach [] X.env))) _ _ s
  refine Calls.spliced_cons (gen_core (Q := fun b H3 => Q (.bl b) H3) (go := true) hr hc TB hcode G hi hel hs I h fun Xg a g n s5 g1 g2 g3 g4 g5 => ?_)
  refine Calls.spliced_nil ?_
  refine call_function_tree F.kind_all F.plain_all F.entry_all (F.args_all1 _) ?_
  unfold Builtin.«all»
  refine wpAny_bind (m := oneArg "all" _) (wpAny_pure ?_)
  refine wpAny_bind (wpAny_pyIter_gen g3 ?_)
  refine wpAny_pure ⟨plainId_quiet F.plain_all_loop _, loop_all hr.hd hr.depth g1 (fun b pns σ' H' s1 J q s' h1 h2 h3 => ?_) n s5 g3 g4 g5⟩
  refine ⟨.bl b, H', g2 pns σ' H' s1 J s' h1 h2 h3, rfl, ?_⟩
  cases b <;> exact q
/-- any(elt for x in iter) -/
theorem pe_any (hr : Room (k + 1) X.A) (hc : X.calm = true) (hg : Gl X "any") (hm : X.mg "any" = none) (TB : LamX.TabB X.base X.mg c P) (hcode : X.env.code = .ref c)
    (G : GN X.N X.env.scope scope x N pad j) (hi : PI X (.Name x px) iter wi)
    (hel : ∀ (A : Around) (s : Shared) (H : Hp) (cl : List (Str × Addr)) (C : Addr) (code : Value) (fp : List Addr) (pn : List (Addr × Obj)), Room k A → PE (gcx X A s H (genEnv scope cl C code builtinsNs X.env) N fp pn) elt te)
    (hs : ∀ v, genFold iter X.env v = pure v := by intro _; rfl)
    (he : starEach [.GeneratorExp elt [⟨.Name x px, iter, [], 0⟩] scope gpos] X.env = (false, eval (.GeneratorExp elt [⟨.Name x px, iter, [], 0⟩] scope gpos) X.env) :: starEach [] X.env := by rfl) :
    PE X (.Call (.Name "any" p) [.GeneratorExp elt [⟨.Name x px, iter, [], 0⟩] scope gpos] [] pos) (tGen P false wi te pad j) := by
  constructor
  intro pins s σ H Q I h
  refine wpAny_Call_Name_kw (ld_blt I hg hm boot_any ?_)
  refine PyProof.Rows.callWith_builtin1 ?_ he (by rfl)
  rw [he]
  show wpAny _ _ (spliced ((false, eval (.GeneratorExp elt [⟨.Name x px, iter, [], 0⟩] scope gpos) X.env) :: backTo pos (starEach [] X.env))) _ _ s
  refine Calls.spliced_cons (gen_core (Q := fun b H3 => Q (.bl b) H3) (go := false) hr hc TB hcode G hi hel hs I h fun Xg a g n s5 g1 g2 g3 g4 g5 => ?_)
  refine Calls.spliced_nil ?_
  refine call_function_tree F.kind_any F.plain_any F.entry_any (F.args_any1 _) ?_
  unfold Builtin.«any»
  refine wpAny_bind (m := oneArg "any" _) (wpAny_pure ?_)
  refine wpAny_bind (wpAny_pyIter_gen g3 ?_)
  refine wpAny_pure ⟨plainId_quiet F.plain_any_loop _, loop_any hr.hd hr.depth g1 (fun b pns σ' H' s1 J q s' h1 h2 h3 => ?_) n s5 g3 g4 g5⟩
  refine ⟨.bl b, H', g2 pns σ' H' s1 J s' h1 h2 h3, rfl, ?_⟩
  cases b <;> exact q
end
end GA

/-! What all proofs of this program lean on. -/
namespace LT
open PySem PySem.Spec PyProof.Rows L2 GA

/-! ### what stays -/
/-- nothing that was tracked is gone or changed; tables of code objects may have grown -/
structure Ex (H H' : Hp) : Prop where
  keep : ∀ b o, H b = some o → (∀ ps, o ≠ .tbl ps) → H' b = some o
  tab : ∀ b, TabG H b → TabG H' b
  free : ∀ b, H' b = none → H b = none
theorem Ex.refl (H : Hp) : Ex H H := ⟨fun _ _ h _ => h, fun _ h => h, fun _ h => h⟩
theorem Ex.trans {H H1 H2 : Hp} (a : Ex H H1) (b : Ex H1 H2) : Ex H H2 :=
  ⟨fun c o h n => b.keep c o (a.keep c o h n) n, fun c h => b.tab c (a.tab c h), fun c h => a.free c (b.free c h)⟩
theorem Ex.new {H : Hp} {p : Addr} {o : HO} (h : H p = none) : Ex H (upd H p o) := by
  constructor
  · intro b u e _
    rw [upd_ne (ne_of_none e h)]
    exact e
  · rintro b ⟨ps, e, t⟩
    exact ⟨ps, by rw [upd_ne (ne_of_none e h)]; exact e, t⟩
  · intro b e
    by_cases hb : b = p
    · rw [hb]; exact h
    · rw [upd_ne hb] at e; exact e
theorem Ex.tabd {P : Addr} {H H' : Hp} (h : Tabd P H H') (hP : TabG H P) : Ex H H' := by
  obtain ⟨⟨ps, e, t⟩, hk⟩ := h
  constructor
  · intro b o e1 n
    have hb : b ≠ P := fun z => by
      obtain ⟨qs, e2, _⟩ := hP
      rw [z, e2] at e1
      cases e1
      exact n qs rfl
    rw [hk b hb]
    exact e1
  · intro b hb
    by_cases z : b = P
    · rw [z]; exact ⟨ps, e, t⟩
    · obtain ⟨qs, e2, t2⟩ := hb
      exact ⟨qs, by rw [hk b z]; exact e2, t2⟩
  · intro b hb
    by_cases z : b = P
    · rw [z, e] at hb; cases hb
    · rw [hk b z] at hb; exact hb
theorem Ex.rd {H H' : Hp} {a : Addr} {u : HO} (x : Ex H H') (h : Rd H a u) (n : ∀ ps, u ≠ .tbl ps) : Rd H' a u := by
  rcases h with h | ⟨o, h⟩
  · exact Or.inl (x.keep _ _ h n)
  · exact Or.inr ⟨o, x.keep _ _ h (fun ps z => by cases z)⟩
theorem Ex.tup {K : PySem.W.Frag} {H H' : Hp} {a : Addr} {xs : List V} (x : Ex H H') (h : SqT K H a xs) : SqT K H' a xs := by
  rcases h with h | h
  · exact Or.inl (x.rd h (fun ps z => by cases z))
  · exact Or.inr h
theorem Ex.lst {K : PySem.W.Frag} {H H' : Hp} {a : Addr} {xs : List V} (x : Ex H H') (h : SqL K H a xs) : SqL K H' a xs := by
  rcases h with h | h
  · exact Or.inl (x.rd h (fun ps z => by cases z))
  · exact Or.inr h

/-! ### kinds of things -/
inductive Kn (K : PySem.W.Frag) (H : Hp) : V → String → Prop
  | non : Kn K H .non "NoneType"
  | bl (b : Bool) : Kn K H (.bl b) "bool"
  | int (i : Int) : Kn K H (.int i) "int"
  | str (z : Str) : Kn K H (.str z) "str"
  | lst {a : Addr} {xs : List V} (e : SqL K H a xs) : Kn K H (.ref a) "list"
  | tup {a : Addr} {xs : List V} (e : SqT K H a xs) : Kn K H (.ref a) "tuple"
  | dK {a : Addr} {kvs : List (Key × V)} (e : H a = some (.dK kvs)) : Kn K H (.ref a) "dict"
  | dT {a : Addr} {kvs : List (List Key × V)} (e : H a = some (.dT kvs)) : Kn K H (.ref a) "dict"
  | dX {a : Addr} {f : Heap → Prop} (e : H a = some (.ext f)) (c : ∀ h, f h → ∃ o, h.get? a = some o ∧ o.cls = .type "dict") : Kn K H (.ref a) "dict"
theorem Kn.ex {K : PySem.W.Frag} {H H' : Hp} {v : V} {n : String} (x : Ex H H') (h : Kn K H v n) : Kn K H' v n := by
  cases h with
  | non => exact .non
  | bl b => exact .bl b
  | int i => exact .int i
  | str z => exact .str z
  | lst e => exact .lst (x.lst e)
  | tup e => exact .tup (x.tup e)
  | dK e => exact .dK (x.keep _ _ e (fun ps z => by cases z))
  | dT e => exact .dT (x.keep _ _ e (fun ps z => by cases z))
  | dX e c => exact .dX (x.keep _ _ e (fun ps z => by cases z)) c
def isB (n m : String) : Bool := n == m || (n == "bool" && m == "int")
def okT (m : String) : Bool := ["str", "tuple", "int", "bool", "dict", "list"].contains m
def rIs (K : PySem.W.Frag) : List V → Hp → VK → Prop := fun xs H Q => ∃ (x : V) (n m : String), xs = [x, .ty m] ∧ Kn K H x n ∧ okT m = true ∧ Q (.bl (isB n m)) H
theorem okT_cases {m : String} (h : okT m = true) : m = "str" ∨ m = "tuple" ∨ m = "int" ∨ m = "bool" ∨ m = "dict" ∨ m = "list" := by
  have h2 : m ∈ ["str", "tuple", "int", "bool", "dict", "list"] := List.contains_iff_mem.mp h
  simpa using h2
theorem Kn.isStr {K : PySem.W.Frag} {H : Hp} {v : V} (h : Kn K H v "str") : ∃ z, v = .str z := by
  generalize e : "str" = n at h
  cases h with
  | str z => exact ⟨z, rfl⟩
  | _ => exact absurd e (by decide)
theorem Kn.isTup {K : PySem.W.Frag} {H : Hp} {v : V} (h : Kn K H v "tuple") : ∃ a xs, v = .ref a ∧ SqT K H a xs := by
  generalize e : "tuple" = n at h
  cases h with
  | tup k => exact ⟨_, _, rfl, k⟩
  | _ => exact absurd e (by decide)
theorem Kn.is {K : PySem.W.Frag} {H : Hp} {v : V} {n m : String} (h : Kn K H v n) (hn : n ≠ m) (hb : n = "bool" → m ≠ "int") : isB n m = false := by
  unfold isB
  rw [beq_false_of_ne hn, Bool.false_or]
  cases e : n == "bool" with
  | false => rfl
  | true => rw [beq_false_of_ne (hb (beq_iff_eq.mp e))]; rfl
theorem Kn.notStr {K : PySem.W.Frag} {H : Hp} {v : V} {n : String} (h : Kn K H v n) (hn : n ≠ "str") : isB n "str" = false := h.is hn (fun _ => by decide)
theorem Kn.notTup {K : PySem.W.Frag} {H : Hp} {v : V} {n : String} (h : Kn K H v n) (hn : n ≠ "tuple") : isB n "tuple" = false := h.is hn (fun _ => by decide)
section
variable {X : Cx}
theorem call_is : CallR X (.builtin "isinstance") (rIs X.K) := by
  intro pins s σ H xs us Q I r h
  obtain ⟨x, n, m, rfl, kn, hm, q⟩ := h
  obtain ⟨u1, u2, rfl, r1, r2⟩ := vals2 r
  obtain rfl : u2 = Value.type m := r2
  have fin : ∀ tk, EP X pins σ Q (.bool (isB n m)) { s with toks := tk } := fun tk => ⟨.bl _, H, I.tok tk, rfl, q⟩
  have go : ∀ (t : String) (P : Heap → Prop), PySem.W.KitX X.K u1 (.type t) P → P s.heap → u1 ≠ .builtin "__main__.__loader__#opaque" → kitB t m = some (isB n m) →
      wpAny (model X.prog X.w) X.A (call (.builtin "isinstance") [u1, .type m]) (EP X pins σ Q) X.xe s :=
    fun t P Z p hx e => PySem.W.kia_one Z I.kIn p (kit_ty e) hx fin
  have base : ∀ t, TyX X.K H x (.type t) → kitB t m = some (isB n m) → wpAny (model X.prog X.w) X.A (call (.builtin "isinstance") [u1, .type m]) (EP X pins σ Q) X.xe s := fun t ty e => by
    obtain ⟨P, Z, p, hx⟩ := kit_of I r1 ty
    exact PySem.W.kia_one Z I.kIn p (kit_ty e) hx fin
  have seqT : ∀ {a : Addr} {ys : List V}, SqT X.K H a ys → TyX X.K H (.ref a) (.type "tuple") := fun {a ys} e => by
    rcases e with (e | ⟨o, e⟩) | ⟨o, its, k, e, c, _⟩
    · exact .base (.tup e)
    · exact .fTuple e
    · exact .kTuple e c
  have seqL : ∀ {a : Addr} {ys : List V}, SqL X.K H a ys → TyX X.K H (.ref a) (.type "list") := fun {a ys} e => by
    rcases e with (e | ⟨o, e⟩) | ⟨o, its, k, e, c, _⟩
    · exact .base (.lst e)
    · exact .base (.frz e)
    · exact .kList e c
  rcases okT_cases hm with rfl | rfl | rfl | rfl | rfl | rfl <;> cases kn
  all_goals first
    | exact base _ (.base .non) (by decide +kernel)
    | exact base _ (.base (.bl _)) (by decide +kernel)
    | exact base _ (.base (.int _)) (by decide +kernel)
    | exact base _ (.base (.str _)) (by decide +kernel)
    | exact base _ (seqL (by assumption)) (by decide +kernel)
    | exact base _ (seqT (by assumption)) (by decide +kernel)
    | exact base _ (.base (.dK (by assumption))) (by decide +kernel)
    | exact base _ (.base (.dT (by assumption))) (by decide +kernel)
    | (rename_i a f e c
       cases (show u1 = Value.ref a from r1)
       exact go "dict" _ PySem.W.kitx_dict (c _ (I.hok a _ e).1) (fun z => nomatch z) (by decide +kernel))
end

/-! ### a def whose code object's table is told -/
structure FunC (K : PySem.W.Frag) (x qual : Str) (st : Stmt) (f : Addr) (fd : FuncData) (c : Addr) : Prop where
  ex : ∃ (oc : Value) (od : Option Addr) (kV doc pm : Value) (an : Option Addr) (ct : Value) (osl : Array (Option Value)),
    fd = PySem.W.fnOf x qual (defArgs st) (defBody st) (defScope st) .none kV doc pm an (.ref c) ct ∧ K.lookup f = some ⟨oc, od, .func fd, osl⟩ ∧ PySem.W.codeIn K (.ref c) qual = true
  kp : PySem.W.keepIn K (.ref f) = true
theorem FunC.fn {K : PySem.W.Frag} {x qual : Str} {st : Stmt} {f c : Addr} {fd : FuncData} (F : FunC K x qual st f fd c) : Fun K x qual st f fd := by
  obtain ⟨oc, od, kV, doc, pm, an, ct, osl, e, l, h⟩ := F.ex
  exact ⟨⟨oc, od, kV, doc, pm, an, _, ct, osl, e, l, h⟩, F.kp⟩
section
variable {P : Program} {w : World} {K : PySem.W.Frag} {mg : Str → Option Value} {base : Heap}
theorem FunC.ok {x qual : Str} {st : Stmt} {f c : Addr} {fd : FuncData} {N ps : List Str} {k : Nat} {sp : Sp} (F : FunC K x qual st f fd c) (S : FnScope N ps (defScope st)) (len : ∀ vs H Q E, sp vs H Q E → vs.length = ps.length)
    (hbody : ∀ (A : Around) (outer : List Env) (s : Shared) (H : Hp) (vs : List V) (Q : VK) (E : XK), Room k (A.deeper (envOfC qual (defScope st) s.heap.objs.size f (.ref c))) → sp vs H Q E →
      ∃ t, PSs (cxOf CX0 P w K mg base N qual (defScope st) f (.ref c) A outer s H E).nox (defBody st) t ∧ t { nx := fun _ H' => Q .non H', rt := Q } (start N vs) H) :
    FnOk P w K mg base CX0 (k + 1) f fd ps sp := by
  obtain ⟨oc, od, kV, doc, pm, an, ct, osl, rfl, lk, hcd⟩ := F.ex
  refine fn_of lk hcd S len ?_
  intro A outer s H vs Q E hr hsp
  obtain ⟨t, h, q⟩ := hbody A outer s H vs Q E hr hsp
  exact ⟨t, h.nox, q⟩
end

/-! ### more operators -/
section
variable {X : Cx}
/-- xs[i], by values -/
theorem get_list : PGet X (rIxL X.K) := by
  intro pins s σ H x y v u Q I rx ry h
  obtain ⟨p, xs, i, z, rfl, rfl, hq, he, q⟩ := h
  cases rx
  obtain ⟨t, rfl⟩ := ry
  obtain ⟨its, r, pl, hz⟩ := I.list hq
  obtain ⟨j, h1, h2, h3, h4, h5⟩ := atI_get he
  obtain ⟨w, ew, rw'⟩ := r.get h2
  have hl := r.length
  have hn := line63
  have fin : EP X pins σ Q w s := ⟨z, H, I, rw', q⟩
  by_cases h0 : 0 ≤ i
  · have hj : i.toNat = j := by
      rw [seqIndex_of h0 h5] at h1
      exact Option.some.inj h1
    exact wpAny_getItem_list pl.isList h0 (by omega) (by rw [hj]; simpa using ew) fin
  · have hj : (i + (its.toArray.size : Int)).toNat = j := by
      rw [seqIndex_neg (by omega) h4] at h1
      rw [List.size_toArray, ← hl]
      exact Option.some.inj h1
    exact wpAny_getItem_list_neg pl.isList (by omega) (by rw [List.size_toArray] <;> omega) (by omega) (by rw [hj]; simpa using ew) fin
/-- a text times a number -/
theorem op_repS : OpR X (binaryOp .Mult) (fun x y H Q => ∃ (z : Str) (n : Int), x = .str z ∧ y = .int n ∧ MulOk z n ∧ Q (.str (Txt.mul z n)) H) := by
  intro pins s σ H x y v u Q I rx ry h
  obtain ⟨z, n, rfl, rfl, hm, q⟩ := h
  obtain ⟨t, rfl⟩ := rx
  obtain ⟨t', rfl⟩ := ry
  exact SB.mul hm fun t' k => ⟨.str _, H, I.tok _, ⟨_, rfl⟩, q⟩
end

/-! ### a generator's names, by computation -/
def gnB (N0 N : List Str) (sc scope : Scope) (x : Str) (pad j : Nat) : Bool :=
  (match scope.kind with | .function => true | _ => false) && (!scope.isCoroutine) && (scope.names.all fun y => !(y.2 == .cell)) &&
    decide (scope.names.lookup (".0" : Str) = some NameKind.local) && decide (scope.names.lookup x = some .local) &&
    (scope.names.all fun y => !(y.2 == .local) || decide (y.1 = x) || decide (y.1 ∉ N)) &&
    (scope.names.all fun y => !(y.2 == .free) || decide (sc.names.lookup y.1 = some .cell) || decide (sc.names.lookup y.1 = some .free)) &&
    decide N.Nodup && decide (N[j]? = some x) && decide (N.length = N0.length + pad) && decide (N.take N0.length = N0)
theorem gn_by {N0 N : List Str} {sc scope : Scope} {x : Str} {pad j : Nat} (h : gnB N0 N sc scope x pad j = true) : GN N0 sc scope x N pad j := by
  unfold gnB at h
  simp only [Bool.and_eq_true, decide_eq_true_eq, List.all_eq_true, Bool.or_eq_true, Bool.not_eq_true'] at h
  obtain ⟨⟨⟨⟨⟨⟨⟨⟨⟨⟨h1, h2⟩, h3⟩, h4⟩, h5⟩, h6⟩, h7⟩, h8⟩, h9⟩, h10⟩, h11⟩ := h
  refine ⟨?_, h2, ?_, h4, h5, ?_, ?_, h8, h9, h10, h11⟩
  · cases e : scope.kind <;> rw [e] at h1 <;> first | rfl | cases h1
  · intro y hy e
    have := h3 y hy
    rw [e] at this
    exact absurd this (by decide)
  · intro y hy e
    rcases h6 y hy with (z | z) | z
    · rw [e] at z
      exact absurd z (by decide)
    · exact Or.inl z
    · exact Or.inr z
  · intro y hy e
    rcases h7 y hy with (z | z) | z
    · rw [e] at z
      exact absurd z (by decide)
    · exact Or.inl z
    · exact Or.inr z

/-! ### names, paths, texts -/
def lettersS : Str := "abcdefghijklmnopqrstuvwxyz"
def signsS : Str := "abcdefghijklmnopqrstuvwxyz "
def allIn (z a : Str) : Bool := z.cps.toList.all fun c => decide (c ∈ a.cps.toList)
def nameB (z : Str) : Bool := decide (1 ≤ z.length) && decide (z.length ≤ 4) && allIn z lettersS
def textB (z : Str) : Bool := decide (z.length ≤ 40) && allIn z signsS
def isNameV : V → Bool
  | .str z => nameB z
  | _ => false
def isTextV : V → Bool
  | .str z => textB z
  | _ => false
/-- a thing that may be asked: of a known kind, a text not too long -/
def Asked (K : PySem.W.Frag) (H : Hp) (v : V) : Prop := ∃ n, Kn K H v n ∧ ∀ z, v = .str z → z.length ≤ sizeLine
theorem Asked.ex {K : PySem.W.Frag} {H H' : Hp} {v : V} (x : Ex H H') (h : Asked K H v) : Asked K H' v := by
  obtain ⟨n, k, z⟩ := h
  exact ⟨n, k.ex x, z⟩
theorem Kn.noName {K : PySem.W.Frag} {H : Hp} {v : V} {n : String} (h : Kn K H v n) (hn : n ≠ "str") : isNameV v = false := by
  cases h with
  | str z => exact absurd rfl hn
  | _ => rfl
theorem Kn.noText {K : PySem.W.Frag} {H : Hp} {v : V} {n : String} (h : Kn K H v n) (hn : n ≠ "str") : isTextV v = false := by
  cases h with
  | str z => exact absurd rfl hn
  | _ => rfl
/-- is the thing a path? -/
inductive PathB (K : PySem.W.Frag) (H : Hp) : V → Bool → Prop
  | tup {a : Addr} {xs : List V} (e : SqT K H a xs) (k : ∀ x ∈ xs, Asked K H x) : PathB K H (.ref a) (decide (xs.length ≤ 5) && xs.all isNameV)
  | oth {v : V} {n : String} (k : Kn K H v n) (h : n ≠ "tuple") : PathB K H v false
theorem PathB.ex {K : PySem.W.Frag} {H H' : Hp} {v : V} {b : Bool} (x : Ex H H') (h : PathB K H v b) : PathB K H' v b := by
  cases h with
  | tup e k => exact .tup (x.tup e) fun y hy => (k y hy).ex x
  | oth k h => exact .oth (k.ex x) h
/-- a path stands at a -/
def PathAt (K : PySem.W.Frag) (H : Hp) (a : Addr) (p : List Str) : Prop := SqT K H a (p.map V.str)
def goodPath (p : List Str) : Bool := decide (p.length ≤ 5) && p.all nameB
theorem nameB_small {z : Str} (h : nameB z = true) : z.length ≤ 4 := by
  unfold nameB at h
  simp only [Bool.and_eq_true, decide_eq_true_eq] at h
  exact h.1.2
theorem PathAt.b {K : PySem.W.Frag} {H : Hp} {a : Addr} {p : List Str} (h : PathAt K H a p) (hz : ∀ z ∈ p, z.length ≤ sizeLine) : PathB K H (.ref a) (goodPath p) := by
  have e : goodPath p = (decide ((p.map V.str).length ≤ 5) && (p.map V.str).all isNameV) := by
    unfold goodPath
    rw [List.length_map, List.all_map]
    rfl
  rw [e]
  refine .tup h fun x hx => ?_
  obtain ⟨z, hm, rfl⟩ := List.mem_map.mp hx
  exact ⟨"str", .str z, fun y e => by cases e; exact hz z hm⟩

def begs (p : List Str) : List (List Str) := (List.range (p.length + 1)).map fun i => p.take i
/-- a list of paths stands at l -/
def PathsAt (K : PySem.W.Frag) (H : Hp) (l : Addr) (ps : List (List Str)) : Prop := ∃ rs : List Addr, H l = some (.lst (rs.map V.ref)) ∧ Paired (fun r p => PathAt K H r p) rs ps
/-! ### walks by a generator -/
section
variable {J : It} {te : TE} {σ0 : L2.St} {j : Nat} {Q : Bool → Hp → Prop} {H0 : Hp}
/-- all of n answers f i; the heap may grow at each -/
theorem gw_all {n : Nat} (f : Nat → Bool) (st : ∀ H, Ex H0 H → J.stop n H) (gg : ∀ i H, i < n → Ex H0 H → J.go i H)
    (step : ∀ i H y H', i < n → Ex H0 H → J.yld i H y H' → ∀ R : VK, (∀ H3, Ex H0 H3 → R (.bl (f i)) H3) → te (σ0.set j (some y)) H' R)
    (fin : ∀ H, Ex H0 H → Q ((List.range n).all f) H) : GW J te σ0 j true Q H0 := by
  refine ⟨fun i m H => i ≤ n ∧ m = n - i ∧ Ex H0 H ∧ ∀ k, k < i → f k = true, ⟨n, Nat.zero_le _, rfl, Ex.refl _, fun k hk => absurd hk (Nat.not_lt_zero _)⟩, ?_⟩
  rintro i m H ⟨hi, rfl, x, hf⟩
  rcases Nat.lt_or_ge i n with h | h
  · refine Or.inr ⟨gg i H h x, fun y H' hy => step i H y H' h x hy _ fun H3 x3 => ⟨f i, rfl, fun e => ?_, fun e => ⟨n - (i + 1), by omega, h, rfl, x3, fun k hk => ?_⟩⟩⟩
    · have e2 : f i = false := by cases q : f i <;> simp_all
      have := fin H3 x3
      rwa [show (List.range n).all f = false from List.all_eq_false.mpr ⟨i, List.mem_range.mpr h, by rw [e2]; decide⟩] at this
    · by_cases hk2 : k = i
      · rw [hk2]; exact e
      · exact hf k (by omega)
  · have hin : i = n := by omega
    subst hin
    refine Or.inl ⟨st H x, ?_⟩
    have := fin H x
    rwa [show (List.range i).all f = true from List.all_eq_true.mpr fun k hk => hf k (List.mem_range.mp hk)] at this
theorem gw_any {n : Nat} (f : Nat → Bool) (st : ∀ H, Ex H0 H → J.stop n H) (gg : ∀ i H, i < n → Ex H0 H → J.go i H)
    (step : ∀ i H y H', i < n → Ex H0 H → J.yld i H y H' → ∀ R : VK, (∀ H3, Ex H0 H3 → R (.bl (f i)) H3) → te (σ0.set j (some y)) H' R)
    (fin : ∀ H, Ex H0 H → Q ((List.range n).any f) H) : GW J te σ0 j false Q H0 := by
  refine ⟨fun i m H => i ≤ n ∧ m = n - i ∧ Ex H0 H ∧ ∀ k, k < i → f k = false, ⟨n, Nat.zero_le _, rfl, Ex.refl _, fun k hk => absurd hk (Nat.not_lt_zero _)⟩, ?_⟩
  rintro i m H ⟨hi, rfl, x, hf⟩
  rcases Nat.lt_or_ge i n with h | h
  · refine Or.inr ⟨gg i H h x, fun y H' hy => step i H y H' h x hy _ fun H3 x3 => ⟨f i, rfl, fun e => ?_, fun e => ⟨n - (i + 1), by omega, h, rfl, x3, fun k hk => ?_⟩⟩⟩
    · have e2 : f i = true := by cases q : f i <;> simp_all
      have := fin H3 x3
      rwa [show (List.range n).any f = true from List.any_eq_true.mpr ⟨i, List.mem_range.mpr h, e2⟩] at this
    · by_cases hk2 : k = i
      · rw [hk2]; exact e
      · exact hf k (by omega)
  · have hin : i = n := by omega
    subst hin
    refine Or.inl ⟨st H x, ?_⟩
    have := fin H x
    rwa [show (List.range i).any f = false from List.any_eq_false.mpr fun k hk => by rw [hf k (List.mem_range.mp hk)]; decide] at this
theorem all_of_range {α : Type} (g : α → Bool) (l : List α) (f : Nat → Bool) (h : ∀ (i : Nat) x, l[i]? = some x → f i = g x) : (List.range l.length).all f = l.all g := by
  rw [Bool.eq_iff_iff, List.all_eq_true, List.all_eq_true]
  constructor
  · intro a x hx
    obtain ⟨i, hi, e⟩ := List.getElem_of_mem hx
    have e2 : l[i]? = some x := by rw [List.getElem?_eq_getElem hi, e]
    rw [← h i x e2]
    exact a i (List.mem_range.mpr hi)
  · intro a i hi
    have hl := List.mem_range.mp hi
    rw [h i l[i] (List.getElem?_eq_getElem hl)]
    exact a _ (List.getElem_mem hl)
theorem any_of_range {α : Type} (g : α → Bool) (l : List α) (f : Nat → Bool) (h : ∀ (i : Nat) x, l[i]? = some x → f i = g x) : (List.range l.length).any f = l.any g := by
  rw [Bool.eq_iff_iff, List.any_eq_true, List.any_eq_true]
  constructor
  · rintro ⟨i, hi, a⟩
    have hl := List.mem_range.mp hi
    exact ⟨l[i], List.getElem_mem hl, by rw [← h i l[i] (List.getElem?_eq_getElem hl)]; exact a⟩
  · rintro ⟨x, hx, a⟩
    obtain ⟨i, hi, e⟩ := List.getElem_of_mem hx
    exact ⟨i, List.mem_range.mpr hi, by rw [h i x (by rw [List.getElem?_eq_getElem hi, e])]; exact a⟩
/-- the signs of a text -/
theorem gw_str {z : Str} (g : Nat → Bool) (step : ∀ c H, Ex H0 H → ∀ R : VK, R (.bl (g c)) H → te (σ0.set j (some (.str ⟨#[c]⟩))) H R)
    (fin : ∀ H, Ex H0 H → Q (z.cps.toList.all g) H) : GW (Its z) te σ0 j true Q H0 := by
  refine gw_all (n := z.cps.size) (fun i => g (z.cps.toList.getD i 0)) (fun H _ => Nat.le_refl _) (fun i H h _ => h) ?_ ?_
  · rintro i H y H' h x ⟨rfl, c, hc, rfl⟩ R hR
    have e : z.cps.toList.getD i 0 = c := by
      rw [List.getD_eq_getElem?_getD, Array.getElem?_toList, hc]
      rfl
    exact step c H' x R (by have := hR H' x; rwa [e] at this)
  · intro H x
    have := fin H x
    rw [← all_of_range g z.cps.toList (fun i => g (z.cps.toList.getD i 0)) (fun i c e => by rw [List.getD_eq_getElem?_getD, e]; rfl)] at this
    simpa using this
/-- the items of a tuple -/
theorem gw_tup {K : PySem.W.Frag} {a : Addr} {xs : List V} (g : V → Bool) (ha : SqT K H0 a xs)
    (step : ∀ y H, y ∈ xs → Ex H0 H → ∀ R : VK, (∀ H3, Ex H0 H3 → R (.bl (g y)) H3) → te (σ0.set j (some y)) H R)
    (fin : ∀ H, Ex H0 H → Q (xs.all g) H) : GW (Itt K a) te σ0 j true Q H0 := by
  refine gw_all (n := xs.length) (fun i => (xs[i]?.map g).getD true) (fun H x => ⟨xs, x.tup ha, Nat.le_refl _⟩) (fun i H h x => ⟨xs, xs[i], x.tup ha, List.getElem?_eq_getElem h⟩) ?_ ?_
  · rintro i H y H' h x ⟨rfl, hy⟩ R hR
    have e : xs[i]? = some y := hy xs (x.tup ha)
    refine step y H' (List.mem_of_getElem? e) x R fun H3 x3 => ?_
    have := hR H3 x3
    rw [e] at this
    exact this
  · intro H x
    have := fin H x
    rwa [← all_of_range g xs (fun i => (xs[i]?.map g).getD true) (fun i c e => by rw [e]; rfl)] at this
end

/-! ### paths as data -/
theorem letters_ok : ∀ c ∈ lettersS.cps.toList, 32 ≤ c ∧ c < 127 := by decide +kernel
theorem signs_ok : ∀ c ∈ signsS.cps.toList, 32 ≤ c ∧ c < 127 := by decide +kernel
theorem str_ok {z : Str} (h : ∀ c ∈ z.cps.toList, 32 ≤ c ∧ c < 127) : PyData.strOk z = true := by
  unfold PyData.strOk
  rw [← Array.all_toList, List.all_eq_true]
  intro c hc
  exact decide_eq_true (Nat.lt_trans (h c hc).2 (by decide))
def pathD (p : List Str) : PyData := .tuple (p.map .str)
theorem eqvAll_strs : ∀ p q : List Str, PyData.eqvAll (p.map .str) (q.map .str) = decide (p = q)
  | [], [] => by simp [PyData.eqvAll]
  | [], y :: q => by simp [PyData.eqvAll]
  | x :: p, [] => by simp [PyData.eqvAll]
  | x :: p, y :: q => by
    simp only [List.map_cons, PyData.eqvAll, PyData.eqv, eqvAll_strs p q]
    by_cases h : x = y
    · subst h
      by_cases h2 : p = q <;> simp [h2]
    · rw [beq_false_of_ne h, Bool.false_and]
      exact (decide_eq_false fun e => h (List.cons.inj e).1).symm
theorem eqv_path (p q : List Str) : PyData.eqv (pathD p) (pathD q) = decide (p = q) := by
  show PyData.eqvAll _ _ = _
  exact eqvAll_strs p q
theorem name_ok {z : Str} (h : nameB z = true) : PyData.strOk z = true := by
  unfold nameB allIn at h
  simp only [Bool.and_eq_true, List.all_eq_true, decide_eq_true_eq] at h
  exact str_ok fun c hc => letters_ok c (h.2 c hc)
theorem canLay_strs : ∀ {p : List Str}, (∀ z ∈ p, PyData.strOk z = true) → PyData.canLayAll0 (p.map .str) = true
  | [], _ => by simp [PyData.canLayAll0]
  | x :: p, h => by
    simp only [List.map_cons, PyData.canLayAll0, PyData.canLay0, Bool.and_eq_true]
    exact ⟨h x (List.mem_cons_self ..), canLay_strs fun z hz => h z (List.mem_cons_of_mem _ hz)⟩
theorem depth_strs : ∀ p : List Str, PyData.depthAll (p.map .str) = 0
  | [] => by simp [PyData.depthAll]
  | x :: p => by
    simp only [List.map_cons, PyData.depthAll, PyData.depth, depth_strs p]
    rfl
theorem shaped_path {p : List Str} (h : ∀ z ∈ p, PyData.strOk z = true) : SeqAt.shaped (pathD p) = true := by
  unfold SeqAt.shaped pathD
  rw [Bool.and_eq_true]
  refine ⟨by simp only [PyData.canLay0]; exact canLay_strs h, ?_⟩
  simp only [PyData.depth, depth_strs]
  decide
theorem dpAll_strs {K : PySem.W.Frag} {H : Hp} : ∀ p : List Str, DpAll K H (p.map V.str) (p.map .str)
  | [] => .nil
  | x :: p => .cons (.str x) (dpAll_strs p)
theorem PathAt.dp {K : PySem.W.Frag} {H : Hp} {a : Addr} {p : List Str} (h : PathAt K H a p) : Dp K H (.ref a) (pathD p) := .tup h (dpAll_strs p)
theorem PathAt.ex {K : PySem.W.Frag} {H H' : Hp} {a : Addr} {p : List Str} (x : Ex H H') (h : PathAt K H a p) : PathAt K H' a p := Ex.tup x h
theorem goodPath_names {p : List Str} (h : goodPath p = true) : p.length ≤ 5 ∧ ∀ z ∈ p, nameB z = true := by
  unfold goodPath at h
  simp only [Bool.and_eq_true, decide_eq_true_eq, List.all_eq_true] at h
  exact h
theorem goodPath_ok {p : List Str} (h : goodPath p = true) : ∀ z ∈ p, PyData.strOk z = true := fun z hz => name_ok ((goodPath_names h).2 z hz)
theorem goodPath_small {p : List Str} (h : goodPath p = true) : ∀ z ∈ p, z.length ≤ sizeLine := fun z hz => Nat.le_trans (nameB_small ((goodPath_names h).2 z hz)) (by decide)
theorem goodPath_of {p q : List Str} (h : goodPath p = true) (hl : q.length ≤ p.length) (hm : ∀ z ∈ q, z ∈ p) : goodPath q = true := by
  obtain ⟨h1, h2⟩ := goodPath_names h
  unfold goodPath
  rw [Bool.and_eq_true, decide_eq_true_eq, List.all_eq_true]
  exact ⟨Nat.le_trans hl h1, fun z hz => h2 z (hm z hz)⟩
theorem goodPath_take {p : List Str} (h : goodPath p = true) (n : Nat) : goodPath (p.take n) = true :=
  goodPath_of h (by rw [List.length_take]; omega) fun z hz => List.mem_of_mem_take hz
theorem goodPath_drop {p : List Str} (h : goodPath p = true) (n : Nat) : goodPath (p.drop n) = true :=
  goodPath_of h (by rw [List.length_drop]; omega) fun z hz => List.mem_of_mem_drop hz

/-! ### a list of ours that grows -/
theorem Ex.put {H0 H : Hp} {D : Addr} {o : HO} (x : Ex H0 H) (h : H0 D = none) : Ex H0 (upd H D o) := by
  constructor
  · intro b u e n
    rw [upd_ne (ne_of_none e h)]
    exact x.keep b u e n
  · rintro b ⟨ps, e, t⟩
    obtain ⟨qs, e2, t2⟩ := x.tab b ⟨ps, e, t⟩
    exact ⟨qs, by rw [upd_ne (ne_of_none e h)]; exact e2, t2⟩
  · intro b e
    by_cases hb : b = D
    · rw [hb]; exact h
    · rw [upd_ne hb] at e
      exact x.free b e
theorem sqT_put {K : PySem.W.Frag} {H : Hp} {a D : Addr} {o : HO} {xs ys : List V} (h : SqT K H a xs) (hD : H D = some (.lst ys)) : SqT K (upd H D o) a xs := by
  rcases h with (h | ⟨u, h⟩) | h
  · refine Or.inl (Or.inl ?_)
    rw [upd_ne (ne_of h hD (fun z => by cases z))]
    exact h
  · refine Or.inl (Or.inr ⟨u, ?_⟩)
    rw [upd_ne (ne_of h hD (fun z => by cases z))]
    exact h
  · exact Or.inr h
theorem pairImp {α β : Type} {F G : α → β → Prop} (f : ∀ a b, F a b → G a b) : ∀ {l : List α} {m : List β}, Paired F l m → Paired G l m
  | _, _, .nil => .nil
  | _, _, .cons h t => .cons (f _ _ h) (pairImp f t)
theorem pairSnoc {α β : Type} {F : α → β → Prop} {a : α} {b : β} (h : F a b) : ∀ {l : List α} {m : List β}, Paired F l m → Paired F (l ++ [a]) (m ++ [b])
  | _, _, .nil => .cons h .nil
  | _, _, .cons x t => .cons x (pairSnoc h t)
theorem cutV_to {xs : List V} (n : Nat) : cutV xs none (some (n : Int)) = xs.take n := by
  unfold cutV
  rw [HT.sIx_none, HT.sIx_nat, List.drop_zero, Nat.sub_zero]
  rcases Nat.le_total n xs.length with h | h
  · rw [Nat.min_eq_left h]
  · rw [Nat.min_eq_right h, List.take_length, List.take_of_length_le h]
theorem sIx_last (n : Nat) : HT.sIx n n (some (-1)) = n - 1 := by
  show (if (-1 : Int) < 0 then ((-1 : Int) + (n : Int)).toNat else min (-1 : Int).toNat n) = n - 1
  rw [if_pos (show (-1 : Int) < 0 by decide)]
  omega
theorem cutV_last {xs : List V} : cutV xs none (some (-1)) = xs.dropLast := by
  unfold cutV
  rw [HT.sIx_none, List.drop_zero, Nat.sub_zero, List.dropLast_eq_take, sIx_last]
theorem cutV_from {xs : List V} (n : Nat) : cutV xs (some (n : Int)) none = xs.drop n := by
  unfold cutV
  rw [HT.sIx_none, HT.sIx_nat]
  rcases Nat.le_total n xs.length with h | h
  · rw [Nat.min_eq_left h]
    exact List.take_of_length_le (by rw [List.length_drop]; omega)
  · rw [Nat.min_eq_right h, List.drop_length, List.drop_of_length_le h, List.take_nil]

/-! ### the law's town: a list of two numbers that each draw changes -/
def Town (tw : Addr) (H : Hp) : Prop := ∃ t0 t1 : Int, 0 ≤ t0 ∧ H tw = some (.lst [.int t0, .int t1])
/-- as Ex, but for the town -/
structure Ev (tw : Addr) (H H' : Hp) : Prop where
  keep : ∀ b o, b ≠ tw → H b = some o → (∀ ps, o ≠ .tbl ps) → H' b = some o
  tab : ∀ b, TabG H b → TabG H' b
  free : ∀ b, H' b = none → H b = none
  town : Town tw H'
theorem Ev.refl {tw : Addr} {H : Hp} (h : Town tw H) : Ev tw H H := ⟨fun _ _ _ h _ => h, fun _ h => h, fun _ h => h, h⟩
theorem Ev.trans {tw : Addr} {H H1 H2 : Hp} (a : Ev tw H H1) (b : Ev tw H1 H2) : Ev tw H H2 :=
  ⟨fun c o z h n => b.keep c o z (a.keep c o z h n) n, fun c h => b.tab c (a.tab c h), fun c h => a.free c (b.free c h), b.town⟩
theorem Town.ex {tw : Addr} {H H' : Hp} (h : Town tw H) (x : Ex H H') : Town tw H' := by
  obtain ⟨t0, t1, h0, e⟩ := h
  exact ⟨t0, t1, h0, x.keep _ _ e (fun ps z => by cases z)⟩
theorem Ex.ev {tw : Addr} {H H' : Hp} (x : Ex H H') (h : Town tw H) : Ev tw H H' := ⟨fun b o _ e n => x.keep b o e n, x.tab, x.free, h.ex x⟩
/-- the town is written -/
theorem Ev.write {tw : Addr} {H : Hp} {t0 t1 : Int} (h : Town tw H) (h0 : 0 ≤ t0) : Ev tw H (upd H tw (.lst [.int t0, .int t1])) := by
  obtain ⟨u0, u1, _, e⟩ := h
  constructor
  · intro b o hb e2 _
    rw [upd_ne hb]; exact e2
  · rintro b ⟨ps, e2, t⟩
    exact ⟨ps, by rw [upd_ne (ne_of e2 e (fun z => by cases z))]; exact e2, t⟩
  · intro b e2
    by_cases hb : b = tw
    · rw [hb, upd_same] at e2; cases e2
    · rw [upd_ne hb] at e2; exact e2
  · exact ⟨t0, t1, h0, upd_same⟩
theorem Ev.rd {tw : Addr} {H H' : Hp} {a : Addr} {u : HO} (x : Ev tw H H') (ha : a ≠ tw) (h : Rd H a u) (n : ∀ ps, u ≠ .tbl ps) : Rd H' a u := by
  rcases h with h | ⟨o, h⟩
  · exact Or.inl (x.keep _ _ ha h n)
  · exact Or.inr ⟨o, x.keep _ _ ha h (fun ps z => by cases z)⟩
theorem Ev.lst {K : PySem.W.Frag} {tw : Addr} {H H' : Hp} {a : Addr} {xs : List V} (x : Ev tw H H') (ha : a ≠ tw) (h : SqL K H a xs) : SqL K H' a xs := by
  rcases h with h | h
  · exact Or.inl (x.rd ha h (fun ps z => by cases z))
  · exact Or.inr h
/-- a tuple that stands is not the town -/
theorem Ev.tup {K : PySem.W.Frag} {tw : Addr} {H H' : Hp} {a : Addr} {xs : List V} (ht : Town tw H) (x : Ev tw H H') (h : SqT K H a xs) : SqT K H' a xs := by
  obtain ⟨u0, u1, _, e⟩ := ht
  rcases h with (h | ⟨o, h⟩) | h
  · exact Or.inl (Or.inl (x.keep _ _ (ne_of h e (fun z => by cases z)) h (fun ps z => by cases z)))
  · exact Or.inl (Or.inr ⟨o, x.keep _ _ (ne_of h e (fun z => by cases z)) h (fun ps z => by cases z)⟩)
  · exact Or.inr h
/-- the script and the town -/
structure Lw (K : PySem.W.Frag) (H : Hp) (sc tw : Addr) (ns : List Int) : Prop where
  at_ : (Rd H sc (.lst (ns.map V.int)) ∧ sc ≠ tw) ∨ ∀ G : Hp, SqL K G sc (ns.map V.int)
  town : Town tw H
  len : ns.length ≤ 63
theorem Lw.sq {K : PySem.W.Frag} {H : Hp} {sc tw : Addr} {ns : List Int} (h : Lw K H sc tw ns) : SqL K H sc (ns.map V.int) := by
  rcases h.at_ with q | q
  · exact Or.inl q.1
  · exact q H
theorem Lw.ev {K : PySem.W.Frag} {H H' : Hp} {sc tw : Addr} {ns : List Int} (h : Lw K H sc tw ns) (x : Ev tw H H') : Lw K H' sc tw ns := by
  refine ⟨?_, x.town, h.len⟩
  rcases h.at_ with q | q
  · exact Or.inl ⟨x.rd q.2 q.1 (fun ps z => by cases z), q.2⟩
  · exact Or.inr q
theorem Lw.ex {K : PySem.W.Frag} {H H' : Hp} {sc tw : Addr} {ns : List Int} (h : Lw K H sc tw ns) (x : Ex H H') : Lw K H' sc tw ns := h.ev (x.ev h.town)
/-- the town is made -/
theorem Lw.make {K : PySem.W.Frag} {H : Hp} {sc tw : Addr} {ns : List Int} (h : SqL K H sc (ns.map V.int)) (hl : ns.length ≤ 63) (ht : H tw = none) :
    Lw K (upd H tw (.lst [.int 0, .int 0])) sc tw ns := by
  refine ⟨?_, ⟨0, 0, Int.le_refl 0, upd_same⟩, hl⟩
  rcases h with e | e
  · have hne : sc ≠ tw := by
      rcases e with e | ⟨o, e⟩
      · exact ne_of_none e ht
      · exact ne_of_none e ht
    exact Or.inl ⟨(Ex.new ht).rd e (fun ps z => by cases z), hne⟩
  · exact Or.inr fun G => Or.inr e
theorem dpAll_ints {K : PySem.W.Frag} {H : Hp} : ∀ p : List Int, DpAll K H (p.map V.int) (p.map .int)
  | [] => .nil
  | x :: p => .cons (.int x) (dpAll_ints p)
theorem canLay_ints : ∀ p : List Int, PyData.canLayAll0 (p.map .int) = true
  | [] => by simp [PyData.canLayAll0]
  | x :: p => by simp only [List.map_cons, PyData.canLayAll0, PyData.canLay0, canLay_ints p, Bool.and_self]
theorem depth_ints : ∀ p : List Int, PyData.depthAll (p.map .int) = 0
  | [] => by simp [PyData.depthAll]
  | x :: p => by
    simp only [List.map_cons, PyData.depthAll, PyData.depth, depth_ints p]
    rfl
theorem shaped_ints (p : List Int) : SeqAt.shaped (.list (p.map .int)) = true := by
  unfold SeqAt.shaped
  rw [Bool.and_eq_true]
  refine ⟨by simp only [PyData.canLay0]; exact canLay_ints p, ?_⟩
  simp only [PyData.depth, depth_ints]
  decide
theorem shaped_nil : SeqAt.shaped (.list []) = true := shaped_ints []
theorem eqv_nil (p : List Int) : PyData.eqv (.list (p.map .int)) (.list []) = decide (p = []) := by
  cases p with
  | nil => simp [PyData.eqv, PyData.eqvAll]
  | cons x p => simp [PyData.eqv, PyData.eqvAll]

theorem Town.ne {tw D : Addr} {H : Hp} (h : Town tw H) (hD : H D = none) : D ≠ tw := by
  obtain ⟨u0, u1, _, e⟩ := h
  intro z
  rw [z, e] at hD
  cases hD
theorem Ev.put {tw D : Addr} {H0 H : Hp} {o : HO} (h0 : Town tw H0) (x : Ev tw H0 H) (h : H0 D = none) : Ev tw H0 (upd H D o) := by
  constructor
  · intro b u hb e n
    rw [upd_ne (ne_of_none e h)]
    exact x.keep b u hb e n
  · rintro b ⟨ps, e, t⟩
    obtain ⟨qs, e2, t2⟩ := x.tab b ⟨ps, e, t⟩
    exact ⟨qs, by rw [upd_ne (ne_of_none e h)]; exact e2, t2⟩
  · intro b e
    by_cases hb : b = D
    · rw [hb]; exact h
    · rw [upd_ne hb] at e
      exact x.free b e
  · obtain ⟨t0, t1, q, e⟩ := x.town
    exact ⟨t0, t1, q, by rw [upd_ne (Ne.symm (h0.ne h))]; exact e⟩

theorem PathAt.yes {K : PySem.W.Frag} {H : Hp} {a : Addr} {p : List Str} (h : PathAt K H a p) (g : goodPath p = true) : PathB K H (.ref a) true := by
  have := h.b (goodPath_small g)
  rwa [g] at this
theorem PathAt.ev {K : PySem.W.Frag} {tw : Addr} {H H' : Hp} {a : Addr} {p : List Str} (h : PathAt K H a p) (ht : Town tw H) (x : Ev tw H H') : PathAt K H' a p := Ev.tup ht x h
/-- lists of paths as data -/
theorem dpAll_paths {K : PySem.W.Frag} {H : Hp} : ∀ {rs : List Addr} {ps : List (List Str)}, Paired (fun r p => PathAt K H r p) rs ps → DpAll K H (rs.map V.ref) (ps.map pathD)
  | _, _, .nil => .nil
  | _, _, .cons h t => .cons h.dp (dpAll_paths t)
theorem PathsAt.dp {K : PySem.W.Frag} {H : Hp} {l : Addr} {ps : List (List Str)} (h : PathsAt K H l ps) : Dp K H (.ref l) (.list (ps.map pathD)) := by
  obtain ⟨rs, e, q⟩ := h
  exact .lst (SqL.of e) (dpAll_paths q)
theorem pairEx {K : PySem.W.Frag} {H H' : Hp} (x : Ex H H') {rs : List Addr} {ps : List (List Str)} (h : Paired (fun r p => PathAt K H r p) rs ps) : Paired (fun r p => PathAt K H' r p) rs ps := pairImp (fun _ _ q => q.ex x) h
theorem PathsAt.ex {K : PySem.W.Frag} {H H' : Hp} {l : Addr} {ps : List (List Str)} (x : Ex H H') (h : PathsAt K H l ps) : PathsAt K H' l ps := by
  obtain ⟨rs, e, q⟩ := h
  exact ⟨rs, x.keep _ _ e (fun ps z => by cases z), pairEx x q⟩
theorem canLay_paths : ∀ {ps : List (List Str)}, (∀ p ∈ ps, ∀ z ∈ p, PyData.strOk z = true) → PyData.canLayAll0 (ps.map pathD) = true
  | [], _ => by simp [PyData.canLayAll0]
  | x :: p, h => by
    simp only [List.map_cons, PyData.canLayAll0, PyData.canLay0, pathD, Bool.and_eq_true]
    exact ⟨canLay_strs (h x (List.mem_cons_self ..)), canLay_paths fun z hz => h z (List.mem_cons_of_mem _ hz)⟩
theorem depth_paths : ∀ ps : List (List Str), PyData.depthAll (ps.map pathD) ≤ 1
  | [] => by simp [PyData.depthAll]
  | x :: p => by
    have := depth_paths p
    have e : PyData.depth (pathD x) = 1 := by
      simp only [pathD, PyData.depth, depth_strs]
    rw [List.map_cons, PyData.depthAll, e]
    omega
theorem shaped_paths {ps : List (List Str)} (h : ∀ p ∈ ps, goodPath p = true) : SeqAt.shaped (.list (ps.map pathD)) = true := by
  unfold SeqAt.shaped
  rw [Bool.and_eq_true]
  refine ⟨by simp only [PyData.canLay0]; exact canLay_paths fun p hp => goodPath_ok (h p hp), ?_⟩
  have := depth_paths ps
  simp only [PyData.depth]
  exact decide_eq_true (by omega)
theorem eqv_same (d : PyData) (h : SeqAt.shaped d = true) : PyData.eqv d d = true := by
  unfold SeqAt.shaped at h
  exact SeqAt.eqv_refl d (Bool.and_eq_true _ _ ▸ h).1
theorem begs_good {p : List Str} (g : goodPath p = true) : ∀ q ∈ begs p, goodPath q = true := by
  intro q hq
  obtain ⟨i, _, rfl⟩ := List.mem_map.mp hq
  exact goodPath_take g i

/-- lists of texts as data -/
theorem shaped_strs {p : List Str} (h : ∀ z ∈ p, PyData.strOk z = true) : SeqAt.shaped (.list (p.map .str)) = true := by
  unfold SeqAt.shaped
  rw [Bool.and_eq_true]
  refine ⟨by simp only [PyData.canLay0]; exact canLay_strs h, ?_⟩
  simp only [PyData.depth, depth_strs]
  decide
theorem eqv_strs (p q : List Str) : PyData.eqv (.list (p.map .str)) (.list (q.map .str)) = decide (p = q) := by
  show PyData.eqvAll _ _ = _
  exact eqvAll_strs p q
theorem within_eq (p q : List Str) : (decide (p ≠ q) && decide (p.take q.length = q)) = (decide (q.length < p.length) && decide (p.take q.length = q)) := by
  by_cases h : p.take q.length = q
  · rw [decide_eq_true h, Bool.and_true, Bool.and_true]
    have hl : q.length ≤ p.length := by
      have := congrArg List.length h
      rw [List.length_take] at this
      omega
    by_cases e : p = q
    · subst e
      simp
    · rw [decide_eq_true (p := p ≠ q) e, decide_eq_true]
      refine Nat.lt_of_le_of_ne hl fun z => e ?_
      rw [← h, z, List.take_length]
  · rw [decide_eq_false h, Bool.and_false, Bool.and_false]

/-- both ways of a conditional expression come to the same -/
theorem tIf_both {ta tb : TE} {σ : L2.St} {H : Hp} {R : VK} {c : Bool} (S : V → Hp → Prop) (h1 : c = true → ∀ R' : VK, (∀ u G, S u G → R' u G) → ta σ H R') (h2 : c = false → ∀ R' : VK, (∀ u G, S u G → R' u G) → tb σ H R')
    (h : ∀ u G, S u G → R u G) : if c = true then ta σ H R else tb σ H R := by
  cases c with
  | true => rw [if_pos rfl]; exact h1 rfl R h
  | false => rw [if_neg Bool.false_ne_true]; exact h2 rfl R h

mutual
theorem Dp_ex {K : PySem.W.Frag} {H H' : Hp} (x : Ex H H') : ∀ {d : PyData} {v : V}, Dp K H v d → Dp K H' v d
  | _, _, .non => .non
  | _, _, .bl b => .bl b
  | _, _, .int i => .int i
  | _, _, .str z => .str z
  | _, _, .lst h k => .lst (x.lst h) (DpAll_ex x k)
  | _, _, .tup h k => .tup (x.tup h) (DpAll_ex x k)
theorem DpAll_ex {K : PySem.W.Frag} {H H' : Hp} (x : Ex H H') : ∀ {ds : List PyData} {vs : List V}, DpAll K H vs ds → DpAll K H' vs ds
  | _, _, .nil => .nil
  | _, _, .cons h k => .cons (Dp_ex x h) (DpAll_ex x k)
end

theorem Kn.ev {K : PySem.W.Frag} {tw : Addr} {H H' : Hp} {v : V} {n : String} (ht : Town tw H) (x : Ev tw H H') (hv : v ≠ .ref tw) (h : Kn K H v n) : Kn K H' v n := by
  have hne : ∀ a, v = .ref a → a ≠ tw := fun a e z => hv (by rw [e, z])
  cases h with
  | non => exact .non
  | bl b => exact .bl b
  | int i => exact .int i
  | str z => exact .str z
  | lst e => exact .lst (x.lst (hne _ rfl) e)
  | tup e => exact .tup (x.tup ht e)
  | dK e => exact .dK (x.keep _ _ (hne _ rfl) e (fun ps z => by cases z))
  | dT e => exact .dT (x.keep _ _ (hne _ rfl) e (fun ps z => by cases z))
  | dX e c => exact .dX (x.keep _ _ (hne _ rfl) e (fun ps z => by cases z)) c
theorem Asked.ev {K : PySem.W.Frag} {tw : Addr} {H H' : Hp} {v : V} (ht : Town tw H) (x : Ev tw H H') (hv : v ≠ .ref tw) (h : Asked K H v) : Asked K H' v := by
  obtain ⟨n, k, z⟩ := h
  exact ⟨n, k.ev ht x hv, z⟩
/-- a small number of small texts in a row -/
theorem blanks_ok : ∀ j : Nat, j < 21 → MulOk "x " (j : Int) ∧ textB (Txt.mul "x " (j : Int)) = true := by
  simp only [MulOk]
  decide +kernel

/-! ### the end: where code objects have tables -/
/-- what the head tells of the tables -/
def TabsOf (q : Program) (K : PySem.W.Frag) (h : Heap) : Prop := ∀ (x : Str) (d : DefRec) (c P : Addr), (recsOf q).find? (fun e => e.name == x) = some d → PySem.W.tabIn K x = some (c, P) →
  PySem.W.CodeHd h c P ∧ h.get? P = some (PySem.W.tabObj #[])
theorem noTab {K : PySem.W.Frag} {h : Heap} {P : Addr} (X : K.In h) (nt : PySem.W.noTabs K = true) (hP : h.get? P = some (PySem.W.tabObj #[])) : K.lookup P = none := by
  cases e : K.lookup P with
  | none => rfl
  | some o =>
    have e2 := X P o e
    rw [hP] at e2
    cases e2
    have h2 := List.all_eq_true.mp nt (P, _) (PySem.W.mem_of_lookupK e)
    exact absurd (show false = true from h2) Bool.false_ne_true
theorem walk_tabs {l : PySem.W.OpenLaw} {n k : Nat} {q : Program} {loose : List Str} {XP : (Str → Option Value) → Heap → Prop} {YP : World → Heap → Prop} {d : DefRec} {K : Params → PySem.W.Frag} {CX : World → CXT} {x : Str}
    (hn : l.most = some n) (hn2 : n ≤ sizeLine) (hdf : d.params.defaults = []) (hr : Room k callerA) (hY : ∀ (w : World) (h : Heap), YP w h → (K w.params).In h)
    (F : ∀ (w : World) (mg : Str → Option Value) (fa : Addr) (h : Heap), (K w.params).In h → h.Ns mainGlobals mg → mg d.name = some (.ref fa) → TabsOf q (K w.params) h → LamX.LawAtS l w (K w.params) (CX w) k n x mg fa h)
    (hCX : ∀ (w : World) (H : Hp) (s : Shared) (e : Value) (s' : Shared), CX w [] H s (fun _ _ _ => False) e s' → False) :
    PySem.W.WalkO q loose XP YP l.row.toRowW d [] (fun f vs => PySem.call f vs) := by
  refine Att.attach_callB hn hdf ?_
  intro w s₀ s₁ mg mb fa o pm cd doc a vs ns G Y ho hd hcd hmg hobj hints hlen hbits hg
  have KX := hY w _ Y
  have tabs : TabsOf q (K w.params) s₁.heap := fun x d c P h1 h2 => PySem.W.tab_of G.T KX h1 h2
  obtain ⟨fd, cs, sp, hT, nT, C, hb, hsp, hF⟩ := F w mg fa _ KX G.T.g hmg tabs
  refine LamX.law_callTs KX G.T.g G.T.b G.T.builtins G.T.nolimit hg hT nT C G.T.bmain hobj hints (Nat.le_trans hlen hn2) hr hF hb ?_ ?_
  · intro H hH hS
    exact hsp H a ns hlen hbits hH hS
  · intro H e s'
    exact hCX w H s₁ e s'

theorem tab_in {K : PySem.W.Frag} {x : Str} {f c P : Addr} {oc e : Value} {od dd : Option Addr} {fd : FuncData} {sl s2 : Array (Option Value)} {vs : Array Value} (a : PySem.W.nsIn K mainGlobals x = some (some (.ref f)))
    (l : K.lookup f = some ⟨oc, od, .func fd, sl⟩) (u : K.lookup c = some ⟨e, dd, .fields vs, s2⟩) (i : (vs[11]? : Option Value) = some (.ref P)) (hc : fd.code = .ref c := by rfl) : PySem.W.tabIn K x = some (c, P) := by
  unfold PySem.W.tabIn
  rw [a]
  simp only
  rw [l]
  simp only
  rw [hc]
  simp only
  rw [u]
  simp only
  rw [i]
end LT

/-! A def that the suite of an except clause calls, and that is handed the exception. -/
namespace LE
open PySem PySem.Spec PyProof.Rows L2 L2H

/-- the exception at a, of class cls -/
structure Caught (a : Addr) (oe : Obj) (cls : Value) (d : Option Addr) : Prop where
  z : Zc cls d oe
  f : ∃ vs, oe.data = .fields vs
abbrev SpE := Addr → Value → Option Addr → Sp
/-- what such a def promises -/
structure FnE (P : Program) (w : World) (K : PySem.W.Frag) (mg : Str → Option Value) (base : Heap)
    (CX : CXT) (k : Nat) (f : Addr) (fd : FuncData) (ps : List Str) (sp : SpE) : Prop where
  len : ∀ a c d vs H Q E, sp a c d vs H Q E → vs.length = ps.length
  run : ∀ (A : Around) (outer : List Env) (s : Shared) (H : Hp) (args : Args) (us : List Value) (vs : List V)
    (Q : VK) (E : XK) (a : Addr) (oe : Obj) (c : Value) (d : Option Addr), RoomH k A → Caught a oe c d → PinOk outer H s (a, oe) →
    Env0 P w K mg base A outer s H → BindsTo s fd args (ps.zip us) → Vals vs us → sp a c d vs H Q E →
    codeAny (model P w) A (.call (.ref f) args) (CR CX outer P w H s Q E) s

section
variable {CX : CXT} {P : Program} {w : World} {K : PySem.W.Frag} {mg : Str → Option Value} {base : Heap}
theorem fn_ofE {k : Nat} {f : Addr} {name qual : Str} {params : Arguments} {body : List Stmt} {scope : Scope}
    {dV kV doc pm cdv ct oc : Value} {an od : Option Addr} {osl : Array (Option Value)} {N ps : List Str} {sp : SpE}
    (lk : K.lookup f = some ⟨oc, od, .func (PySem.W.fnOf name qual params body scope dV kV doc pm an cdv ct), osl⟩)
    (hcd : PySem.W.codeIn K cdv qual = true) (S : FnScope N ps scope) (len : ∀ a c d vs H Q E, sp a c d vs H Q E → vs.length = ps.length)
    (hbody : ∀ (A : Around) (outer : List Env) (s : Shared) (H : Hp) (vs : List V) (Q : VK) (E : XK) (a : Addr) (oe : Obj) (c : Value) (d : Option Addr),
      Caught a oe c d → RoomH k (A.deeper (envOfC qual scope s.heap.objs.size f cdv)) → sp a c d vs H Q E →
      ∃ t, PSs (cxH CX P w K mg base N qual scope f cdv A outer s H E (a, oe)) body t ∧ t { nx := fun _ G => Q .non G, rt := Q } (L2.start N vs) H) :
    FnE P w K mg base CX (k + 1) f (PySem.W.fnOf name qual params body scope dV kV doc pm an cdv ct) ps sp := by
  refine ⟨len, ?_⟩
  intro A outer s H args us vs Q E a oe c d hr hc hpin e0 hb r hsp
  have hl := len _ _ _ _ _ _ _ hsp
  have KX : K.In s.heap := e0.mod.kin.keeps fun b o e => (e0.bs b o e).1
  have lim := e0.mod.nolimit.keeps fun b o e => (e0.bs b o e).1
  have hkind : ∀ y ∈ ps.zip us, scope.names.lookup y.1 = some .local ∨
      (scope.names.lookup y.1 = some .cell ∧ ((cellsFrom (s.heap.objs.size + 1) scope.names []).lookup y.1).isSome = true) := by
    rintro ⟨n, v⟩ hy
    rcases S.par n (List.of_mem_zip hy).1 with q | q
    · exact Or.inl q
    · exact Or.inr ⟨q, PySem.W.cellsFrom_some _ _ _ (Or.inl q)⟩
  refine codeAny_call_function hr.depth (KX _ _ lk) rfl S.co S.gen rfl (PySem.W.codeRec_of KX hcd) ?_
  refine hb _ _ _ _ ?_
  refine wpAny_newFunctionEnv_cells S.kind hkind ?_
  intro env he s1 x
  subst he
  refine ⟨lim.keeps x.toInCall.keep, ?_⟩
  refine codeAny_func ?_
  obtain ⟨t, ht, hq⟩ := hbody A outer s H vs Q E a oe c d hc (hr.deeper _) hsp
  have I := inv_startH (CX := CX) (P := P) (w := w) (K := K) (mg := mg) (base := base) (N := N) (E := E) S hpin e0 hl r x
  have fin : ∀ {τ : L2.St} {G : Hp} {y : V} {u : Value} {s' : Shared}, Inv (cxH CX P w K mg base N qual scope f cdv A outer s H E (a, oe)) [] τ G s' →
      RelV y u → Q y G → CE outer P w H s Q u s' := by
    intro τ G y u s' J rv q
    exact ⟨y, G, J.os, J.bare, J.base, J.hok, rv, q⟩
  refine wpAny_mono (ht.run [] s1 (L2.start N vs) H _ I hq) ?_ (fun _ _ z => z)
  intro fl s' hs
  cases fl with
  | next =>
    obtain ⟨τ, G, J, q⟩ := hs
    exact fin (y := V.non) (u := Value.none) J rfl q
  | ret u =>
    obtain ⟨y, τ, G, J, rv, q⟩ := hs
    exact fin J rv q
  | brk =>
    obtain ⟨_, _, _, q⟩ := hs
    exact q.elim
  | cont =>
    obtain ⟨_, _, _, q⟩ := hs
    exact q.elim
theorem okE {x qual : Str} {st : Stmt} {f : Addr} {fd : FuncData} {N ps : List Str} {k : Nat} {sp : SpE} (F : Fun K x qual st f fd) (S : FnScope N ps (defScope st))
    (len : ∀ a c d vs H Q E, sp a c d vs H Q E → vs.length = ps.length)
    (hbody : ∀ (cdv : Value) (A : Around) (outer : List Env) (s : Shared) (H : Hp) (vs : List V) (Q : VK) (E : XK) (a : Addr) (oe : Obj) (c : Value) (d : Option Addr),
      Caught a oe c d → RoomH k (A.deeper (envOfC qual (defScope st) s.heap.objs.size f cdv)) → sp a c d vs H Q E →
      ∃ t, PSs (cxH CX P w K mg base N qual (defScope st) f cdv A outer s H E (a, oe)) (defBody st) t ∧ t { nx := fun _ G => Q .non G, rt := Q } (L2.start N vs) H) :
    FnE P w K mg base CX (k + 1) f fd ps sp := by
  obtain ⟨⟨oc, od, kV, doc, pm, an, cdv, ct, osl, rfl, lk, hcd⟩, _⟩ := F
  exact fn_ofE lk hcd S len fun A outer s H vs Q E a oe c d => hbody cdv A outer s H vs Q E a oe c d
end

section
variable {X : Cx} {CX : CXT} {k : Nat} {f : Addr} {fd : FuncData} {ps : List Str} {sp : SpE} {E : L2.St → XK} {x : Str} {q pos : Pos} {e : Expr} {es : List Expr} {t : TA}
  {a : Addr} {oe : Obj} {c : Value} {d : Option Addr}
theorem pe_callE (F : FnE X.prog X.w X.K X.mg X.base CX k f fd ps sp) (hr : RoomH k X.A) (hc : Caught a oe c d) (hp : (a, oe) ∈ X.pn) (hg : Gl X x)
    (hm : X.mg x = some (.ref f)) (hk : PySem.W.keepIn X.K (.ref f) = true) (hb : Binds X.K fd ps []) (hx : ∀ σ, PassesAt CX X σ (E σ)) (ha : PA X (e :: es) t)
    (hdb : (x == ("__debug__" : Str)) = false := by decide) (he : starEach (e :: es) X.env = (false, eval e X.env) :: starEach es X.env := by rfl)
    (hpl : (backTo pos (starEach es X.env)).any (·.1) = false := by rfl) : PE X (.Call (.Name x q) (e :: es) [] pos) (tCallS (sp a c d) E t) := by
  constructor
  intro pins s σ H Q I h
  refine wpAny_Call_Name_kw (ld_glob I hg hm ?_ hdb)
  refine PySem.W.callWith_K (h₀ := X.base) I.ok.mod.kin hk (thn (ha.run pos pins s σ H _ I h) ?_) he hpl
  rintro us s1 ⟨vs, H1, J, r, g⟩
  refine ⟨J.kIn, ?_⟩
  have hl : us.length = ps.length := by
    rw [← r.length]
    exact F.len _ _ _ _ _ _ _ g
  have b := hb s1 us J.kIn (by rw [List.append_nil]; exact hl)
  rw [List.append_nil] at b
  have pin := J.pin (a, oe) (List.mem_append_left _ hp)
  have hpin : PinOk X.stack H1 s1 (a, oe) := by
    refine ⟨pin.1, pin.2.1, fun hm => ?_, pin.2.2.2.2⟩
    exact (List.mem_cons.mp (J.stkSub a hm)).elim pin.2.2.1 pin.2.2.2.1
  refine wpAny_call (codeAny_mono (F.run X.A X.stack s1 H1 ⟨us, []⟩ us vs Q (E σ) a oe c d hr hc hpin J.env0 b r g) ?_)
  intro z s' hq
  cases z with
  | error u => exact hx σ pins H1 s1 u s' J hq
  | ok fl =>
    cases fl with
    | ret u => exact J.after hq
    | next => exact hq.elim
    | brk => exact hq.elim
    | cont => exact hq.elim
/-- isinstance of the exception that is pinned -/
theorem call_isP {D : Addr} (C : ExcC X.K D) (hc : Caught a oe (.ref D) none) (hp : (a, oe) ∈ X.pn) : CallR X (.builtin "isinstance") (rIsE X.K D a) := by
  rintro pins s σ H xs us Q I r ⟨y, yv, b, rfl, hy, e, g⟩
  obtain ⟨u1, u2, rfl, r1, r2⟩ := vals2 r
  obtain rfl : u1 = Value.ref a := r1
  obtain rfl := hy _ r2
  have pin := I.pin (a, oe) (List.mem_append_left _ hp)
  have J : PySem.W.InstAt s.heap a oe D none := by
    obtain ⟨⟨h1, h2⟩, vs, hv⟩ := hc
    have h0 := pin.1
    cases oe with
    | mk oc od oda osl =>
      dsimp only at h1 h2 hv
      subst h1 h2 hv
      exact ⟨h0, rfl, rfl, trivial⟩
  refine PySem.W.kia_one (PySem.W.handS_kitx_exc C.hg C.hk C.hs C.hd C.ha C.hn C.ht C.hm) I.kIn J e (fun z => nomatch z) ?_
  intro tk
  exact ⟨.bl b, H, I.tok tk, rfl, g⟩
end

/-! ### how often a flat thing stands in a list of flat things -/
def rCntF (K : PySem.W.Frag) : V → List V → Hp → VK → Prop := fun x xs H Q => ∃ (p : Addr) (ys : List V) (y : V), x = .ref p ∧ xs = [y] ∧
  SqL K H p ys ∧ flatV y = true ∧ ys.all flatV = true ∧ Q (.int (ys.countP fun z => eqV z y : Nat)) H
theorem countF {y : V} : ∀ {ys : List V} {us : List Value}, Vals ys us → ys.all flatV = true → us.countP (eqU y) = ys.countP fun z => eqV z y
  | [], [], _, _ => rfl
  | x :: ys, u :: us, h, f => by
    cases h with
    | cons r t =>
      rw [List.all_cons, Bool.and_eq_true] at f
      rw [List.countP_cons, List.countP_cons, eqU_of r f.1, countF t f.2]
theorem mt_countF {X : Cx} : MtR X "list.count" (rCntF X.K) := by
  rintro pins s σ H x xs v us Q I rx rxs ⟨p, ys, y, rfl, rfl, hs, fy, fys, g⟩
  cases rx
  obtain ⟨u, rfl, ru⟩ := rxs.one
  obtain ⟨its, rv, ⟨⟨cls, dd, data, sl⟩, n, ho, hc, hdn, hd⟩, _⟩ := I.list hs
  simp only at hc hd
  subst hc hd
  refine call_meets PySem.F.slot_list_count ⟨_, ho, rfl⟩ PySem.F.entry_list_count (PySem.F.args_list_count_2 _ _) (SeqAt.list_countAt p its.toArray n dd sl u (eqU y)) ?_
  refine ⟨ho, fun z hz => mem_eqAt ru fy rv fys z (by simpa using hz), ?_⟩
  refine ⟨.int (ys.countP fun z => eqV z y : Nat), H, I.tok _, ⟨s.toks, ?_⟩, g⟩
  show Value.int ((its.toArray.toList.countP (eqU y) : Nat) : Int) s.toks = _
  rw [show its.toArray.toList = its from rfl, countF rv fys]

/-! ### a call of what stands at a place: xs[i](...) -/
/-- what may stand there -/
structure HeldX (X : Cx) (CX : CXT) (k : Nat) (f : Addr) (sp : Sp) : Prop where
  ex : ∃ (fd : FuncData) (ps : List Str), FnOk X.prog X.w X.K X.mg X.base CX k f fd ps sp ∧ PySem.W.keepIn X.K (.ref f) = true ∧ Binds X.K fd ps []
def tCallC (S : Addr → Sp → Prop) (tc : TE) (E : L2.St → XK) (t : TA) : TE := fun σ H Q => tc σ H fun x H1 => ∃ f sp, x = .ref f ∧ S f sp ∧ t σ H1 fun vs H2 => sp vs H2 Q (E σ)
section
variable {X : Cx} {CX : CXT} {k : Nat} {S : Addr → Sp → Prop} {E : L2.St → XK} {p pos : Pos} {o i e : Expr} {es : List Expr} {tc : TE} {t : TA}
theorem pe_callC (A : ∀ f sp, S f sp → HeldX X CX k f sp) (hr : Room k X.A) (hc : PE X (.Subscript o i p) tc) (hx : ∀ σ, PassesAt CX X σ (E σ)) (ha : PA X (e :: es) t)
    (he : starEach (e :: es) X.env = (false, eval e X.env) :: starEach es X.env := by rfl) (hpl : (backTo pos (starEach es X.env)).any (·.1) = false := by rfl) :
    PE X (.Call (.Subscript o i p) (e :: es) [] pos) (tCallC S tc E t) := by
  constructor
  intro pins s σ H Q I h
  have ev : eval (.Call (.Subscript o i p) (e :: es) [] pos) X.env = (do
      let f ← eval (.Subscript o i p) X.env
      callWith pos f [] (backTo pos (starEach (e :: es) X.env)) (backToKw pos (keywordEach [] X.env))) := rfl
  rw [ev]
  refine wpAny_bind (thn (hc.run pins s σ H _ I h) ?_)
  rintro u s1 ⟨x, H1, J, r, f, sp, rfl, hs, ht⟩
  cases r
  obtain ⟨fd, ps, F, hk, hb⟩ := (A f sp hs).ex
  refine PySem.W.callWith_K (h₀ := X.base) J.ok.mod.kin hk (thn (ha.run pos pins s1 σ H1 _ J ht) ?_) he hpl
  rintro us s2 ⟨vs, H2, J2, r2, g⟩
  exact ⟨J2.kIn, run_fnS F hr hb (hx σ) J2 r2 g⟩
end
end LE

namespace LK
open PySem PySem.Spec PyProof.Rows L2 GA LT LE L2H
def topS (i : Nat) : Stmt := PySem.Challenge.pw_laidtrees_k02_paths_refused.main.body.getD i (.Pass ⟨0, 0, 0, 0⟩)
abbrev sIsName : Stmt := topS 23
abbrev sIsPath : Stmt := topS 24
abbrev sCheckPath : Stmt := topS 25
abbrev sAbove : Stmt := topS 26
abbrev sBegins : Stmt := topS 27
abbrev sWithin : Stmt := topS 28
abbrev sBeginnings : Stmt := topS 29
abbrev sDraw : Stmt := topS 31
abbrev sPick : Stmt := topS 32
abbrev sNoPath : Stmt := topS 33
abbrev sWhich : Stmt := topS 34
abbrev sAsk : Stmt := topS 35
abbrev sLaw : Stmt := topS 36
/-- what the module's names hold: those that paths.py asks -/
structure Mg (mg : Str → Option Value) : Prop where
  isinstance : mg "isinstance" = none
  str : mg "str" = none
  tuple : mg "tuple" = none
  len : mg "len" = none
  all : mg "all" = none
  range : mg "range" = none
  letters : ∃ t, mg "LETTERS" = some (.str lettersS t)
  mostLetters : ∃ t, mg "MOST_LETTERS" = some (.int 4 t)
  mostNames : ∃ t, mg "MOST_NAMES" = some (.int 5 t)

def spIsName (K : PySem.W.Frag) (P1 : Addr) : Sp := fun vs H Q _ => ∃ v, vs = [v] ∧ Asked K H v ∧ TabG H P1 ∧ ∀ H', Ex H H' → Q (.bl (isNameV v)) H'
/-- a call that is handed a thing: it is a path or not -/
def spIsPath (K : PySem.W.Frag) (P1 P2 : Addr) : Sp := fun vs H Q _ => ∃ v b, vs = [v] ∧ PathB K H v b ∧ TabG H P1 ∧ TabG H P2 ∧ ∀ H', Ex H H' → Q (.bl b) H'
/-- C: the class that is raised -/
def spCheck (K : PySem.W.Frag) (P1 P2 C : Addr) : Sp := fun vs H Q E => ∃ v b, vs = [v] ∧ PathB K H v b ∧ TabG H P1 ∧ TabG H P2 ∧
  (b = true → ∀ H', Ex H H' → Q .non H') ∧ (b = false → ∀ H', Ex H H' → E (.ref C) none H')
/-- the thing is no path, and is refused; or it is the path p, of which R holds -/
def PathOr (K : PySem.W.Frag) (H : Hp) (v : V) (bad : Prop) (R : Addr → List Str → Prop) : Prop :=
  (PathB K H v false ∧ bad) ∨ ∃ a p, v = .ref a ∧ PathAt K H a p ∧ goodPath p = true ∧ R a p
def Refused (H : Hp) (E : XK) (C : Addr) : Prop := ∀ H', Ex H H' → E (.ref C) none H'
def spAbove (K : PySem.W.Frag) (P1 P2 C : Addr) : Sp := fun vs H Q E => ∃ v, vs = [v] ∧ TabG H P1 ∧ TabG H P2 ∧
  PathOr K H v (Refused H E C) fun _ p => ∀ H' r, Ex H H' → (p = [] ∧ r = .non ∨ p ≠ [] ∧ ∃ q, r = .ref q ∧ PathAt K H' q p.dropLast) → Q r H'
def beginsB (p q : List Str) : Bool := decide (p.take q.length = q)
def withinB (p q : List Str) : Bool := decide (p ≠ q) && beginsB p q
def spBegins (K : PySem.W.Frag) : Sp := fun vs H Q _ => ∃ a b p q, vs = [.ref a, .ref b] ∧ PathAt K H a p ∧ PathAt K H b q ∧ goodPath p = true ∧ goodPath q = true ∧ ∀ H', Ex H H' → Q (.bl (beginsB p q)) H'
def spWithin (K : PySem.W.Frag) (P1 P2 C : Addr) : Sp := fun vs H Q E => ∃ u v, vs = [u, v] ∧ TabG H P1 ∧ TabG H P2 ∧
  PathOr K H u (Refused H E C) fun _ p => PathOr K H v (Refused H E C) fun _ q => ∀ H', Ex H H' → Q (.bl (withinB p q)) H'
def spBeginnings (K : PySem.W.Frag) (P1 P2 C : Addr) : Sp := fun vs H Q E => ∃ v, vs = [v] ∧ TabG H P1 ∧ TabG H P2 ∧
  PathOr K H v (Refused H E C) fun _ p => ∀ H' l, Ex H H' → PathsAt K H' l (begs p) → Q (.ref l) H'
/-- a class of refusals -/
structure Ref (K : PySem.W.Frag) (mg : Str → Option Value) (nm : Str) (C : Addr) : Prop where
  g : mg nm = some (.ref C)
  x : PySem.W.excIn K C [.type "ValueError", .type "Exception", .type "BaseException", .type "object"] "ValueError.__new__" = true
  k : PySem.W.keepIn K (.ref C) = true
  b : PySem.W.subIn K (.ref C) (.type "BaseException") = some true
  t : PySem.W.typeIn K (.ref C) = some (.type "type")

section
variable {P : Program} {w : World} {K : PySem.W.Frag} {mg : Str → Option Value} {base : Heap}
theorem scIsName : FnScope ["thing"] ["thing"] (defScope sIsName) := ⟨rfl, rfl, rfl, by decide +kernel, rfl, by decide +kernel, by decide +kernel⟩
theorem ok_isName {f c P1 : Addr} {fd : FuncData} (F : FunC K "is_name" "is_name" sIsName f fd c) (M : Mg mg) (TB : LamX.TabB base mg c P1) : FnOk P w K mg base CX0 3 f fd ["thing"] (spIsName K P1) := by
  refine F.ok scIsName (fun vs H Q E h => ?_) (fun A outer s H vs Q E hr h => ?_)
  · obtain ⟨v, rfl, _⟩ := h
    rfl
  · obtain ⟨v, rfl, ⟨n, kn, hz⟩, hT, k⟩ := h
    obtain ⟨tl, hl⟩ := M.letters
    obtain ⟨tm, hm⟩ := M.mostLetters
    refine ⟨_, pss_cons (ps_if (PW.pt (pw_or (pt_not (pt_val (pe_callB call_is (by rfl) M.isinstance boot_isinstance (pa_cons (pv 0) (pa_cons (pe_bltn (v := .ty "str") (by rfl) M.str (by decide +kernel) rfl) pa_nil)))))
        (pw_or1 (pt_not (pt_chain op_le op_le pe_int (pe_callB call_len_str (by rfl) M.len PySem.boot_len (pa_cons (pv 0) pa_nil)) (pe_glob (v := .int 4) (by rfl) hm ⟨_, rfl⟩)))))) (pss_one (ps_ret pe_bl)) pss_nil)
      (pss_one (ps_ret (pe_all (k := 1) (N := ["thing", "letter"]) (pad := 1) (j := 1) (x := "letter") (P := P1) hr rfl (by rfl) M.all TB rfl (gn_by (N0 := ["thing"]) (sc := defScope sIsName) (by decide +kernel)) (pi_str (pv 0))
        (fun A s H cl C code fp pn hr => pe_cmpR op_in_sign (pv 1) (pe_glob (v := .str lettersS) (by rfl) hl ⟨_, rfl⟩) (by rfl))))), ?_⟩
    refine ⟨_, rfl, v, n, "str", rfl, kn, rfl, _, rfl, ?_⟩
    have done : isNameV v = false → Q (.bl false) H := fun e => by
      have := k H (Ex.refl H)
      rwa [e] at this
    by_cases hs : n = "str"
    · subst hs
      obtain ⟨z, rfl⟩ : ∃ z, v = .str z := kn.isStr
      rw [show isB "str" "str" = true by decide]
      refine iteF ?_
      refine ⟨_, rfl, z, rfl, hz z rfl, _, _, rfl, rfl, _, rfl, ?_⟩
      by_cases h1 : (1 : Int) ≤ z.length
      · rw [decide_eq_true h1]
        refine iteT ⟨_, _, rfl, rfl, _, rfl, ?_⟩
        by_cases h4 : (z.length : Int) ≤ 4
        · rw [decide_eq_true h4]
          refine iteF ⟨_, rfl, z, rfl, hT, fun H2 hT2 => gw_str (fun c => decide (c ∈ lettersS.cps.toList)) (fun c H3 x R hR => ⟨_, rfl, c, lettersS, rfl, rfl, hR⟩) fun H3 x => ?_⟩
          have := k H3 ((Ex.tabd hT2 hT).trans x)
          rwa [show isNameV (.str z) = z.cps.toList.all (fun c => decide (c ∈ lettersS.cps.toList)) by
            show (decide (1 ≤ z.length) && decide (z.length ≤ 4) && allIn z lettersS) = _
            rw [decide_eq_true (by omega), decide_eq_true (by omega)]
            rfl] at this
        · rw [decide_eq_false h4]
          refine iteT (done ?_)
          show (decide (1 ≤ z.length) && decide (z.length ≤ 4) && allIn z lettersS) = _
          rw [decide_eq_false (p := z.length ≤ 4) (by omega), Bool.and_false, Bool.false_and]
      · rw [decide_eq_false h1]
        refine iteF ⟨_, rfl, iteT (done ?_)⟩
        show (decide (1 ≤ z.length) && decide (z.length ≤ 4) && allIn z lettersS) = _
        rw [decide_eq_false (p := 1 ≤ z.length) (by omega), Bool.false_and, Bool.false_and]
    · rw [kn.notStr hs]
      refine iteT ?_
      exact done (kn.noName hs)
theorem scIsPath : FnScope ["thing"] ["thing"] (defScope sIsPath) := ⟨rfl, rfl, rfl, by decide +kernel, rfl, by decide +kernel, by decide +kernel⟩
theorem ok_isPath {f c f1 P1 P2 : Addr} {fd fd1 : FuncData} (F : FunC K "is_path" "is_path" sIsPath f fd c) (M : Mg mg) (TB : LamX.TabB base mg c P2)
    (G1 : FnOk P w K mg base CX0 3 f1 fd1 ["thing"] (spIsName K P1)) (m1 : mg "is_name" = some (.ref f1)) (k1 : PySem.W.keepIn K (.ref f1) = true) (b1 : Binds K fd1 ["thing"] []) :
    FnOk P w K mg base CX0 5 f fd ["thing"] (spIsPath K P1 P2) := by
  refine F.ok scIsPath (fun vs H Q E h => ?_) (fun A outer s H vs Q E hr h => ?_)
  · obtain ⟨v, b, rfl, _⟩ := h
    rfl
  · obtain ⟨v, b, rfl, pb, hT1, hT2, k⟩ := h
    obtain ⟨tm, hm⟩ := M.mostNames
    refine ⟨_, pss_cons (ps_if (PW.pt (pw_or (pt_not (pt_val (pe_callB call_is (by rfl) M.isinstance boot_isinstance (pa_cons (pv 0) (pa_cons (pe_bltn (v := .ty "tuple") (by rfl) M.tuple (by decide +kernel) rfl) pa_nil)))))
        (pw_or1 (pt_cmpR op_gt (pe_callB call_len_seq (by rfl) M.len PySem.boot_len (pa_cons (pv 0) pa_nil)) (pe_glob (v := .int 5) (by rfl) hm ⟨_, rfl⟩) (nomark _))))) (pss_one (ps_ret pe_bl)) pss_nil)
      (pss_one (ps_ret (pe_all (k := 3) (N := ["thing", "name"]) (pad := 1) (j := 1) (x := "name") (P := P2) hr rfl (by rfl) M.all TB rfl (gn_by (N0 := ["thing"]) (sc := defScope sIsPath) (by decide +kernel)) (pi_tup (pv 0))
        (fun A s H cl C code fp pn hr => pe_call (E := E0) G1 hr (by rfl) m1 k1 b1 .nil pass0 (pa_cons (pv 1) pa_nil))))), ?_⟩
    cases pb with
    | oth kn hn =>
      rename_i n
      refine ⟨_, rfl, v, n, "tuple", rfl, kn, rfl, _, rfl, ?_⟩
      rw [kn.notTup hn]
      exact iteT (k H (Ex.refl H))
    | tup e q =>
      rename_i a xs
      refine ⟨_, rfl, .ref a, "tuple", "tuple", rfl, .tup e, rfl, _, rfl, ?_⟩
      rw [show isB "tuple" "tuple" = true by decide]
      refine iteF ⟨_, rfl, a, xs, rfl, .inr e, _, _, rfl, rfl, _, rfl, ?_⟩
      by_cases h5 : (5 : Int) < xs.length
      · rw [decide_eq_true h5]
        refine iteT ?_
        have := k H (Ex.refl H)
        rwa [decide_eq_false (p := xs.length ≤ 5) (by omega), Bool.false_and] at this
      · rw [decide_eq_false h5]
        refine iteF ⟨_, rfl, a, rfl, ⟨xs, e⟩, hT2, fun H2 hT => ?_⟩
        have x2 := Ex.tabd hT hT2
        refine gw_tup isNameV (x2.tup e) (fun y H3 hy x3 R hR => ?_) fun H3 x3 => ?_
        · exact ⟨_, rfl, y, rfl, (q y hy).ex (x2.trans x3), (x2.trans x3).tab _ hT1, fun H4 x4 => hR H4 (x3.trans x4)⟩
        · have := k H3 (x2.trans x3)
          rwa [decide_eq_true (p := xs.length ≤ 5) (by omega), Bool.true_and] at this
theorem scCheckPath : FnScope ["thing"] ["thing"] (defScope sCheckPath) := ⟨rfl, rfl, rfl, by decide +kernel, rfl, by decide +kernel, by decide +kernel⟩
theorem ok_checkPath {f f2 P1 P2 C : Addr} {fd fd2 : FuncData} (F : Fun K "check_path" "check_path" sCheckPath f fd) (R : Ref K mg "NoPath" C)
    (G2 : FnOk P w K mg base CX0 5 f2 fd2 ["thing"] (spIsPath K P1 P2)) (m2 : mg "is_path" = some (.ref f2)) (k2 : PySem.W.keepIn K (.ref f2) = true) (b2 : Binds K fd2 ["thing"] []) :
    FnOk P w K mg base (L2.CX P w) 6 f fd ["thing"] (spCheck K P1 P2 C) := by
  refine F.okX scCheckPath (fun vs H Q E h => ?_) (fun cdv A outer s H vs Q E hr h => ?_)
  · obtain ⟨v, b, rfl, _⟩ := h
    rfl
  · obtain ⟨v, b, rfl, pb, hT1, hT2, kt, kf⟩ := h
    refine ⟨_, pss_one (ps_if (pt_not (pt_val (pe_call (E := E0) G2 hr (by rfl) m2 k2 b2 .nil pass0 (pa_cons (pv 0) pa_nil))))
      (pss_one (ps_raise rfl (takes_of rfl rfl rfl rfl) (pmk_own PySem.F.excBase_ValueError R.x R.g R.k (raises_own R.b R.t) rfl))) pss_nil), ?_⟩
    refine ⟨_, rfl, v, b, rfl, pb, hT1, hT2, fun H' x => ⟨_, rfl, ?_⟩⟩
    cases b with
    | true => exact iteF (kt rfl H' x)
    | false => exact iteT (kf rfl H' x)
theorem scAbove : FnScope ["path"] ["path"] (defScope sAbove) := ⟨rfl, rfl, rfl, by decide +kernel, rfl, by decide +kernel, by decide +kernel⟩
theorem ok_above {f f3 P1 P2 C : Addr} {fd fd3 : FuncData} (F : Fun K "above" "above" sAbove f fd)
    (G3 : FnOk P w K mg base (L2.CX P w) 6 f3 fd3 ["thing"] (spCheck K P1 P2 C)) (m3 : mg "check_path" = some (.ref f3)) (k3 : PySem.W.keepIn K (.ref f3) = true) (b3 : Binds K fd3 ["thing"] []) :
    FnOk P w K mg base (L2.CX P w) 7 f fd ["path"] (spAbove K P1 P2 C) := by
  refine F.okX scAbove (fun vs H Q E h => ?_) (fun cdv A outer s H vs Q E hr h => ?_)
  · obtain ⟨v, rfl, _⟩ := h
    rfl
  · obtain ⟨v, rfl, hT1, hT2, h⟩ := h
    refine ⟨_, pss_cons (ps_expr (pe_call (E := E) G3 hr (by rfl) m3 k3 b3 .nil (passes_call (takes_of rfl rfl rfl rfl) (fun _ _ _ _ h => h)) (pa_cons (pv 0) pa_nil)))
      (pss_one (ps_ret (pe_ifExp (pt_truth (pv 0) (by intro _; rfl)) (pe_slice sl_tupA (pv 0) po_none (po_some (pe_un un_neg pe_int))) pe_non))), ?_⟩
    rcases h with ⟨pb, hbad⟩ | ⟨a, p, rfl, pa, gp, k⟩
    · exact ⟨_, rfl, v, false, rfl, pb, hT1, hT2, (fun z => nomatch z), fun _ => hbad⟩
    · have pb := pa.b (goodPath_small gp)
      rw [gp] at pb
      refine ⟨_, rfl, .ref a, true, rfl, pb, hT1, hT2, fun _ H' x => ?_, fun z => nomatch z⟩
      have pa' := pa.ex x
      refine ⟨_, rfl, _, .inr (.inl ⟨p.map V.str, pa', rfl⟩), ?_⟩
      cases p with
      | nil => exact iteF (k H' _ x (.inl ⟨rfl, rfl⟩))
      | cons z q =>
        refine iteT ⟨_, rfl, 1, rfl, _, rfl, a, _, rfl, pa', fun hw => ?_, fun _ r hr => ?_⟩
        · exfalso
          have h2 := hw.2
          rw [sIx_last] at h2
          simp only [List.length_map, List.length_cons] at h2
          omega
        · have x2 := Ex.new (o := .tup (cutV ((z :: q).map V.str) none (some (-1)))) hr
          refine k _ _ (x.trans x2) (.inr ⟨by simp, r, rfl, ?_⟩)
          show SqT K _ r ((z :: q).dropLast.map V.str)
          refine SqT.of ?_
          rw [upd_same]
          have e : cutV ((z :: q).map V.str) none (some (-1)) = (z :: q).dropLast.map V.str := by rw [cutV_last, List.map_dropLast]
          exact congrArg (fun l => some (HO.tup l)) e
theorem scBegins : FnScope ["path", "other"] ["path", "other"] (defScope sBegins) := ⟨rfl, rfl, rfl, by decide +kernel, rfl, by decide +kernel, by decide +kernel⟩
/-- path[:n] -/
theorem slice_to {H : Hp} {a : Addr} {p : List Str} (n : Nat) (pa : PathAt K H a p) {R : VK} (h : ∀ H' r, Ex H H' → PathAt K H' r (p.take n) → R (.ref r) H') : rSlA K (.ref a) none (some (n : Int)) H R := by
  refine ⟨a, _, rfl, pa, fun hw => h H a (Ex.refl H) ?_, fun _ r hr => h _ r (Ex.new hr) ?_⟩
  · have h2 := hw.2
    rw [HT.sIx_nat, List.length_map] at h2
    rw [List.take_of_length_le (by omega)]
    exact pa
  · refine SqT.of ?_
    rw [upd_same, cutV_to, List.map_take]
theorem slice_from {H : Hp} {a : Addr} {p : List Str} (n : Nat) (pa : PathAt K H a p) {R : VK} (h : ∀ H' r, Ex H H' → PathAt K H' r (p.drop n) → R (.ref r) H') : rSlA K (.ref a) (some (n : Int)) none H R := by
  refine ⟨a, _, rfl, pa, fun hw => h H a (Ex.refl H) ?_, fun _ r hr => h _ r (Ex.new hr) ?_⟩
  · have h2 := hw.1
    rw [HT.sIx_nat, List.length_map] at h2
    cases n with
    | zero => exact pa
    | succ n =>
      have hp : p = [] := by
        cases p with
        | nil => rfl
        | cons z q => simp at h2
      subst hp
      exact pa
  · refine SqT.of ?_
    rw [upd_same, cutV_from, List.map_drop]
theorem slice_fromN {H : Hp} {a : Addr} {p : List Str} {σ : L2.St} (n : Nat) (pa : PathAt K H a p) {R : VK} (h : ∀ H' r, Ex H H' → PathAt K H' r (p.drop n) → R (.ref r) H') :
    tNoPart σ H (fun u H3 => rSlA K (.ref a) (some (n : Int)) u H3 R) := slice_from n pa h
theorem ok_begins {f : Addr} {fd : FuncData} (F : Fun K "begins_with" "begins_with" sBegins f fd) (M : Mg mg) : FnOk P w K mg base CX0 1 f fd ["path", "other"] (spBegins K) := by
  refine F.ok scBegins (fun vs H Q E h => ?_) (fun cdv A outer s H vs Q E hr h => ?_)
  · obtain ⟨a, b, p, q, rfl, _⟩ := h
    rfl
  · obtain ⟨a, b, p, q, rfl, pa, pb, gp, gq, k⟩ := h
    refine ⟨_, pss_one (ps_ret (pe_cmpR (op_eqD hr.units) (pe_slice sl_tupA (pv 0) po_none (po_some (pe_callB call_len_seq (by rfl) M.len PySem.boot_len (pa_cons (pv 1) pa_nil)))) (pv 1) (nomark _))), ?_⟩
    refine ⟨_, rfl, _, rfl, b, _, rfl, .inr pb, _, rfl, ?_⟩
    rw [List.length_map]
    refine slice_to q.length pa fun H' r x pr => ?_
    refine ⟨_, rfl, pathD (p.take q.length), pathD q, pr.dp, (pb.ex x).dp, shaped_path (goodPath_ok (goodPath_take gp _)), shaped_path (goodPath_ok gq), ?_⟩
    rw [eqv_path]
    exact k H' x
theorem scWithin : FnScope ["path", "other"] ["path", "other"] (defScope sWithin) := ⟨rfl, rfl, rfl, by decide +kernel, rfl, by decide +kernel, by decide +kernel⟩
theorem ok_within {f f3 f4 P1 P2 C : Addr} {fd fd3 fd4 : FuncData} (F : Fun K "is_within" "is_within" sWithin f fd)
    (G3 : FnOk P w K mg base (L2.CX P w) 6 f3 fd3 ["thing"] (spCheck K P1 P2 C)) (m3 : mg "check_path" = some (.ref f3)) (k3 : PySem.W.keepIn K (.ref f3) = true) (b3 : Binds K fd3 ["thing"] [])
    (G4 : FnOk P w K mg base CX0 1 f4 fd4 ["path", "other"] (spBegins K)) (m4 : mg "begins_with" = some (.ref f4)) (k4 : PySem.W.keepIn K (.ref f4) = true) (b4 : Binds K fd4 ["path", "other"] []) :
    FnOk P w K mg base (L2.CX P w) 7 f fd ["path", "other"] (spWithin K P1 P2 C) := by
  refine F.okX scWithin (fun vs H Q E h => ?_) (fun cdv A outer s H vs Q E hr h => ?_)
  · obtain ⟨u, v, rfl, _⟩ := h
    rfl
  · obtain ⟨u, v, rfl, hT1, hT2, h⟩ := h
    refine ⟨_, pss_cons (ps_expr (pe_call (E := E) G3 hr (by rfl) m3 k3 b3 .nil (passes_call (takes_of rfl rfl rfl rfl) (fun _ _ _ _ h => h)) (pa_cons (pv 0) pa_nil)))
      (pss_cons (ps_expr (pe_call (E := E) G3 hr (by rfl) m3 k3 b3 .nil (passes_call (takes_of rfl rfl rfl rfl) (fun _ _ _ _ h => h)) (pa_cons (pv 1) pa_nil)))
      (pss_one (ps_ret (pe_and (pe_cmpR (op_neD hr.units) (pv 0) (pv 1) (nomark _)) (pe_one (pe_call (E := E0) G4 (hr.mono (by decide)) (by rfl) m4 k4 b4 .nil pass0 (pa_cons (pv 0) (pa_cons (pv 1) pa_nil)))))))), ?_⟩
    rcases h with ⟨pb, hbad⟩ | ⟨a, p, rfl, pa, gp, h⟩
    · exact ⟨_, rfl, u, false, rfl, pb, hT1, hT2, (fun z => nomatch z), fun _ => hbad⟩
    · have pb := pa.b (goodPath_small gp)
      rw [gp] at pb
      refine ⟨_, rfl, .ref a, true, rfl, pb, hT1, hT2, fun _ H1 x1 => ?_, fun z => nomatch z⟩
      rcases h with ⟨qb, hbad⟩ | ⟨b, q, rfl, qa, gq, k⟩
      · exact ⟨_, rfl, v, false, rfl, qb.ex x1, x1.tab _ hT1, x1.tab _ hT2, (fun z => nomatch z), fun _ H' x => hbad H' (x1.trans x)⟩
      · have qb := (qa.ex x1).b (goodPath_small gq)
        rw [gq] at qb
        refine ⟨_, rfl, .ref b, true, rfl, qb, x1.tab _ hT1, x1.tab _ hT2, fun _ H2 x2 => ?_, fun z => nomatch z⟩
        have x := x1.trans x2
        refine ⟨_, rfl, _, rfl, pathD p, pathD q, (pa.ex x).dp, (qa.ex x).dp, shaped_path (goodPath_ok gp), shaped_path (goodPath_ok gq), _, rfl, ?_⟩
        rw [eqv_path]
        by_cases e : p = q
        · rw [decide_eq_true e]
          refine iteF ?_
          have := k H2 x
          rwa [show withinB p q = false by unfold withinB; rw [decide_eq_false (p := p ≠ q) (fun z => z e)]; rfl] at this
        · rw [decide_eq_false e]
          refine iteT ⟨_, rfl, _, rfl, a, b, p, q, rfl, pa.ex x, qa.ex x, gp, gq, fun H3 x3 => ?_⟩
          have := k H3 (x.trans x3)
          rwa [show withinB p q = beginsB p q by unfold withinB; rw [decide_eq_true (p := p ≠ q) e]; rfl] at this
theorem scBeginnings : FnScope ["path", "many"] ["path"] (defScope sBeginnings) := ⟨rfl, rfl, rfl, by decide +kernel, rfl, by decide +kernel, by decide +kernel⟩
theorem ok_beginnings {f f3 P1 P2 C : Addr} {fd fd3 : FuncData} (F : Fun K "beginnings" "beginnings" sBeginnings f fd) (M : Mg mg)
    (G3 : FnOk P w K mg base (L2.CX P w) 6 f3 fd3 ["thing"] (spCheck K P1 P2 C)) (m3 : mg "check_path" = some (.ref f3)) (k3 : PySem.W.keepIn K (.ref f3) = true) (b3 : Binds K fd3 ["thing"] []) :
    FnOk P w K mg base (L2.CX P w) 7 f fd ["path"] (spBeginnings K P1 P2 C) := by
  refine F.okX scBeginnings (fun vs H Q E h => ?_) (fun cdv A outer s H vs Q E hr h => ?_)
  · obtain ⟨v, rfl, _⟩ := h
    rfl
  · obtain ⟨v, rfl, hT1, hT2, h⟩ := h
    refine ⟨_, pss_cons (ps_expr (pe_call (E := E) G3 hr (by rfl) m3 k3 b3 .nil (passes_call (takes_of rfl rfl rfl rfl) (fun _ _ _ _ h => h)) (pa_cons (pv 0) pa_nil)))
      (pss_one (ps_ret (pe_lc (own := [("many", 1)]) (g := gName 1) (tt := tYes) rfl scBeginnings.nd (pi_range1 (by rfl) M.range (pa_cons (pe_op op_add (pe_callB call_len_seq (by rfl) M.len PySem.boot_len (pa_cons (pv 0) pa_nil)) pe_int) pa_nil))
        (blkOk_by (N := ["path", "many"]) (sc := defScope sBeginnings) (by decide +kernel)) (fun _ _ _ _ _ => pg_name (i := 1) scBeginnings.nd rfl (Or.inl rfl)) (fun _ _ _ _ _ => pts_nil) (fun _ _ _ _ _ => pe_slice (r := rSlA K) sl_tupA (pv 0) po_none (po_some (pv 1)))))), ?_⟩
    rcases h with ⟨pb, hbad⟩ | ⟨a, p, rfl, pa, gp, k⟩
    · exact ⟨_, rfl, v, false, rfl, pb, hT1, hT2, (fun z => nomatch z), fun _ => hbad⟩
    · have pb := pa.b (goodPath_small gp)
      rw [gp] at pb
      refine ⟨_, rfl, .ref a, true, rfl, pb, hT1, hT2, fun _ H1 x1 => ?_, fun z => nomatch z⟩
      have pa1 := pa.ex x1
      have hlen := (goodPath_names gp).1
      refine ⟨_, rfl, a, _, rfl, .inr pa1, _, _, rfl, rfl, _, rfl, by rw [List.length_map]; omega, by rw [List.length_map]; omega, ?_⟩
      intro D hD
      rw [show (((p.map V.str).length : Int) + 1).toNat = p.length + 1 by rw [List.length_map]; omega]
      refine lc_range (lo := 0) (n := p.length + 1) (fun i H => Ex H1 H ∧ ∃ rs : List Addr, H D = some (.lst (rs.map V.ref)) ∧ Paired (fun r q => PathAt K H r q) rs ((List.range i).map fun i => p.take i))
        ⟨Ex.new hD, [], upd_same, .nil⟩ ?_ ?_
      · rintro i H hi ⟨x, rs, hl, hp⟩
        have pr := pa1.ex x
        refine ⟨rfl, _, rfl, _, rfl, _, rfl, ?_⟩
        rw [show (0 : Int) + (i : Int) = ((i : Nat) : Int) from Int.zero_add _]
        refine slice_to i pr fun H' r x2 pr2 => ?_
        have hl2 := x2.keep _ _ hl (fun ps z => by cases z)
        have hlr : rs.length = i := by rw [hp.length, List.length_map, List.length_range]
        refine ⟨rs.map V.ref, hl2, by rw [List.length_map, hlr]; exact Nat.lt_of_lt_of_le hi (by have : sizeLine = 16777216 := sizeLine_eq; omega), (x.trans x2).put hD, rs ++ [r], ?_, ?_⟩
        · rw [upd_same, List.map_append]
          rfl
        · rw [List.range_succ, List.map_append]
          exact pairSnoc (F := fun r q => PathAt K _ r q) (sqT_put pr2 hl2) (pairImp (fun u q h => sqT_put (PathAt.ex x2 h) hl2) hp)
      · rintro H ⟨x, rs, hl, hp⟩
        exact k H D (x1.trans x) ⟨rs, hl, hp⟩
end
/-! ### the law's draws -/
def spDraw (K : PySem.W.Frag) : Sp := fun vs H Q _ => ∃ (sc tw : Addr) (ns : List Int) (m : Int), vs = [.ref sc, .ref tw, .int m] ∧ Lw K H sc tw ns ∧ 0 < m ∧ m < 1073741824 ∧
  ∀ H' r, Ev tw H H' → 0 ≤ r → r < m → Q (.int r) H'
section
variable {P : Program} {w : World} {K : PySem.W.Frag} {mg : Str → Option Value} {base : Heap}
theorem scDraw : FnScope ["_law_script", "_law_town", "_law_many", "_law_one", "_law_at", "_law_mixed"] ["_law_script", "_law_town", "_law_many"] (defScope sDraw) := ⟨rfl, rfl, rfl, by decide +kernel, rfl, by decide +kernel, by decide +kernel⟩
theorem ok_draw {f : Addr} {fd : FuncData} (F : Fun K "_law_draw" "_law_draw" sDraw f fd) (mLen : mg "len" = none) : FnOk P w K mg base CX0 1 f fd ["_law_script", "_law_town", "_law_many"] (spDraw K) := by
  refine F.ok scDraw (fun vs H Q E h => ?_) (fun cdv A outer s H vs Q E hr h => ?_)
  · obtain ⟨sc, tw, ns, m, rfl, _⟩ := h
    rfl
  · obtain ⟨sc, tw, ns, m, rfl, L, m0, m1, k⟩ := h
    refine ⟨_, pss_cons (ps_if (pt_cmpR op_gt (pe_ix ix_list (pv 1) pe_int (fun _ _ => rfl)) pe_int (nomark _))
        (pss_cons (ps_set (i := 3) scDraw.nd rfl (Or.inl rfl) (pe_op op_mod (pe_ix ix_list (pv 1) pe_int (fun _ _ => rfl)) (pv 2)))
        (pss_cons (ps_asg (pe_op op_fdiv (pe_ix ix_list (pv 1) pe_int (fun _ _ => rfl)) (pv 2)) (pg_sub (pv 1) pe_int set_list))
        (pss_one (ps_ret (pv 3))))) pss_nil)
      (pss_cons (ps_set (i := 4) scDraw.nd rfl (Or.inl rfl) (pe_ix ix_list (pv 1) pe_int (fun _ _ => rfl)))
      (pss_cons (ps_augS (pv 1) pe_int get_list pe_int ip_add set_list)
      (pss_cons (ps_if (pt_cmpR (op_eqD hr.units) (pv 0) (pe_lst pa_nil) (nomark _)) (pss_one (ps_ret (pe_op op_mod (pv 4) (pv 2)))) pss_nil)
      (pss_cons (ps_if (PW.pt (pw_and (pt_cmpR op_lt (pv 4) (pe_callB call_len_seq (by rfl) mLen PySem.boot_len (pa_cons (pv 0) pa_nil)) (nomark _))
          (pw_and1 (pt_cmpR op_ge (pe_ix ix_list (pv 0) (pv 4) (fun _ _ => rfl)) (pe_op op_pow pe_int pe_int) (nomark _)))))
        (pss_cons (ps_asg (pe_op op_mod (pe_op op_fdiv (pe_ix ix_list (pv 0) (pv 4) (fun _ _ => rfl)) (pv 2)) (pe_op op_mulW (pe_op op_pow pe_int pe_int) (pe_op op_pow pe_int pe_int))) (pg_sub (pv 1) pe_int set_list))
        (pss_one (ps_ret (pe_op op_mod (pe_ix ix_list (pv 0) (pv 4) (fun _ _ => rfl)) (pv 2))))) pss_nil)
      (pss_cons (ps_set (i := 5) scDraw.nd rfl (Or.inl rfl) (pe_op op_mod (pe_op op_add (pe_op op_add (pe_op op_mul (pe_ix ix_list (pv 0) (pe_op op_mod (pv 4) (pe_callB call_len_seq (by rfl) mLen PySem.boot_len (pa_cons (pv 0) pa_nil))) (fun _ _ => rfl)) pe_int) (pe_op op_mul pe_int (pv 4))) pe_int) pe_int))
      (pss_one (ps_ret (pe_op op_mod (pe_op op_mod (pe_op op_mod (pe_op op_pow (pv 5) pe_int) pe_int) pe_int) (pv 2))))))))), ?_⟩
    obtain ⟨t0, t1, h0, ht⟩ := id L.town
    have a0 : ∀ x y : Int, atI [V.int x, V.int y] 0 = some (.int x) := fun _ _ => rfl
    have a1 : ∀ x y : Int, atI [V.int x, V.int y] 1 = some (.int y) := fun _ _ => rfl
    have x0 : ∀ x y : Int, ixN [V.int x, V.int y].length 0 = some 0 := fun _ _ => rfl
    have x1 : ∀ x y : Int, ixN [V.int x, V.int y].length 1 = some 1 := fun _ _ => rfl
    have p1 : (0 : Int) < 2147483647 := by decide
    have p2 : (0 : Int) < 999983 := by decide
    refine ⟨_, rfl, tw, _, 1, .int t1, rfl, rfl, SqL.of ht, a1 _ _, _, _, rfl, rfl, _, rfl, ?_⟩
    refine ite2 (fun _ => ?_) (fun _ => ?_)
    · -- what is left of a great one
      refine ⟨_, rfl, tw, _, 1, .int t1, rfl, rfl, SqL.of ht, a1 _ _, _, rfl, _, _, rfl, rfl, m0, ?_⟩
      refine ⟨_, rfl, tw, _, 1, .int t1, rfl, rfl, SqL.of ht, a1 _ _, _, rfl, _, _, rfl, rfl, ⟨m0, m1⟩, _, rfl, tw, _, 1, 1, rfl, rfl, ht, x1 _ _, ?_⟩
      exact ⟨_, rfl, k _ _ (Ev.write L.town h0) (Int.emod_nonneg _ (by omega)) (Int.emod_lt_of_pos _ m0)⟩
    · -- a cell of the script
      refine ⟨_, rfl, tw, _, 0, .int t0, rfl, rfl, SqL.of ht, a0 _ _, ?_⟩
      refine ⟨_, rfl, tw, _, 0, .int t0, rfl, rfl, SqL.of ht, a0 _ _, _, _, rfl, rfl, tw, _, 0, 0, rfl, rfl, ht, x0 _ _, ?_⟩
      have w1 : Ev tw H (upd H tw (.lst [.int (t0 + 1), .int t1])) := Ev.write L.town (by omega)
      have L1 := L.ev w1
      generalize hH1 : upd H tw (.lst [.int (t0 + 1), .int t1]) = H1 at w1 L1
      have e1 : H1 tw = some (.lst [.int (t0 + 1), .int t1]) := by rw [← hH1, upd_same]
      have eH : upd H tw (.lst ([V.int t0, V.int t1].set 0 (V.int (t0 + 1)))) = H1 := hH1
      rw [eH]
      refine ⟨_, rfl, Nat.zero_le _, fun p hp => ?_⟩
      have x2 : Ex H1 (upd H1 p (.lst [])) := Ex.new hp
      have L2 := L1.ex x2
      have e2 : (upd H1 p (.lst [])) tw = some (.lst [.int (t0 + 1), .int t1]) := x2.keep _ _ e1 (fun ps z => by cases z)
      have ep : SqL K (upd H1 p (.lst [])) p [] := SqL.of upd_same
      have w2 : Ev tw H (upd H1 p (.lst [])) := w1.trans (x2.ev L1.town)
      generalize upd H1 p (.lst []) = H2 at L2 e2 ep w2
      refine ⟨.list (ns.map .int), .list [], .lst L2.sq (dpAll_ints ns), .lst ep .nil, shaped_ints ns, shaped_nil, _, rfl, ?_⟩
      rw [eqv_nil]
      refine ite2 (fun hn => ?_) (fun hn => ?_)
      · exact ⟨_, rfl, _, rfl, _, _, rfl, rfl, m0, k _ _ w2 (Int.emod_nonneg _ (by omega)) (Int.emod_lt_of_pos _ m0)⟩
      · have hpos : 0 < ns.length := by
          cases ns with
          | nil => exact absurd rfl hn
          | cons _ _ => simp
        have hL : ((ns.map V.int).length : Int) = (ns.length : Int) := by rw [List.length_map]
        obtain ⟨z, az⟩ : ∃ z, atI (ns.map V.int) (t0 % (((ns.map V.int).length : Nat) : Int)) = some (.int z) := by
          have q1 := Int.emod_nonneg t0 (show (((ns.map V.int).length : Nat) : Int) ≠ 0 by omega)
          have q2 := Int.emod_lt_of_pos t0 (show (0 : Int) < (((ns.map V.int).length : Nat) : Int) by omega)
          obtain ⟨j, ej⟩ := Int.eq_ofNat_of_zero_le q1
          have hj : j < ns.length := by omega
          exact ⟨ns[j], at_of ej (by rw [List.getElem?_map, List.getElem?_eq_getElem hj]; rfl)⟩
        refine ⟨_, rfl, _, rfl, sc, _, rfl, .inl L2.sq, _, _, rfl, rfl, _, rfl, ?_⟩
        refine ite2 (fun c1 => ?_) (fun c1 => ?_)
        · have c1 : t0 < ((ns.map V.int).length : Int) := of_decide_eq_true c1
          obtain ⟨y, ay⟩ : ∃ y, atI (ns.map V.int) t0 = some (.int y) := by
            obtain ⟨j, ej⟩ := Int.eq_ofNat_of_zero_le h0
            have hj : j < ns.length := by omega
            exact ⟨ns[j], at_of ej (by rw [List.getElem?_map, List.getElem?_eq_getElem hj]; rfl)⟩
          refine ⟨_, rfl, _, rfl, sc, _, t0, .int y, rfl, rfl, L2.sq, ay, _, _, rfl, rfl, ⟨by decide, by decide, by decide⟩, _, _, rfl, rfl, _, rfl, ?_⟩
          refine ite2 (fun c2 => ?_) (fun c2 => ?_)
          · refine ⟨_, rfl, _, rfl, sc, _, t0, .int y, rfl, rfl, L2.sq, ay, _, rfl, _, _, rfl, rfl, ⟨m0, m1⟩, ?_⟩
            refine ⟨_, _, rfl, rfl, ⟨by decide, by decide, by decide⟩, _, _, rfl, rfl, ⟨by decide, by decide, by decide⟩, _, _, rfl, rfl, ?_, _, _, rfl, rfl, ?_, ?_⟩
            · exact wide_mul (a := 200) (b := 200) (by decide +kernel) (by decide +kernel) (by decide) (by decide) (by decide)
            · show (0 : Int) < 10 ^ (60 : Int).toNat * 10 ^ (60 : Int).toNat
              decide +kernel
            · refine ⟨_, rfl, tw, _, 1, 1, rfl, rfl, e2, x1 _ _, ?_⟩
              have w3 := w2.trans (Ev.write (t0 := t0 + 1) (t1 := y / m % (10 ^ (60 : Int).toNat * 10 ^ (60 : Int).toNat)) L2.town (by omega))
              have L3 := L.ev w3
              refine ⟨_, rfl, _, rfl, sc, _, t0, .int y, rfl, rfl, L3.sq, ay, _, rfl, _, _, rfl, rfl, m0, ?_⟩
              exact k _ _ w3 (Int.emod_nonneg _ (by omega)) (Int.emod_lt_of_pos _ m0)
          · -- the mixed one
            refine ⟨_, rfl, _, rfl, _, rfl, sc, _, rfl, .inl L2.sq, _, _, rfl, rfl, (by rw [List.length_map]; omega), sc, _, t0 % (((ns.map V.int).length : Nat) : Int), .int z, rfl, rfl, L2.sq, az, _, _, rfl, rfl, .inr ⟨by decide, by decide⟩, ?_⟩
            refine ⟨_, rfl, _, _, rfl, rfl, .inl ⟨by decide, by decide⟩, _, _, rfl, rfl, _, _, rfl, rfl, _, _, rfl, rfl, p1, ?_⟩
            refine ⟨_, rfl, _, _, rfl, rfl, ⟨by decide, by decide, ?_⟩, _, _, rfl, rfl, p1, _, _, rfl, rfl, p2, _, rfl, _, _, rfl, rfl, m0, ?_⟩
            · have q1 := Int.emod_nonneg (z * 1103515245 + 7919 * t0 + 12345) (show (2147483647 : Int) ≠ 0 by decide)
              have q2 := Int.emod_lt_of_pos (z * 1103515245 + 7919 * t0 + 12345) (show (0 : Int) < 2147483647 by decide)
              omega
            · exact k _ _ w2 (Int.emod_nonneg _ (by omega)) (Int.emod_lt_of_pos _ m0)
        · -- the mixed one
          refine ⟨_, rfl, _, rfl, _, rfl, sc, _, rfl, .inl L2.sq, _, _, rfl, rfl, (by rw [List.length_map]; omega), sc, _, t0 % (((ns.map V.int).length : Nat) : Int), .int z, rfl, rfl, L2.sq, az, _, _, rfl, rfl, .inr ⟨by decide, by decide⟩, ?_⟩
          refine ⟨_, rfl, _, _, rfl, rfl, .inl ⟨by decide, by decide⟩, _, _, rfl, rfl, _, _, rfl, rfl, _, _, rfl, rfl, p1, ?_⟩
          refine ⟨_, rfl, _, _, rfl, rfl, ⟨by decide, by decide, ?_⟩, _, _, rfl, rfl, p1, _, _, rfl, rfl, p2, _, rfl, _, _, rfl, rfl, m0, ?_⟩
          · have q1 := Int.emod_nonneg (z * 1103515245 + 7919 * t0 + 12345) (show (2147483647 : Int) ≠ 0 by decide)
            have q2 := Int.emod_lt_of_pos (z * 1103515245 + 7919 * t0 + 12345) (show (0 : Int) < 2147483647 by decide)
            omega
          · exact k _ _ w2 (Int.emod_nonneg _ (by omega)) (Int.emod_lt_of_pos _ m0)
end
/-! ### picks -/
def spPick (K : PySem.W.Frag) : Sp := fun vs H Q _ => ∃ (sc tw l : Addr) (ns : List Int) (xs : List V), vs = [.ref sc, .ref tw, .ref l] ∧ Lw K H sc tw ns ∧ SqL K H l xs ∧ l ≠ tw ∧ 0 < xs.length ∧ xs.length < 1000 ∧
  ∀ H' x, Ev tw H H' → x ∈ xs → Q x H'
section
variable {P : Program} {w : World} {K : PySem.W.Frag} {mg : Str → Option Value} {base : Heap}
theorem scPick : FnScope ["_law_script", "_law_town", "_law_some"] ["_law_script", "_law_town", "_law_some"] (defScope sPick) := ⟨rfl, rfl, rfl, by decide +kernel, rfl, by decide +kernel, by decide +kernel⟩
theorem ok_pick {f fD : Addr} {fd fdD : FuncData} (F : Fun K "_law_pick" "_law_pick" sPick f fd) (mLen : mg "len" = none)
    (GD : FnOk P w K mg base CX0 1 fD fdD ["_law_script", "_law_town", "_law_many"] (spDraw K)) (mD : mg "_law_draw" = some (.ref fD)) (kD : PySem.W.keepIn K (.ref fD) = true) (bD : Binds K fdD ["_law_script", "_law_town", "_law_many"] []) :
    FnOk P w K mg base CX0 2 f fd ["_law_script", "_law_town", "_law_some"] (spPick K) := by
  refine F.ok scPick (fun vs H Q E h => ?_) (fun cdv A outer s H vs Q E hr h => ?_)
  · obtain ⟨sc, tw, l, ns, xs, rfl, _⟩ := h
    rfl
  · obtain ⟨sc, tw, l, ns, xs, rfl, L, hl, hlt, h0, h1, k⟩ := h
    refine ⟨_, pss_one (ps_ret (pe_ix ix_list (pv 2) (pe_call (E := E0) GD hr (by rfl) mD kD bD .nil pass0 (pa_cons (pv 0) (pa_cons (pv 1) (pa_cons (pe_callB call_len_seq (by rfl) mLen PySem.boot_len (pa_cons (pv 2) pa_nil)) pa_nil)))) (fun _ _ => rfl))), ?_⟩
    refine ⟨_, rfl, _, rfl, _, rfl, _, rfl, l, _, rfl, .inl hl, sc, tw, ns, _, rfl, L, by omega, by omega, fun H' r x r0 r1 => ?_⟩
    obtain ⟨j, ej⟩ := Int.eq_ofNat_of_zero_le r0
    have hj : j < xs.length := by omega
    exact ⟨l, xs, r, xs[j], rfl, rfl, x.lst hlt hl, at_of ej (List.getElem?_eq_getElem hj), k H' _ x (List.getElem_mem hj)⟩
end
/-! ### what is no path -/
def spNoPath (K : PySem.W.Frag) : Sp := fun vs H Q _ => ∃ (sc tw : Addr) (ns : List Int), vs = [.ref sc, .ref tw] ∧ Lw K H sc tw ns ∧ ∀ H' x, Ev tw H H' → PathB K H' x false → Q x H'
section
variable {P : Program} {w : World} {K : PySem.W.Frag} {mg : Str → Option Value} {base : Heap}
theorem scNoPath : FnScope ["_law_script", "_law_town", "_law_bad"] ["_law_script", "_law_town"] (defScope sNoPath) := ⟨rfl, rfl, rfl, by decide +kernel, rfl, by decide +kernel, by decide +kernel⟩
/-- a tuple of flat things -/
theorem tupB {H : Hp} {a : Addr} {xs : List V} {b : Bool} (h : SqT K H a xs) (hb : (decide (xs.length ≤ 5) && xs.all isNameV) = b) (hx : ∀ x ∈ xs, ∃ n, Kn K H x n ∧ ∀ z, x = .str z → z.length ≤ 100) : PathB K H (.ref a) b := by
  rw [← hb]
  refine .tup h fun x m => ?_
  obtain ⟨n, k, q⟩ := hx x m
  exact ⟨n, k, fun z e => Nat.le_trans (q z e) (by decide)⟩
theorem ok_noPath {f fP : Addr} {fd fdP : FuncData} (F : Fun K "_law_no_path" "_law_no_path" sNoPath f fd)
    (GP : FnOk P w K mg base CX0 2 fP fdP ["_law_script", "_law_town", "_law_some"] (spPick K)) (mP : mg "_law_pick" = some (.ref fP)) (kP : PySem.W.keepIn K (.ref fP) = true) (bP : Binds K fdP ["_law_script", "_law_town", "_law_some"] []) :
    FnOk P w K mg base CX0 3 f fd ["_law_script", "_law_town"] (spNoPath K) := by
  refine F.ok scNoPath (fun vs H Q E h => ?_) (fun cdv A outer s H vs Q E hr h => ?_)
  · obtain ⟨sc, tw, ns, rfl, _⟩ := h
    rfl
  · obtain ⟨sc, tw, ns, rfl, L, k⟩ := h
    refine ⟨_, pss_cons (ps_set (i := 2) scNoPath.nd rfl (Or.inl rfl) (pe_lst (pa_cons pe_non (pa_cons pe_str (pa_cons (pe_lst (pa_cons pe_str pa_nil)) (pa_cons (pe_tup (pa_cons pe_str pa_nil)) (pa_cons (pe_tup (pa_cons pe_str pa_nil)) (pa_cons (pe_tup (pa_cons pe_str pa_nil)) (pa_cons (pe_tup (pa_cons pe_int pa_nil)) (pa_cons (pe_tup (pa_cons pe_str (pa_cons pe_non pa_nil))) (pa_cons (pe_tup (pa_cons pe_str pa_nil)) (pa_cons (pe_op op_repT (pe_tup (pa_cons pe_str pa_nil)) pe_int) (pa_cons pe_int (pa_cons (pe_tup (pa_cons pe_str pa_nil)) (pa_cons (pe_tup (pa_cons (pe_tup (pa_cons pe_str pa_nil)) pa_nil)) pa_nil)))))))))))))))
      (pss_one (ps_ret (pe_call (E := E0) GP hr (by rfl) mP kP bP .nil pass0 (pa_cons (pv 0) (pa_cons (pv 1) (pa_cons (pv 2) pa_nil)))))), ?_⟩
    refine ⟨(by show 1 ≤ sizeLine; decide), fun p1 h1 => ?_⟩
    have x1 := Ex.new (o := .lst [.str "a"]) h1
    have t1 : SqL K (upd H p1 (.lst [.str "a"])) p1 [.str "a"] := SqL.of upd_same
    generalize upd H p1 (.lst [.str "a"]) = H1 at x1 t1 ⊢
    refine ⟨(by show 1 ≤ sizeLine; decide), fun p2 h2 => ?_⟩
    have x2 := Ex.new (o := .tup [.str ""]) h2
    have t2 : SqT K (upd H1 p2 (.tup [.str ""])) p2 [.str ""] := SqT.of upd_same
    generalize upd H1 p2 (.tup [.str ""]) = H2 at x2 t2 ⊢
    refine ⟨(by show 1 ≤ sizeLine; decide), fun p3 h3 => ?_⟩
    have x3 := Ex.new (o := .tup [.str "A"]) h3
    have t3 : SqT K (upd H2 p3 (.tup [.str "A"])) p3 [.str "A"] := SqT.of upd_same
    generalize upd H2 p3 (.tup [.str "A"]) = H3 at x3 t3 ⊢
    refine ⟨(by show 1 ≤ sizeLine; decide), fun p4 h4 => ?_⟩
    have x4 := Ex.new (o := .tup [.str "abcde"]) h4
    have t4 : SqT K (upd H3 p4 (.tup [.str "abcde"])) p4 [.str "abcde"] := SqT.of upd_same
    generalize upd H3 p4 (.tup [.str "abcde"]) = H4 at x4 t4 ⊢
    refine ⟨(by show 1 ≤ sizeLine; decide), fun p5 h5 => ?_⟩
    have x5 := Ex.new (o := .tup [.int 1]) h5
    have t5 : SqT K (upd H4 p5 (.tup [.int 1])) p5 [.int 1] := SqT.of upd_same
    generalize upd H4 p5 (.tup [.int 1]) = H5 at x5 t5 ⊢
    refine ⟨(by show 2 ≤ sizeLine; decide), fun p6 h6 => ?_⟩
    have x6 := Ex.new (o := .tup [.str "a", .non]) h6
    have t6 : SqT K (upd H5 p6 (.tup [.str "a", .non])) p6 [.str "a", .non] := SqT.of upd_same
    generalize upd H5 p6 (.tup [.str "a", .non]) = H6 at x6 t6 ⊢
    refine ⟨(by show 1 ≤ sizeLine; decide), fun p7 h7 => ?_⟩
    have x7 := Ex.new (o := .tup [.str "a b"]) h7
    have t7 : SqT K (upd H6 p7 (.tup [.str "a b"])) p7 [.str "a b"] := SqT.of upd_same
    generalize upd H6 p7 (.tup [.str "a b"]) = H7 at x7 t7 ⊢
    refine ⟨(by show 1 ≤ sizeLine; decide), fun p8 h8 => ?_⟩
    have x8 := Ex.new (o := .tup [.str "a"]) h8
    have t8 : SqT K (upd H7 p8 (.tup [.str "a"])) p8 [.str "a"] := SqT.of upd_same
    generalize upd H7 p8 (.tup [.str "a"]) = H8 at x8 t8 ⊢
    refine ⟨p8, 6, _, rfl, rfl, t8, (by simp), by decide, by decide, (by decide), fun p9 h9 => ?_⟩
    rw [show (List.replicate (6 : Int).toNat [V.str "a"]).flatten = [.str "a", .str "a", .str "a", .str "a", .str "a", .str "a"] from rfl]
    have x9 := Ex.new (o := .tup [.str "a", .str "a", .str "a", .str "a", .str "a", .str "a"]) h9
    have t9 : SqT K (upd H8 p9 (.tup [.str "a", .str "a", .str "a", .str "a", .str "a", .str "a"])) p9 [.str "a", .str "a", .str "a", .str "a", .str "a", .str "a"] := SqT.of upd_same
    generalize upd H8 p9 (.tup [.str "a", .str "a", .str "a", .str "a", .str "a", .str "a"]) = H9 at x9 t9 ⊢
    refine ⟨(by show 1 ≤ sizeLine; decide), fun p10 h10 => ?_⟩
    have x10 := Ex.new (o := .tup [.str "a/"]) h10
    have t10 : SqT K (upd H9 p10 (.tup [.str "a/"])) p10 [.str "a/"] := SqT.of upd_same
    generalize upd H9 p10 (.tup [.str "a/"]) = H10 at x10 t10 ⊢
    refine ⟨(by show 1 ≤ sizeLine; decide), fun p11 h11 => ?_⟩
    have x11 := Ex.new (o := .tup [.str "a"]) h11
    have t11 : SqT K (upd H10 p11 (.tup [.str "a"])) p11 [.str "a"] := SqT.of upd_same
    generalize upd H10 p11 (.tup [.str "a"]) = H11 at x11 t11 ⊢
    refine ⟨(by show 1 ≤ sizeLine; decide), fun p12 h12 => ?_⟩
    have x12 := Ex.new (o := .tup [.ref p11]) h12
    have t12 : SqT K (upd H11 p12 (.tup [.ref p11])) p12 [.ref p11] := SqT.of upd_same
    generalize upd H11 p12 (.tup [.ref p11]) = H12 at x12 t12 ⊢
    refine ⟨(by show 13 ≤ sizeLine; decide), fun p13 h13 => ?_⟩
    have x13 := Ex.new (o := .lst [.non, .str "a", .ref p1, .ref p2, .ref p3, .ref p4, .ref p5, .ref p6, .ref p7, .ref p9, .int 7, .ref p10, .ref p12]) h13
    have t13 : SqL K (upd H12 p13 (.lst [.non, .str "a", .ref p1, .ref p2, .ref p3, .ref p4, .ref p5, .ref p6, .ref p7, .ref p9, .int 7, .ref p10, .ref p12])) p13 [.non, .str "a", .ref p1, .ref p2, .ref p3, .ref p4, .ref p5, .ref p6, .ref p7, .ref p9, .int 7, .ref p10, .ref p12] := SqL.of upd_same
    generalize upd H12 p13 (.lst [.non, .str "a", .ref p1, .ref p2, .ref p3, .ref p4, .ref p5, .ref p6, .ref p7, .ref p9, .int 7, .ref p10, .ref p12]) = H13 at x13 t13 ⊢
    have y13 := Ex.refl H13
    have y12 := x13.trans y13
    have y11 := x12.trans y12
    have y10 := x11.trans y11
    have y9 := x10.trans y10
    have y8 := x9.trans y9
    have y7 := x8.trans y8
    have y6 := x7.trans y7
    have y5 := x6.trans y6
    have y4 := x5.trans y5
    have y3 := x4.trans y4
    have y2 := x3.trans y3
    have y1 := x2.trans y2
    have y0 := x1.trans y1
    have nt : ∀ {G : Hp} {q : Addr}, Ex H G → G q = none → q ≠ tw := fun x e z => by
      obtain ⟨u0, u1, _, e2⟩ := L.town
      have := x.free _ e
      rw [z, e2] at this
      cases this
    have z0 := Ex.refl H
    have z1 := z0.trans x1
    have z2 := z1.trans x2
    have z3 := z2.trans x3
    have z4 := z3.trans x4
    have z5 := z4.trans x5
    have z6 := z5.trans x6
    have z7 := z6.trans x7
    have z8 := z7.trans x8
    have z9 := z8.trans x9
    have z10 := z9.trans x10
    have z11 := z10.trans x11
    have z12 := z11.trans x12
    have z13 := z12.trans x13
    have LN := L.ex y0
    refine ⟨_, rfl, _, rfl, _, rfl, sc, tw, p13, ns, _, rfl, LN, t13, nt z12 h13, (by show 0 < 13; decide), (by show 13 < 1000; decide), fun H' x ev hx => ?_⟩
    refine k H' x ((y0.ev L.town).trans ev) ?_
    have s1 := ev.lst (nt z0 h1) (y1.lst t1)
    have s2 := ev.tup LN.town (y2.tup t2)
    have s3 := ev.tup LN.town (y3.tup t3)
    have s4 := ev.tup LN.town (y4.tup t4)
    have s5 := ev.tup LN.town (y5.tup t5)
    have s6 := ev.tup LN.town (y6.tup t6)
    have s7 := ev.tup LN.town (y7.tup t7)
    have s8 := ev.tup LN.town (y8.tup t8)
    have s9 := ev.tup LN.town (y9.tup t9)
    have s10 := ev.tup LN.town (y10.tup t10)
    have s11 := ev.tup LN.town (y11.tup t11)
    have s12 := ev.tup LN.town (y12.tup t12)
    simp only [List.mem_cons, List.not_mem_nil, or_false] at hx
    rcases hx with rfl | rfl | rfl | rfl | rfl | rfl | rfl | rfl | rfl | rfl | rfl | rfl | rfl
    · exact .oth .non (by decide)
    · exact .oth (.str _) (by decide)
    · exact .oth (.lst s1) (by decide)
    · refine tupB s2 (by decide +kernel) fun x m => ?_
      simp only [List.mem_cons, List.not_mem_nil, or_false] at m
      subst m
      exact ⟨_, .str _, fun z e => by cases e; decide⟩
    · refine tupB s3 (by decide +kernel) fun x m => ?_
      simp only [List.mem_cons, List.not_mem_nil, or_false] at m
      subst m
      exact ⟨_, .str _, fun z e => by cases e; decide⟩
    · refine tupB s4 (by decide +kernel) fun x m => ?_
      simp only [List.mem_cons, List.not_mem_nil, or_false] at m
      subst m
      exact ⟨_, .str _, fun z e => by cases e; decide⟩
    · refine tupB s5 (by decide +kernel) fun x m => ?_
      simp only [List.mem_cons, List.not_mem_nil, or_false] at m
      subst m
      exact ⟨_, .int _, fun z e => nomatch e⟩
    · refine tupB s6 (by decide +kernel) fun x m => ?_
      simp only [List.mem_cons, List.not_mem_nil, or_false] at m
      rcases m with rfl | rfl
      · exact ⟨_, .str _, fun z e => by cases e; decide⟩
      · exact ⟨_, .non, fun z e => nomatch e⟩
    · refine tupB s7 (by decide +kernel) fun x m => ?_
      simp only [List.mem_cons, List.not_mem_nil, or_false] at m
      subst m
      exact ⟨_, .str _, fun z e => by cases e; decide⟩
    · refine tupB s9 (by decide +kernel) fun x m => ?_
      simp only [List.mem_cons, List.not_mem_nil, or_false] at m
      have m : x = V.str "a" := by simpa using m
      subst m
      exact ⟨_, .str _, fun z e => by cases e; decide⟩
    · exact .oth (.int _) (by decide)
    · refine tupB s10 (by decide +kernel) fun x m => ?_
      simp only [List.mem_cons, List.not_mem_nil, or_false] at m
      subst m
      exact ⟨_, .str _, fun z e => by cases e; decide⟩
    · refine tupB s12 rfl fun x m => ?_
      simp only [List.mem_cons, List.not_mem_nil, or_false] at m
      subst m
      exact ⟨_, .tup s11, fun z e => nomatch e⟩
end
/-! ### which refusal it is -/
def refusals : List Str := ["NoPath", "NoText", "NoTree", "NoLayer", "NoStack", "NoHandle", "NoPower", "Root", "NotThere", "NoDrawer", "IsDrawer", "Taken", "NotEmpty", "Within", "TooLong", "Full", "Dark"]
/-- D is the class of the i-th refusal -/
structure Wh (K : PySem.W.Frag) (mg : Str → Option Value) (D : Addr) (i : Nat) : Prop where
  is : ExcC K D
  lt : i < 17
  kit : ∀ j x, refusals[j]? = some x → ∃ C, mg x = some (.ref C) ∧ PySem.W.kitOne K (.ref D) (.ref C) = some (decide (j = i))
  val : PySem.W.kitOne K (.ref D) (.type "ValueError") = some true
/-- what a refusal comes to: a pair of a word and a number -/
def RefAt (K : PySem.W.Frag) (H : Hp) (r : Addr) (i : Int) : Prop := SqT K H r [.str "refused", .int i]
def spWhich (K : PySem.W.Frag) (mg : Str → Option Value) : SpE := fun a c d vs H Q _ => ∃ D i, c = .ref D ∧ d = none ∧ vs = [.ref a] ∧ Wh K mg D i ∧
  ∀ H' r, Ex H H' → RefAt K H' r i → Q (.ref r) H'
/-- one question of the row -/
theorem isE_cons {K : PySem.W.Frag} {D a C : Addr} {b : Bool} {t : TA} {σ : L2.St} {H : Hp} {Q : List V → Hp → Prop} (h0 : σ[0]? = some (some (.ref a)))
    (e : PySem.W.kitOne K (.ref D) (.ref C) = some b) (h : t σ H fun vs G => Q (.bl b :: vs) G) :
    tCons (tCB (rIsE K D a) (tCons (tVar 0) (tCons (tC (V.ref C)) tNil))) t σ H Q := ⟨_, h0, .ref C, .ref C, b, rfl, fun _ z => z, e, h⟩
def truths (n i : Nat) : List V := (List.range n).map fun j => V.bl (decide (j = i))
theorem truths_flat (n i : Nat) : (truths n i).all flatV = true := by
  rw [List.all_eq_true]
  intro x hx
  obtain ⟨j, _, rfl⟩ := List.mem_map.mp hx
  rfl
theorem truths_get {n i j : Nat} (h : j < n) : (truths n i)[j]? = some (.bl (decide (j = i))) := by
  unfold truths
  rw [List.getElem?_map, List.getElem?_range h]
  rfl
theorem truths_count : ∀ i, i < 17 → (truths 17 i).countP (fun z => eqV z (.bl true)) = 1 := by decide +kernel
section
variable {P : Program} {w : World} {K : PySem.W.Frag} {mg : Str → Option Value} {base : Heap}
theorem scWhich : FnScope ["_law_e", "_law_own"] ["_law_e"] (defScope sWhich) := ⟨rfl, rfl, rfl, by decide +kernel, rfl, by decide +kernel, by decide +kernel⟩
theorem ok_which {f : Addr} {fd : FuncData} (F : Fun K "_law_which" "_law_which" sWhich f fd) (mI : mg "isinstance" = none) (mV : mg "ValueError" = none) : FnE P w K mg base CX0 1 f fd ["_law_e"] (spWhich K mg) := by
  refine okE F scWhich (fun a c d vs H Q E h => ?_) (fun cdv A outer s H vs Q E a oe c d hc hr h => ?_)
  · obtain ⟨D, i, _, _, rfl, _⟩ := h
    rfl
  · obtain ⟨D, i, rfl, rfl, rfl, W, k⟩ := h
    obtain ⟨C0, g0, e0⟩ := W.kit 0 "NoPath" rfl
    obtain ⟨C1, g1, e1⟩ := W.kit 1 "NoText" rfl
    obtain ⟨C2, g2, e2⟩ := W.kit 2 "NoTree" rfl
    obtain ⟨C3, g3, e3⟩ := W.kit 3 "NoLayer" rfl
    obtain ⟨C4, g4, e4⟩ := W.kit 4 "NoStack" rfl
    obtain ⟨C5, g5, e5⟩ := W.kit 5 "NoHandle" rfl
    obtain ⟨C6, g6, e6⟩ := W.kit 6 "NoPower" rfl
    obtain ⟨C7, g7, e7⟩ := W.kit 7 "Root" rfl
    obtain ⟨C8, g8, e8⟩ := W.kit 8 "NotThere" rfl
    obtain ⟨C9, g9, e9⟩ := W.kit 9 "NoDrawer" rfl
    obtain ⟨C10, g10, e10⟩ := W.kit 10 "IsDrawer" rfl
    obtain ⟨C11, g11, e11⟩ := W.kit 11 "Taken" rfl
    obtain ⟨C12, g12, e12⟩ := W.kit 12 "NotEmpty" rfl
    obtain ⟨C13, g13, e13⟩ := W.kit 13 "Within" rfl
    obtain ⟨C14, g14, e14⟩ := W.kit 14 "TooLong" rfl
    obtain ⟨C15, g15, e15⟩ := W.kit 15 "Full" rfl
    obtain ⟨C16, g16, e16⟩ := W.kit 16 "Dark" rfl
    have call := call_isP (X := cxH CX0 P w K mg base ["_law_e", "_law_own"] "_law_which" (defScope sWhich) f cdv A outer s H E (a, oe)) (a := a) (oe := oe) W.is hc (List.mem_singleton.mpr rfl)
    refine ⟨_, pss_cons (ps_set (i := 1) scWhich.nd rfl (Or.inl rfl) (pe_lst (pa_cons (pe_callB call (by rfl) mI boot_isinstance (pa_cons (pv 0) (pa_cons (pe_glob (v := .ref C0) (by rfl) g0 rfl) pa_nil))) (pa_cons (pe_callB call (by rfl) mI boot_isinstance (pa_cons (pv 0) (pa_cons (pe_glob (v := .ref C1) (by rfl) g1 rfl) pa_nil))) (pa_cons (pe_callB call (by rfl) mI boot_isinstance (pa_cons (pv 0) (pa_cons (pe_glob (v := .ref C2) (by rfl) g2 rfl) pa_nil))) (pa_cons (pe_callB call (by rfl) mI boot_isinstance (pa_cons (pv 0) (pa_cons (pe_glob (v := .ref C3) (by rfl) g3 rfl) pa_nil))) pa_nil))))))
      (pss_cons (ps_expr (pe_bm PySem.F.plainAttrs_list PySem.F.slot_list_extend PySem.F.type_list_extend mt_extend (pv 1) (pa_cons (pe_lst (pa_cons (pe_callB call (by rfl) mI boot_isinstance (pa_cons (pv 0) (pa_cons (pe_glob (v := .ref C4) (by rfl) g4 rfl) pa_nil))) (pa_cons (pe_callB call (by rfl) mI boot_isinstance (pa_cons (pv 0) (pa_cons (pe_glob (v := .ref C5) (by rfl) g5 rfl) pa_nil))) (pa_cons (pe_callB call (by rfl) mI boot_isinstance (pa_cons (pv 0) (pa_cons (pe_glob (v := .ref C6) (by rfl) g6 rfl) pa_nil))) (pa_cons (pe_callB call (by rfl) mI boot_isinstance (pa_cons (pv 0) (pa_cons (pe_glob (v := .ref C7) (by rfl) g7 rfl) pa_nil))) pa_nil))))) pa_nil)))
      (pss_cons (ps_expr (pe_bm PySem.F.plainAttrs_list PySem.F.slot_list_extend PySem.F.type_list_extend mt_extend (pv 1) (pa_cons (pe_lst (pa_cons (pe_callB call (by rfl) mI boot_isinstance (pa_cons (pv 0) (pa_cons (pe_glob (v := .ref C8) (by rfl) g8 rfl) pa_nil))) (pa_cons (pe_callB call (by rfl) mI boot_isinstance (pa_cons (pv 0) (pa_cons (pe_glob (v := .ref C9) (by rfl) g9 rfl) pa_nil))) (pa_cons (pe_callB call (by rfl) mI boot_isinstance (pa_cons (pv 0) (pa_cons (pe_glob (v := .ref C10) (by rfl) g10 rfl) pa_nil))) (pa_cons (pe_callB call (by rfl) mI boot_isinstance (pa_cons (pv 0) (pa_cons (pe_glob (v := .ref C11) (by rfl) g11 rfl) pa_nil))) pa_nil))))) pa_nil)))
      (pss_cons (ps_expr (pe_bm PySem.F.plainAttrs_list PySem.F.slot_list_extend PySem.F.type_list_extend mt_extend (pv 1) (pa_cons (pe_lst (pa_cons (pe_callB call (by rfl) mI boot_isinstance (pa_cons (pv 0) (pa_cons (pe_glob (v := .ref C12) (by rfl) g12 rfl) pa_nil))) (pa_cons (pe_callB call (by rfl) mI boot_isinstance (pa_cons (pv 0) (pa_cons (pe_glob (v := .ref C13) (by rfl) g13 rfl) pa_nil))) (pa_cons (pe_callB call (by rfl) mI boot_isinstance (pa_cons (pv 0) (pa_cons (pe_glob (v := .ref C14) (by rfl) g14 rfl) pa_nil))) (pa_cons (pe_callB call (by rfl) mI boot_isinstance (pa_cons (pv 0) (pa_cons (pe_glob (v := .ref C15) (by rfl) g15 rfl) pa_nil))) pa_nil))))) pa_nil)))
      (pss_cons (ps_expr (pe_bm PySem.F.plainAttrs_list PySem.F.slot_list_append PySem.F.type_list_append mt_append (pv 1) (pa_cons (pe_callB call (by rfl) mI boot_isinstance (pa_cons (pv 0) (pa_cons (pe_glob (v := .ref C16) (by rfl) g16 rfl) pa_nil))) pa_nil)))
      (pss_cons (ps_if (PW.pt (pw_or (pt_cmpR op_ne (pe_bm PySem.F.plainAttrs_list PySem.F.slot_list_count PySem.F.type_list_count mt_countF (pv 1) (pa_cons pe_bl pa_nil)) pe_int (nomark _))
          (pw_or1 (pt_not (pt_val (pe_callB call (by rfl) mI boot_isinstance (pa_cons (pv 0) (pa_cons (pe_bltn (v := .ty "ValueError") (by rfl) mV (by decide +kernel) rfl) pa_nil))))))))
          (pss_one (ps_ret (pe_tup (pa_cons pe_str (pa_cons (pe_un un_neg pe_int) pa_nil))))) pss_nil)
      (pss_one (ps_ret (pe_tup (pa_cons pe_str (pa_cons (pe_bm PySem.F.plainAttrs_list PySem.F.slot_list_index PySem.F.type_list_index mt_index (pv 1) (pa_cons pe_bl pa_nil)) pa_nil)))))))))), ?_⟩
    -- READ
    refine ⟨_, rfl, .ref C0, .ref C0, _, rfl, (fun _ z => z), e0, _, rfl, .ref C1, .ref C1, _, rfl, (fun _ z => z), e1, _, rfl, .ref C2, .ref C2, _, rfl, (fun _ z => z), e2, _, rfl, .ref C3, .ref C3, _, rfl, (fun _ z => z), e3, (by show 4 ≤ sizeLine; decide), fun p hp => ?_⟩
    have x0 := Ex.new (o := .lst [V.bl (decide (0 = i)), V.bl (decide (1 = i)), V.bl (decide (2 = i)), V.bl (decide (3 = i))]) hp
    have t0 : (upd H p (.lst [V.bl (decide (0 = i)), V.bl (decide (1 = i)), V.bl (decide (2 = i)), V.bl (decide (3 = i))])) p = some (.lst [V.bl (decide (0 = i)), V.bl (decide (1 = i)), V.bl (decide (2 = i)), V.bl (decide (3 = i))]) := upd_same
    generalize upd H p (.lst [V.bl (decide (0 = i)), V.bl (decide (1 = i)), V.bl (decide (2 = i)), V.bl (decide (3 = i))]) = H0 at x0 t0 ⊢
    refine ⟨_, rfl, .inl ⟨rfl, _, SqL.of t0⟩, _, rfl, .ref C4, .ref C4, _, rfl, (fun _ z => z), e4, _, rfl, .ref C5, .ref C5, _, rfl, (fun _ z => z), e5, _, rfl, .ref C6, .ref C6, _, rfl, (fun _ z => z), e6, _, rfl, .ref C7, .ref C7, _, rfl, (fun _ z => z), e7, (by show 4 ≤ sizeLine; decide), fun q0 hq0 => ?_⟩
    have nq0 : p ≠ q0 := ne_of_none t0 hq0
    refine ⟨p, q0, [V.bl (decide (0 = i)), V.bl (decide (1 = i)), V.bl (decide (2 = i)), V.bl (decide (3 = i))], [V.bl (decide (4 = i)), V.bl (decide (5 = i)), V.bl (decide (6 = i)), V.bl (decide (7 = i))], rfl, rfl, by rw [upd_ne nq0]; exact t0, upd_same, (by show 8 ≤ sizeLine; decide), ?_⟩
    have x1 : Ex H (upd (upd H0 q0 (.lst [V.bl (decide (4 = i)), V.bl (decide (5 = i)), V.bl (decide (6 = i)), V.bl (decide (7 = i))])) p (.lst [V.bl (decide (0 = i)), V.bl (decide (1 = i)), V.bl (decide (2 = i)), V.bl (decide (3 = i)), V.bl (decide (4 = i)), V.bl (decide (5 = i)), V.bl (decide (6 = i)), V.bl (decide (7 = i))])) := (x0.trans (Ex.new hq0)).put hp
    have t1 : (upd (upd H0 q0 (.lst [V.bl (decide (4 = i)), V.bl (decide (5 = i)), V.bl (decide (6 = i)), V.bl (decide (7 = i))])) p (.lst [V.bl (decide (0 = i)), V.bl (decide (1 = i)), V.bl (decide (2 = i)), V.bl (decide (3 = i)), V.bl (decide (4 = i)), V.bl (decide (5 = i)), V.bl (decide (6 = i)), V.bl (decide (7 = i))])) p = some (.lst [V.bl (decide (0 = i)), V.bl (decide (1 = i)), V.bl (decide (2 = i)), V.bl (decide (3 = i)), V.bl (decide (4 = i)), V.bl (decide (5 = i)), V.bl (decide (6 = i)), V.bl (decide (7 = i))]) := upd_same
    show tSeq _ _ _ _ (upd (upd H0 q0 (.lst [V.bl (decide (4 = i)), V.bl (decide (5 = i)), V.bl (decide (6 = i)), V.bl (decide (7 = i))])) p (.lst [V.bl (decide (0 = i)), V.bl (decide (1 = i)), V.bl (decide (2 = i)), V.bl (decide (3 = i)), V.bl (decide (4 = i)), V.bl (decide (5 = i)), V.bl (decide (6 = i)), V.bl (decide (7 = i))]))
    generalize upd (upd H0 q0 (.lst [V.bl (decide (4 = i)), V.bl (decide (5 = i)), V.bl (decide (6 = i)), V.bl (decide (7 = i))])) p (.lst [V.bl (decide (0 = i)), V.bl (decide (1 = i)), V.bl (decide (2 = i)), V.bl (decide (3 = i)), V.bl (decide (4 = i)), V.bl (decide (5 = i)), V.bl (decide (6 = i)), V.bl (decide (7 = i))]) = H1 at x1 t1 ⊢
    refine ⟨_, rfl, .inl ⟨rfl, _, SqL.of t1⟩, _, rfl, .ref C8, .ref C8, _, rfl, (fun _ z => z), e8, _, rfl, .ref C9, .ref C9, _, rfl, (fun _ z => z), e9, _, rfl, .ref C10, .ref C10, _, rfl, (fun _ z => z), e10, _, rfl, .ref C11, .ref C11, _, rfl, (fun _ z => z), e11, (by show 4 ≤ sizeLine; decide), fun q1 hq1 => ?_⟩
    have nq1 : p ≠ q1 := ne_of_none t1 hq1
    refine ⟨p, q1, [V.bl (decide (0 = i)), V.bl (decide (1 = i)), V.bl (decide (2 = i)), V.bl (decide (3 = i)), V.bl (decide (4 = i)), V.bl (decide (5 = i)), V.bl (decide (6 = i)), V.bl (decide (7 = i))], [V.bl (decide (8 = i)), V.bl (decide (9 = i)), V.bl (decide (10 = i)), V.bl (decide (11 = i))], rfl, rfl, by rw [upd_ne nq1]; exact t1, upd_same, (by show 12 ≤ sizeLine; decide), ?_⟩
    have x2 : Ex H (upd (upd H1 q1 (.lst [V.bl (decide (8 = i)), V.bl (decide (9 = i)), V.bl (decide (10 = i)), V.bl (decide (11 = i))])) p (.lst [V.bl (decide (0 = i)), V.bl (decide (1 = i)), V.bl (decide (2 = i)), V.bl (decide (3 = i)), V.bl (decide (4 = i)), V.bl (decide (5 = i)), V.bl (decide (6 = i)), V.bl (decide (7 = i)), V.bl (decide (8 = i)), V.bl (decide (9 = i)), V.bl (decide (10 = i)), V.bl (decide (11 = i))])) := (x1.trans (Ex.new hq1)).put hp
    have t2 : (upd (upd H1 q1 (.lst [V.bl (decide (8 = i)), V.bl (decide (9 = i)), V.bl (decide (10 = i)), V.bl (decide (11 = i))])) p (.lst [V.bl (decide (0 = i)), V.bl (decide (1 = i)), V.bl (decide (2 = i)), V.bl (decide (3 = i)), V.bl (decide (4 = i)), V.bl (decide (5 = i)), V.bl (decide (6 = i)), V.bl (decide (7 = i)), V.bl (decide (8 = i)), V.bl (decide (9 = i)), V.bl (decide (10 = i)), V.bl (decide (11 = i))])) p = some (.lst [V.bl (decide (0 = i)), V.bl (decide (1 = i)), V.bl (decide (2 = i)), V.bl (decide (3 = i)), V.bl (decide (4 = i)), V.bl (decide (5 = i)), V.bl (decide (6 = i)), V.bl (decide (7 = i)), V.bl (decide (8 = i)), V.bl (decide (9 = i)), V.bl (decide (10 = i)), V.bl (decide (11 = i))]) := upd_same
    show tSeq _ _ _ _ (upd (upd H1 q1 (.lst [V.bl (decide (8 = i)), V.bl (decide (9 = i)), V.bl (decide (10 = i)), V.bl (decide (11 = i))])) p (.lst [V.bl (decide (0 = i)), V.bl (decide (1 = i)), V.bl (decide (2 = i)), V.bl (decide (3 = i)), V.bl (decide (4 = i)), V.bl (decide (5 = i)), V.bl (decide (6 = i)), V.bl (decide (7 = i)), V.bl (decide (8 = i)), V.bl (decide (9 = i)), V.bl (decide (10 = i)), V.bl (decide (11 = i))]))
    generalize upd (upd H1 q1 (.lst [V.bl (decide (8 = i)), V.bl (decide (9 = i)), V.bl (decide (10 = i)), V.bl (decide (11 = i))])) p (.lst [V.bl (decide (0 = i)), V.bl (decide (1 = i)), V.bl (decide (2 = i)), V.bl (decide (3 = i)), V.bl (decide (4 = i)), V.bl (decide (5 = i)), V.bl (decide (6 = i)), V.bl (decide (7 = i)), V.bl (decide (8 = i)), V.bl (decide (9 = i)), V.bl (decide (10 = i)), V.bl (decide (11 = i))]) = H2 at x2 t2 ⊢
    refine ⟨_, rfl, .inl ⟨rfl, _, SqL.of t2⟩, _, rfl, .ref C12, .ref C12, _, rfl, (fun _ z => z), e12, _, rfl, .ref C13, .ref C13, _, rfl, (fun _ z => z), e13, _, rfl, .ref C14, .ref C14, _, rfl, (fun _ z => z), e14, _, rfl, .ref C15, .ref C15, _, rfl, (fun _ z => z), e15, (by show 4 ≤ sizeLine; decide), fun q2 hq2 => ?_⟩
    have nq2 : p ≠ q2 := ne_of_none t2 hq2
    refine ⟨p, q2, [V.bl (decide (0 = i)), V.bl (decide (1 = i)), V.bl (decide (2 = i)), V.bl (decide (3 = i)), V.bl (decide (4 = i)), V.bl (decide (5 = i)), V.bl (decide (6 = i)), V.bl (decide (7 = i)), V.bl (decide (8 = i)), V.bl (decide (9 = i)), V.bl (decide (10 = i)), V.bl (decide (11 = i))], [V.bl (decide (12 = i)), V.bl (decide (13 = i)), V.bl (decide (14 = i)), V.bl (decide (15 = i))], rfl, rfl, by rw [upd_ne nq2]; exact t2, upd_same, (by show 16 ≤ sizeLine; decide), ?_⟩
    have x3 : Ex H (upd (upd H2 q2 (.lst [V.bl (decide (12 = i)), V.bl (decide (13 = i)), V.bl (decide (14 = i)), V.bl (decide (15 = i))])) p (.lst [V.bl (decide (0 = i)), V.bl (decide (1 = i)), V.bl (decide (2 = i)), V.bl (decide (3 = i)), V.bl (decide (4 = i)), V.bl (decide (5 = i)), V.bl (decide (6 = i)), V.bl (decide (7 = i)), V.bl (decide (8 = i)), V.bl (decide (9 = i)), V.bl (decide (10 = i)), V.bl (decide (11 = i)), V.bl (decide (12 = i)), V.bl (decide (13 = i)), V.bl (decide (14 = i)), V.bl (decide (15 = i))])) := (x2.trans (Ex.new hq2)).put hp
    have t3 : (upd (upd H2 q2 (.lst [V.bl (decide (12 = i)), V.bl (decide (13 = i)), V.bl (decide (14 = i)), V.bl (decide (15 = i))])) p (.lst [V.bl (decide (0 = i)), V.bl (decide (1 = i)), V.bl (decide (2 = i)), V.bl (decide (3 = i)), V.bl (decide (4 = i)), V.bl (decide (5 = i)), V.bl (decide (6 = i)), V.bl (decide (7 = i)), V.bl (decide (8 = i)), V.bl (decide (9 = i)), V.bl (decide (10 = i)), V.bl (decide (11 = i)), V.bl (decide (12 = i)), V.bl (decide (13 = i)), V.bl (decide (14 = i)), V.bl (decide (15 = i))])) p = some (.lst [V.bl (decide (0 = i)), V.bl (decide (1 = i)), V.bl (decide (2 = i)), V.bl (decide (3 = i)), V.bl (decide (4 = i)), V.bl (decide (5 = i)), V.bl (decide (6 = i)), V.bl (decide (7 = i)), V.bl (decide (8 = i)), V.bl (decide (9 = i)), V.bl (decide (10 = i)), V.bl (decide (11 = i)), V.bl (decide (12 = i)), V.bl (decide (13 = i)), V.bl (decide (14 = i)), V.bl (decide (15 = i))]) := upd_same
    show tSeq _ _ _ _ (upd (upd H2 q2 (.lst [V.bl (decide (12 = i)), V.bl (decide (13 = i)), V.bl (decide (14 = i)), V.bl (decide (15 = i))])) p (.lst [V.bl (decide (0 = i)), V.bl (decide (1 = i)), V.bl (decide (2 = i)), V.bl (decide (3 = i)), V.bl (decide (4 = i)), V.bl (decide (5 = i)), V.bl (decide (6 = i)), V.bl (decide (7 = i)), V.bl (decide (8 = i)), V.bl (decide (9 = i)), V.bl (decide (10 = i)), V.bl (decide (11 = i)), V.bl (decide (12 = i)), V.bl (decide (13 = i)), V.bl (decide (14 = i)), V.bl (decide (15 = i))]))
    generalize upd (upd H2 q2 (.lst [V.bl (decide (12 = i)), V.bl (decide (13 = i)), V.bl (decide (14 = i)), V.bl (decide (15 = i))])) p (.lst [V.bl (decide (0 = i)), V.bl (decide (1 = i)), V.bl (decide (2 = i)), V.bl (decide (3 = i)), V.bl (decide (4 = i)), V.bl (decide (5 = i)), V.bl (decide (6 = i)), V.bl (decide (7 = i)), V.bl (decide (8 = i)), V.bl (decide (9 = i)), V.bl (decide (10 = i)), V.bl (decide (11 = i)), V.bl (decide (12 = i)), V.bl (decide (13 = i)), V.bl (decide (14 = i)), V.bl (decide (15 = i))]) = H3 at x3 t3 ⊢
    refine ⟨_, rfl, .inl ⟨rfl, _, SqL.of t3⟩, _, rfl, .ref C16, .ref C16, _, rfl, (fun _ z => z), e16, p, [V.bl (decide (0 = i)), V.bl (decide (1 = i)), V.bl (decide (2 = i)), V.bl (decide (3 = i)), V.bl (decide (4 = i)), V.bl (decide (5 = i)), V.bl (decide (6 = i)), V.bl (decide (7 = i)), V.bl (decide (8 = i)), V.bl (decide (9 = i)), V.bl (decide (10 = i)), V.bl (decide (11 = i)), V.bl (decide (12 = i)), V.bl (decide (13 = i)), V.bl (decide (14 = i)), V.bl (decide (15 = i))], _, rfl, rfl, t3, (by show 16 < sizeLine; decide), ?_⟩
    have x4 : Ex H (upd H3 p (.lst (truths 17 i))) := x3.put hp
    have t4 : (upd H3 p (.lst (truths 17 i))) p = some (.lst (truths 17 i)) := upd_same
    show tSeq _ _ _ _ (upd H3 p (.lst (truths 17 i)))
    generalize upd H3 p (.lst (truths 17 i)) = H4 at x4 t4 ⊢
    have s4 : SqL K H4 p (truths 17 i) := SqL.of t4
    refine ⟨_, rfl, .inl ⟨rfl, _, s4⟩, p, _, _, rfl, rfl, s4, rfl, truths_flat 17 i, ?_⟩
    rw [truths_count i W.lt]
    refine ⟨rfl, _, rfl, ?_⟩
    rw [show (!decide (V.int ((1 : Nat) : Int) = V.int 1)) = false from rfl]
    refine iteF ⟨_, rfl, .ty "ValueError", .type "ValueError", true, rfl, (fun _ z => z), W.val, _, rfl, ?_⟩
    refine iteF ?_
    refine ⟨_, rfl, .inl ⟨rfl, _, s4⟩, p, truths 17 i, .bl true, i, _, rfl, rfl, s4, rfl, truths_flat 17 i, truths_get W.lt, (by rw [decide_eq_true rfl]; rfl), (fun m z hm hz => ?_), (by show 2 ≤ sizeLine; decide), fun r hr => ?_⟩
    · rw [truths_get (Nat.lt_trans hm W.lt)] at hz
      cases hz
      rw [decide_eq_false (Nat.ne_of_lt hm)]
      rfl
    · exact k _ r (x4.trans (Ex.new hr)) (SqT.of upd_same)
end
/-! ### an answer, or which refusal -/
/-- the refusal of number i is told -/
def ToldI (K : PySem.W.Frag) (H : Hp) (Q : VK) (i : Int) : Prop := ∀ H' r, Ex H H' → RefAt K H' r i → Q (.ref r) H'
def spAsk (K : PySem.W.Frag) (P1 P2 : Addr) : Sp := fun vs H Q _ => ∃ n v u, vs = [.int n, v, u] ∧ TabG H P1 ∧ TabG H P2 ∧
  ((n = 0 ∧ PathOr K H v (ToldI K H Q 0) fun _ p => ∀ H' r, Ex H H' → (p = [] ∧ r = .non ∨ p ≠ [] ∧ ∃ q, r = .ref q ∧ PathAt K H' q p.dropLast) → Q r H') ∨
   (n = 1 ∧ PathOr K H v (ToldI K H Q 0) fun _ p => ∀ H' l, Ex H H' → PathsAt K H' l (begs p) → Q (.ref l) H') ∨
   (2 ≤ n ∧ PathOr K H v (ToldI K H Q 0) fun _ p => PathOr K H u (ToldI K H Q 0) fun _ q => ∀ H', Ex H H' → Q (.bl (withinB p q)) H'))
/-- a class that an except clause names -/
structure Base (K : PySem.W.Frag) (mg : Str → Option Value) (T : Addr) : Prop where
  g : mg "TreeError" = some (.ref T)
theorem PathOr.map {K : PySem.W.Frag} {H H' : Hp} {v : V} {b b' : Prop} {R R' : Addr → List Str → Prop} (x : Ex H H') (h : PathOr K H v b R) (hb : b → b') (hr : ∀ a p, R a p → R' a p) : PathOr K H' v b' R' := by
  rcases h with ⟨h1, h2⟩ | ⟨a, p, h1, h2, h3, h4⟩
  · exact Or.inl ⟨h1.ex x, hb h2⟩
  · exact Or.inr ⟨a, p, h1, h2.ex x, h3, hr a p h4⟩
section
variable {P : Program} {w : World} {K : PySem.W.Frag} {mg : Str → Option Value} {base : Heap}
theorem scAsk : FnScope ["_law_what", "_law_path", "_law_other", "_law_e"] ["_law_what", "_law_path", "_law_other"] (defScope sAsk) := ⟨rfl, rfl, rfl, by decide +kernel, rfl, by decide +kernel, by decide +kernel⟩
theorem ok_ask {f fA fB fI fW P1 P2 C T : Addr} {fd fdA fdB fdI fdW : FuncData} (F : Fun K "_law_ask" "_law_ask" sAsk f fd) (gT : mg "TreeError" = some (.ref T)) (eT : PySem.W.exmOne K (.ref C) (.ref T) = some true) (Wi : Wh K mg C 0)
    (GA : FnOk P w K mg base (L2.CX P w) 7 fA fdA ["path"] (spAbove K P1 P2 C)) (mA : mg "above" = some (.ref fA)) (kA : PySem.W.keepIn K (.ref fA) = true) (bA : Binds K fdA ["path"] [])
    (GB : FnOk P w K mg base (L2.CX P w) 7 fB fdB ["path"] (spBeginnings K P1 P2 C)) (mB : mg "beginnings" = some (.ref fB)) (kB : PySem.W.keepIn K (.ref fB) = true) (bB : Binds K fdB ["path"] [])
    (GI : FnOk P w K mg base (L2.CX P w) 7 fI fdI ["path", "other"] (spWithin K P1 P2 C)) (mI : mg "is_within" = some (.ref fI)) (kI : PySem.W.keepIn K (.ref fI) = true) (bI : Binds K fdI ["path", "other"] [])
    (GW : FnE P w K mg base CX0 1 fW fdW ["_law_e"] (spWhich K mg)) (mW : mg "_law_which" = some (.ref fW)) (kW : PySem.W.keepIn K (.ref fW) = true) (bW : Binds K fdW ["_law_e"] []) :
    FnOk P w K mg base CX0 8 f fd ["_law_what", "_law_path", "_law_other"] (spAsk K P1 P2) := by
  refine F.ok scAsk (fun vs H Q E h => ?_) (fun cdv A outer s H vs Q E hr h => ?_)
  · obtain ⟨n, v, u, rfl, _⟩ := h
    rfl
  · obtain ⟨n, v, u, rfl, hT1, hT2, h⟩ := h
    have AA : ∀ (X : Cx), X.prog = P → X.w = w → X.K = K → X.mg = mg → X.base = base → ∀ g sp, ((g = fA ∧ sp = spAbove K P1 P2 C) ∨ (g = fB ∧ sp = spBeginnings K P1 P2 C)) → HeldX X (L2.CX P w) 7 g sp := by
      intro X e1 e2 e3 e4 e5 g sp hh
      subst e1 e2 e3 e4 e5
      rcases hh with ⟨rfl, rfl⟩ | ⟨rfl, rfl⟩
      · exact ⟨_, _, GA, kA, bA⟩
      · exact ⟨_, _, GB, kB, bB⟩
    refine ⟨_, pss_one (ps_try_as (i := 3) (ts := fun a cls d => tRet (tCallS (spWhich K mg a cls d) (fun _ _ _ _ => False) (tCons (tVar 3) tNil))) (Wout := fun _ _ _ _ => False) rfl rfl scAsk.nd rfl rfl ⟨rfl, by decide, Or.inl gT⟩ takes0
      (fun W pn xe tk _ => pss_cons (ps_if (pt_cmpR op_lt (pv 0) pe_int (nomark _))
          (pss_one (ps_ret (pe_callC (CX := L2.CX P w) (E := WE W) (AA _ rfl rfl rfl rfl rfl) hr (pe_ix (r := rIxL K) ix_list (pe_lst (pa_cons (pe_glob (v := .ref fA) (by rfl) mA rfl) (pa_cons (pe_glob (v := .ref fB) (by rfl) mB rfl) pa_nil))) (pv 0) (fun _ _ => rfl))
            (fun σ => passAt tk σ) (pa_cons (pv 1) pa_nil)))) pss_nil)
        (pss_one (ps_ret (pe_callS (E := WE W) GI hr (by rfl) mI kI bI (fun σ => passAt tk σ) (pa_cons (pv 1) (pa_cons (pv 2) pa_nil))))))
      (fun a oe cls d pn hz hf => pss_one (ps_ret (pe_callE GW (by have r1 : Room 1 _ := hr.mono (by decide); exact ⟨r1.dp, r1.un⟩) ⟨hz, hf⟩ List.mem_cons_self (by rfl) mW kW bW (fun _ _ _ _ _ _ _ z => z.elim) (pa_cons (pv 3) pa_nil))))), ?_⟩
    have ref : ∀ (σ : L2.St) (H1 : Hp), Ex H H1 → ToldI K H Q 0 → Refused H1 (WE (wAs K (.ref T) 3 (fun a cls d => tRet (tCallS (spWhich K mg a cls d) (fun _ _ _ _ => False) (tCons (tVar 3) tNil))) (fun _ _ _ _ => False)
        { nx := fun _ G => Q .non G, rt := Q }) [some (.int n), some v, some u, none]) C := fun σ H1 x1 b H2 x2 =>
      ⟨true, eT, fun _ a _ => ⟨_, rfl, C, 0, rfl, rfl, rfl, Wi, fun H3 r x3 hr => b H3 r ((x1.trans x2).trans x3) hr⟩, fun z => nomatch z⟩
    refine ⟨_, rfl, _, _, rfl, rfl, _, rfl, ?_⟩
    rcases h with ⟨rfl, h⟩ | ⟨rfl, h⟩ | ⟨h2, h⟩
    · refine iteT ⟨(by show 2 ≤ sizeLine; decide), fun p hp => ?_⟩
      have x1 := Ex.new (o := .lst [.ref fA, .ref fB]) hp
      refine ⟨_, rfl, p, [.ref fA, .ref fB], 0, .ref fA, rfl, rfl, SqL.of upd_same, rfl, fA, _, rfl, .inl ⟨rfl, rfl⟩, _, rfl, v, rfl, x1.tab _ hT1, x1.tab _ hT2, ?_⟩
      exact h.map x1 (fun b => ref [] _ x1 b) fun a p k H' r x e => k H' r (x1.trans x) e
    · refine iteT ⟨(by show 2 ≤ sizeLine; decide), fun p hp => ?_⟩
      have x1 := Ex.new (o := .lst [.ref fA, .ref fB]) hp
      refine ⟨_, rfl, p, [.ref fA, .ref fB], 1, .ref fB, rfl, rfl, SqL.of upd_same, rfl, fB, _, rfl, .inr ⟨rfl, rfl⟩, _, rfl, v, rfl, x1.tab _ hT1, x1.tab _ hT2, ?_⟩
      exact h.map x1 (fun b => ref [] _ x1 b) fun a p k H' r x e => k H' r (x1.trans x) e
    · rw [decide_eq_false (by omega)]
      refine iteF ⟨_, rfl, _, rfl, v, u, rfl, hT1, hT2, ?_⟩
      exact h.map (Ex.refl H) (ref [] _ (Ex.refl H)) fun a p h => h.map (Ex.refl H) (ref [] _ (Ex.refl H)) fun a p k => k
end
/-! ### refusals as data -/
def refD (i : Int) : PyData := .tuple [.str "refused", .int i]
theorem RefAt.dp {K : PySem.W.Frag} {H : Hp} {r : Addr} {i : Int} (h : RefAt K H r i) : Dp K H (.ref r) (refD i) := .tup h (.cons (.str _) (.cons (.int _) .nil))
theorem RefAt.ex {K : PySem.W.Frag} {H H' : Hp} {r : Addr} {i : Int} (x : Ex H H') (h : RefAt K H r i) : RefAt K H' r i := Ex.tup x h
theorem shaped_ref (i : Int) : SeqAt.shaped (refD i) = true := by
  have hs : PyData.strOk "refused" = true := by decide +kernel
  simp [SeqAt.shaped, refD, PyData.canLay0, PyData.canLayAll0, PyData.depth, PyData.depthAll, hs]
theorem dpAll_refs {K : PySem.W.Frag} {H : Hp} {i : Int} : ∀ {rs : List Addr}, (∀ r ∈ rs, RefAt K H r i) → DpAll K H (rs.map V.ref) (List.replicate rs.length (refD i))
  | [], _ => .nil
  | r :: rs, h => .cons (h r (List.mem_cons_self ..)).dp (dpAll_refs fun q hq => h q (List.mem_cons_of_mem _ hq))
/-! ### the law -/
def spLaw (K : PySem.W.Frag) (P1 P2 : Addr) : Sp := fun vs H Q _ => ∃ (a : Addr) (ns : List Int), vs = [.ref a] ∧ SqL K H a (ns.map V.int) ∧ ns.length ≤ 63 ∧ TabG H P1 ∧ TabG H P2 ∧ ∀ H', Q (.bl true) H'
theorem ask_bad {K : PySem.W.Frag} {P1 P2 : Addr} {H : Hp} {Q : VK} {E : XK} {v u : V} {n : Int} (h0 : 0 ≤ n) (t1 : TabG H P1) (t2 : TabG H P2) (b : PathB K H v false) (h : ToldI K H Q 0) : spAsk K P1 P2 [.int n, v, u] H Q E := by
  refine ⟨n, v, u, rfl, t1, t2, ?_⟩
  by_cases e0 : n = 0
  · exact .inl ⟨e0, .inl ⟨b, h⟩⟩
  · by_cases e1 : n = 1
    · exact .inr (.inl ⟨e1, .inl ⟨b, h⟩⟩)
    · exact .inr (.inr ⟨by omega, .inl ⟨b, h⟩⟩)
section
variable {P : Program} {w : World} {K : PySem.W.Frag} {mg : Str → Option Value} {base : Heap}
abbrev lawN : List Str := ["_law_script", "_law_town", "_law_bad", "_law_what"]
theorem scLaw : FnScope lawN ["_law_script"] (defScope sLaw) := ⟨rfl, rfl, rfl, by decide +kernel, rfl, by decide +kernel, by decide +kernel⟩
theorem ok_law {f fA fN P1 P2 : Addr} {fd fdA fdN : FuncData} (F : Fun K "law" "law" sLaw f fd) (mR : mg "range" = none)
    (GA : FnOk P w K mg base CX0 8 fA fdA ["_law_what", "_law_path", "_law_other"] (spAsk K P1 P2)) (mA : mg "_law_ask" = some (.ref fA)) (kA : PySem.W.keepIn K (.ref fA) = true) (bA : Binds K fdA ["_law_what", "_law_path", "_law_other"] [])
    (GN : FnOk P w K mg base CX0 3 fN fdN ["_law_script", "_law_town"] (spNoPath K)) (mN : mg "_law_no_path" = some (.ref fN)) (kN : PySem.W.keepIn K (.ref fN) = true) (bN : Binds K fdN ["_law_script", "_law_town"] []) :
    FnOk P w K mg base CX0 9 f fd ["_law_script"] (spLaw K P1 P2) := by
  refine F.ok scLaw (fun vs H Q E h => ?_) (fun cdv A outer s H vs Q E hr h => ?_)
  · obtain ⟨a, ns, rfl, _⟩ := h
    rfl
  · obtain ⟨sc, ns, rfl, hsq, h63, hT1, hT2, k⟩ := h
    have r3 := hr.mono (show 3 ≤ 8 by decide)
    refine ⟨_, pss_cons (ps_set (i := 1) scLaw.nd rfl (Or.inl rfl) (pe_lst (pa_cons pe_int (pa_cons pe_int pa_nil))))
      (pss_cons (ps_set (i := 2) scLaw.nd rfl (Or.inr rfl) (pe_call (E := E0) GN r3 (by rfl) mN kN bN .nil pass0 (pa_cons (pv 0) (pa_cons (pv 1) pa_nil))))
      (pss_cons (ps_if (pt_cmpR (op_neD hr.units)
          (pe_lc (own := [("_law_what", 3)]) (g := gName 3) (tt := tYes) rfl scLaw.nd (pi_range1 (by rfl) mR (pa_cons pe_int pa_nil))
            (blkOk_by (N := lawN) (sc := defScope sLaw) (by decide +kernel)) (fun _ _ _ _ _ => pg_name (i := 3) scLaw.nd rfl (Or.inl rfl)) (fun _ _ _ _ _ => pts_nil)
            (fun _ _ _ _ _ => pe_call (E := E0) GA hr (by rfl) mA kA bA .nil pass0 (pa_cons (pv 3) (pa_cons (pv 2) (pa_cons (pe_tup (pa_cons pe_str pa_nil)) pa_nil)))))
          (pe_op op_rep (pe_lst (pa_cons (pe_tup (pa_cons pe_str (pa_cons pe_int pa_nil))) pa_nil)) pe_int) (nomark _))
          (pss_one (ps_ret pe_bl)) pss_nil)
      (pss_cons (ps_if (pt_cmpR (op_neD hr.units) (pe_call (E := E0) GA hr (by rfl) mA kA bA .nil pass0 (pa_cons pe_int (pa_cons (pe_tup (pa_cons pe_str pa_nil)) (pa_cons (pv 2) pa_nil)))) (pe_tup (pa_cons pe_str (pa_cons pe_int pa_nil))) (nomark _))
          (pss_one (ps_ret pe_bl)) pss_nil)
      (pss_one (ps_ret (pe_and (pe_cmpR op_isBl (pe_call (E := E0) GA hr (by rfl) mA kA bA .nil pass0 (pa_cons pe_int (pa_cons (pe_tup (pa_cons pe_str pa_nil)) (pa_cons (pe_tup pa_nil) pa_nil)))) pe_bl (nomark _))
          (pe_one (pe_cmpR op_isN (pe_call (E := E0) GA hr (by rfl) mA kA bA .nil pass0 (pa_cons pe_int (pa_cons (pe_tup pa_nil) (pa_cons (pe_tup pa_nil) pa_nil)))) pe_non (nomark _))))))))), ?_⟩
    -- the town
    refine ⟨(by show 2 ≤ sizeLine; decide), fun tw htw => ?_⟩
    have xa := Ex.new (o := .lst [.int 0, .int 0]) htw
    have L1 : Lw K (upd H tw (.lst [.int 0, .int 0])) sc tw ns := Lw.make hsq h63 htw
    have T1 := xa.tab _ hT1
    have T2 := xa.tab _ hT2
    generalize upd H tw (.lst [.int 0, .int 0]) = H1 at L1 T1 T2 ⊢
    clear xa hsq hT1 hT2
    refine ⟨_, rfl, _, rfl, sc, tw, ns, rfl, L1, fun H2 v v2 pb => ?_⟩
    have T1 := v2.tab _ T1
    have T2 := v2.tab _ T2
    clear v2 L1
    have askB : ∀ {G : Hp} {R : VK} {u : V} {n : Int}, Ex H2 G → 0 ≤ n → ToldI K G R 0 → spAsk K P1 P2 ([.int n, v, u] ++ []) G R E0 := fun x h0 h =>
      ask_bad h0 (x.tab _ T1) (x.tab _ T2) (pb.ex x) h
    refine ⟨_, rfl, by decide, by decide, fun D hD => ?_⟩
    refine lc_range (lo := 0) (n := 3) (fun i G => Ex H2 G ∧ ∃ rs : List Addr, G D = some (.lst (rs.map V.ref)) ∧ rs.length = i ∧ ∀ r ∈ rs, RefAt K G r 0) ⟨Ex.new hD, [], upd_same, rfl, fun r hr => nomatch hr⟩ ?_ ?_
    · rintro i G hi ⟨x, rs, hl, hn, hp⟩
      refine ⟨rfl, _, rfl, _, rfl, (by show 1 ≤ sizeLine; decide), fun p1 h1 => ?_⟩
      have y1 := Ex.new (o := .tup [.str "a"]) h1
      refine askB (x.trans y1) (by omega) (fun G' r x2 pr2 => ?_)
      have y2 := y1.trans x2
      have hl2 := y2.keep _ _ hl (fun ps z => by cases z)
      refine ⟨rs.map V.ref, hl2, by rw [List.length_map, hn]; exact Nat.lt_trans hi (by decide), (x.trans y2).put hD, rs ++ [r], ?_, by rw [List.length_append, hn]; rfl, fun q hq => ?_⟩
      · rw [upd_same, List.map_append]
        rfl
      · rcases List.mem_append.mp hq with h | h
        · exact sqT_put ((hp q h).ex y2) hl2
        · rw [List.mem_singleton.mp h]
          exact sqT_put pr2 hl2
    · rintro G ⟨x, rs, hrs, hn, hp⟩
      refine ⟨(by show 2 ≤ sizeLine; decide), fun q1 hq1 => ⟨(by show 1 ≤ sizeLine; decide), fun q2 hq2 => ?_⟩⟩
      have y1 := Ex.new (o := .tup [.str "refused", .int 0]) hq1
      have e1 : RefAt K (upd G q1 (.tup [.str "refused", .int 0])) q1 0 := SqT.of upd_same
      have y2 := Ex.new (o := .lst [.ref q1]) hq2
      have hq := e1.ex y2
      refine ⟨q2, 3, _, rfl, rfl, upd_same, by decide, by decide, (by show 3 ≤ sizeLine; decide), fun q3 hq3 => ?_⟩
      rw [show (List.replicate (3 : Int).toNat [V.ref q1]).flatten = [.ref q1, .ref q1, .ref q1] from rfl]
      have y3 := Ex.new (o := .lst [.ref q1, .ref q1, .ref q1]) hq3
      have t3 : (upd (upd (upd G q1 (.tup [.str "refused", .int 0])) q2 (.lst [.ref q1])) q3 (.lst [.ref q1, .ref q1, .ref q1])) q3 = some (.lst [.ref q1, .ref q1, .ref q1]) := upd_same
      have hq := hq.ex y3
      have y := (y1.trans y2).trans y3
      generalize upd (upd (upd G q1 (.tup [.str "refused", .int 0])) q2 (.lst [.ref q1])) q3 (.lst [.ref q1, .ref q1, .ref q1]) = G3 at y t3 hq ⊢
      have d1 : Dp K G3 (.ref D) (.list (List.replicate 3 (refD 0))) := by
        rw [← hn]
        exact .lst (SqL.of (y.keep _ _ hrs (fun ps z => by cases z))) (dpAll_refs fun r hr => (hp r hr).ex y)
      have d2 : Dp K G3 (.ref q3) (.list (List.replicate 3 (refD 0))) := .lst (SqL.of t3) (dpAll_refs (rs := [q1, q1, q1]) fun r hr => by
        have : r = q1 := by simpa using hr
        rw [this]
        exact hq)
      have sh : SeqAt.shaped (.list (List.replicate 3 (refD 0))) = true := by decide +kernel
      refine ⟨_, _, d1, d2, sh, sh, _, rfl, ?_⟩
      rw [eqv_same _ sh]
      refine iteF ?_
      have x := x.trans y
      clear d1 d2 hq t3 y y1 y2 y3 hq1 hq2 hq3 e1 hrs hn hp hD
      -- is_within of what is no path
      refine ⟨(by show 1 ≤ sizeLine; decide), fun p1 h1 => ?_⟩
      have y1 := Ex.new (o := .tup [.str "a"]) h1
      have pa : PathAt K (upd G3 p1 (.tup [.str "a"])) p1 ["a"] := SqT.of upd_same
      generalize upd G3 p1 (.tup [.str "a"]) = G4 at y1 pa ⊢
      have x4 := x.trans y1
      have ga : goodPath ["a"] = true := by decide +kernel
      have ge : goodPath [] = true := by decide +kernel
      refine ⟨_, rfl, 2, .ref p1, v, rfl, x4.tab _ T1, x4.tab _ T2, .inr (.inr ⟨by decide, .inr ⟨p1, ["a"], rfl, pa, ga, .inl ⟨pb.ex x4, fun G5 r x5 hr5 => ?_⟩⟩⟩)⟩
      have x := x4.trans x5
      clear y1 pa x4 x5
      refine ⟨(by show 2 ≤ sizeLine; decide), fun q1 hq1 => ?_⟩
      have y1 := Ex.new (o := .tup [.str "refused", .int 0]) hq1
      have e1 : RefAt K (upd G5 q1 (.tup [.str "refused", .int 0])) q1 0 := SqT.of upd_same
      refine ⟨_, _, (hr5.ex y1).dp, e1.dp, shaped_ref 0, shaped_ref 0, _, rfl, ?_⟩
      rw [eqv_same _ (shaped_ref 0)]
      refine iteF ?_
      have x := x.trans y1
      generalize upd G5 q1 (.tup [.str "refused", .int 0]) = G6 at x ⊢
      clear y1 e1 hr5 hq1
      -- the root
      refine ⟨(by show 1 ≤ sizeLine; decide), fun p2 h2 => ⟨Nat.zero_le _, fun p3 h3 => ?_⟩⟩
      have y1 := Ex.new (o := .tup [.str "a"]) h2
      have pa : PathAt K (upd G6 p2 (.tup [.str "a"])) p2 ["a"] := SqT.of upd_same
      have y2 := Ex.new (o := .tup []) h3
      have pe : PathAt K (upd (upd G6 p2 (.tup [.str "a"])) p3 (.tup [])) p3 [] := SqT.of upd_same
      have pa := pa.ex y2
      have x := (x.trans y1).trans y2
      generalize upd (upd G6 p2 (.tup [.str "a"])) p3 (.tup []) = G7 at x pa pe ⊢
      refine ⟨2, .ref p2, .ref p3, rfl, x.tab _ T1, x.tab _ T2, .inr (.inr ⟨by decide, .inr ⟨p2, ["a"], rfl, pa, ga, .inr ⟨p3, [], rfl, pe, ge, fun G8 x8 => ?_⟩⟩⟩)⟩
      have x := x.trans x8
      rw [show withinB ["a"] [] = true by decide +kernel]
      refine ⟨true, true, rfl, rfl, _, rfl, iteT ?_⟩
      clear y1 y2 pa pe x8
      refine ⟨Nat.zero_le _, fun p4 h4 => ⟨Nat.zero_le _, fun p5 h5 => ?_⟩⟩
      have y1 := Ex.new (o := .tup []) h4
      have pe : PathAt K (upd G8 p4 (.tup [])) p4 [] := SqT.of upd_same
      have y2 := Ex.new (o := .tup []) h5
      have pe := pe.ex y2
      have x := (x.trans y1).trans y2
      generalize upd (upd G8 p4 (.tup [])) p5 (.tup []) = G9 at x pe ⊢
      refine ⟨0, .ref p4, .ref p5, rfl, x.tab _ T1, x.tab _ T2, .inl ⟨rfl, .inr ⟨p4, [], rfl, pe, ge, fun G10 r x10 h => ?_⟩⟩⟩
      rcases h with ⟨_, rfl⟩ | ⟨h, _⟩
      · exact ⟨rfl, k G10⟩
      · exact absurd rfl h
end
/-! ### what the top has written -/
theorem all_mk {l : PySem.W.OpenLaw} {q : Program} {w : World} {K : PySem.W.Frag} {h : Heap} {mg : Str → Option Value} {fz fa f0 f1 f2 f3 f4 f5 f6 f7 f8 f9 f10 f11 cP1 P1 cP2 P2 T C0 C1 C2 C3 C4 C5 C6 C7 C8 C9 C10 C11 C12 C13 C14 C15 C16 : Addr} {g1 g2 g3 : Tok} (X : K.In h) (G : h.Ns mainGlobals mg) (hfa : mg "law" = some (.ref fz)) (TT : TabsOf q K h)
    {od0 an0 od1 an1 od2 an2 od3 an3 od4 an4 od5 an5 od6 an6 od7 an7 od8 an8 od9 an9 od10 an10 od11 an11 od12 an12 xd1 xd2 : Option Addr} {sl0 sl1 sl2 sl3 sl4 sl5 sl6 sl7 sl8 sl9 sl10 sl11 sl12 xs1 xs2 : Array (Option Value)}
    {xv1 xv2 : Array Value}
    {oc0 kV0 dc0 pm0 ct0 oc1 kV1 dc1 pm1 ct1 oc2 kV2 dc2 pm2 ct2 cd2 oc3 kV3 dc3 pm3 ct3 cd3 oc4 kV4 dc4 pm4 ct4 cd4 oc5 kV5 dc5 pm5 ct5 cd5 oc6 kV6 dc6 pm6 ct6 cd6 oc7 kV7 dc7 pm7 ct7 cd7 oc8 kV8 dc8 pm8 ct8 cd8 oc9 kV9 dc9 pm9 ct9 cd9 oc10 kV10 dc10 pm10 ct10 cd10 oc11 kV11 dc11 pm11 ct11 cd11 oc12 kV12 dc12 pm12 ct12 cd12 xo1 xo2 : Value}
    (a0 : PySem.W.nsIn K mainGlobals "is_name" = some (some (.ref f0)))
    (l0 : K.lookup f0 = some ⟨oc0, od0, .func (PySem.W.fnOf "is_name" "is_name" (defArgs sIsName) (defBody sIsName) (defScope sIsName) .none kV0 dc0 pm0 an0 (.ref cP1) ct0), sl0⟩)
    (c0 : PySem.W.codeIn K (.ref cP1) "is_name" = true)
    (k0 : PySem.W.keepIn K (.ref f0) = true)
    (a1 : PySem.W.nsIn K mainGlobals "is_path" = some (some (.ref f1)))
    (l1 : K.lookup f1 = some ⟨oc1, od1, .func (PySem.W.fnOf "is_path" "is_path" (defArgs sIsPath) (defBody sIsPath) (defScope sIsPath) .none kV1 dc1 pm1 an1 (.ref cP2) ct1), sl1⟩)
    (c1 : PySem.W.codeIn K (.ref cP2) "is_path" = true)
    (k1 : PySem.W.keepIn K (.ref f1) = true)
    (a2 : PySem.W.nsIn K mainGlobals "check_path" = some (some (.ref f2)))
    (l2 : K.lookup f2 = some ⟨oc2, od2, .func (PySem.W.fnOf "check_path" "check_path" (defArgs sCheckPath) (defBody sCheckPath) (defScope sCheckPath) .none kV2 dc2 pm2 an2 cd2 ct2), sl2⟩)
    (c2 : PySem.W.codeIn K cd2 "check_path" = true)
    (k2 : PySem.W.keepIn K (.ref f2) = true)
    (a3 : PySem.W.nsIn K mainGlobals "above" = some (some (.ref f3)))
    (l3 : K.lookup f3 = some ⟨oc3, od3, .func (PySem.W.fnOf "above" "above" (defArgs sAbove) (defBody sAbove) (defScope sAbove) .none kV3 dc3 pm3 an3 cd3 ct3), sl3⟩)
    (c3 : PySem.W.codeIn K cd3 "above" = true)
    (k3 : PySem.W.keepIn K (.ref f3) = true)
    (a4 : PySem.W.nsIn K mainGlobals "begins_with" = some (some (.ref f4)))
    (l4 : K.lookup f4 = some ⟨oc4, od4, .func (PySem.W.fnOf "begins_with" "begins_with" (defArgs sBegins) (defBody sBegins) (defScope sBegins) .none kV4 dc4 pm4 an4 cd4 ct4), sl4⟩)
    (c4 : PySem.W.codeIn K cd4 "begins_with" = true)
    (k4 : PySem.W.keepIn K (.ref f4) = true)
    (a5 : PySem.W.nsIn K mainGlobals "is_within" = some (some (.ref f5)))
    (l5 : K.lookup f5 = some ⟨oc5, od5, .func (PySem.W.fnOf "is_within" "is_within" (defArgs sWithin) (defBody sWithin) (defScope sWithin) .none kV5 dc5 pm5 an5 cd5 ct5), sl5⟩)
    (c5 : PySem.W.codeIn K cd5 "is_within" = true)
    (k5 : PySem.W.keepIn K (.ref f5) = true)
    (a6 : PySem.W.nsIn K mainGlobals "beginnings" = some (some (.ref f6)))
    (l6 : K.lookup f6 = some ⟨oc6, od6, .func (PySem.W.fnOf "beginnings" "beginnings" (defArgs sBeginnings) (defBody sBeginnings) (defScope sBeginnings) .none kV6 dc6 pm6 an6 cd6 ct6), sl6⟩)
    (c6 : PySem.W.codeIn K cd6 "beginnings" = true)
    (k6 : PySem.W.keepIn K (.ref f6) = true)
    (a7 : PySem.W.nsIn K mainGlobals "_law_draw" = some (some (.ref f7)))
    (l7 : K.lookup f7 = some ⟨oc7, od7, .func (PySem.W.fnOf "_law_draw" "_law_draw" (defArgs sDraw) (defBody sDraw) (defScope sDraw) .none kV7 dc7 pm7 an7 cd7 ct7), sl7⟩)
    (c7 : PySem.W.codeIn K cd7 "_law_draw" = true)
    (k7 : PySem.W.keepIn K (.ref f7) = true)
    (a8 : PySem.W.nsIn K mainGlobals "_law_pick" = some (some (.ref f8)))
    (l8 : K.lookup f8 = some ⟨oc8, od8, .func (PySem.W.fnOf "_law_pick" "_law_pick" (defArgs sPick) (defBody sPick) (defScope sPick) .none kV8 dc8 pm8 an8 cd8 ct8), sl8⟩)
    (c8 : PySem.W.codeIn K cd8 "_law_pick" = true)
    (k8 : PySem.W.keepIn K (.ref f8) = true)
    (a9 : PySem.W.nsIn K mainGlobals "_law_no_path" = some (some (.ref f9)))
    (l9 : K.lookup f9 = some ⟨oc9, od9, .func (PySem.W.fnOf "_law_no_path" "_law_no_path" (defArgs sNoPath) (defBody sNoPath) (defScope sNoPath) .none kV9 dc9 pm9 an9 cd9 ct9), sl9⟩)
    (c9 : PySem.W.codeIn K cd9 "_law_no_path" = true)
    (k9 : PySem.W.keepIn K (.ref f9) = true)
    (a10 : PySem.W.nsIn K mainGlobals "_law_which" = some (some (.ref f10)))
    (l10 : K.lookup f10 = some ⟨oc10, od10, .func (PySem.W.fnOf "_law_which" "_law_which" (defArgs sWhich) (defBody sWhich) (defScope sWhich) .none kV10 dc10 pm10 an10 cd10 ct10), sl10⟩)
    (c10 : PySem.W.codeIn K cd10 "_law_which" = true)
    (k10 : PySem.W.keepIn K (.ref f10) = true)
    (a11 : PySem.W.nsIn K mainGlobals "_law_ask" = some (some (.ref f11)))
    (l11 : K.lookup f11 = some ⟨oc11, od11, .func (PySem.W.fnOf "_law_ask" "_law_ask" (defArgs sAsk) (defBody sAsk) (defScope sAsk) .none kV11 dc11 pm11 an11 cd11 ct11), sl11⟩)
    (c11 : PySem.W.codeIn K cd11 "_law_ask" = true)
    (k11 : PySem.W.keepIn K (.ref f11) = true)
    (a12 : PySem.W.nsIn K mainGlobals "law" = some (some (.ref fa)))
    (l12 : K.lookup fa = some ⟨oc12, od12, .func (PySem.W.fnOf "law" "law" (defArgs sLaw) (defBody sLaw) (defScope sLaw) .none kV12 dc12 pm12 an12 cd12 ct12), sl12⟩)
    (c12 : PySem.W.codeIn K cd12 "law" = true)
    (k12 : PySem.W.keepIn K (.ref fa) = true)
    (u1 : K.lookup cP1 = some ⟨xo1, xd1, .fields xv1, xs1⟩)
    (i1 : (xv1[11]? : Option Value) = some (.ref P1))
    (u2 : K.lookup cP2 = some ⟨xo2, xd2, .fields xv2, xs2⟩)
    (i2 : (xv2[11]? : Option Value) = some (.ref P2))
    (z_isinstance : PySem.W.nsIn K mainGlobals "isinstance" = some none)
    (z_str : PySem.W.nsIn K mainGlobals "str" = some none)
    (z_tuple : PySem.W.nsIn K mainGlobals "tuple" = some none)
    (z_len : PySem.W.nsIn K mainGlobals "len" = some none)
    (z_all : PySem.W.nsIn K mainGlobals "all" = some none)
    (z_range : PySem.W.nsIn K mainGlobals "range" = some none)
    (z_ValueError : PySem.W.nsIn K mainGlobals "ValueError" = some none)
    (h_LETTERS : PySem.W.nsIn K mainGlobals "LETTERS" = some (some (.str lettersS g1)))
    (h_MOST_LETTERS : PySem.W.nsIn K mainGlobals "MOST_LETTERS" = some (some (.int 4 g2)))
    (h_MOST_NAMES : PySem.W.nsIn K mainGlobals "MOST_NAMES" = some (some (.int 5 g3)))
    (r01 : PySem.W.nsIn K mainGlobals "NoPath" = some (some (.ref C0)))
    (r02 : PySem.W.excIn K C0 [.type "ValueError", .type "Exception", .type "BaseException", .type "object"] "ValueError.__new__" = true)
    (r03 : PySem.W.keepIn K (.ref C0) = true)
    (r04 : PySem.W.subIn K (.ref C0) (.type "BaseException") = some true)
    (r05 : PySem.W.typeIn K (.ref C0) = some (.type "type"))
    (x_NoText : PySem.W.nsIn K mainGlobals "NoText" = some (some (.ref C1)))
    (x_NoTree : PySem.W.nsIn K mainGlobals "NoTree" = some (some (.ref C2)))
    (x_NoLayer : PySem.W.nsIn K mainGlobals "NoLayer" = some (some (.ref C3)))
    (x_NoStack : PySem.W.nsIn K mainGlobals "NoStack" = some (some (.ref C4)))
    (x_NoHandle : PySem.W.nsIn K mainGlobals "NoHandle" = some (some (.ref C5)))
    (x_NoPower : PySem.W.nsIn K mainGlobals "NoPower" = some (some (.ref C6)))
    (x_Root : PySem.W.nsIn K mainGlobals "Root" = some (some (.ref C7)))
    (x_NotThere : PySem.W.nsIn K mainGlobals "NotThere" = some (some (.ref C8)))
    (x_NoDrawer : PySem.W.nsIn K mainGlobals "NoDrawer" = some (some (.ref C9)))
    (x_IsDrawer : PySem.W.nsIn K mainGlobals "IsDrawer" = some (some (.ref C10)))
    (x_Taken : PySem.W.nsIn K mainGlobals "Taken" = some (some (.ref C11)))
    (x_NotEmpty : PySem.W.nsIn K mainGlobals "NotEmpty" = some (some (.ref C12)))
    (x_Within : PySem.W.nsIn K mainGlobals "Within" = some (some (.ref C13)))
    (x_TooLong : PySem.W.nsIn K mainGlobals "TooLong" = some (some (.ref C14)))
    (x_Full : PySem.W.nsIn K mainGlobals "Full" = some (some (.ref C15)))
    (x_Dark : PySem.W.nsIn K mainGlobals "Dark" = some (some (.ref C16)))
    (xc0a : PySem.W.findIn K (.ref C0) "__getattribute__" = some (some (.builtin "BaseException.__getattribute__")))
    (xc0b : PySem.W.findIn K (.ref C0) "__getattr__" = some none)
    (xc0c : PySem.W.hasDictIn K C0 = true)
    (xc0d : PySem.W.findIn K (.ref C0) "__class__" = some (some (.builtin "object.__class__")))
    (xc0e : PySem.W.mroIn K C0 (.type "object") = some true)
    (gs1 : PySem.W.specialIn K (.builtin "object.__class__") "__get__" = some (some (.builtin "getset_descriptor.__get__")))
    (gs2 : PySem.W.takesIn K (.builtin "object.__class__") = some true)
    (kit0_0 : PySem.W.kitOne K (.ref C0) (.ref C0) = some true)
    (kit0_1 : PySem.W.kitOne K (.ref C0) (.ref C1) = some false)
    (kit0_2 : PySem.W.kitOne K (.ref C0) (.ref C2) = some false)
    (kit0_3 : PySem.W.kitOne K (.ref C0) (.ref C3) = some false)
    (kit0_4 : PySem.W.kitOne K (.ref C0) (.ref C4) = some false)
    (kit0_5 : PySem.W.kitOne K (.ref C0) (.ref C5) = some false)
    (kit0_6 : PySem.W.kitOne K (.ref C0) (.ref C6) = some false)
    (kit0_7 : PySem.W.kitOne K (.ref C0) (.ref C7) = some false)
    (kit0_8 : PySem.W.kitOne K (.ref C0) (.ref C8) = some false)
    (kit0_9 : PySem.W.kitOne K (.ref C0) (.ref C9) = some false)
    (kit0_10 : PySem.W.kitOne K (.ref C0) (.ref C10) = some false)
    (kit0_11 : PySem.W.kitOne K (.ref C0) (.ref C11) = some false)
    (kit0_12 : PySem.W.kitOne K (.ref C0) (.ref C12) = some false)
    (kit0_13 : PySem.W.kitOne K (.ref C0) (.ref C13) = some false)
    (kit0_14 : PySem.W.kitOne K (.ref C0) (.ref C14) = some false)
    (kit0_15 : PySem.W.kitOne K (.ref C0) (.ref C15) = some false)
    (kit0_16 : PySem.W.kitOne K (.ref C0) (.ref C16) = some false)
    (kitV0 : PySem.W.kitOne K (.ref C0) (.type "ValueError") = some true)
    (te1 : PySem.W.nsIn K mainGlobals "TreeError" = some (some (.ref T)))
    (te2 : PySem.W.exmOne K (.ref C0) (.ref T) = some true)
    (nt : PySem.W.noTabs K = true)
    {dr1 : DefRec} (r1 : (recsOf q).find? (fun e => e.name == ("is_name" : Str)) = some dr1)
    {dr2 : DefRec} (r2 : (recsOf q).find? (fun e => e.name == ("is_path" : Str)) = some dr2)
    : LamX.LawAtS l w K (fun _ _ _ _ _ _ => False) 9 63 "_law_script" mg fz h := by
  have e := hfa.symm.trans (PySem.W.mg_of X G a12)
  cases e
  obtain ⟨q1, w1⟩ := TT _ _ _ _ r1 (tab_in a0 l0 u1 i1)
  have F0 : FunC K "is_name" "is_name" sIsName f0 _ cP1 := ⟨⟨_, _, _, _, _, _, _, _, rfl, l0, c0⟩, k0⟩
  have b0 := F0.fn.binds (ps := ["thing"]) fun _ _ _ _ _ _ us hl => match us, hl with | [_], _ => rfl
  have m0 := PySem.W.mg_of X G a0
  obtain ⟨q2, w2⟩ := TT _ _ _ _ r2 (tab_in a1 l1 u2 i2)
  have F1 : FunC K "is_path" "is_path" sIsPath f1 _ cP2 := ⟨⟨_, _, _, _, _, _, _, _, rfl, l1, c1⟩, k1⟩
  have b1 := F1.fn.binds (ps := ["thing"]) fun _ _ _ _ _ _ us hl => match us, hl with | [_], _ => rfl
  have m1 := PySem.W.mg_of X G a1
  have F2 := fun_mk (st := sCheckPath) l2 c2 k2
  have b2 := F2.binds (ps := ["thing"]) fun _ _ _ _ _ _ us hl => match us, hl with | [_], _ => rfl
  have m2 := PySem.W.mg_of X G a2
  have F3 := fun_mk (st := sAbove) l3 c3 k3
  have b3 := F3.binds (ps := ["path"]) fun _ _ _ _ _ _ us hl => match us, hl with | [_], _ => rfl
  have m3 := PySem.W.mg_of X G a3
  have F4 := fun_mk (st := sBegins) l4 c4 k4
  have b4 := F4.binds (ps := ["path", "other"]) fun _ _ _ _ _ _ us hl => match us, hl with | [_, _], _ => rfl
  have m4 := PySem.W.mg_of X G a4
  have F5 := fun_mk (st := sWithin) l5 c5 k5
  have b5 := F5.binds (ps := ["path", "other"]) fun _ _ _ _ _ _ us hl => match us, hl with | [_, _], _ => rfl
  have m5 := PySem.W.mg_of X G a5
  have F6 := fun_mk (st := sBeginnings) l6 c6 k6
  have b6 := F6.binds (ps := ["path"]) fun _ _ _ _ _ _ us hl => match us, hl with | [_], _ => rfl
  have m6 := PySem.W.mg_of X G a6
  have F7 := fun_mk (st := sDraw) l7 c7 k7
  have b7 := F7.binds (ps := ["_law_script", "_law_town", "_law_many"]) fun _ _ _ _ _ _ us hl => match us, hl with | [_, _, _], _ => rfl
  have m7 := PySem.W.mg_of X G a7
  have F8 := fun_mk (st := sPick) l8 c8 k8
  have b8 := F8.binds (ps := ["_law_script", "_law_town", "_law_some"]) fun _ _ _ _ _ _ us hl => match us, hl with | [_, _, _], _ => rfl
  have m8 := PySem.W.mg_of X G a8
  have F9 := fun_mk (st := sNoPath) l9 c9 k9
  have b9 := F9.binds (ps := ["_law_script", "_law_town"]) fun _ _ _ _ _ _ us hl => match us, hl with | [_, _], _ => rfl
  have m9 := PySem.W.mg_of X G a9
  have F10 := fun_mk (st := sWhich) l10 c10 k10
  have b10 := F10.binds (ps := ["_law_e"]) fun _ _ _ _ _ _ us hl => match us, hl with | [_], _ => rfl
  have m10 := PySem.W.mg_of X G a10
  have F11 := fun_mk (st := sAsk) l11 c11 k11
  have b11 := F11.binds (ps := ["_law_what", "_law_path", "_law_other"]) fun _ _ _ _ _ _ us hl => match us, hl with | [_, _, _], _ => rfl
  have m11 := PySem.W.mg_of X G a11
  have F12 := fun_mk (st := sLaw) l12 c12 k12
  have b12 := F12.binds (ps := ["_law_script"]) fun _ _ _ _ _ _ us hl => match us, hl with | [_], _ => rfl
  have m12 := PySem.W.mg_of X G a12
  have n_isinstance := PySem.W.mg_none_of X G z_isinstance
  have n_str := PySem.W.mg_none_of X G z_str
  have n_tuple := PySem.W.mg_none_of X G z_tuple
  have n_len := PySem.W.mg_none_of X G z_len
  have n_all := PySem.W.mg_none_of X G z_all
  have n_range := PySem.W.mg_none_of X G z_range
  have n_ValueError := PySem.W.mg_none_of X G z_ValueError
  have v_LETTERS := PySem.W.mg_of X G h_LETTERS
  have v_MOST_LETTERS := PySem.W.mg_of X G h_MOST_LETTERS
  have v_MOST_NAMES := PySem.W.mg_of X G h_MOST_NAMES
  have R0 : Ref K mg "NoPath" C0 := ⟨PySem.W.mg_of X G r01, r02, r03, r04, r05⟩
  refine ⟨PySem.W.fnOf "law" "law" (defArgs sLaw) (defBody sLaw) (defScope sLaw) .none kV12 dc12 pm12 an12 cd12 ct12, [(cP1, P1), (cP2, P2)], spLaw K P1 P2, ?_, ?_, ?_, fun s v => .of_eq rfl, ?_, ?_⟩
  · intro p hp
    simp only [List.mem_cons, List.not_mem_nil, or_false] at hp
    rcases hp with rfl | rfl
    · exact w1
    · exact w2
  · intro p hp
    simp only [List.mem_cons, List.not_mem_nil, or_false] at hp
    rcases hp with rfl | rfl
    · exact noTab X nt w1
    · exact noTab X nt w2
  · intro p hp
    simp only [List.mem_cons, List.not_mem_nil, or_false] at hp
    rcases hp with rfl | rfl
    · exact q1
    · exact q2
  · intro H a ns hl _ hH hS
    exact ⟨a, ns, rfl, hS, hl, ⟨#[], hH (cP1, P1) (by simp), trivial⟩, ⟨#[], hH (cP2, P2) (by simp), trivial⟩, fun _ => rfl⟩
  · intro base _ _ hTB
    have TB1 := hTB (cP1, P1) (by simp)
    have TB2 := hTB (cP2, P2) (by simp)
    have M : Mg mg := ⟨n_isinstance, n_str, n_tuple, n_len, n_all, n_range, ⟨_, v_LETTERS⟩, ⟨_, v_MOST_LETTERS⟩, ⟨_, v_MOST_NAMES⟩⟩
    have x_NoPath := r01
    have W0 : Wh K mg C0 0 := by
      refine ⟨⟨xc0a, xc0b, r04, xc0c, xc0d, gs1, gs2, xc0e⟩, by decide, fun j x hj => ?_, kitV0⟩
      have hj17 : j < 17 := (List.getElem?_eq_some_iff.mp hj).1
      match j, hj17, hj with
      | 0, _, hj => exact (Option.some.inj hj) ▸ ⟨C0, PySem.W.mg_of X G x_NoPath, kit0_0⟩
      | 1, _, hj => exact (Option.some.inj hj) ▸ ⟨C1, PySem.W.mg_of X G x_NoText, kit0_1⟩
      | 2, _, hj => exact (Option.some.inj hj) ▸ ⟨C2, PySem.W.mg_of X G x_NoTree, kit0_2⟩
      | 3, _, hj => exact (Option.some.inj hj) ▸ ⟨C3, PySem.W.mg_of X G x_NoLayer, kit0_3⟩
      | 4, _, hj => exact (Option.some.inj hj) ▸ ⟨C4, PySem.W.mg_of X G x_NoStack, kit0_4⟩
      | 5, _, hj => exact (Option.some.inj hj) ▸ ⟨C5, PySem.W.mg_of X G x_NoHandle, kit0_5⟩
      | 6, _, hj => exact (Option.some.inj hj) ▸ ⟨C6, PySem.W.mg_of X G x_NoPower, kit0_6⟩
      | 7, _, hj => exact (Option.some.inj hj) ▸ ⟨C7, PySem.W.mg_of X G x_Root, kit0_7⟩
      | 8, _, hj => exact (Option.some.inj hj) ▸ ⟨C8, PySem.W.mg_of X G x_NotThere, kit0_8⟩
      | 9, _, hj => exact (Option.some.inj hj) ▸ ⟨C9, PySem.W.mg_of X G x_NoDrawer, kit0_9⟩
      | 10, _, hj => exact (Option.some.inj hj) ▸ ⟨C10, PySem.W.mg_of X G x_IsDrawer, kit0_10⟩
      | 11, _, hj => exact (Option.some.inj hj) ▸ ⟨C11, PySem.W.mg_of X G x_Taken, kit0_11⟩
      | 12, _, hj => exact (Option.some.inj hj) ▸ ⟨C12, PySem.W.mg_of X G x_NotEmpty, kit0_12⟩
      | 13, _, hj => exact (Option.some.inj hj) ▸ ⟨C13, PySem.W.mg_of X G x_Within, kit0_13⟩
      | 14, _, hj => exact (Option.some.inj hj) ▸ ⟨C14, PySem.W.mg_of X G x_TooLong, kit0_14⟩
      | 15, _, hj => exact (Option.some.inj hj) ▸ ⟨C15, PySem.W.mg_of X G x_Full, kit0_15⟩
      | 16, _, hj => exact (Option.some.inj hj) ▸ ⟨C16, PySem.W.mg_of X G x_Dark, kit0_16⟩
    have G0 := ok_isName (P := l.prog) (w := w) F0 M TB1
    have G1 := ok_isPath F1 M TB2 G0 m0 k0 b0
    have G2 := ok_checkPath F2 R0 G1 m1 k1 b1
    have G3 := ok_above F3 G2 m2 k2 b2
    have G4 := ok_begins (P := l.prog) (w := w) (base := base) F4 M
    have G5 := ok_within F5 G2 m2 k2 b2 G4 m4 k4 b4
    have G6 := ok_beginnings F6 M G2 m2 k2 b2
    have G7 := ok_draw (P := l.prog) (w := w) (base := base) F7 M.len
    have G8 := ok_pick F8 M.len G7 m7 k7 b7
    have G9 := ok_noPath F9 G8 m8 k8 b8
    have GW := ok_which (P := l.prog) (w := w) (base := base) F10 M.isinstance n_ValueError
    have G11 := ok_ask F11 (PySem.W.mg_of X G te1) te2 W0 G3 m3 k3 b3 G6 m6 k6 b6 G5 m5 k5 b5 GW m10 k10 b10
    exact ok_law F12 M.range G11 m11 k11 b11 G9 m9 k9 b9
end LK
open PySem PySem.W PyProof.Rows
set_option maxRecDepth 100000 in
set_option maxHeartbeats 0 in
theorem PySem.Challenge.cw_laidtrees_k02_paths_refused_holds : PySem.Challenge.rw_laidtrees_k02_paths_refused.Holds := by
  w_on; o_law; k_head; (case hw => w_witness2)
  k_fill
  refine LT.walk_tabs (k := 9) (CX := fun _ => fun _ _ _ _ _ _ => False) (l := PySem.Challenge.rw_laidtrees_k02_paths_refused) (x := "_law_script") rfl (by decide) rfl ⟨rfl, by decide, by decide⟩ (fun w h Y => PySem.W.kIn_of Y) ?F (fun _ _ _ _ _ h => h)
  case F =>
    intro w mg fa h KX G hmg TT
    refine' LK.all_mk KX G hmg TT ?a0 ?l0 ?c0 ?k0 ?a1 ?l1 ?c1 ?k1 ?a2 ?l2 ?c2 ?k2 ?a3 ?l3 ?c3 ?k3 ?a4 ?l4 ?c4 ?k4 ?a5 ?l5 ?c5 ?k5 ?a6 ?l6 ?c6 ?k6 ?a7 ?l7 ?c7 ?k7 ?a8 ?l8 ?c8 ?k8 ?a9 ?l9 ?c9 ?k9 ?a10 ?l10 ?c10 ?k10 ?a11 ?l11 ?c11 ?k11 ?a12 ?l12 ?c12 ?k12 ?u1 ?i1 ?u2 ?i2 ?z_isinstance ?z_str ?z_tuple ?z_len ?z_all ?z_range ?z_ValueError ?h_LETTERS ?h_MOST_LETTERS ?h_MOST_NAMES ?r01 ?r02 ?r03 ?r04 ?r05 ?x_NoText ?x_NoTree ?x_NoLayer ?x_NoStack ?x_NoHandle ?x_NoPower ?x_Root ?x_NotThere ?x_NoDrawer ?x_IsDrawer ?x_Taken ?x_NotEmpty ?x_Within ?x_TooLong ?x_Full ?x_Dark ?xc0a ?xc0b ?xc0c ?xc0d ?xc0e ?gs1 ?gs2 ?kit0_0 ?kit0_1 ?kit0_2 ?kit0_3 ?kit0_4 ?kit0_5 ?kit0_6 ?kit0_7 ?kit0_8 ?kit0_9 ?kit0_10 ?kit0_11 ?kit0_12 ?kit0_13 ?kit0_14 ?kit0_15 ?kit0_16 ?kitV0 ?te1 ?te2 ?nt ?r1 ?r2
    (case a0 => k_is)
    (case l0 => k_is)
    (case c0 => k_is)
    (case k0 => k_is)
    (case a1 => k_is)
    (case l1 => k_is)
    (case c1 => k_is)
    (case k1 => k_is)
    (case a2 => k_is)
    (case l2 => k_is)
    (case c2 => k_is)
    (case k2 => k_is)
    (case a3 => k_is)
    (case l3 => k_is)
    (case c3 => k_is)
    (case k3 => k_is)
    (case a4 => k_is)
    (case l4 => k_is)
    (case c4 => k_is)
    (case k4 => k_is)
    (case a5 => k_is)
    (case l5 => k_is)
    (case c5 => k_is)
    (case k5 => k_is)
    (case a6 => k_is)
    (case l6 => k_is)
    (case c6 => k_is)
    (case k6 => k_is)
    (case a7 => k_is)
    (case l7 => k_is)
    (case c7 => k_is)
    (case k7 => k_is)
    (case a8 => k_is)
    (case l8 => k_is)
    (case c8 => k_is)
    (case k8 => k_is)
    (case a9 => k_is)
    (case l9 => k_is)
    (case c9 => k_is)
    (case k9 => k_is)
    (case a10 => k_is)
    (case l10 => k_is)
    (case c10 => k_is)
    (case k10 => k_is)
    (case a11 => k_is)
    (case l11 => k_is)
    (case c11 => k_is)
    (case k11 => k_is)
    (case a12 => k_is)
    (case l12 => k_is)
    (case c12 => k_is)
    (case k12 => k_is)
    (case u1 => k_is)
    (case i1 => exact rfl)
    (case u2 => k_is)
    (case i2 => exact rfl)
    (case z_isinstance => k_is)
    (case z_str => k_is)
    (case z_tuple => k_is)
    (case z_len => k_is)
    (case z_all => k_is)
    (case z_range => k_is)
    (case z_ValueError => k_is)
    (case h_LETTERS => k_is)
    (case h_MOST_LETTERS => k_is)
    (case h_MOST_NAMES => k_is)
    (case r01 => k_is)
    (case r02 => k_exc)
    (case r03 => k_is)
    (case r04 => k_is)
    (case r05 => k_is)
    (case x_NoText => k_is)
    (case x_NoTree => k_is)
    (case x_NoLayer => k_is)
    (case x_NoStack => k_is)
    (case x_NoHandle => k_is)
    (case x_NoPower => k_is)
    (case x_Root => k_is)
    (case x_NotThere => k_is)
    (case x_NoDrawer => k_is)
    (case x_IsDrawer => k_is)
    (case x_Taken => k_is)
    (case x_NotEmpty => k_is)
    (case x_Within => k_is)
    (case x_TooLong => k_is)
    (case x_Full => k_is)
    (case x_Dark => k_is)
    (case xc0a => k_is)
    (case xc0b => k_is)
    (case xc0c => k_is)
    (case xc0d => k_is)
    (case xc0e => k_is)
    (case gs1 => k_is)
    (case gs2 => k_is)
    (case kit0_0 => kernel_rfl)
    (case kit0_1 => kernel_rfl)
    (case kit0_2 => kernel_rfl)
    (case kit0_3 => kernel_rfl)
    (case kit0_4 => kernel_rfl)
    (case kit0_5 => kernel_rfl)
    (case kit0_6 => kernel_rfl)
    (case kit0_7 => kernel_rfl)
    (case kit0_8 => kernel_rfl)
    (case kit0_9 => kernel_rfl)
    (case kit0_10 => kernel_rfl)
    (case kit0_11 => kernel_rfl)
    (case kit0_12 => kernel_rfl)
    (case kit0_13 => kernel_rfl)
    (case kit0_14 => kernel_rfl)
    (case kit0_15 => kernel_rfl)
    (case kit0_16 => kernel_rfl)
    (case kitV0 => kernel_rfl)
    (case te1 => k_is)
    (case te2 => kernel_rfl)
    (case nt => kernel_rfl)
    (case r1 => exact rfl)
    (case r2 => exact rfl)
#print axioms PySem.Challenge.cw_laidtrees_k02_paths_refused_holds

