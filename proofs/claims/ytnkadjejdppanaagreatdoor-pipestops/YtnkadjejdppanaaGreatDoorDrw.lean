/-
  A region that draws its order: each operation is run once, those that it waits for ahead of it; what each one yields is told by a relation of its own, that later worlds keep. No program is named here.
-/
import Derived.Deep.RegionHeld
import Derived.Great.BuildSlice
import Derived.Test.YtnkadjejdppanaaGreatDoorBk
namespace Go.Proofs.YtnkadjejdppanaaGreatDoor
open Go.RowKit

section
variable {P : Program} {ops : Array Oper} {Q : Exit → Act → World → Prop} {a0 : Act} {S : World → Prop} {R : Nat → World → Value → Prop}
/-- What holds while a region is run, in whatever order. -/
structure DI (ops : Array Oper) (a0 : Act) (S : World → Prop) (R : Nat → World → Value → Prop) (l : Array Bool) (a : Act) (w : World) : Prop where
  sz : l.size = ops.size
  s : S w
  df : a.defers = a0.defers
  ts : a.tmps.size = a0.tmps.size
  un : ∀ t, (ops.toList.all fun o => o.dst != some t) = true → a.tmps.getD t undef = a0.tmps.getD t undef
  dn : ∀ i o t, ops[i]? = some o → o.dst = some t → l.getD i false = true → R i w (a.tmps.getD t undef)
/-- Those that an operation waits for, and their slots. -/
def depsOf (ops : Array Oper) (o : Oper) : List (Nat × Nat) := o.after.toList.filterMap fun e => if Region.binds .any e then ((ops[e.on]?).bind (·.dst)).map (e.on, ·) else none
/-- Does an operation wait for the one that writes a slot? -/
def depB (ops : Array Oper) (o : Oper) (j t : Nat) : Bool := (depsOf ops o).any fun p => p.1 == j && p.2 == t
/-- One operation's step. -/
def DStep (P : Program) (ops : Array Oper) (a0 : Act) (S : World → Prop) (R : Nat → World → Value → Prop) (i : Nat) (o : Oper) : Prop :=
  ∀ (a : Act) (w : World) (K : Act → World → Prop) (Q : Exit → Act → World → Prop), S w → (∀ t, (ops.toList.all fun o => o.dst != some t) = true → a.tmps.getD t undef = a0.tmps.getD t undef) →
    (∀ j t, depB ops o j t = true → R j w (a.tmps.getD t undef)) → (∀ v w', S w' → Below w.heap.size w w' → R i w' v → K (a.put o.dst v) w') → o.wp P a w K Q
def DSteps (P : Program) (ops : Array Oper) (a0 : Act) (S : World → Prop) (R : Nat → World → Value → Prop) : Nat → List Oper → Prop
  | _, [] => True
  | i, o :: l => DStep P ops a0 S R i o ∧ DSteps P ops a0 S R (i + 1) l
theorem DSteps.at_ {l : List Oper} {k i : Nat} {o : Oper} (h : DSteps P ops a0 S R k l) (hi : l[i]? = some o) : DStep P ops a0 S R (k + i) o := by
  induction l generalizing k i with
  | nil => simp at hi
  | cons x l ih =>
    cases i with
    | zero => simp at hi; subst hi; exact h.1
    | succ i => have := ih h.2 (i := i) (by simpa using hi); rwa [show k + 1 + i = k + (i + 1) by omega] at this
theorem getD_put (a : Act) (d t : Nat) (v : Value) (hd : d < a.tmps.size) : (a.put (some d) v).tmps.getD t undef = if d = t then v else a.tmps.getD t undef := by
  simp only [Act.put, Array.getD_eq_getD_getElem?, Array.getElem?_setIfInBounds]
  by_cases h : d = t
  · subst h; simp [hd]
  · simp [h]
/-- Each slot is written once, no operation is guarded, each one's slot is there. -/
def drawB (ops : Array Oper) (n : Nat) : Bool := (List.range ops.size).all fun i => match ops[i]? with
  | none => true
  | some o => o.guard.isNone && (match o.dst with
    | none => false
    | some d => decide (d < n) && (List.range ops.size).all fun j => (j == i) || ((ops[j]?).bind (·.dst)) != some d)
theorem draw_spec {n : Nat} (h : drawB ops n = true) {i : Nat} {o : Oper} (hi : ops[i]? = some o) : o.guard = none ∧ ∃ d, o.dst = some d ∧ d < n ∧ ∀ j oj, ops[j]? = some oj → oj.dst = some d → j = i := by
  have hlt : i < ops.size := (Array.getElem?_eq_some_iff.1 hi).1
  have := List.all_eq_true.1 h i (List.mem_range.2 hlt)
  simp only [hi, Bool.and_eq_true] at this
  obtain ⟨h1, h2⟩ := this
  refine ⟨by simpa using h1, ?_⟩
  cases hd : o.dst with
  | none => rw [hd] at h2; cases h2
  | some d =>
    rw [hd] at h2
    simp only [Bool.and_eq_true, decide_eq_true_eq] at h2
    refine ⟨d, rfl, h2.1, fun j oj hj hjd => ?_⟩
    have hl : j < ops.size := (Array.getElem?_eq_some_iff.1 hj).1
    have := List.all_eq_true.1 h2.2 j (List.mem_range.2 hl)
    simp only [hj, Option.bind_some, hjd, bne_self_eq_false, Bool.or_false, beq_iff_eq] at this
    exact this
theorem DI.step {l : Array Bool} {a : Act} {w : World} (hb : drawB ops a0.tmps.size = true) (st : ∀ i w w' v, Below w.heap.size w w' → R i w v → R i w' v) (h : DI ops a0 S R l a w) {i : Nat} {o : Oper} (hi : ops[i]? = some o) {v : Value} {w' : World} (hs : S w') (hbel : Below w.heap.size w w') (hr : R i w' v) :
    DI ops a0 S R (l.setIfInBounds i true) (a.put o.dst v) w' := by
  obtain ⟨_, d, hd, hdn, huniq⟩ := draw_spec hb hi
  have hdl : d < a.tmps.size := by rw [h.ts]; exact hdn
  have hin : o ∈ ops.toList := by
    obtain ⟨h1, h2⟩ := Array.getElem?_eq_some_iff.1 hi
    rw [← h2]; simp
  refine { sz := by simpa using h.sz, s := hs, df := ?_, ts := ?_, un := fun t ht => ?_, dn := fun j oj t hj hjt hl => ?_ }
  · rw [hd]; exact h.df
  · rw [hd]; simp [Act.put, h.ts]
  · rw [hd, getD_put a d t v hdl]
    have h1 : (o.dst != some t) = true := List.all_eq_true.1 ht o hin
    rw [hd] at h1
    have h2 : d ≠ t := by intro e; subst e; simp at h1
    rw [if_neg h2]
    exact h.un t ht
  · rw [hd, getD_put a d t v hdl]
    by_cases hdt : d = t
    · subst hdt
      have := huniq j oj hj hjt
      subst this
      rw [if_pos rfl]
      exact hr
    · rw [if_neg hdt]
      have hji : j ≠ i := by
        intro e
        subst e
        rw [hi] at hj
        cases hj
        rw [hd] at hjt
        cases hjt
        exact hdt rfl
      refine st j w w' _ hbel (h.dn j oj t hj hjt ?_)
      rw [Array.getD_eq_getD_getElem?, Array.getElem?_setIfInBounds_ne (Ne.symm hji)] at hl
      rw [Array.getD_eq_getD_getElem?]
      exact hl
theorem ready_nil {l : Array Bool} (h : Region.ready .any ops l = []) (hf : ∀ i o e, ops[i]? = some o → e ∈ o.after → Region.binds .any e = true → e.on < i) (hsz : l.size = ops.size) : ∀ i, i < ops.size → l.getD i false = true := by
  intro i
  induction i using Nat.strongRecOn with
  | _ i ih =>
    intro hi
    cases hb : l.getD i false with
    | true => rfl
    | false =>
      exfalso
      have : i ∈ Region.ready .any ops l := by
        unfold Region.ready
        rw [List.mem_filter]
        refine ⟨List.mem_range.2 hi, ?_⟩
        have hg : l.getD i true = false := by
          rw [Array.getD_eq_getD_getElem?] at hb ⊢
          rw [Array.getElem?_eq_getElem (by omega)] at hb ⊢
          exact hb
        rw [hg, Array.getElem?_eq_getElem hi]
        simp only [Bool.not_false, Bool.true_and, Option.map_some, Option.getD_some]
        rw [Array.all_eq_true_iff_forall_mem]
        intro e he
        cases hbe : Region.binds .any e with
        | false => rfl
        | true =>
          have h1 := hf i _ e (Array.getElem?_eq_getElem hi) he hbe
          simp only [Bool.not_true, Bool.false_or]
          exact ih e.on h1 (by omega)
      rw [h] at this
      cases this
/-- Do the edges lead back? -/
def backB (ops : Array Oper) : Bool := (List.range ops.size).all fun i => match ops[i]? with
  | none => true
  | some o => o.after.toList.all fun e => decide (e.on < i)
theorem back_spec (h : backB ops = true) : ∀ i o e, ops[i]? = some o → e ∈ o.after → Region.binds .any e = true → e.on < i := by
  intro i o e hi he _
  have hlt : i < ops.size := (Array.getElem?_eq_some_iff.1 hi).1
  have := List.all_eq_true.1 h i (List.mem_range.2 hlt)
  simp only [hi] at this
  simpa using List.all_eq_true.1 this e (by simpa using he)
/-- All that is listed so far is counted. -/
theorem count_set {l : Array Bool} {i : Nat} (hi : i < l.size) (h : l[i] = false) : (l.setIfInBounds i true).toList.countP (fun b => !b) + 1 = l.toList.countP (fun b => !b) := by
  rw [Array.toList_setIfInBounds]
  have hl : i < l.toList.length := by simpa using hi
  have e : l.toList = l.toList.take i ++ false :: l.toList.drop (i + 1) := by
    have h1 : l.toList[i] = false := by simpa using h
    conv => lhs; rw [← List.take_append_drop i l.toList, List.drop_eq_getElem_cons hl, h1]
  have e2 : l.toList.set i true = l.toList.take i ++ true :: l.toList.drop (i + 1) := by
    rw [List.set_eq_take_append_cons_drop, if_pos hl]
  rw [e2]
  conv => rhs; rw [e]
  simp only [List.countP_append, List.countP_cons]
  simp
  omega
theorem wpAny_di (hb : drawB ops a0.tmps.size = true) (hk : backB ops = true) (st : ∀ i w w' v, Below w.heap.size w w' → R i w v → R i w' v) (hs : DSteps P ops a0 S R 0 ops.toList)
    (fin : ∀ a w, DI ops a0 S R (Array.replicate ops.size true) a w → Q .normal a w) :
    ∀ (fuel : Nat) (l : Array Bool) (a : Act) (w : World), l.toList.countP (fun b => !b) ≤ fuel → DI ops a0 S R l a w → wpAny P .any ops Q fuel l a w := by
  have stop : ∀ l a w, DI ops a0 S R l a w → Region.ready .any ops l = [] → Q .normal a w := fun l a w h hr => by
    have hall := ready_nil hr (back_spec hk) h.sz
    have e : l = Array.replicate ops.size true := by
      apply Array.ext
      · simp [h.sz]
      · intro i h1 h2
        have := hall i (by rw [← h.sz]; exact h1)
        rw [Array.getD_eq_getD_getElem?, Array.getElem?_eq_getElem h1] at this
        simpa using this
    subst e
    exact fin a w h
  intro fuel
  induction fuel with
  | zero =>
    intro l a w hc h
    have hr : Region.ready .any ops l = [] := by
      cases hr : Region.ready .any ops l with
      | nil => rfl
      | cons i rs =>
        exfalso
        have hm : i ∈ Region.ready .any ops l := by rw [hr]; simp
        have h0 := (mem_ready.1 hm).1
        have hlt : i < l.size := by
          rcases Nat.lt_or_ge i l.size with h' | h'
          · exact h'
          · simp [Array.getElem?_eq_none h'] at h0
        have h1 : l[i] = false := by simpa [hlt] using h0
        have := count_set hlt h1
        omega
    exact ⟨hr, stop l a w h hr⟩
  | succ fuel ih =>
    intro l a w hc h
    refine ⟨stop l a w h, fun i hm => ?_⟩
    obtain ⟨h0, oj, hoj, hall⟩ := mem_ready.1 hm
    have hlt : i < l.size := by
      rcases Nat.lt_or_ge i l.size with h' | h'
      · exact h'
      · simp [Array.getElem?_eq_none h'] at h0
    have h1 : l[i] = false := by simpa [hlt] using h0
    have hct := count_set hlt h1
    have hg := (draw_spec hb hoj).1
    unfold wpOp
    simp only [hoj, Region.wanted, hg, if_true]
    refine .inl ?_
    have hst := hs.at_ (i := i) (o := oj) (by simpa using hoj)
    rw [Nat.zero_add] at hst
    refine hst a w _ Q h.s h.un (fun j t hjt => ?_) fun v w' hsw hbel hr => ih _ _ _ (by omega) (h.step hb st hoj hsw hbel hr)
    obtain ⟨p, hp, hpj⟩ := List.any_eq_true.1 hjt
    simp only [Bool.and_eq_true, beq_iff_eq] at hpj
    obtain ⟨rfl, rfl⟩ := hpj
    obtain ⟨e, he, hp2⟩ := List.mem_filterMap.1 hp
    by_cases hbe : Region.binds .any e = true
    · rw [if_pos hbe] at hp2
      cases hoe : ops[e.on]? with
      | none => rw [hoe] at hp2; simp at hp2
      | some oe =>
        rw [hoe] at hp2
        cases hde : oe.dst with
        | none => rw [Option.bind_some, hde] at hp2; simp at hp2
        | some t =>
          rw [Option.bind_some, hde] at hp2
          simp only [Option.map_some, Option.some.injEq] at hp2
          subst hp2
          refine h.dn e.on oe t hoe hde ?_
          have := hall e (by simpa using he) hbe
          simpa using this
    · rw [if_neg hbe] at hp2; cases hp2
/-- THE BEGINNING. -/
theorem wp_region_di {id : Nat} (hm : P.follows .mixedOrders = true) {w : World} (hb : drawB ops a0.tmps.size = true) (hk : backB ops = true) (st : ∀ i w w' v, Below w.heap.size w w' → R i w v → R i w' v) (h0 : S w.drew) (hs : DSteps P ops a0 S R 0 ops.toList)
    (fin : ∀ a w, DI ops a0 S R (Array.replicate ops.size true) a w → Q .normal a w) : (Code.region id ops true).wp P Q a0 w := by
  refine wp_region_any hm (wpAny_di hb hk st hs fin _ _ _ _ ?_ ?_)
  · simp [List.countP_replicate]
  · exact { sz := by simp, s := h0, df := rfl, ts := rfl, un := fun _ _ => rfl, dn := fun i o t hi hd hl => absurd hl (by rw [Array.getD_eq_getD_getElem?, Array.getElem?_replicate]; split <;> simp) }
/-- An operation that yields. -/
theorem dstep_value {o : Oper} {a : Act} {w : World} {K : Act → World → Prop} {v : Value} {w' : World} (hr : (execOp a.eval o).run P w = .ok (.value v) w') (h : K (a.put o.dst v) w') : o.wp P a w K Q := by
  unfold Oper.wp
  rw [hr]
  exact h
/-- A call of a function. -/
theorem dstep_call {o : Oper} {a : Act} {w : World} {K : Act → World → Prop} {f : FuncId} {args : Array Value} (hr : (execOp a.eval o).run P w = .ok (.enter f args) w) {p : Ending → World → Prop} (hc : Calls P f args w p) (h : ∀ e w', p e w' → ∃ v, e = .returned v ∧ K (a.put o.dst v) w') : o.wp P a w K Q := by
  unfold Oper.wp
  rw [hr, Oper.upon_enter]
  refine hc.mono fun e w' he => ?_
  obtain ⟨v, rfl, hk⟩ := h e w' he
  exact hk
/-- A call of a function of one argument. -/
theorem dstep_call1 {o : Oper} {a : Act} {w : World} {K : Act → World → Prop} (f : FuncId) (t : Tmp) (hr : (execOp a.eval o).run P w = .ok (.enter f #[a.tmps.getD t undef]) w) {v : Value} (hv : a.tmps.getD t undef = v) {p : Ending → World → Prop} (hc : Calls P f #[v] w p) (h : ∀ e w', p e w' → ∃ v, e = .returned v ∧ K (a.put o.dst v) w') : o.wp P a w K Q := by
  rw [hv] at hr
  exact dstep_call hr hc h
/-- A whole struct loaded. -/
theorem dstep_load {o : Oper} {a : Act} {w : World} {K : Act → World → Prop} {T : TypeId} {x : Operand} (ho : o.op = .load T x) {fs : Array Field} (hu : Tryz.prog.underlying T = some (.struct fs)) {n : Nat} (hi : (Tryz.prog.info? T).map (·.size) = some n) {g : Nat} {cs : Array Value} (hx : a.eval x = .pointer (some ⟨g, 0, none⟩)) (hb : BK T w g cs) (hs : cs.size = n) (h : K (a.put o.dst (.agg cs)) w) : o.wp Tryz.prog a w K Q := by
  unfold Oper.wp execOp
  simp only [ho, hx, Instr.loadAt, Instr.sureAddr, Sem.run_bind, Sem.run_pure, Result.andThen_ok, hb.load hu hi hs]
  exact h
/-- The frame behind it, written out. -/
def putAll (l : List Oper) (vs : Nat → Value) (a0 : Act) : Act := l.foldl (fun b o => b.put o.dst (vs (o.dst.getD 0))) a0
theorem putAll_size (l : List Oper) (vs : Nat → Value) (a0 : Act) : (putAll l vs a0).tmps.size = a0.tmps.size ∧ (putAll l vs a0).defers = a0.defers := by
  induction l generalizing a0 with
  | nil => exact ⟨rfl, rfl⟩
  | cons o l ih =>
    have := ih (a0.put o.dst (vs (o.dst.getD 0)))
    unfold putAll at this ⊢
    rw [List.foldl_cons]
    refine ⟨this.1.trans ?_, this.2.trans ?_⟩ <;> cases o.dst <;> simp [Act.put]
theorem putAll_getD (l : List Oper) (vs : Nat → Value) (a0 : Act) (t : Nat) (ht : t < a0.tmps.size) : (putAll l vs a0).tmps.getD t undef = if (l.all fun o => o.dst != some t) = true then a0.tmps.getD t undef else vs t := by
  induction l generalizing a0 with
  | nil => simp [putAll]
  | cons o l ih =>
    have h1 := ih (a0.put o.dst (vs (o.dst.getD 0))) (by cases o.dst <;> simpa [Act.put] using ht)
    have e : putAll (o :: l) vs a0 = putAll l vs (a0.put o.dst (vs (o.dst.getD 0))) := rfl
    rw [e, h1]
    cases hd : o.dst with
    | none => simp [List.all_cons, hd, Act.put]
    | some d =>
      by_cases hdt : d = t
      · subst hdt
        rw [getD_put _ _ _ _ ht]
        simp [List.all_cons, hd]
      · have hdl : (a0.put (some d) (vs ((some d).getD 0))).tmps.getD t undef = a0.tmps.getD t undef := by
          simp only [Act.put, Array.getD_eq_getD_getElem?, Array.getElem?_setIfInBounds_ne hdt]
        rw [hdl]
        simp [List.all_cons, hd, hdt]
theorem DI.form {a : Act} {w : World} (h : DI ops a0 S R (Array.replicate ops.size true) a w) : ∃ vs : Nat → Value, (∀ i o t, ops[i]? = some o → o.dst = some t → R i w (vs t)) ∧ a = putAll ops.toList vs a0 := by
  refine ⟨fun t => a.tmps.getD t undef, fun i o t hi ht => h.dn i o t hi ht ?_, ?_⟩
  · rw [Array.getD_eq_getD_getElem?, Array.getElem?_replicate, if_pos (Array.getElem?_eq_some_iff.1 hi).1]; rfl
  · have h1 := putAll_size ops.toList (fun t => a.tmps.getD t undef) a0
    have h2 := putAll_getD ops.toList (fun t => a.tmps.getD t undef) a0
    generalize putAll ops.toList (fun t => a.tmps.getD t undef) a0 = b at h1 h2
    obtain ⟨tb, db⟩ := b
    have h3 := h.df
    have h4 := h.ts
    have h5 := h.un
    obtain ⟨ta, da⟩ := a
    simp only at h1 h2 h3 h4 h5
    rw [h3, h1.2]
    congr 1
    apply Array.ext
    · rw [h4, h1.1]
    · intro i h6 h7
      have h8 := h2 i (by omega)
      have h9 : ta.getD i undef = tb.getD i undef := by
        rw [h8]
        by_cases hc : (ops.toList.all fun o => o.dst != some i) = true
        · rw [if_pos hc]; exact h5 i hc
        · rw [if_neg hc]
      simp only [Array.getD_eq_getD_getElem?, Array.getElem?_eq_getElem h6, Array.getElem?_eq_getElem h7, Option.getD_some] at h9
      exact h9
end
end Go.Proofs.YtnkadjejdppanaaGreatDoor
