/-
  A region that draws its order: each operation is run once, those that it waits for ahead of it; what each one yields is told by a relation of its own, that later worlds keep. No program is named here.
  A region that draws its order and holds guarded operations: the law of Drw, with guards. No program is named here.
  Contracts of package hazard's calls landed, mayBe and Find. Conditions: the code and the state may be; the tables lie in the world.
  Contract of package hazard's call Find. Conditions: the code and the state may be; the tables lie in the world.
  Contract of package hazard's call cycle: a cycle that looks, of a state that has not stopped. Conditions: the code and the state may be; the tables lie in the world.
  Contracts of package hazard's calls Run and Cycle: so many cycles that look. Conditions: the code and the state may be; the tables lie in the world; at most 20,000 cycles.
  Contracts of the page's calls Find, and Cycles that look. Conditions: the code and the state may be; at most 20,000 cycles.
  Contract of the statements' call found: the hazards of code made here are the page's, at each cycle. Conditions: the code may be; the tables lie in the world.
-/
import Derived.Deep.RegionHeld
import Derived.Great.BuildSlice
import Derived.Test.YtbgmdikcbglpiaaGreatDoorBk
import Derived.Test.YtbgmdikcbglpiaaGreatDoorJa
import Derived.Test.YtbgmdikcbglpiaaGreatDoorNew
import Derived.Test.YtbgmdikcbglpiaaGreatDoorCk
import Derived.Deep.LoopGhost
import Derived.Test.YtbgmdikcbglpiaaGreatDoorRs
namespace Go.Proofs.YtbgmdikcbglpiaaGreatDoor
open Go.RowKit

section
section
variable {P : Program} {ops : Array Oper} {Q : Exit → Act → World → Prop} {a0 : Act} {S : World → Prop} {R : Nat → World → Value → Prop}
/-- What holds while a region is run, in whatever order. -/
structure DI (ops : Array Oper) (a0 : Act) (S : World → Prop) (R : Nat → World → Value → Prop) (l : Array Bool) (a : Act) (w : World) : Prop where
  sz : l.size = ops.size
  s : S w
  df : a.defers = a0.defers
  ts : a.tmps.size = a0.tmps.size
  un : ∀ t, (ops.toList.all fun o => o.dst != some t) = true → a.tmps.getD t undef = a0.tmps.getD t undef
  dn : ∀ i o t, ops[i]? = some o → o.dst = some t → l.getD i false = true → R i w (a.tmps.getD t undef)
/-- Those that an operation waits for, and their slots. -/
def depsOf (ops : Array Oper) (o : Oper) : List (Nat × Nat) := o.after.toList.filterMap fun e => if Region.binds .any e then ((ops[e.on]?).bind (·.dst)).map (e.on, ·) else none
/-- Does an operation wait for the one that writes a slot? -/
def depB (ops : Array Oper) (o : Oper) (j t : Nat) : Bool := (depsOf ops o).any fun p => p.1 == j && p.2 == t
/-- One operation's step. -/
def DStep (P : Program) (ops : Array Oper) (a0 : Act) (S : World → Prop) (R : Nat → World → Value → Prop) (i : Nat) (o : Oper) : Prop :=
  ∀ (a : Act) (w : World) (K : Act → World → Prop) (Q : Exit → Act → World → Prop), S w → (∀ t, (ops.toList.all fun o => o.dst != some t) = true → a.tmps.getD t undef = a0.tmps.getD t undef) →
    (∀ j t, depB ops o j t = true → R j w (a.tmps.getD t undef)) → (∀ v w', S w' → Below w.heap.size w w' → R i w' v → K (a.put o.dst v) w') → o.wp P a w K Q
def DSteps (P : Program) (ops : Array Oper) (a0 : Act) (S : World → Prop) (R : Nat → World → Value → Prop) : Nat → List Oper → Prop
  | _, [] => True
  | i, o :: l => DStep P ops a0 S R i o ∧ DSteps P ops a0 S R (i + 1) l
theorem DSteps.at_ {l : List Oper} {k i : Nat} {o : Oper} (h : DSteps P ops a0 S R k l) (hi : l[i]? = some o) : DStep P ops a0 S R (k + i) o := by
  induction l generalizing k i with
  | nil => simp at hi
  | cons x l ih =>
    cases i with
    | zero => simp at hi; subst hi; exact h.1
    | succ i => have := ih h.2 (i := i) (by simpa using hi); rwa [show k + 1 + i = k + (i + 1) by omega] at this
theorem getD_put (a : Act) (d t : Nat) (v : Value) (hd : d < a.tmps.size) : (a.put (some d) v).tmps.getD t undef = if d = t then v else a.tmps.getD t undef := by
  simp only [Act.put, Array.getD_eq_getD_getElem?, Array.getElem?_setIfInBounds]
  by_cases h : d = t
  · subst h; simp [hd]
  · simp [h]
/-- Each slot is written once, no operation is guarded, each one's slot is there. -/
def drawB (ops : Array Oper) (n : Nat) : Bool := (List.range ops.size).all fun i => match ops[i]? with
  | none => true
  | some o => o.guard.isNone && (match o.dst with
    | none => false
    | some d => decide (d < n) && (List.range ops.size).all fun j => (j == i) || ((ops[j]?).bind (·.dst)) != some d)
theorem draw_spec {n : Nat} (h : drawB ops n = true) {i : Nat} {o : Oper} (hi : ops[i]? = some o) : o.guard = none ∧ ∃ d, o.dst = some d ∧ d < n ∧ ∀ j oj, ops[j]? = some oj → oj.dst = some d → j = i := by
  have hlt : i < ops.size := (Array.getElem?_eq_some_iff.1 hi).1
  have := List.all_eq_true.1 h i (List.mem_range.2 hlt)
  simp only [hi, Bool.and_eq_true] at this
  obtain ⟨h1, h2⟩ := this
  refine ⟨by simpa using h1, ?_⟩
  cases hd : o.dst with
  | none => rw [hd] at h2; cases h2
  | some d =>
    rw [hd] at h2
    simp only [Bool.and_eq_true, decide_eq_true_eq] at h2
    refine ⟨d, rfl, h2.1, fun j oj hj hjd => ?_⟩
    have hl : j < ops.size := (Array.getElem?_eq_some_iff.1 hj).1
    have := List.all_eq_true.1 h2.2 j (List.mem_range.2 hl)
    simp only [hj, Option.bind_some, hjd, bne_self_eq_false, Bool.or_false, beq_iff_eq] at this
    exact this
theorem DI.step {l : Array Bool} {a : Act} {w : World} (hb : drawB ops a0.tmps.size = true) (st : ∀ i w w' v, Below w.heap.size w w' → R i w v → R i w' v) (h : DI ops a0 S R l a w) {i : Nat} {o : Oper} (hi : ops[i]? = some o) {v : Value} {w' : World} (hs : S w') (hbel : Below w.heap.size w w') (hr : R i w' v) :
    DI ops a0 S R (l.setIfInBounds i true) (a.put o.dst v) w' := by
  obtain ⟨_, d, hd, hdn, huniq⟩ := draw_spec hb hi
  have hdl : d < a.tmps.size := by rw [h.ts]; exact hdn
  have hin : o ∈ ops.toList := by
    obtain ⟨h1, h2⟩ := Array.getElem?_eq_some_iff.1 hi
    rw [← h2]; simp
  refine { sz := by simpa using h.sz, s := hs, df := ?_, ts := ?_, un := fun t ht => ?_, dn := fun j oj t hj hjt hl => ?_ }
  · rw [hd]; exact h.df
  · rw [hd]; simp [Act.put, h.ts]
  · rw [hd, getD_put a d t v hdl]
    have h1 : (o.dst != some t) = true := List.all_eq_true.1 ht o hin
    rw [hd] at h1
    have h2 : d ≠ t := by intro e; subst e; simp at h1
    rw [if_neg h2]
    exact h.un t ht
  · rw [hd, getD_put a d t v hdl]
    by_cases hdt : d = t
    · subst hdt
      have := huniq j oj hj hjt
      subst this
      rw [if_pos rfl]
      exact hr
    · rw [if_neg hdt]
      have hji : j ≠ i := by
        intro e
        subst e
        rw [hi] at hj
        cases hj
        rw [hd] at hjt
        cases hjt
        exact hdt rfl
      refine st j w w' _ hbel (h.dn j oj t hj hjt ?_)
      rw [Array.getD_eq_getD_getElem?, Array.getElem?_setIfInBounds_ne (Ne.symm hji)] at hl
      rw [Array.getD_eq_getD_getElem?]
      exact hl
theorem ready_nil {l : Array Bool} (h : Region.ready .any ops l = []) (hf : ∀ i o e, ops[i]? = some o → e ∈ o.after → Region.binds .any e = true → e.on < i) (hsz : l.size = ops.size) : ∀ i, i < ops.size → l.getD i false = true := by
  intro i
  induction i using Nat.strongRecOn with
  | _ i ih =>
    intro hi
    cases hb : l.getD i false with
    | true => rfl
    | false =>
      exfalso
      have : i ∈ Region.ready .any ops l := by
        unfold Region.ready
        rw [List.mem_filter]
        refine ⟨List.mem_range.2 hi, ?_⟩
        have hg : l.getD i true = false := by
          rw [Array.getD_eq_getD_getElem?] at hb ⊢
          rw [Array.getElem?_eq_getElem (by omega)] at hb ⊢
          exact hb
        rw [hg, Array.getElem?_eq_getElem hi]
        simp only [Bool.not_false, Bool.true_and, Option.map_some, Option.getD_some]
        rw [Array.all_eq_true_iff_forall_mem]
        intro e he
        cases hbe : Region.binds .any e with
        | false => rfl
        | true =>
          have h1 := hf i _ e (Array.getElem?_eq_getElem hi) he hbe
          simp only [Bool.not_true, Bool.false_or]
          exact ih e.on h1 (by omega)
      rw [h] at this
      cases this
/-- Do the edges lead back? -/
def backB (ops : Array Oper) : Bool := (List.range ops.size).all fun i => match ops[i]? with
  | none => true
  | some o => o.after.toList.all fun e => decide (e.on < i)
theorem back_spec (h : backB ops = true) : ∀ i o e, ops[i]? = some o → e ∈ o.after → Region.binds .any e = true → e.on < i := by
  intro i o e hi he _
  have hlt : i < ops.size := (Array.getElem?_eq_some_iff.1 hi).1
  have := List.all_eq_true.1 h i (List.mem_range.2 hlt)
  simp only [hi] at this
  simpa using List.all_eq_true.1 this e (by simpa using he)
/-- All that is listed so far is counted. -/
theorem count_set {l : Array Bool} {i : Nat} (hi : i < l.size) (h : l[i] = false) : (l.setIfInBounds i true).toList.countP (fun b => !b) + 1 = l.toList.countP (fun b => !b) := by
  rw [Array.toList_setIfInBounds]
  have hl : i < l.toList.length := by simpa using hi
  have e : l.toList = l.toList.take i ++ false :: l.toList.drop (i + 1) := by
    have h1 : l.toList[i] = false := by simpa using h
    conv => lhs; rw [← List.take_append_drop i l.toList, List.drop_eq_getElem_cons hl, h1]
  have e2 : l.toList.set i true = l.toList.take i ++ true :: l.toList.drop (i + 1) := by
    rw [List.set_eq_take_append_cons_drop, if_pos hl]
  rw [e2]
  conv => rhs; rw [e]
  simp only [List.countP_append, List.countP_cons]
  simp
  omega
theorem wpAny_di (hb : drawB ops a0.tmps.size = true) (hk : backB ops = true) (st : ∀ i w w' v, Below w.heap.size w w' → R i w v → R i w' v) (hs : DSteps P ops a0 S R 0 ops.toList)
    (fin : ∀ a w, DI ops a0 S R (Array.replicate ops.size true) a w → Q .normal a w) :
    ∀ (fuel : Nat) (l : Array Bool) (a : Act) (w : World), l.toList.countP (fun b => !b) ≤ fuel → DI ops a0 S R l a w → wpAny P .any ops Q fuel l a w := by
  have stop : ∀ l a w, DI ops a0 S R l a w → Region.ready .any ops l = [] → Q .normal a w := fun l a w h hr => by
    have hall := ready_nil hr (back_spec hk) h.sz
    have e : l = Array.replicate ops.size true := by
      apply Array.ext
      · simp [h.sz]
      · intro i h1 h2
        have := hall i (by rw [← h.sz]; exact h1)
        rw [Array.getD_eq_getD_getElem?, Array.getElem?_eq_getElem h1] at this
        simpa using this
    subst e
    exact fin a w h
  intro fuel
  induction fuel with
  | zero =>
    intro l a w hc h
    have hr : Region.ready .any ops l = [] := by
      cases hr : Region.ready .any ops l with
      | nil => rfl
      | cons i rs =>
        exfalso
        have hm : i ∈ Region.ready .any ops l := by rw [hr]; simp
        have h0 := (mem_ready.1 hm).1
        have hlt : i < l.size := by
          rcases Nat.lt_or_ge i l.size with h' | h'
          · exact h'
          · simp [Array.getElem?_eq_none h'] at h0
        have h1 : l[i] = false := by simpa [hlt] using h0
        have := count_set hlt h1
        omega
    exact ⟨hr, stop l a w h hr⟩
  | succ fuel ih =>
    intro l a w hc h
    refine ⟨stop l a w h, fun i hm => ?_⟩
    obtain ⟨h0, oj, hoj, hall⟩ := mem_ready.1 hm
    have hlt : i < l.size := by
      rcases Nat.lt_or_ge i l.size with h' | h'
      · exact h'
      · simp [Array.getElem?_eq_none h'] at h0
    have h1 : l[i] = false := by simpa [hlt] using h0
    have hct := count_set hlt h1
    have hg := (draw_spec hb hoj).1
    unfold wpOp
    simp only [hoj, Region.wanted, hg, if_true]
    refine .inl ?_
    have hst := hs.at_ (i := i) (o := oj) (by simpa using hoj)
    rw [Nat.zero_add] at hst
    refine hst a w _ Q h.s h.un (fun j t hjt => ?_) fun v w' hsw hbel hr => ih _ _ _ (by omega) (h.step hb st hoj hsw hbel hr)
    obtain ⟨p, hp, hpj⟩ := List.any_eq_true.1 hjt
    simp only [Bool.and_eq_true, beq_iff_eq] at hpj
    obtain ⟨rfl, rfl⟩ := hpj
    obtain ⟨e, he, hp2⟩ := List.mem_filterMap.1 hp
    by_cases hbe : Region.binds .any e = true
    · rw [if_pos hbe] at hp2
      cases hoe : ops[e.on]? with
      | none => rw [hoe] at hp2; simp at hp2
      | some oe =>
        rw [hoe] at hp2
        cases hde : oe.dst with
        | none => rw [Option.bind_some, hde] at hp2; simp at hp2
        | some t =>
          rw [Option.bind_some, hde] at hp2
          simp only [Option.map_some, Option.some.injEq] at hp2
          subst hp2
          refine h.dn e.on oe t hoe hde ?_
          have := hall e (by simpa using he) hbe
          simpa using this
    · rw [if_neg hbe] at hp2; cases hp2
/-- THE BEGINNING. -/
theorem wp_region_di {id : Nat} (hm : P.follows .mixedOrders = true) {w : World} (hb : drawB ops a0.tmps.size = true) (hk : backB ops = true) (st : ∀ i w w' v, Below w.heap.size w w' → R i w v → R i w' v) (h0 : S w.drew) (hs : DSteps P ops a0 S R 0 ops.toList)
    (fin : ∀ a w, DI ops a0 S R (Array.replicate ops.size true) a w → Q .normal a w) : (Code.region id ops true).wp P Q a0 w := by
  refine wp_region_any hm (wpAny_di hb hk st hs fin _ _ _ _ ?_ ?_)
  · simp [List.countP_replicate]
  · exact { sz := by simp, s := h0, df := rfl, ts := rfl, un := fun _ _ => rfl, dn := fun i o t hi hd hl => absurd hl (by rw [Array.getD_eq_getD_getElem?, Array.getElem?_replicate]; split <;> simp) }
/-- An operation that yields. -/
theorem dstep_value {o : Oper} {a : Act} {w : World} {K : Act → World → Prop} {v : Value} {w' : World} (hr : (execOp a.eval o).run P w = .ok (.value v) w') (h : K (a.put o.dst v) w') : o.wp P a w K Q := by
  unfold Oper.wp
  rw [hr]
  exact h
/-- A call of a function. -/
theorem dstep_call {o : Oper} {a : Act} {w : World} {K : Act → World → Prop} {f : FuncId} {args : Array Value} (hr : (execOp a.eval o).run P w = .ok (.enter f args) w) {p : Ending → World → Prop} (hc : Calls P f args w p) (h : ∀ e w', p e w' → ∃ v, e = .returned v ∧ K (a.put o.dst v) w') : o.wp P a w K Q := by
  unfold Oper.wp
  rw [hr, Oper.upon_enter]
  refine hc.mono fun e w' he => ?_
  obtain ⟨v, rfl, hk⟩ := h e w' he
  exact hk
/-- A call of a function of one argument. -/
theorem dstep_call1 {o : Oper} {a : Act} {w : World} {K : Act → World → Prop} (f : FuncId) (t : Tmp) (hr : (execOp a.eval o).run P w = .ok (.enter f #[a.tmps.getD t undef]) w) {v : Value} (hv : a.tmps.getD t undef = v) {p : Ending → World → Prop} (hc : Calls P f #[v] w p) (h : ∀ e w', p e w' → ∃ v, e = .returned v ∧ K (a.put o.dst v) w') : o.wp P a w K Q := by
  rw [hv] at hr
  exact dstep_call hr hc h
/-- A whole struct loaded. -/
theorem dstep_load {o : Oper} {a : Act} {w : World} {K : Act → World → Prop} {T : TypeId} {x : Operand} (ho : o.op = .load T x) {fs : Array Field} (hu : Tryz.prog.underlying T = some (.struct fs)) {n : Nat} (hi : (Tryz.prog.info? T).map (·.size) = some n) {g : Nat} {cs : Array Value} (hx : a.eval x = .pointer (some ⟨g, 0, none⟩)) (hb : BK T w g cs) (hs : cs.size = n) (h : K (a.put o.dst (.agg cs)) w) : o.wp Tryz.prog a w K Q := by
  unfold Oper.wp execOp
  simp only [ho, hx, Instr.loadAt, Instr.sureAddr, Sem.run_bind, Sem.run_pure, Result.andThen_ok, hb.load hu hi hs]
  exact h
/-- The frame behind it, written out. -/
def putAll (l : List Oper) (vs : Nat → Value) (a0 : Act) : Act := l.foldl (fun b o => b.put o.dst (vs (o.dst.getD 0))) a0
theorem putAll_size (l : List Oper) (vs : Nat → Value) (a0 : Act) : (putAll l vs a0).tmps.size = a0.tmps.size ∧ (putAll l vs a0).defers = a0.defers := by
  induction l generalizing a0 with
  | nil => exact ⟨rfl, rfl⟩
  | cons o l ih =>
    have := ih (a0.put o.dst (vs (o.dst.getD 0)))
    unfold putAll at this ⊢
    rw [List.foldl_cons]
    refine ⟨this.1.trans ?_, this.2.trans ?_⟩ <;> cases o.dst <;> simp [Act.put]
theorem putAll_getD (l : List Oper) (vs : Nat → Value) (a0 : Act) (t : Nat) (ht : t < a0.tmps.size) : (putAll l vs a0).tmps.getD t undef = if (l.all fun o => o.dst != some t) = true then a0.tmps.getD t undef else vs t := by
  induction l generalizing a0 with
  | nil => simp [putAll]
  | cons o l ih =>
    have h1 := ih (a0.put o.dst (vs (o.dst.getD 0))) (by cases o.dst <;> simpa [Act.put] using ht)
    have e : putAll (o :: l) vs a0 = putAll l vs (a0.put o.dst (vs (o.dst.getD 0))) := rfl
    rw [e, h1]
    cases hd : o.dst with
    | none => simp [List.all_cons, hd, Act.put]
    | some d =>
      by_cases hdt : d = t
      · subst hdt
        rw [getD_put _ _ _ _ ht]
        simp [List.all_cons, hd]
      · have hdl : (a0.put (some d) (vs ((some d).getD 0))).tmps.getD t undef = a0.tmps.getD t undef := by
          simp only [Act.put, Array.getD_eq_getD_getElem?, Array.getElem?_setIfInBounds_ne hdt]
        rw [hdl]
        simp [List.all_cons, hd, hdt]
theorem DI.form {a : Act} {w : World} (h : DI ops a0 S R (Array.replicate ops.size true) a w) : ∃ vs : Nat → Value, (∀ i o t, ops[i]? = some o → o.dst = some t → R i w (vs t)) ∧ a = putAll ops.toList vs a0 := by
  refine ⟨fun t => a.tmps.getD t undef, fun i o t hi ht => h.dn i o t hi ht ?_, ?_⟩
  · rw [Array.getD_eq_getD_getElem?, Array.getElem?_replicate, if_pos (Array.getElem?_eq_some_iff.1 hi).1]; rfl
  · have h1 := putAll_size ops.toList (fun t => a.tmps.getD t undef) a0
    have h2 := putAll_getD ops.toList (fun t => a.tmps.getD t undef) a0
    generalize putAll ops.toList (fun t => a.tmps.getD t undef) a0 = b at h1 h2
    obtain ⟨tb, db⟩ := b
    have h3 := h.df
    have h4 := h.ts
    have h5 := h.un
    obtain ⟨ta, da⟩ := a
    simp only at h1 h2 h3 h4 h5
    rw [h3, h1.2]
    congr 1
    apply Array.ext
    · rw [h4, h1.1]
    · intro i h6 h7
      have h8 := h2 i (by omega)
      have h9 : ta.getD i undef = tb.getD i undef := by
        rw [h8]
        by_cases hc : (ops.toList.all fun o => o.dst != some i) = true
        · rw [if_pos hc]; exact h5 i hc
        · rw [if_neg hc]
      simp only [Array.getD_eq_getD_getElem?, Array.getElem?_eq_getElem h6, Array.getElem?_eq_getElem h7, Option.getD_some] at h9
      exact h9
end
end
section
section
variable {P : Program} {ops : Array Oper} {Q : Exit → Act → World → Prop} {a0 : Act} {S : World → Prop} {R : Nat → World → Value → Prop}
/-- One operation's step, guarded or not. -/
def GStep (P : Program) (ops : Array Oper) (a0 : Act) (S : World → Prop) (R : Nat → World → Value → Prop) (i : Nat) (o : Oper) : Prop :=
  ∀ (a : Act) (w : World) (K : Act → World → Prop) (Q : Exit → Act → World → Prop), S w → (∀ t, (ops.toList.all fun o => o.dst != some t) = true → a.tmps.getD t undef = a0.tmps.getD t undef) →
    (∀ j t, depB ops o j t = true → R j w (a.tmps.getD t undef)) → (∀ v w', S w' → Below w.heap.size w w' → R i w' v → K (a.put o.dst v) w') → if Region.wanted o (yielded ops a.tmps) = true then o.wp P a w K Q else K (a.put o.dst undef) w
def GSteps (P : Program) (ops : Array Oper) (a0 : Act) (S : World → Prop) (R : Nat → World → Value → Prop) : Nat → List Oper → Prop
  | _, [] => True
  | i, o :: l => GStep P ops a0 S R i o ∧ GSteps P ops a0 S R (i + 1) l
theorem GSteps.at_ {l : List Oper} {k i : Nat} {o : Oper} (h : GSteps P ops a0 S R k l) (hi : l[i]? = some o) : GStep P ops a0 S R (k + i) o := by
  induction l generalizing k i with
  | nil => simp at hi
  | cons x l ih =>
    cases i with
    | zero => simp at hi; subst hi; exact h.1
    | succ i => have := ih h.2 (i := i) (by simpa using hi); rwa [show k + 1 + i = k + (i + 1) by omega] at this
/-- An operation without a guard. -/
theorem DStep.g {i : Nat} {o : Oper} (hg : o.guard = none) (h : DStep P ops a0 S R i o) : GStep P ops a0 S R i o := fun a w K Q h1 h2 h3 h4 => by
  rw [if_pos (by simp [Region.wanted, hg])]
  exact h a w K Q h1 h2 h3 h4
theorem yielded_of {a : Act} {j t : Nat} {b : Bool} (hj : (ops[j]?).bind (·.dst) = some t) (h : a.tmps.getD t undef = .bool b) : yielded ops a.tmps j = some b := by
  unfold yielded
  rw [hj, Option.bind_some]
  rw [Array.getD_eq_getD_getElem?] at h
  cases ht : a.tmps[t]? with
  | none => rw [ht] at h; simp [undef] at h
  | some u => rw [ht] at h; simp at h; subst h; rfl
/-- A guarded operation whose guard holds. -/
theorem DStep.gd {i : Nat} {o : Oper} (j t : Nat) (b : Bool) (hg : o.guard = some (j, b)) (hj : (ops[j]?).bind (·.dst) = some t) (hd : depB ops o j t = true) (hR : ∀ w v, R j w v → v = .bool b) (h : DStep P ops a0 S R i o) : GStep P ops a0 S R i o := fun a w K Q h1 h2 h3 h4 => by
  rw [if_pos (by simp [Region.wanted, hg, yielded_of hj (hR _ _ (h3 j t hd))])]
  exact h a w K Q h1 h2 h3 h4
/-- Each slot is written once, each one's slot is there. -/
def drawG (ops : Array Oper) (n : Nat) : Bool := (List.range ops.size).all fun i => match ops[i]? with
  | none => true
  | some o => match o.dst with
    | none => false
    | some d => decide (d < n) && (List.range ops.size).all fun j => (j == i) || ((ops[j]?).bind (·.dst)) != some d
theorem drawg_spec {n : Nat} (h : drawG ops n = true) {i : Nat} {o : Oper} (hi : ops[i]? = some o) : ∃ d, o.dst = some d ∧ d < n ∧ ∀ j oj, ops[j]? = some oj → oj.dst = some d → j = i := by
  have hlt : i < ops.size := (Array.getElem?_eq_some_iff.1 hi).1
  have h2 := List.all_eq_true.1 h i (List.mem_range.2 hlt)
  simp only [hi] at h2
  cases hd : o.dst with
  | none => rw [hd] at h2; cases h2
  | some d =>
    rw [hd] at h2
    simp only [Bool.and_eq_true, decide_eq_true_eq] at h2
    refine ⟨d, rfl, h2.1, fun j oj hj hjd => ?_⟩
    have hl : j < ops.size := (Array.getElem?_eq_some_iff.1 hj).1
    have := List.all_eq_true.1 h2.2 j (List.mem_range.2 hl)
    simp only [hj, Option.bind_some, hjd, bne_self_eq_false, Bool.or_false, beq_iff_eq] at this
    exact this
theorem DI.stepg {l : Array Bool} {a : Act} {w : World} (hb : drawG ops a0.tmps.size = true) (st : ∀ i w w' v, Below w.heap.size w w' → R i w v → R i w' v) (h : DI ops a0 S R l a w) {i : Nat} {o : Oper} (hi : ops[i]? = some o) {v : Value} {w' : World} (hs : S w') (hbel : Below w.heap.size w w') (hr : R i w' v) :
    DI ops a0 S R (l.setIfInBounds i true) (a.put o.dst v) w' := by
  obtain ⟨d, hd, hdn, huniq⟩ := drawg_spec hb hi
  have hdl : d < a.tmps.size := by rw [h.ts]; exact hdn
  have hin : o ∈ ops.toList := by
    obtain ⟨h1, h2⟩ := Array.getElem?_eq_some_iff.1 hi
    rw [← h2]; simp
  refine { sz := by simpa using h.sz, s := hs, df := ?_, ts := ?_, un := fun t ht => ?_, dn := fun j oj t hj hjt hl => ?_ }
  · rw [hd]; exact h.df
  · rw [hd]; simp [Act.put, h.ts]
  · rw [hd, getD_put a d t v hdl]
    have h1 : (o.dst != some t) = true := List.all_eq_true.1 ht o hin
    rw [hd] at h1
    have h2 : d ≠ t := by intro e; subst e; simp at h1
    rw [if_neg h2]
    exact h.un t ht
  · rw [hd, getD_put a d t v hdl]
    by_cases hdt : d = t
    · subst hdt
      have := huniq j oj hj hjt
      subst this
      rw [if_pos rfl]
      exact hr
    · rw [if_neg hdt]
      have hji : j ≠ i := by
        intro e
        subst e
        rw [hi] at hj
        cases hj
        rw [hd] at hjt
        cases hjt
        exact hdt rfl
      refine st j w w' _ hbel (h.dn j oj t hj hjt ?_)
      rw [Array.getD_eq_getD_getElem?, Array.getElem?_setIfInBounds_ne (Ne.symm hji)] at hl
      rw [Array.getD_eq_getD_getElem?]
      exact hl
theorem wpAny_dg (hb : drawG ops a0.tmps.size = true) (hk : backB ops = true) (st : ∀ i w w' v, Below w.heap.size w w' → R i w v → R i w' v) (hs : GSteps P ops a0 S R 0 ops.toList)
    (fin : ∀ a w, DI ops a0 S R (Array.replicate ops.size true) a w → Q .normal a w) :
    ∀ (fuel : Nat) (l : Array Bool) (a : Act) (w : World), l.toList.countP (fun b => !b) ≤ fuel → DI ops a0 S R l a w → wpAny P .any ops Q fuel l a w := by
  have stop : ∀ l a w, DI ops a0 S R l a w → Region.ready .any ops l = [] → Q .normal a w := fun l a w h hr => by
    have hall := ready_nil hr (back_spec hk) h.sz
    have e : l = Array.replicate ops.size true := by
      apply Array.ext
      · simp [h.sz]
      · intro i h1 h2
        have := hall i (by rw [← h.sz]; exact h1)
        rw [Array.getD_eq_getD_getElem?, Array.getElem?_eq_getElem h1] at this
        simpa using this
    subst e
    exact fin a w h
  intro fuel
  induction fuel with
  | zero =>
    intro l a w hc h
    have hr : Region.ready .any ops l = [] := by
      cases hr : Region.ready .any ops l with
      | nil => rfl
      | cons i rs =>
        exfalso
        have hm : i ∈ Region.ready .any ops l := by rw [hr]; simp
        have h0 := (mem_ready.1 hm).1
        have hlt : i < l.size := by
          rcases Nat.lt_or_ge i l.size with h' | h'
          · exact h'
          · simp [Array.getElem?_eq_none h'] at h0
        have h1 : l[i] = false := by simpa [hlt] using h0
        have := count_set hlt h1
        omega
    exact ⟨hr, stop l a w h hr⟩
  | succ fuel ih =>
    intro l a w hc h
    refine ⟨stop l a w h, fun i hm => ?_⟩
    obtain ⟨h0, oj, hoj, hall⟩ := mem_ready.1 hm
    have hlt : i < l.size := by
      rcases Nat.lt_or_ge i l.size with h' | h'
      · exact h'
      · simp [Array.getElem?_eq_none h'] at h0
    have h1 : l[i] = false := by simpa [hlt] using h0
    have hct := count_set hlt h1
    unfold wpOp
    simp only [hoj]
    have hst := hs.at_ (i := i) (o := oj) (by simpa using hoj)
    rw [Nat.zero_add] at hst
    have hst2 := hst a w (wpAny P .any ops Q fuel (l.setIfInBounds i true)) Q h.s h.un (fun j t hjt => ?_) fun v w' hsw hbel hr => ih _ _ _ (by omega) (h.stepg hb st hoj hsw hbel hr)
    · split
      · next hw => rw [if_pos hw] at hst2; exact .inl hst2
      · next hw => rw [if_neg hw] at hst2; exact hst2
    obtain ⟨p, hp, hpj⟩ := List.any_eq_true.1 hjt
    simp only [Bool.and_eq_true, beq_iff_eq] at hpj
    obtain ⟨rfl, rfl⟩ := hpj
    obtain ⟨e, he, hp2⟩ := List.mem_filterMap.1 hp
    by_cases hbe : Region.binds .any e = true
    · rw [if_pos hbe] at hp2
      cases hoe : ops[e.on]? with
      | none => rw [hoe] at hp2; simp at hp2
      | some oe =>
        rw [hoe] at hp2
        cases hde : oe.dst with
        | none => rw [Option.bind_some, hde] at hp2; simp at hp2
        | some t =>
          rw [Option.bind_some, hde] at hp2
          simp only [Option.map_some, Option.some.injEq] at hp2
          subst hp2
          refine h.dn e.on oe t hoe hde ?_
          have := hall e (by simpa using he) hbe
          simpa using this
    · rw [if_neg hbe] at hp2; cases hp2
/-- THE BEGINNING. -/
theorem wp_region_dg {id : Nat} (hm : P.follows .mixedOrders = true) {w : World} (hb : drawG ops a0.tmps.size = true) (hk : backB ops = true) (st : ∀ i w w' v, Below w.heap.size w w' → R i w v → R i w' v) (h0 : S w.drew) (hs : GSteps P ops a0 S R 0 ops.toList)
    (fin : ∀ a w, DI ops a0 S R (Array.replicate ops.size true) a w → Q .normal a w) : (Code.region id ops true).wp P Q a0 w := by
  refine wp_region_any hm (wpAny_dg hb hk st hs fin _ _ _ _ ?_ ?_)
  · simp [List.countP_replicate]
  · exact { sz := by simp, s := h0, df := rfl, ts := rfl, un := fun _ _ => rfl, dn := fun i o t hi hd hl => absurd hl (by rw [Array.getD_eq_getD_getElem?, Array.getElem?_replicate]; split <;> simp) }
end
end
section
theorem rdc_nil (w : World) : RdC w (.slice none 0 0) [] := ⟨none, 0, rfl, fun i hi => absurd hi (by simp)⟩
theorem vcc_nil : Vcc [] := ⟨⟨by decide, fun b hb => absurd hb (by simp)⟩, by decide⟩
/-- A call that tells a state alone. -/
def OnePost (m : M) (w : World) (e : Ending) (w' : World) : Prop := ∃ v, e = .returned v ∧ SVN w.heap.size w' v m ∧ Below w.heap.size w w'
theorem Tryz.results60 : Tryz.f60.results = #[.cell 2 27] := by kernel_rfl
theorem land_run (m : M) (h : m.stop = 0) : (runC [] 1 m).1 = stop (land m) 5 := by rw [runC_go h]; exact cyc_nil m
set_option maxRecDepth 20000 in
set_option maxHeartbeats 4000000 in
theorem landed_ok (m : M) (sv : Value) (w : World) (h : SV w sv m) (k : Okc m) (hs : m.stop = 0) (T : Tab w) (ho : m.out.length + 4 ≤ 1000000) : Calls Tryz.prog 60 #[sv] w (OnePost (stop (land m) 5) w) := by
  have RN := Lib.hid (fun W (hb : Below w.heap.size w W) => show Calls Tryz.prog 21 #[.slice none 0 0, sv] W (StepPost2 (stop (land m) 5) W) by rw [← land_run m hs]; exact cycle_ok [] m _ sv W (rdc_nil W) vcc_nil (h.below hb) k (T.below hb) ho)
  obtain ⟨r, q, i, o, z, y, rfl, a1, a2, a3, a4, a5, a6⟩ := h
  clear a1 a2 a3 a4 a5 a6 T k ho hs
  have X0 := Lib.hid (show BK 27 ((w.alloc (.cells #[r, q, i, .int .i64 m.tk, o, .int .i64 m.pc, z, .int .i64 m.stop, y, .int .i64 m.jp, .int .i64 m.dl] 27)).alloc (.cells ZS 27)) w.heap.size #[r, q, i, .int .i64 m.tk, o, .int .i64 m.pc, z, .int .i64 m.stop, y, .int .i64 m.jp, .int .i64 m.dl] from BK.alloc (heap_alloc_new w _) _)
  have Y0 := Lib.hid (show BK 27 ((w.alloc (.cells #[r, q, i, .int .i64 m.tk, o, .int .i64 m.pc, z, .int .i64 m.stop, y, .int .i64 m.jp, .int .i64 m.dl] 27)).alloc (.cells ZS 27)) (w.heap.size + 1) ZS from BK.new (by simp))
  have G0 := Lib.hid (below_two w (.cells #[r, q, i, .int .i64 m.tk, o, .int .i64 m.pc, z, .int .i64 m.stop, y, .int .i64 m.jp, .int .i64 m.dl] 27) (.cells ZS 27))
  go_enter Tryz.func60, Tryz.ntmps60
  go_wp2_with fail
  refine (RN.out _ G0.out).mono ?_
  rintro e w1 ⟨v1, rfl, s1, b1⟩
  have Y1 := Lib.hid (Y0.out.below b1)
  have T1 := Lib.hid (show w.heap.size + 2 ≤ w1.heap.size by have := b1.size; simp at this; omega)
  have G1 := Lib.hid (G0.out.trans (b1.mono (by simp; omega)))
  have S1 := Lib.hid s1
  obtain ⟨cs, rfl, hcs, hone⟩ := s1.sv.form
  have CZ := Lib.hid hcs
  have CO := Lib.hid hone
  clear s1 hcs hone b1
  go_wp2_with (((with_reducible refine wpList_store_bk (T := 27) (op := ⟨none, .store 27 _ _, _, _, _, none⟩) rfl _ _ rfl Tryz.size27 w1.heap.size ZS cs ?sx ?sy ?sb ?s1 ?s2 ?s3 ?_); (case sx => rfl); (case sy => rfl); (case s1 => rfl); (case s2 => exact CZ.out); (case s3 => exact CO.out); (case sb => exact heap_alloc_new w1 _)))
  intro w2 hbl hg hsz
  have X2 := Lib.hid hbl
  have Y2 := Lib.hid ((Y1.out.alloc (.cells ZS 27)).grown hg (by intro h; injection h; have := T1.out; omega))
  have BL2 := (below_new w1 (.cells ZS 27)).grown hg (by simp) (by intro k hk; cases hk; omega)
  have S2 := Lib.hid (S1.out.below BL2)
  have G2 := Lib.hid (G1.out.trans (BL2.mono (by have := T1.out; omega)))
  have T2 := Lib.hid (show w1.heap.size + 1 = w2.heap.size by rw [hsz])
  clear hbl hg hsz BL2
  go_wp2_with (first | ((with_reducible refine wpList_load_bk (T := 27) (op := ⟨some 10, .load 27 _, _, _, _, none⟩) rfl _ rfl Tryz.underlying27 Tryz.size27 w1.heap.size cs ?lx ?lb ?l1 ?_); (case lx => rfl); (case l1 => exact CZ.out); (case lb => exact X2.out)) | ((with_reducible refine wpList_store_bk (T := 27) (op := ⟨none, .store 27 _ _, _, _, _, none⟩) rfl _ _ rfl Tryz.size27 (w.heap.size + 1) ZS cs ?tx ?ty ?tb ?t1 ?t2 ?t3 ?_); (case tx => rfl); (case ty => rfl); (case t1 => rfl); (case t2 => exact CZ.out); (case t3 => exact CO.out); (case tb => exact Y2.out)))
  intro w9 hbl hg hsz
  have LD := Lib.hid (hbl.load Tryz.underlying27 Tryz.size27 CZ.out)
  have BL9 := gb_below (B := w.heap.size) hg (by omega) (by have := T1.out; have := T2.out; omega)
  have SF := Lib.hid (show SVN w.heap.size w9 (.agg cs) _ from (S2.out.grown hg (by simp)).mono (by simp; omega))
  have BF := Lib.hid (G2.out.trans BL9)
  clear hbl hg hsz BL9
  go_wp2_with fail
  refine bodyPost_ret (v := .agg cs) ?_ rfl ⟨_, rfl, SF.out, BF.out⟩
  rw [results_cell_one Tryz.results60]
  simp [asAddr, Result.andThen, LD.out]
set_option maxRecDepth 20000 in
set_option maxHeartbeats 4000000 in
theorem mayBe_ok (C : List (List In5)) (m : M) (pv sv : Value) (w : World) (hp : RdC w pv C) (vc : Vcc C) (h : SV w sv m) (k : Okc m) (T : Tab w) (ho : m.out.length + 4 ≤ 1000000) : Calls Tryz.prog 58 #[pv, sv] w (BoolBelow true w) := by
  have RN := Lib.hid (fun W (hb : Below w.heap.size w W) => run_ok C m pv sv 0 W (hp.keep hb) vc (h.below hb) k (T.below hb) (by omega) (by omega) (by simp; omega))
  obtain ⟨A, c, rfl, _⟩ := hp
  obtain ⟨r, q, i, o, z, y, rfl, a1, a2, a3, a4, a5, a6⟩ := h
  clear a1 a2 a3 a4 a5 a6 T k vc ho
  generalize C.length = pl at *
  have G0 := Lib.hid (below_new w (.cells #[r, q, i, .int .i64 m.tk, o, .int .i64 m.pc, z, .int .i64 m.stop, y, .int .i64 m.jp, .int .i64 m.dl] 27))
  go_enter Tryz.func58, Tryz.ntmps58
  go_wp2_with fail
  refine (RN.out _ G0.out).mono ?_
  rintro e w1 ⟨v1, rfl, s1, b1⟩
  have G1 := Lib.hid (G0.out.trans (b1.mono (by simp)))
  obtain ⟨cs, rfl, hcs, hone⟩ := s1.sv.form
  have CZ := Lib.hid hcs
  have CO := Lib.hid hone
  clear s1 hcs hone b1
  go_wp2_with (((with_reducible refine wpList_store_bk (T := 27) (op := ⟨none, .store 27 _ _, _, _, _, none⟩) rfl _ _ rfl Tryz.size27 w1.heap.size ZS cs ?sx ?sy ?sb ?s1 ?s2 ?s3 ?_); (case sx => rfl); (case sy => rfl); (case s1 => rfl); (case s2 => exact CZ.out); (case s3 => exact CO.out); (case sb => exact heap_alloc_new w1 _)))
  intro w2 hbl hg hsz
  have G2 := Lib.hid (G1.out.trans (((below_new w1 (.cells ZS 27)).grown hg (by simp) (by intro k hk; cases hk; omega)).mono G1.out.size))
  clear hbl hg hsz
  go_wp2_with fail
  go_ret
  exact ⟨rfl, G2.out⟩
end
section
theorem dstep_int {Q : Exit → Act → World → Prop} {o : Oper} {a : Act} {w : World} {K : Act → World → Prop} {x : Operand} {p : Addr} {v : Value} (ho : o.op = .load 3 x) (hx : a.eval x = .pointer (some p)) (hc : w.cell? p = some v) (h : K (a.put o.dst v) w) : o.wp Tryz.prog a w K Q := by
  have hl : (loadVar 3 p).run Tryz.prog w = .ok v w := by simp [hc, go_sem]
  unfold Oper.wp execOp
  simp only [ho, hx, Instr.loadAt, Instr.sureAddr, Sem.run_bind, Sem.run_pure, Result.andThen_ok, hl]
  exact h
theorem dstep_at {Q : Exit → Act → World → Prop} {o : Oper} {a : Act} {w : World} {K : Act → World → Prop} {x : Operand} {ad : Addr} {X : Nat → In6} (ho : o.op = .load 58 x) (hx : a.eval x = .pointer (some ad)) (hb : BAt w ad X) (h : K (a.put o.dst (.agg (bcs X))) w) : o.wp Tryz.prog a w K Q := by
  unfold Oper.wp execOp
  simp only [ho, hx, Instr.loadAt, Instr.sureAddr, Sem.run_bind, Sem.run_pure, Result.andThen_ok, hb.run]
  exact h
theorem dstep_call2 {P : Program} {Q : Exit → Act → World → Prop} {o : Oper} {a : Act} {w : World} {K : Act → World → Prop} (f : FuncId) (t t2 : Tmp) (hr : (execOp a.eval o).run P w = .ok (.enter f #[a.tmps.getD t undef, a.tmps.getD t2 undef]) w) {v : Value} (hv : a.tmps.getD t undef = v) {p : Ending → World → Prop} (hc : Calls P f #[v, a.tmps.getD t2 undef] w p) (h : ∀ e w', p e w' → ∃ v, e = .returned v ∧ K (a.put o.dst v) w') : o.wp P a w K Q := by
  rw [hv] at hr
  exact dstep_call hr hc h
theorem ix_code (ad : Addr) (n c k : Nat) (w : World) (h : k < n) : (Instr.indexAt 22 (.slice (some ad) n c) (.int .i64 (k : Nat))).run Tryz.prog w = .ok (.pointer (some (ad.add (k * 24)))) w := by
  have h0 : (0 : Int) ≤ (k : Int) := by omega
  have h1 : (k : Int) < (n : Int) := by omega
  simp [go_sem, h0, h1]
def FindPost (x : Int) (w : World) (e : Ending) (w' : World) : Prop := e = .returned (.tuple #[.int .i64 x, .int .i64 0]) ∧ Below w.heap.size w w'
/-- What the operations of Find's last region yield. -/
def fiR (ad : Addr) (pl cp p : Nat) (pc : Nat) (b : List In5) (cs : Array Value) (m : M) (res : Int) : Nat → World → Value → Prop
  | 0, _, v => v = .slice (some ad) pl cp
  | 1, _, v => v = .pointer (some ⟨p, 5, none⟩)
  | 2, _, v => v = .int .i64 (pc : Nat)
  | 3, _, v => v = .pointer (some (ad.add (pc * 24)))
  | 4, _, v => v = .agg (bcs (bX b))
  | 5, _, v => v = .agg cs
  | 6, w, v => SV w v (stop (land m) 5)
  | 7, _, v => v = .int .i64 res
  | 8, _, v => v = .int .i64 res
  | 9, _, v => v = .int .i64 0
  | _, _, _ => True
theorem fiR_st {ad : Addr} {pl cp p pc : Nat} {b : List In5} {cs : Array Value} {m : M} {res : Int} : ∀ q w w' v, Below w.heap.size w w' → fiR ad pl cp p pc b cs m res q w v → fiR ad pl cp p pc b cs m res q w' v
  | 0, _, _, _, _, h => h
  | 1, _, _, _, _, h => h
  | 2, _, _, _, _, h => h
  | 3, _, _, _, _, h => h
  | 4, _, _, _, _, h => h
  | 5, _, _, _, _, h => h
  | 6, _, _, _, hb, h => SV.below h hb
  | 7, _, _, _, _, h => h
  | 8, _, _, _, _, h => h
  | 9, _, _, _, _, h => h
  | _ + 10, _, _, _, _, _ => trivial
theorem Okc.landStop {m : M} (k : Okc m) : Okc (stop (land m) 5) := ⟨k.ok.land.stop 5, k.fb.later.mono (by omega), by simp [stop], by simp [stop]⟩
set_option maxRecDepth 40000 in
set_option maxHeartbeats 4000000 in
theorem find_ok (C : List (List In5)) (m : M) (pv sv : Value) (w : World) (hp : RdC w pv C) (vc : Vcc C) (h : SV w sv m) (k : Okc m) (T : Tab w) (ho : m.out.length + 4 ≤ 1000000) : Calls Tryz.prog 26 #[pv, sv] w (FindPost (hfind C m) w) := by
  have MB := Lib.hid (fun W (hb : Below w.heap.size w W) => mayBe_ok C m pv sv W (hp.keep hb) vc (h.below hb) k (T.below hb) ho)
  have LD := Lib.hid (fun W (hb : Below w.heap.size w W) (hs : m.stop = 0) => landed_ok m sv W (h.below hb) k hs (T.below hb) ho)
  have FD := Lib.hid (fun (b : List In5) v W (hb : Below w.heap.size w W) (h4 : b.length = 4) (hv : ∀ x ∈ b, Vi x) (sv2 : SV W v (stop (land m) 5)) => hfind_any b (stop (land m) 5) v W h4 hv sv2 k.landStop.ok (T.below hb))
  have HF := Lib.hid (show hfind C m = if m.stop = 0 then fnd C (land m) else -1 from rfl)
  obtain ⟨A, cp, rfl, hC⟩ := hp
  obtain ⟨r, q, i, o, z, y, rfl, a1, a2, a3, a4, a5, a6⟩ := h
  have CD := Lib.hid hC
  have VV := Lib.hid vc.v
  clear a1 a2 a3 a4 a5 a6 T vc ho hC
  generalize hfind C m = res at *
  have FN := Lib.hid (show fnd C (land m) = if C.length ≤ m.pc then -1 else hz (stop (land m) 5).dl (stop (land m) 5).fl 0 [] (C.getD m.pc []) from rfl)
  have X0 := Lib.hid (show BK 27 (w.alloc (.cells #[r, q, i, .int .i64 m.tk, o, .int .i64 m.pc, z, .int .i64 m.stop, y, .int .i64 m.jp, .int .i64 m.dl] 27)) w.heap.size #[r, q, i, .int .i64 m.tk, o, .int .i64 m.pc, z, .int .i64 m.stop, y, .int .i64 m.jp, .int .i64 m.dl] from heap_alloc_new w _)
  have G0 := Lib.hid (below_new w (.cells #[r, q, i, .int .i64 m.tk, o, .int .i64 m.pc, z, .int .i64 m.stop, y, .int .i64 m.jp, .int .i64 m.dl] 27))
  by_cases hs : m.stop = 0
  · have hsb : (m.stop != 0) = false := by simp [hs]
    have HS := Lib.hid hs
    have HF2 := Lib.hid (show res = fnd C (land m) by rw [HF.out, if_pos hs])
    clear hs
    by_cases hge : C.length ≤ m.pc
    · have RS := Lib.hid (show res = -1 by rw [HF2.out, FN.out, if_pos hge])
      generalize C.length = pl at *
      have g1 : decide ((pl : Int) ≤ (m.pc : Int)) = true := by simp; omega
      go_enter Tryz.func26, Tryz.ntmps26
      go_wp2_with fail
      refine (MB.out _ G0.out).mono ?_
      rintro e w1 ⟨rfl, b1⟩
      have X1 := X0.out.below b1
      have c5 := X1.cell 5
      have c7 := X1.cell 7
      have G1 := Lib.hid (G0.out.trans (b1.mono (by simp)))
      clear b1 X1
      simp at c5 c7
      go_wp2_with fail
      go_ret2
      exact ⟨by rw [RS.out]; rfl, G1.out⟩
    · have hlt : m.pc < C.length := by omega
      have RS := Lib.hid (show res = hz (stop (land m) 5).dl (stop (land m) 5).fl 0 [] (C.getD m.pc []) by rw [HF2.out, FN.out, if_neg hge])
      have V4 := Lib.hid (VV.out.at_ hlt)
      obtain ⟨ad, rfl, hbl, hbx⟩ := CD.out m.pc hlt
      have HX := Lib.hid hbx
      have HXL := Lib.hid hbl
      clear CD VV FN HF HF2 hbl hbx
      generalize C.getD m.pc [] = b at *
      generalize C.length = pl at *
      have g1 : decide ((pl : Int) ≤ (m.pc : Int)) = false := by simp; omega
      have g2 : (0 : Int) ≤ (m.pc : Int) := by omega
      have g3 : (m.pc : Int) < (pl : Int) := by omega
      go_enter Tryz.func26, Tryz.ntmps26
      go_wp2_with fail
      refine (MB.out _ G0.out).mono ?_
      rintro e w1 ⟨rfl, b1⟩
      have X1 := Lib.hid (X0.out.below b1)
      have c5 : w1.cell? ⟨w.heap.size, 5, none⟩ = some (.int .i64 m.pc) := X1.out.cell 5
      have c7 : w1.cell? ⟨w.heap.size, 7, none⟩ = some (.int .i64 m.stop) := X1.out.cell 7
      have G1 := Lib.hid (G0.out.trans (b1.mono (by simp)))
      clear b1
      go_wp2_with fail
      refine wp_region_di (S := fun w' => Below w1.heap.size w1 w') (R := fiR ad pl cp w.heap.size m.pc b #[r, q, i, .int .i64 m.tk, o, .int .i64 m.pc, z, .int .i64 m.stop, y, .int .i64 m.jp, .int .i64 m.dl] m res) (by kernel_rfl) (by kernel_rfl) (by kernel_rfl) fiR_st (by exact below_drewN (Below.refl _ _) 1) ⟨?_, ?_, ?_, ?_, ?_, ?_, ?_, ?_, ?_, ?_, trivial⟩ ?_
      · show DStep _ _ _ _ _ _ _
        intro a w K Q hS hu hd hK
        have hv := hu 0 (by kernel_rfl)
        exact dstep_value (v := a.tmps.getD 0 undef) (by kernel_rfl) (hK _ _ hS (Below.refl _ _) hv)
      · show DStep _ _ _ _ _ _ _
        intro a w K Q hS hu hd hK
        have hv := hu 3 (by kernel_rfl)
        refine dstep_value ?_ (hK _ _ hS (Below.refl _ _) rfl)
        simp only [execOp, Act.eval, hv]
        kernel_rfl
      · show DStep _ _ _ _ _ _ _
        intro a w3 K Q hS hu hd hK
        have hv : a.tmps.getD 21 undef = .pointer (some ⟨w.heap.size, 5, none⟩) := hd 1 21 (by kernel_rfl)
        exact dstep_int rfl hv ((X1.out.belowB hS X1.out.lt).cell 5) (hK _ _ hS (Below.refl _ _) rfl)
      · show DStep _ _ _ _ _ _ _
        intro a w3 K Q hS hu hd hK
        have hv : a.tmps.getD 20 undef = .slice (some ad) pl cp := hd 0 20 (by kernel_rfl)
        have hw : a.tmps.getD 22 undef = .int .i64 (m.pc : Nat) := hd 2 22 (by kernel_rfl)
        refine dstep_value (v := .pointer (some (ad.add (m.pc * 24)))) ?_ (hK _ _ hS (Below.refl _ _) rfl)
        simp only [execOp, Act.eval, hv, hw, Sem.run_bind, ix_code ad pl cp m.pc w3 (by omega), Result.andThen_ok]
        rfl
      · show DStep _ _ _ _ _ _ _
        intro a w3 K Q hS hu hd hK
        have hv : a.tmps.getD 23 undef = .pointer (some (ad.add (m.pc * 24))) := hd 3 23 (by kernel_rfl)
        exact dstep_at rfl hv (HX.out.keep (G1.out.trans (hS.mono G1.out.size)) (by rw [block_add]; exact HXL.out)) (hK _ _ hS (Below.refl _ _) rfl)
      · show DStep _ _ _ _ _ _ _
        intro a w3 K Q hS hu hd hK
        have hv := hu 3 (by kernel_rfl)
        exact dstep_load rfl Tryz.underlying27 Tryz.size27 (hx := hv) (hb := X1.out.belowB hS X1.out.lt) rfl (hK _ _ hS (Below.refl _ _) rfl)
      · show DStep _ _ _ _ _ _ _
        intro a w3 K Q hS hu hd hK
        have hv : a.tmps.getD 25 undef = .agg #[r, q, i, .int .i64 m.tk, o, .int .i64 m.pc, z, .int .i64 m.stop, y, .int .i64 m.jp, .int .i64 m.dl] := hd 5 25 (by kernel_rfl)
        refine dstep_call1 60 25 (by kernel_rfl) hv (LD.out w3 (G1.out.trans (hS.mono G1.out.size)) HS.out) ?_
        rintro en w4 ⟨v4, rfl, s4, b4⟩
        exact ⟨_, rfl, hK _ _ (hS.trans (b4.mono hS.size)) b4 s4.sv⟩
      · show DStep _ _ _ _ _ _ _
        intro a w3 K Q hS hu hd hK
        have hv : a.tmps.getD 24 undef = .agg (bcs (bX b)) := hd 4 24 (by kernel_rfl)
        have hw : SV w3 (a.tmps.getD 26 undef) (stop (land m) 5) := hd 6 26 (by kernel_rfl)
        refine dstep_call2 59 24 26 (by kernel_rfl) hv (FD.out b _ w3 (G1.out.trans (hS.mono G1.out.size)) V4.out.1 V4.out.2 hw) ?_
        rintro en w4 ⟨rfl, b4⟩
        exact ⟨_, rfl, hK _ _ (hS.trans (b4.mono hS.size)) b4 (by rw [RS.out]; rfl)⟩
      · show DStep _ _ _ _ _ _ _
        intro a w3 K Q hS hu hd hK
        exact dstep_value (v := a.tmps.getD 27 undef) (by kernel_rfl) (hK _ _ hS (Below.refl _ _) (hd 7 27 (by kernel_rfl)))
      · show DStep _ _ _ _ _ _ _
        intro a w3 K Q hS hu hd hK
        exact dstep_value (by kernel_rfl) (hK _ _ hS (Below.refl _ _) rfl)
      intro a w3 D
      have D3 := Lib.hid D.s
      obtain ⟨vs, hvs, rfl⟩ := D.form
      have u4 : vs 4 = .int .i64 res := hvs 8 _ 4 rfl rfl
      have u5 : vs 5 = .int .i64 0 := hvs 9 _ 5 rfl rfl
      simp only [putAll, List.foldl_cons, List.foldl_nil, Option.getD_some, u4, u5]
      clear hvs u4 u5
      generalize vs 20 = u20, vs 21 = u21, vs 22 = u22, vs 23 = u23, vs 24 = u24, vs 25 = u25, vs 26 = u26, vs 27 = u27
      go_wp2_with fail
      go_ret2
      exact ⟨rfl, G1.out.trans (D3.out.mono G1.out.size)⟩
  · have hsb : (m.stop != 0) = true := by simpa using hs
    have RS := Lib.hid (show res = -1 by rw [HF.out, if_neg hs])
    generalize C.length = pl at *
    go_enter Tryz.func26, Tryz.ntmps26
    go_wp2_with fail
    refine (MB.out _ G0.out).mono ?_
    rintro e w1 ⟨rfl, b1⟩
    have c7 : w1.cell? ⟨w.heap.size, 7, none⟩ = some (.int .i64 m.stop) := (X0.out.below b1).cell 7
    have G1 := Lib.hid (G0.out.trans (b1.mono (by simp)))
    clear b1
    go_wp2_with fail
    go_ret2
    exact ⟨by rw [RS.out]; rfl, G1.out⟩
end
section
theorem Tryz.results57 : Tryz.f57.results = #[.cell 4 27] := by kernel_rfl
theorem fnd_range (C : List (List In5)) (m : M) : fnd C m = -1 ∨ 0 ≤ fnd C m := by
  unfold fnd
  split
  · exact .inl rfl
  · rcases hz_range (dl := m.dl) (fl := m.fl) 0 [] (C.getD m.pc []) with h | h
    · exact .inl h
    · exact .inr (by omega)
def cyR (ad : Addr) (pl cp p : Nat) (pc : Nat) (b : List In5) (cs : Array Value) (res : Int) : Nat → Value → Prop
  | 0, v => v = .pointer (some ⟨p, 5, none⟩)
  | 1, v => v = .int .i64 (pc : Nat)
  | 2, v => v = .slice (some ad) pl cp
  | 3, v => v = .int .i64 (pl : Nat)
  | 4, v => v = .bool true
  | 5, v => v = .bool true
  | 6, v => v = .slice (some ad) pl cp
  | 7, v => v = .pointer (some ⟨p, 5, none⟩)
  | 8, v => v = .int .i64 (pc : Nat)
  | 9, v => v = .pointer (some (ad.add (pc * 24)))
  | 10, v => v = .agg (bcs (bX b))
  | 11, v => v = .agg cs
  | 12, v => v = .int .i64 res
  | 13, v => v = .bool (res != -1)
  | 14, v => v = .bool (res != -1)
  | _, _ => True
def cyR0 (A : Option Addr) (pl cp p : Nat) (pc : Nat) : Nat → Value → Prop
  | 0, v => v = .pointer (some ⟨p, 5, none⟩)
  | 1, v => v = .int .i64 (pc : Nat)
  | 2, v => v = .slice A pl cp
  | 3, v => v = .int .i64 (pl : Nat)
  | 4, v => v = .bool false
  | 5, v => v = .bool false
  | 14, v => v = .bool false
  | _, _ => True
theorem GStep.skip {P : Program} {ops : Array Oper} {a0 : Act} {S : World → Prop} {R : Nat → World → Value → Prop} {i : Nat} {o : Oper} (j t : Nat) (b : Bool) (hg : o.guard = some (j, b)) (hj : (ops[j]?).bind (·.dst) = some t) (hd : depB ops o j t = true) (hR : ∀ w v, R j w v → v = .bool (!b)) (hu : ∀ w, R i w undef) : GStep P ops a0 S R i o := fun a w K Q h1 h2 h3 h4 => by
  rw [if_neg (by simp [Region.wanted, hg, yielded_of hj (hR _ _ (h3 j t hd))])]
  exact h4 undef w h1 (Below.refl _ _) (hu w)
set_option maxRecDepth 40000 in
set_option maxHeartbeats 8000000 in
theorem hcycle_ok (C : List (List In5)) (m : M) (pv sv : Value) (w : World) (hp : RdC w pv C) (vc : Vcc C) (h : SV w sv m) (k : Okc m) (hs : m.stop = 0) (T : Tab w) (ho : m.out.length + 4 ≤ 1000000) : Calls Tryz.prog 57 #[pv, sv] w (OnePost (hcyc C m) w) := by
  have LD := Lib.hid (fun W (hb : Below w.heap.size w W) => landed_ok m sv W (h.below hb) k hs (T.below hb) ho)
  have CYC := Lib.hid (fun W (hb : Below w.heap.size w W) => show Calls Tryz.prog 21 #[pv, sv] W (StepPost2 (cyc C m) W) by have := cycle_ok C m pv sv W (hp.keep hb) vc (h.below hb) k (T.below hb) ho; rwa [show (runC C 1 m).1 = cyc C m by rw [runC_go hs]; rfl] at this)
  have FD := Lib.hid (fun (b : List In5) v W (hb : Below w.heap.size w W) (h4 : b.length = 4) (hv : ∀ x ∈ b, Vi x) (sv2 : SV W v (stop (land m) 5)) => hfind_any b (stop (land m) 5) v W h4 hv sv2 k.landStop.ok (T.below hb))
  have HCN := Lib.hid (show ¬ 0 ≤ fnd C (land m) → hcyc C m = cyc C m from fun h => by unfold hcyc; exact if_neg h)
  have HCY := Lib.hid (show 0 ≤ fnd C (land m) → hcyc C m = stop (land m) 6 from fun h => by unfold hcyc; exact if_pos h)
  have FR := Lib.hid (fnd_range C (land m))
  have FN := Lib.hid (show fnd C (land m) = if C.length ≤ m.pc then -1 else hz (stop (land m) 5).dl (stop (land m) 5).fl 0 [] (C.getD m.pc []) from rfl)
  obtain ⟨A, cp, rfl, hC⟩ := hp
  obtain ⟨r, q, i, o, z, y, rfl, a1, a2, a3, a4, a5, a6⟩ := h
  have CD := Lib.hid hC
  have VV := Lib.hid vc.v
  clear a1 a2 a3 a4 a5 a6 T vc ho hC k hs
  generalize hcyc C m = hm at *
  generalize fnd C (land m) = res at *
  have X0 := Lib.hid (show BK 27 ((w.alloc (.cells #[r, q, i, .int .i64 m.tk, o, .int .i64 m.pc, z, .int .i64 m.stop, y, .int .i64 m.jp, .int .i64 m.dl] 27)).alloc (.cells ZS 27)) w.heap.size #[r, q, i, .int .i64 m.tk, o, .int .i64 m.pc, z, .int .i64 m.stop, y, .int .i64 m.jp, .int .i64 m.dl] from BK.alloc (heap_alloc_new w _) _)
  have Y0 := Lib.hid (show BK 27 ((w.alloc (.cells #[r, q, i, .int .i64 m.tk, o, .int .i64 m.pc, z, .int .i64 m.stop, y, .int .i64 m.jp, .int .i64 m.dl] 27)).alloc (.cells ZS 27)) (w.heap.size + 1) ZS from BK.new (by simp))
  have G0 := Lib.hid (below_two w (.cells #[r, q, i, .int .i64 m.tk, o, .int .i64 m.pc, z, .int .i64 m.stop, y, .int .i64 m.jp, .int .i64 m.dl] 27) (.cells ZS 27))
  by_cases hge : C.length ≤ m.pc
  · have RS := Lib.hid (show hm = cyc C m from HCN.out (by rw [FN.out, if_pos hge]; decide))
    clear FN HCN HCY FR CD VV FD
    generalize cyc C m = cm at *
    generalize C.length = pl at *
    have g1 : decide ((m.pc : Int) < (pl : Int)) = false := by simp; omega
    go_enter Tryz.func57, Tryz.ntmps57
    go_wp2_with fail
    refine (LD.out _ G0.out).mono ?_
    rintro e w1 ⟨v1, rfl, s1, b1⟩
    have X1 := Lib.hid (X0.out.below b1)
    have Y1 := Lib.hid (Y0.out.below b1)
    have G1 := Lib.hid (G0.out.trans (b1.mono (by simp; omega)))
    have T1 := Lib.hid (show w.heap.size + 2 ≤ w1.heap.size by have := b1.size; simp at this; omega)
    obtain ⟨cs1, rfl, hcs1, hone1⟩ := s1.sv.form
    have CZ1 := Lib.hid hcs1
    have CO1 := Lib.hid hone1
    clear s1 hcs1 hone1 b1
    go_wp2_with ((with_reducible refine wpList_store_bk (T := 27) (op := ⟨none, .store 27 _ _, _, _, _, none⟩) rfl _ _ rfl Tryz.size27 w1.heap.size ZS cs1 ?ax ?ay ?ab ?a1 ?a2 ?a3 ?_); (case ax => rfl); (case ay => rfl); (case a1 => rfl); (case a2 => exact CZ1.out); (case a3 => exact CO1.out); (case ab => exact heap_alloc_new w1 _))
    intro w2 hbl hg hsz
    have BL2 := (below_new w1 (.cells ZS 27)).grown hg (by simp) (by intro k hk; cases hk; omega)
    have X2 := Lib.hid (X1.out.below BL2)
    have Y2 := Lib.hid (Y1.out.below BL2)
    have G2 := Lib.hid (G1.out.trans (BL2.mono G1.out.size))
    have c5 : w2.cell? ⟨w.heap.size, 5, none⟩ = some (.int .i64 m.pc) := X2.out.cell 5
    clear hbl hg hsz BL2
    go_wp2_with fail
    refine wp_region_dg (S := fun w' => Below w2.heap.size w2 w') (R := fun q _ v => cyR0 A pl cp w.heap.size m.pc q v) (by kernel_rfl) (by kernel_rfl) (by kernel_rfl) (fun _ _ _ _ _ h => h) (by exact below_drewN (Below.refl _ _) 1) ⟨?_, ?_, ?_, ?_, ?_, ?_, ?_, ?_, ?_, ?_, ?_, ?_, ?_, ?_, ?_, trivial⟩ ?_
    · refine DStep.g rfl ?_
      show DStep _ _ _ _ _ _ _
      intro a w3 K Q hS hu hd hK
      have hv := hu 3 (by kernel_rfl)
      refine dstep_value ?_ (hK _ _ hS (Below.refl _ _) rfl)
      simp only [execOp, Act.eval, hv]
      kernel_rfl
    · refine DStep.g rfl ?_
      show DStep _ _ _ _ _ _ _
      intro a w3 K Q hS hu hd hK
      have hv : a.tmps.getD 10 undef = .pointer (some ⟨w.heap.size, 5, none⟩) := hd 0 10 (by kernel_rfl)
      exact dstep_int rfl hv ((X2.out.belowB hS X2.out.lt).cell 5) (hK _ _ hS (Below.refl _ _) rfl)
    · refine DStep.g rfl ?_
      show DStep _ _ _ _ _ _ _
      intro a w3 K Q hS hu hd hK
      have hv := hu 0 (by kernel_rfl)
      exact dstep_value (v := a.tmps.getD 0 undef) (by kernel_rfl) (hK _ _ hS (Below.refl _ _) hv)
    · refine DStep.g rfl ?_
      show DStep _ _ _ _ _ _ _
      intro a w3 K Q hS hu hd hK
      have hv : a.tmps.getD 12 undef = .slice (A) pl cp := hd 2 12 (by kernel_rfl)
      refine dstep_value (v := .int .i64 (pl : Nat)) ?_ (hK _ _ hS (Below.refl _ _) rfl)
      simp [go_sem, hv]
    · refine DStep.g rfl ?_
      show DStep _ _ _ _ _ _ _
      intro a w3 K Q hS hu hd hK
      have hv : a.tmps.getD 11 undef = .int .i64 (m.pc : Nat) := hd 1 11 (by kernel_rfl)
      have hw : a.tmps.getD 13 undef = .int .i64 (pl : Nat) := hd 3 13 (by kernel_rfl)
      refine dstep_value (v := .bool false) ?_ (hK _ _ hS (Below.refl _ _) rfl)
      simp [go_sem, hv, hw]
      omega
    · refine DStep.g rfl ?_
      show DStep _ _ _ _ _ _ _
      intro a w3 K Q hS hu hd hK
      exact dstep_value (v := a.tmps.getD 14 undef) (by kernel_rfl) (hK _ _ hS (Below.refl _ _) (hd 4 14 (by kernel_rfl)))
    · exact GStep.skip 5 15 true rfl rfl (by kernel_rfl) (fun _ _ h => h) (fun _ => trivial)
    · exact GStep.skip 5 15 true rfl rfl (by kernel_rfl) (fun _ _ h => h) (fun _ => trivial)
    · exact GStep.skip 5 15 true rfl rfl (by kernel_rfl) (fun _ _ h => h) (fun _ => trivial)
    · exact GStep.skip 5 15 true rfl rfl (by kernel_rfl) (fun _ _ h => h) (fun _ => trivial)
    · exact GStep.skip 5 15 true rfl rfl (by kernel_rfl) (fun _ _ h => h) (fun _ => trivial)
    · exact GStep.skip 5 15 true rfl rfl (by kernel_rfl) (fun _ _ h => h) (fun _ => trivial)
    · exact GStep.skip 5 15 true rfl rfl (by kernel_rfl) (fun _ _ h => h) (fun _ => trivial)
    · exact GStep.skip 5 15 true rfl rfl (by kernel_rfl) (fun _ _ h => h) (fun _ => trivial)
    · refine DStep.g rfl ?_
      show DStep _ _ _ _ _ _ _
      intro a w3 K Q hS hu hd hK
      have hv : a.tmps.getD 15 undef = .bool false := hd 5 15 (by kernel_rfl)
      refine dstep_value (v := .bool false) ?_ (hK _ _ hS (Below.refl _ _) rfl)
      simp [go_sem, hv]
    intro a w3 D
    have D3 := Lib.hid D.s
    obtain ⟨vs, hvs, rfl⟩ := D.form
    have u24 : vs 24 = .bool false := hvs 14 _ 24 rfl rfl
    simp only [putAll, List.foldl_cons, List.foldl_nil, Option.getD_some, u24]
    simp only [Act.put, List.setIfInBounds_toArray, List.set_cons_succ, List.set_cons_zero]
    clear hvs u24
    generalize vs 10 = u10, vs 11 = u11, vs 12 = u12, vs 13 = u13, vs 14 = u14, vs 15 = u15, vs 16 = u16, vs 17 = u17, vs 18 = u18, vs 19 = u19, vs 20 = u20, vs 21 = u21, vs 22 = u22, vs 23 = u23
    have X3 := Lib.hid (X2.out.below D3.out)
    have Y3 := Lib.hid (Y2.out.below D3.out)
    have G3 := Lib.hid (G2.out.trans (D3.out.mono G2.out.size))
    have lx1 : w.heap.size + 1 < w3.heap.size := Y3.out.lt
    obtain ⟨e0, e1, e2, e3, e4, e5, e6, e7, e8, e9, e10⟩ := X3.out.c11
    go_wp2_with fail
    clear e0 e1 e2 e3 e4 e5 e6 e7 e8 e9 e10
    refine (CYC.out w3 G3.out).mono ?_
    rintro e w5 ⟨v5, rfl, s5, b5⟩
    have Y5 := Lib.hid (Y3.out.below b5)
    have G5 := Lib.hid (G3.out.trans (b5.mono G3.out.size))
    have T5 : w.heap.size + 2 ≤ w5.heap.size := by have := b5.size; omega
    have S5 := Lib.hid s5
    obtain ⟨cs, rfl, hcs, hone⟩ := s5.sv.form
    have CZ := Lib.hid hcs
    have CO := Lib.hid hone
    clear s5 hcs hone b5
    go_wp2_with ((with_reducible refine wpList_store_bk (T := 27) (op := ⟨none, .store 27 _ _, _, _, _, none⟩) rfl _ _ rfl Tryz.size27 w5.heap.size ZS cs ?kx ?ky ?kb ?k1 ?k2 ?k3 ?_); (case kx => rfl); (case ky => rfl); (case k1 => rfl); (case k2 => exact CZ.out); (case k3 => exact CO.out); (case kb => exact heap_alloc_new w5 _))
    intro w6 hbl hg hsz
    have X6 := Lib.hid hbl
    have Y6 := Lib.hid ((Y5.out.alloc (.cells ZS 27)).grown hg (by intro h; injection h; omega))
    have BL6 := (below_new w5 (.cells ZS 27)).grown hg (by simp) (by intro k hk; cases hk; omega)
    have S6 := Lib.hid (S5.out.below BL6)
    have G6 := Lib.hid (G5.out.trans (BL6.mono (by omega)))
    clear hbl hg hsz BL6
    go_wp2_with (first | ((with_reducible refine wpList_load_bk (T := 27) (op := ⟨some 33, .load 27 _, _, _, _, none⟩) rfl _ rfl Tryz.underlying27 Tryz.size27 w5.heap.size cs ?lx ?lb ?l1 ?_); (case lx => rfl); (case l1 => exact CZ.out); (case lb => exact X6.out)) | ((with_reducible refine wpList_store_bk (T := 27) (op := ⟨none, .store 27 _ _, _, _, _, none⟩) rfl _ _ rfl Tryz.size27 (w.heap.size + 1) ZS cs ?tx ?ty ?tb ?t1 ?t2 ?t3 ?_); (case tx => rfl); (case ty => rfl); (case t1 => rfl); (case t2 => exact CZ.out); (case t3 => exact CO.out); (case tb => exact Y6.out)))
    intro w9 hbl hg hsz
    have LD := Lib.hid (hbl.load Tryz.underlying27 Tryz.size27 CZ.out)
    have BL9 := gb_below (B := w.heap.size) hg (by omega) (by have := G6.out.size; omega)
    have SF := Lib.hid (show SVN w.heap.size w9 (.agg cs) _ from (S6.out.grown hg (by omega)).mono (by omega))
    have BF := Lib.hid (G6.out.trans BL9)
    clear hbl hg hsz BL9
    go_wp2_with fail
    refine bodyPost_ret (v := .agg cs) ?_ rfl ⟨_, rfl, by rw [RS.out]; exact SF.out, BF.out⟩
    rw [results_cell_one Tryz.results57]
    simp [asAddr, Result.andThen, LD.out]
  · have hlt : m.pc < C.length := by omega
    have RS := Lib.hid (show res = hz (stop (land m) 5).dl (stop (land m) 5).fl 0 [] (C.getD m.pc []) by rw [FN.out, if_neg hge])
    have V4 := Lib.hid (VV.out.at_ hlt)
    obtain ⟨ad, rfl, hbl0, hbx⟩ := CD.out m.pc hlt
    have HX := Lib.hid hbx
    have HXL := Lib.hid hbl0
    clear CD VV FN hbl0 hbx
    generalize C.getD m.pc [] = b at *
    generalize cyc C m = cm at *
    generalize C.length = pl at *
    go_enter Tryz.func57, Tryz.ntmps57
    go_wp2_with fail
    refine (LD.out _ G0.out).mono ?_
    rintro e w1 ⟨v1, rfl, s1, b1⟩
    have X1 := Lib.hid (X0.out.below b1)
    have Y1 := Lib.hid (Y0.out.below b1)
    have G1 := Lib.hid (G0.out.trans (b1.mono (by simp; omega)))
    have T1 := Lib.hid (show w.heap.size + 2 ≤ w1.heap.size by have := b1.size; simp at this; omega)
    obtain ⟨r2, q2, i2, o2, z2, y2, rfl, d1, d2, d3, d4, d5, d6⟩ := s1
    have S1 := Lib.hid (show SVN _ w1 (.agg #[r2, q2, i2, .int .i64 m.tk, o2, .int .i64 m.pc, z2, .int .i64 5, y2, .int .i64 m.jp, .int .i64 m.dl]) (stop (land m) 5) from ⟨r2, q2, i2, o2, z2, y2, rfl, d1, d2, d3, d4, d5, d6⟩)
    have S1b := Lib.hid (show SVN _ w1 (.agg #[r2, q2, i2, .int .i64 m.tk, o2, .int .i64 m.pc, z2, .int .i64 6, y2, .int .i64 m.jp, .int .i64 m.dl]) (stop (land m) 6) from ⟨r2, q2, i2, o2, z2, y2, rfl, d1, d2, d3, d4, d5, d6⟩)
    have O2 := Lib.hid (one11 (a := m.tk) (b := m.pc) (s := 5) (j := m.jp) (d := m.dl) d1.rd.one d2.rd.one d3.rd.one d4.rd.one d5.rd.one d6.rd.one)
    have O6 := Lib.hid (one11 (a := m.tk) (b := m.pc) (s := 6) (j := m.jp) (d := m.dl) d1.rd.one d2.rd.one d3.rd.one d4.rd.one d5.rd.one d6.rd.one)
    clear d1 d2 d3 d4 d5 d6 b1
    go_wp2_with ((with_reducible refine wpList_store_bk (T := 27) (op := ⟨none, .store 27 _ _, _, _, _, none⟩) rfl _ _ rfl Tryz.size27 w1.heap.size ZS #[r2, q2, i2, .int .i64 m.tk, o2, .int .i64 m.pc, z2, .int .i64 5, y2, .int .i64 m.jp, .int .i64 m.dl] ?ax ?ay ?ab ?a1 ?a2 ?a3 ?_); (case ax => rfl); (case ay => rfl); (case a1 => rfl); (case a2 => exact rfl); (case a3 => exact O2.out); (case ab => exact heap_alloc_new w1 _))
    intro w2 hbl hg hsz
    have BL2 := (below_new w1 (.cells ZS 27)).grown hg (by simp) (by intro k hk; cases hk; omega)
    have N2 := Lib.hid hbl
    have X2 := Lib.hid (X1.out.below BL2)
    have Y2 := Lib.hid (Y1.out.below BL2)
    have S2 := Lib.hid (S1.out.below BL2)
    have BLH := Lib.hid BL2
    have G2 := Lib.hid (G1.out.trans (BL2.mono G1.out.size))
    clear hbl hg hsz BL2
    go_upto_region 2 with (fail)
    refine wp_region_dg (S := fun w' => Below w2.heap.size w2 w') (R := fun q _ v => cyR ad pl cp w.heap.size m.pc b #[r2, q2, i2, .int .i64 m.tk, o2, .int .i64 m.pc, z2, .int .i64 5, y2, .int .i64 m.jp, .int .i64 m.dl] res q v) (by kernel_rfl) (by kernel_rfl) (by kernel_rfl) (fun _ _ _ _ _ h => h) (by exact below_drewN (Below.refl _ _) 1) ⟨?_, ?_, ?_, ?_, ?_, ?_, ?_, ?_, ?_, ?_, ?_, ?_, ?_, ?_, ?_, trivial⟩ ?_
    · refine DStep.g rfl ?_
      show DStep _ _ _ _ _ _ _
      intro a w3 K Q hS hu hd hK
      have hv := hu 3 (by kernel_rfl)
      refine dstep_value ?_ (hK _ _ hS (Below.refl _ _) rfl)
      simp only [execOp, Act.eval, hv]
      kernel_rfl
    · refine DStep.g rfl ?_
      show DStep _ _ _ _ _ _ _
      intro a w3 K Q hS hu hd hK
      have hv : a.tmps.getD 10 undef = .pointer (some ⟨w.heap.size, 5, none⟩) := hd 0 10 (by kernel_rfl)
      exact dstep_int rfl hv ((X2.out.belowB hS X2.out.lt).cell 5) (hK _ _ hS (Below.refl _ _) rfl)
    · refine DStep.g rfl ?_
      show DStep _ _ _ _ _ _ _
      intro a w3 K Q hS hu hd hK
      have hv := hu 0 (by kernel_rfl)
      exact dstep_value (v := a.tmps.getD 0 undef) (by kernel_rfl) (hK _ _ hS (Below.refl _ _) hv)
    · refine DStep.g rfl ?_
      show DStep _ _ _ _ _ _ _
      intro a w3 K Q hS hu hd hK
      have hv : a.tmps.getD 12 undef = .slice (some ad) pl cp := hd 2 12 (by kernel_rfl)
      refine dstep_value (v := .int .i64 (pl : Nat)) ?_ (hK _ _ hS (Below.refl _ _) rfl)
      simp [go_sem, hv]
    · refine DStep.g rfl ?_
      show DStep _ _ _ _ _ _ _
      intro a w3 K Q hS hu hd hK
      have hv : a.tmps.getD 11 undef = .int .i64 (m.pc : Nat) := hd 1 11 (by kernel_rfl)
      have hw : a.tmps.getD 13 undef = .int .i64 (pl : Nat) := hd 3 13 (by kernel_rfl)
      refine dstep_value (v := .bool true) ?_ (hK _ _ hS (Below.refl _ _) rfl)
      simp [go_sem, hv, hw]
      omega
    · refine DStep.g rfl ?_
      show DStep _ _ _ _ _ _ _
      intro a w3 K Q hS hu hd hK
      exact dstep_value (v := a.tmps.getD 14 undef) (by kernel_rfl) (hK _ _ hS (Below.refl _ _) (hd 4 14 (by kernel_rfl)))
    · refine DStep.gd 5 15 true rfl rfl (by kernel_rfl) (fun _ _ h => h) ?_
      show DStep _ _ _ _ _ _ _
      intro a w3 K Q hS hu hd hK
      have hv := hu 0 (by kernel_rfl)
      exact dstep_value (v := a.tmps.getD 0 undef) (by kernel_rfl) (hK _ _ hS (Below.refl _ _) hv)
    · refine DStep.gd 5 15 true rfl rfl (by kernel_rfl) (fun _ _ h => h) ?_
      show DStep _ _ _ _ _ _ _
      intro a w3 K Q hS hu hd hK
      have hv := hu 3 (by kernel_rfl)
      refine dstep_value ?_ (hK _ _ hS (Below.refl _ _) rfl)
      simp only [execOp, Act.eval, hv]
      kernel_rfl
    · refine DStep.gd 5 15 true rfl rfl (by kernel_rfl) (fun _ _ h => h) ?_
      show DStep _ _ _ _ _ _ _
      intro a w3 K Q hS hu hd hK
      have hv : a.tmps.getD 17 undef = .pointer (some ⟨w.heap.size, 5, none⟩) := hd 7 17 (by kernel_rfl)
      exact dstep_int rfl hv ((X2.out.belowB hS X2.out.lt).cell 5) (hK _ _ hS (Below.refl _ _) rfl)
    · refine DStep.gd 5 15 true rfl rfl (by kernel_rfl) (fun _ _ h => h) ?_
      show DStep _ _ _ _ _ _ _
      intro a w3 K Q hS hu hd hK
      have hv : a.tmps.getD 16 undef = .slice (some ad) pl cp := hd 6 16 (by kernel_rfl)
      have hw : a.tmps.getD 18 undef = .int .i64 (m.pc : Nat) := hd 8 18 (by kernel_rfl)
      refine dstep_value (v := .pointer (some (ad.add (m.pc * 24)))) ?_ (hK _ _ hS (Below.refl _ _) rfl)
      simp only [execOp, Act.eval, hv, hw, Sem.run_bind, ix_code ad pl cp m.pc w3 (by omega), Result.andThen_ok]
      rfl
    · refine DStep.gd 5 15 true rfl rfl (by kernel_rfl) (fun _ _ h => h) ?_
      show DStep _ _ _ _ _ _ _
      intro a w3 K Q hS hu hd hK
      have hv : a.tmps.getD 19 undef = .pointer (some (ad.add (m.pc * 24))) := hd 9 19 (by kernel_rfl)
      exact dstep_at rfl hv (HX.out.keep (G2.out.trans (hS.mono G2.out.size)) (by rw [block_add]; exact HXL.out)) (hK _ _ hS (Below.refl _ _) rfl)
    · refine DStep.gd 5 15 true rfl rfl (by kernel_rfl) (fun _ _ h => h) ?_
      show DStep _ _ _ _ _ _ _
      intro a w3 K Q hS hu hd hK
      have hv := hu 5 (by kernel_rfl)
      exact dstep_load rfl Tryz.underlying27 Tryz.size27 (hx := hv) (hb := N2.out.belowB hS N2.out.lt) rfl (hK _ _ hS (Below.refl _ _) rfl)
    · refine DStep.gd 5 15 true rfl rfl (by kernel_rfl) (fun _ _ h => h) ?_
      show DStep _ _ _ _ _ _ _
      intro a w3 K Q hS hu hd hK
      have hv : a.tmps.getD 20 undef = .agg (bcs (bX b)) := hd 10 20 (by kernel_rfl)
      have hw : a.tmps.getD 21 undef = .agg #[r2, q2, i2, .int .i64 m.tk, o2, .int .i64 m.pc, z2, .int .i64 5, y2, .int .i64 m.jp, .int .i64 m.dl] := hd 11 21 (by kernel_rfl)
      refine dstep_call2 59 20 21 (by kernel_rfl) hv (by rw [hw]; exact FD.out b _ w3 (G2.out.trans (hS.mono G2.out.size)) V4.out.1 V4.out.2 (S2.out.sv.below hS)) ?_
      rintro en w4 ⟨rfl, b4⟩
      exact ⟨_, rfl, hK _ _ (hS.trans (b4.mono hS.size)) b4 (by rw [RS.out]; rfl)⟩
    · refine DStep.gd 5 15 true rfl rfl (by kernel_rfl) (fun _ _ h => h) ?_
      show DStep _ _ _ _ _ _ _
      intro a w3 K Q hS hu hd hK
      have hv : a.tmps.getD 22 undef = .int .i64 res := hd 12 22 (by kernel_rfl)
      refine dstep_value (v := .bool (res != -1)) ?_ (hK _ _ hS (Below.refl _ _) rfl)
      simp [go_sem, hv]
    · refine DStep.g rfl ?_
      show DStep _ _ _ _ _ _ _
      intro a w3 K Q hS hu hd hK
      have hv : a.tmps.getD 15 undef = .bool true := hd 5 15 (by kernel_rfl)
      have hw : a.tmps.getD 23 undef = .bool (res != -1) := hd 13 23 (by kernel_rfl)
      refine dstep_value (v := .bool (res != -1)) ?_ (hK _ _ hS (Below.refl _ _) rfl)
      simp [go_sem, hv, hw]
    intro a w3 D
    have D3 := Lib.hid D.s
    obtain ⟨vs, hvs, rfl⟩ := D.form
    have u24 : vs 24 = .bool (res != -1) := hvs 14 _ 24 rfl rfl
    simp only [putAll, List.foldl_cons, List.foldl_nil, Option.getD_some, u24]
    simp only [Act.put, List.setIfInBounds_toArray, List.set_cons_succ, List.set_cons_zero]
    clear hvs u24
    generalize vs 10 = u10, vs 11 = u11, vs 12 = u12, vs 13 = u13, vs 14 = u14, vs 15 = u15, vs 16 = u16, vs 17 = u17, vs 18 = u18, vs 19 = u19, vs 20 = u20, vs 21 = u21, vs 22 = u22, vs 23 = u23
    have N3 := Lib.hid (N2.out.below D3.out)
    have X3 := Lib.hid (X2.out.below D3.out)
    have Y3 := Lib.hid (Y2.out.below D3.out)
    have G3 := Lib.hid (G2.out.trans (D3.out.mono G2.out.size))
    by_cases hres : res = -1
    · have hrb : (res != -1) = false := by simp [hres]
      have RC := Lib.hid (show hm = cm from HCN.out (by rw [hres]; decide))
      clear hres
      have lx1 : w.heap.size + 1 < w3.heap.size := Y3.out.lt
      obtain ⟨e0, e1, e2, e3, e4, e5, e6, e7, e8, e9, e10⟩ := X3.out.c11
      go_wp2_with fail
      clear e0 e1 e2 e3 e4 e5 e6 e7 e8 e9 e10
      refine (CYC.out w3 G3.out).mono ?_
      rintro e w5 ⟨v5, rfl, s5, b5⟩
      have Y5 := Lib.hid (Y3.out.below b5)
      have G5 := Lib.hid (G3.out.trans (b5.mono G3.out.size))
      have T5 : w.heap.size + 2 ≤ w5.heap.size := by have := b5.size; omega
      have S5 := Lib.hid s5
      obtain ⟨cs, rfl, hcs, hone⟩ := s5.sv.form
      have CZ := Lib.hid hcs
      have CO := Lib.hid hone
      clear s5 hcs hone b5
      go_wp2_with ((with_reducible refine wpList_store_bk (T := 27) (op := ⟨none, .store 27 _ _, _, _, _, none⟩) rfl _ _ rfl Tryz.size27 w5.heap.size ZS cs ?kx ?ky ?kb ?k1 ?k2 ?k3 ?_); (case kx => rfl); (case ky => rfl); (case k1 => rfl); (case k2 => exact CZ.out); (case k3 => exact CO.out); (case kb => exact heap_alloc_new w5 _))
      intro w6 hbl hg hsz
      have X6 := Lib.hid hbl
      have Y6 := Lib.hid ((Y5.out.alloc (.cells ZS 27)).grown hg (by intro h; injection h; omega))
      have BL6 := (below_new w5 (.cells ZS 27)).grown hg (by simp) (by intro k hk; cases hk; omega)
      have S6 := Lib.hid (S5.out.below BL6)
      have G6 := Lib.hid (G5.out.trans (BL6.mono (by omega)))
      clear hbl hg hsz BL6
      go_wp2_with (first | ((with_reducible refine wpList_load_bk (T := 27) (op := ⟨some 33, .load 27 _, _, _, _, none⟩) rfl _ rfl Tryz.underlying27 Tryz.size27 w5.heap.size cs ?lx ?lb ?l1 ?_); (case lx => rfl); (case l1 => exact CZ.out); (case lb => exact X6.out)) | ((with_reducible refine wpList_store_bk (T := 27) (op := ⟨none, .store 27 _ _, _, _, _, none⟩) rfl _ _ rfl Tryz.size27 (w.heap.size + 1) ZS cs ?tx ?ty ?tb ?t1 ?t2 ?t3 ?_); (case tx => rfl); (case ty => rfl); (case t1 => rfl); (case t2 => exact CZ.out); (case t3 => exact CO.out); (case tb => exact Y6.out)))
      intro w9 hbl hg hsz
      have LD := Lib.hid (hbl.load Tryz.underlying27 Tryz.size27 CZ.out)
      have BL9 := gb_below (B := w.heap.size) hg (by omega) (by have := G6.out.size; omega)
      have SF := Lib.hid (show SVN w.heap.size w9 (.agg cs) _ from (S6.out.grown hg (by omega)).mono (by omega))
      have BF := Lib.hid (G6.out.trans BL9)
      clear hbl hg hsz BL9
      go_wp2_with fail
      refine bodyPost_ret (v := .agg cs) ?_ rfl ⟨_, rfl, by rw [RC.out]; exact SF.out, BF.out⟩
      rw [results_cell_one Tryz.results57]
      simp [asAddr, Result.andThen, LD.out]
    · have hrb : (res != -1) = true := by simpa using hres
      have RC := Lib.hid (show hm = stop (land m) 6 from HCY.out (by rcases FR.out with h | h; exact absurd h hres; exact h))
      clear hres
      have n7 : w3.cell? ⟨w1.heap.size, 7, none⟩ = some (.int .i64 5) := N3.out.cell 7
      have f7 := N3.out.frozen 7
      have lw : w.heap.size + 2 ≤ w1.heap.size := T1.out
      have lw3 : w1.heap.size < w3.heap.size := N3.out.lt
      have N4 := Lib.hid (show BK 27 (w3.setCell ⟨w1.heap.size, 7, none⟩ (.int .i64 6)) w1.heap.size #[r2, q2, i2, .int .i64 m.tk, o2, .int .i64 m.pc, z2, .int .i64 6, y2, .int .i64 m.jp, .int .i64 m.dl] from N3.out.set 7 _)
      have Y4 := Lib.hid (Y3.out.grown (grown_set w3 w1.heap.size 7 (.int .i64 6)) (by intro e; injection e with e; omega))
      have S6 := Lib.hid (show SVN (w.heap.size + 2) (w3.setCell ⟨w1.heap.size, 7, none⟩ (.int .i64 6)) (.agg #[r2, q2, i2, .int .i64 m.tk, o2, .int .i64 m.pc, z2, .int .i64 6, y2, .int .i64 m.jp, .int .i64 m.dl]) (stop (land m) 6) from (S1b.out.mono (by simp)).keep (by simp; omega) fun p _ hp2 => (World.cell?_setCell_far _ ⟨w1.heap.size, 7, none⟩ p _ (show w1.heap.size ≠ p.block by omega)).trans ((D3.out.cell (by have := BLH.out.size; omega)).trans (BLH.out.cell hp2)))
      have G6 := Lib.hid (G3.out.trans (gb_below (grown_set w3 w1.heap.size 7 (.int .i64 6)) (by omega) (by omega)))
      have CZ := Lib.hid (show (#[r2, q2, i2, .int .i64 m.tk, o2, .int .i64 m.pc, z2, .int .i64 6, y2, .int .i64 m.jp, .int .i64 m.dl]).size = 11 from rfl)
      go_upto_region 4 with (fail)
      generalize w3.setCell ⟨w1.heap.size, 7, none⟩ (.int .i64 6) = w6 at *
      go_wp2_with (first | ((with_reducible refine wpList_load_bk (T := 27) (op := ⟨some 26, .load 27 _, _, _, _, none⟩) rfl _ rfl Tryz.underlying27 Tryz.size27 w1.heap.size #[r2, q2, i2, .int .i64 m.tk, o2, .int .i64 m.pc, z2, .int .i64 6, y2, .int .i64 m.jp, .int .i64 m.dl] ?lx ?lb ?l1 ?_); (case lx => rfl); (case l1 => exact rfl); (case lb => exact N4.out)) | ((with_reducible refine wpList_store_bk (T := 27) (op := ⟨none, .store 27 _ _, _, _, _, none⟩) rfl _ _ rfl Tryz.size27 (w.heap.size + 1) ZS #[r2, q2, i2, .int .i64 m.tk, o2, .int .i64 m.pc, z2, .int .i64 6, y2, .int .i64 m.jp, .int .i64 m.dl] ?tx ?ty ?tb ?t1 ?t2 ?t3 ?_); (case tx => rfl); (case ty => rfl); (case t1 => rfl); (case t2 => exact rfl); (case t3 => exact O6.out); (case tb => exact Y4.out)))
      intro w9 hbl hg hsz
      have LD := Lib.hid (hbl.load Tryz.underlying27 Tryz.size27 CZ.out)
      have BL9 := gb_below (B := w.heap.size) hg (by omega) (by have := G6.out.size; omega)
      have SF := Lib.hid (show SVN w.heap.size w9 (.agg #[r2, q2, i2, .int .i64 m.tk, o2, .int .i64 m.pc, z2, .int .i64 6, y2, .int .i64 m.jp, .int .i64 m.dl]) _ from (S6.out.grown hg (by omega)).mono (by omega))
      have BF := Lib.hid (G6.out.trans BL9)
      clear hbl hg hsz BL9
      go_wp2_with fail
      refine bodyPost_ret (v := .agg #[r2, q2, i2, .int .i64 m.tk, o2, .int .i64 m.pc, z2, .int .i64 6, y2, .int .i64 m.jp, .int .i64 m.dl]) ?_ rfl ⟨_, rfl, by rw [RC.out]; exact SF.out, BF.out⟩
      rw [results_cell_one Tryz.results57]
      simp [asAddr, Result.andThen, LD.out]
end
section
theorem Tryz.results24 : Tryz.f24.results = #[.cell 6 27, .tmp 7, .tmp 8] := by kernel_rfl
theorem Tryz.results27 : Tryz.f27.results = #[.cell 4 27, .tmp 5] := by kernel_rfl
theorem Okc.hcyc {m : M} (k : Okc m) {C : List (List In5)} (v : Vc C) (ho : m.out.length + 4 ≤ 1000000) (hs : m.stop = 0) : Okc (hcyc C m) ∧ (hcyc C m).out.length ≤ m.out.length + 4 := by
  unfold Go.Proofs.YtbgmdikcbglpiaaGreatDoor.hcyc
  split
  · exact ⟨⟨k.ok.land.stop 6, k.fb.later.mono (by omega), by simp [stop], by simp [stop]⟩, by simp [stop, land]⟩
  · exact k.cyc v ho hs
/-- What a loop over cycles that look keeps: m stands i cycles behind m0, of n. -/
structure Ath (C : List (List In5)) (m0 : M) (n i : Nat) (m : M) : Prop where
  le : i ≤ n
  run : runH C n m0 = ((runH C (n - i) m).1, (runH C (n - i) m).2 + i)
  ok : Okc m
  out : m.out.length ≤ m0.out.length + 4 * i
section
variable {C : List (List In5)} {m m0 : M} {n i : Nat}
theorem Ath.zero (k : Okc m0) : Ath C m0 n 0 m0 := ⟨Nat.zero_le _, rfl, k, Nat.le_refl _⟩
theorem Ath.step (h : Ath C m0 n i m) (v : Vc C) (hb : m0.out.length + 4 * n ≤ 1000000) (hi : i < n) (hs : m.stop = 0) : Ath C m0 n (i + 1) (hcyc C m) := by
  have ho := h.out
  have e : n - i = (n - (i + 1)) + 1 := by omega
  have h1 := h.ok.hcyc v (by omega) hs
  refine ⟨hi, ?_, h1.1, ?_⟩
  · rw [h.run, e, runH_go hs]
    simp only [Prod.mk.injEq, true_and]
    omega
  · have := h1.2; omega
theorem Ath.done (h : Ath C m0 n i m) (hd : n ≤ i ∨ m.stop ≠ 0) : runH C n m0 = (m, i) := by
  rcases hd with h1 | h1
  · have h2 := h.le
    obtain rfl : i = n := by omega
    rw [h.run, Nat.sub_self]; simp [runH]
  · rw [h.run, runH_stop h1]; simp
end
/-- The loop's relation. -/
def Lh (p : Nat) (C : List (List In5)) (m0 : M) (n : Nat) (w : World) (i : Nat) (wr : World) : Prop := ∃ m cs, Ath C m0 n i m ∧ BK 27 wr p cs ∧ SVN (p + 1) wr (.agg cs) m ∧ Below w.heap.size w wr
set_option maxRecDepth 40000 in
set_option maxHeartbeats 8000000 in
theorem hrun_ok (C : List (List In5)) (m : M) (pv sv : Value) (n : Int) (w : World) (hp : RdC w pv C) (vc : Vcc C) (h : SV w sv m) (k : Okc m) (T : Tab w) (h0 : 0 ≤ n) (h1 : n ≤ 20000) (ho : m.out.length + 4 * n.toNat + 4 ≤ 1000000) : Calls Tryz.prog 24 #[pv, sv, .int .i64 n] w (RunPost (runH C n.toNat m) w) := by
  obtain ⟨N, rfl⟩ : ∃ N : Nat, n = N := ⟨n.toNat, by omega⟩
  rw [show ((N : Nat) : Int).toNat = N by omega] at ho ⊢
  have v := vc.v
  have RN := Lib.hid (fun W (hb : Below w.heap.size w W) => show Calls Tryz.prog 15 #[pv, sv, .int .i64 0] W (RunPost (m, 0) W) from run_ok C m pv sv 0 W (hp.keep hb) vc (h.below hb) k (T.below hb) (by omega) (by omega) (by simp; omega))
  have SP := Lib.hid (fun m1 cs W (hb : Below w.heap.size w W) (h : SV W (.agg cs) m1) (k : Okc m1) (hs : m1.stop = 0) (ho : m1.out.length + 4 ≤ 1000000) => hcycle_ok C m1 pv (.agg cs) W (hp.keep hb) vc h k hs (T.below hb) ho)
  obtain ⟨A, c, rfl, hprg⟩ := hp
  have VP := Lib.hid v
  have KK := Lib.hid k
  have HO := Lib.hid ho
  obtain ⟨r, q, i, o, z, y, rfl, a1, a2, a3, a4, a5, a6⟩ := h
  have t1 : decide ((N : Int) < 0) = false := by simp
  have t2 : decide (20000 < (N : Int)) = false := by simp; omega
  clear a1 a2 a3 a4 a5 a6 hprg T k v vc ho
  generalize hPl : C.length = pl at *
  clear hPl
  have Y0 := Lib.hid (show BK 27 ((w.alloc (.cells #[r, q, i, .int .i64 m.tk, o, .int .i64 m.pc, z, .int .i64 m.stop, y, .int .i64 m.jp, .int .i64 m.dl] 27)).alloc (.cells ZS 27)) (w.heap.size + 1) ZS from BK.new (by simp))
  have G0 := Lib.hid (below_two w (.cells #[r, q, i, .int .i64 m.tk, o, .int .i64 m.pc, z, .int .i64 m.stop, y, .int .i64 m.jp, .int .i64 m.dl] 27) (.cells ZS 27))
  go_enter Tryz.func24, Tryz.ntmps24
  go_wp2_with fail
  refine (RN.out _ G0.out).mono ?_
  rintro e w1 ⟨v1, rfl, s1, b1⟩
  have Y1 := Lib.hid (Y0.out.below b1)
  have G1 := Lib.hid (G0.out.trans (b1.mono (by simp; omega)))
  have T1 : w.heap.size + 2 ≤ w1.heap.size := by have := b1.size; simp at this; omega
  obtain ⟨cs0, rfl, hcs, hone⟩ := s1.sv.form
  have S1 := Lib.hid (show SVN (w.heap.size + 1 + 1) w1 (.agg cs0) m from s1.mono (by simp))
  have CZ := Lib.hid hcs
  have CO := Lib.hid hone
  clear s1 hcs hone b1
  go_wp2_with ((with_reducible refine wpList_store_bk (T := 27) (op := ⟨none, .store 27 _ _, _, _, _, none⟩) rfl _ _ rfl Tryz.size27 (w.heap.size + 1) ZS cs0 ?sx ?sy ?sb ?s1 ?s2 ?s3 ?_); (case sx => rfl); (case sy => rfl); (case s1 => rfl); (case s2 => exact CZ.out); (case s3 => exact CO.out); (case sb => exact Y1.out))
  intro w4 hbl hg hsz
  have L4 := Lib.hid (show Lh (w.heap.size + 1) C m N w 0 w4 from ⟨m, cs0, Ath.zero KK.out, hbl, S1.out.grown hg (by omega), G1.out.trans (gb_below (B := w.heap.size) hg (by omega) (by omega))⟩)
  clear hbl hg hsz S1 CZ CO Y1 G1
  generalize hpp : w.heap.size + 1 = pp at *
  have PP := Lib.hid hpp
  clear hpp
  go_wp2_with fail
  go_loopg [7] N (fun gk dn wr2 => ∃ i : Nat, i ≤ N ∧ gk = N - i ∧ dn = .int .i64 i ∧ Lh pp C m N w i wr2)
  case atStart => exact ⟨0, by omega, rfl, rfl, L4.out⟩
  case round =>
    clear L4
    obtain ⟨i, hi, rfl, rfl, hlp⟩ := hrel
    obtain ⟨m1, cs1, at1, hbk, sv1, bl1⟩ := hlp
    obtain ⟨r3, q3, i3, o3, z3, y3, e3, d1, d2, d3, d4, d5, d6⟩ := sv1
    injection e3 with e3
    subst e3
    have AT := Lib.hid at1
    have BKH := Lib.hid hbk
    have SVH := Lib.hid (show SVN (pp + 1) wr (.agg #[r3, q3, i3, .int .i64 m1.tk, o3, .int .i64 m1.pc, z3, .int .i64 m1.stop, y3, .int .i64 m1.jp, .int .i64 m1.dl]) m1 from ⟨r3, q3, i3, o3, z3, y3, rfl, d1, d2, d3, d4, d5, d6⟩)
    have O3 := Lib.hid (one11 (a := m1.tk) (b := m1.pc) (s := m1.stop) (j := m1.jp) (d := m1.dl) d1.rd.one d2.rd.one d3.rd.one d4.rd.one d5.rd.one d6.rd.one)
    have BL := Lib.hid bl1
    have k7 : wr.cell? ⟨pp, 7, none⟩ = some (.int .i64 m1.stop) := hbk.cell 7
    have hlw := hbk.lt
    clear at1 hbk bl1 d1 d2 d3 d4 d5 d6
    by_cases hlt : i < N
    · have hd : decide ((i : Int) < (N : Int)) = true := by simpa using hlt
      by_cases hs : m1.stop = 0
      · have hz : (m1.stop == 0) = true := by simpa using hs
        have HS := Lib.hid hs
        clear hs
        obtain ⟨e0, e1, e2, e3, e4, e5, e6, e7, e8, e9, e10⟩ := BKH.out.c11
        clear k7
        go_wp2_with fail
        clear e0 e1 e2 e3 e4 e5 e6 e7 e8 e9 e10
        refine (SP.out m1 _ _ BL.out SVH.out.sv AT.out.ok HS.out (by have := AT.out.out; have := HO.out; omega)).mono ?_
        rintro e w5 ⟨v5, rfl, s5, b5⟩
        have B5 := Lib.hid (BKH.out.below b5)
        have G5 := Lib.hid (BL.out.trans (b5.mono BL.out.size))
        have T5 : pp < w5.heap.size := by have := b5.size; omega
        obtain ⟨cs5, rfl, hcs, hone⟩ := s5.sv.form
        have S5 := Lib.hid (show SVN (pp + 1) w5 (.agg cs5) _ from s5.mono (by omega))
        have CZ := Lib.hid hcs
        have CO := Lib.hid hone
        clear s5 hcs hone b5
        go_wp2_with ((with_reducible refine wpList_store_bk (T := 27) (op := ⟨none, .store 27 _ _, _, _, _, none⟩) rfl _ _ rfl Tryz.size27 pp #[r3, q3, i3, .int .i64 m1.tk, o3, .int .i64 m1.pc, z3, .int .i64 m1.stop, y3, .int .i64 m1.jp, .int .i64 m1.dl] cs5 ?sx ?sy ?sb ?s1 ?s2 ?s3 ?_); (case sx => rfl); (case sy => rfl); (case s1 => rfl); (case s2 => exact CZ.out); (case s3 => exact CO.out); (case sb => exact B5.out))
        intro w6 hbl hg hsz
        have L6 := Lib.hid (show Lh pp C m N w (i + 1) w6 from ⟨_, cs5, AT.out.step VP.out (by have := HO.out; omega) hlt HS.out, hbl, S5.out.grown hg (by omega), G5.out.trans (gb_below (B := w.heap.size) hg (by have := PP.out; omega) (by have := G5.out.size; omega))⟩)
        clear hbl hg hsz
        go_wp2_with fail
        go_roundg (N - (i + 1))
        case measure => omega
        case rel => exact ⟨i + 1, by omega, rfl, by go_num, L6.out⟩
      · have hz : (m1.stop == 0) = false := by simpa using hs
        have DN := Lib.hid (AT.out.done (.inr hs))
        clear hs
        obtain ⟨e0, e1, e2, e3, e4, e5, e6, e7, e8, e9, e10⟩ := BKH.out.c11
        clear k7
        go_wp2_with ((with_reducible refine wpList_store_bk (T := 27) (op := ⟨none, .store 27 _ _, _, _, _, none⟩) rfl _ _ rfl Tryz.size27 pp #[r3, q3, i3, .int .i64 m1.tk, o3, .int .i64 m1.pc, z3, .int .i64 m1.stop, y3, .int .i64 m1.jp, .int .i64 m1.dl] #[r3, q3, i3, .int .i64 m1.tk, o3, .int .i64 m1.pc, z3, .int .i64 m1.stop, y3, .int .i64 m1.jp, .int .i64 m1.dl] ?sx ?sy ?sb ?s1 ?s2 ?s3 ?_); (case sx => rfl); (case sy => rfl); (case s1 => rfl); (case s2 => exact rfl); (case s3 => exact O3.out); (case sb => exact BKH.out))
        clear e0 e1 e2 e3 e4 e5 e6 e7 e8 e9 e10
        intro w9 hbl hg hsz
        have LD := Lib.hid (hbl.load Tryz.underlying27 Tryz.size27 rfl)
        have SVF := Lib.hid ((SVH.out.grown hg (by omega)).mono (show w.heap.size ≤ pp + 1 by have := PP.out; omega))
        have BF := Lib.hid (BL.out.trans (gb_below (B := w.heap.size) hg (by have := PP.out; omega) (by have := BL.out.size; omega)))
        clear hbl hg hsz
        go_wp2_with fail
        refine bodyPost_ret (v := .tuple #[.agg #[r3, q3, i3, .int .i64 m1.tk, o3, .int .i64 m1.pc, z3, .int .i64 m1.stop, y3, .int .i64 m1.jp, .int .i64 m1.dl], .int .i64 i, .int .i64 0]) ?_ rfl ⟨_, by rw [DN.out], by rw [DN.out]; exact SVF.out, BF.out⟩
        rw [results_cell_two Tryz.results24]
        simp [asAddr, Result.andThen, LD.out]
    · have hd : decide ((i : Int) < (N : Int)) = false := by simp; omega
      have DN := Lib.hid (AT.out.done (.inl (by omega)))
      obtain ⟨e0, e1, e2, e3, e4, e5, e6, e7, e8, e9, e10⟩ := BKH.out.c11
      clear k7
      go_wp2_with ((with_reducible refine wpList_store_bk (T := 27) (op := ⟨none, .store 27 _ _, _, _, _, none⟩) rfl _ _ rfl Tryz.size27 pp #[r3, q3, i3, .int .i64 m1.tk, o3, .int .i64 m1.pc, z3, .int .i64 m1.stop, y3, .int .i64 m1.jp, .int .i64 m1.dl] #[r3, q3, i3, .int .i64 m1.tk, o3, .int .i64 m1.pc, z3, .int .i64 m1.stop, y3, .int .i64 m1.jp, .int .i64 m1.dl] ?sx ?sy ?sb ?s1 ?s2 ?s3 ?_); (case sx => rfl); (case sy => rfl); (case s1 => rfl); (case s2 => exact rfl); (case s3 => exact O3.out); (case sb => exact BKH.out))
      clear e0 e1 e2 e3 e4 e5 e6 e7 e8 e9 e10
      intro w9 hbl hg hsz
      have LD := Lib.hid (hbl.load Tryz.underlying27 Tryz.size27 rfl)
      have SVF := Lib.hid ((SVH.out.grown hg (by omega)).mono (show w.heap.size ≤ pp + 1 by have := PP.out; omega))
      have BF := Lib.hid (BL.out.trans (gb_below (B := w.heap.size) hg (by have := PP.out; omega) (by have := BL.out.size; omega)))
      clear hbl hg hsz
      go_wp2_with fail
      refine bodyPost_ret (v := .tuple #[.agg #[r3, q3, i3, .int .i64 m1.tk, o3, .int .i64 m1.pc, z3, .int .i64 m1.stop, y3, .int .i64 m1.jp, .int .i64 m1.dl], .int .i64 i, .int .i64 0]) ?_ rfl ⟨_, by rw [DN.out], by rw [DN.out]; exact SVF.out, BF.out⟩
      rw [results_cell_two Tryz.results24]
      simp [asAddr, Result.andThen, LD.out]
set_option maxRecDepth 20000 in
set_option maxHeartbeats 4000000 in
theorem hcyc_ok (C : List (List In5)) (m : M) (pv sv : Value) (w : World) (hp : RdC w pv C) (vc : Vcc C) (h : SV w sv m) (k : Okc m) (T : Tab w) (ho : m.out.length + 8 ≤ 1000000) : Calls Tryz.prog 27 #[pv, sv] w (StepPost2 (runH C 1 m).1 w) := by
  have RN := Lib.hid (fun W (hb : Below w.heap.size w W) => hrun_ok C m pv sv 1 W (hp.keep hb) vc (h.below hb) k (T.below hb) (by omega) (by omega) (by simpa using ho))
  obtain ⟨A, c, rfl, _⟩ := hp
  obtain ⟨r, q, i, o, z, y, rfl, a1, a2, a3, a4, a5, a6⟩ := h
  clear a1 a2 a3 a4 a5 a6 T k vc ho
  generalize C.length = pl at *
  have X0 := Lib.hid (show BK 27 ((w.alloc (.cells #[r, q, i, .int .i64 m.tk, o, .int .i64 m.pc, z, .int .i64 m.stop, y, .int .i64 m.jp, .int .i64 m.dl] 27)).alloc (.cells ZS 27)) w.heap.size #[r, q, i, .int .i64 m.tk, o, .int .i64 m.pc, z, .int .i64 m.stop, y, .int .i64 m.jp, .int .i64 m.dl] from BK.alloc (heap_alloc_new w _) _)
  have Y0 := Lib.hid (show BK 27 ((w.alloc (.cells #[r, q, i, .int .i64 m.tk, o, .int .i64 m.pc, z, .int .i64 m.stop, y, .int .i64 m.jp, .int .i64 m.dl] 27)).alloc (.cells ZS 27)) (w.heap.size + 1) ZS from BK.new (by simp))
  have G0 := Lib.hid (below_two w (.cells #[r, q, i, .int .i64 m.tk, o, .int .i64 m.pc, z, .int .i64 m.stop, y, .int .i64 m.jp, .int .i64 m.dl] 27) (.cells ZS 27))
  go_enter Tryz.func27, Tryz.ntmps27
  go_wp2_with fail
  refine (RN.out _ G0.out).mono ?_
  rintro e w1 ⟨v1, rfl, s1, b1⟩
  have Y1 := Lib.hid (Y0.out.below b1)
  have T1 := Lib.hid (show w.heap.size + 2 ≤ w1.heap.size by have := b1.size; simp at this; omega)
  have G1 := Lib.hid (G0.out.trans (b1.mono (by simp; omega)))
  have S1 := Lib.hid s1
  obtain ⟨cs, rfl, hcs, hone⟩ := s1.sv.form
  have CZ := Lib.hid hcs
  have CO := Lib.hid hone
  clear s1 hcs hone b1
  go_wp2_with (((with_reducible refine wpList_store_bk (T := 27) (op := ⟨none, .store 27 _ _, _, _, _, none⟩) rfl _ _ rfl Tryz.size27 w1.heap.size ZS cs ?sx ?sy ?sb ?s1 ?s2 ?s3 ?_); (case sx => rfl); (case sy => rfl); (case s1 => rfl); (case s2 => exact CZ.out); (case s3 => exact CO.out); (case sb => exact heap_alloc_new w1 _)))
  intro w2 hbl hg hsz
  have X2 := Lib.hid hbl
  have Y2 := Lib.hid ((Y1.out.alloc (.cells ZS 27)).grown hg (by intro h; injection h; have := T1.out; omega))
  have BL2 := (below_new w1 (.cells ZS 27)).grown hg (by simp) (by intro k hk; cases hk; omega)
  have S2 := Lib.hid (S1.out.below BL2)
  have G2 := Lib.hid (G1.out.trans (BL2.mono (by have := T1.out; omega)))
  have T2 := Lib.hid (show w1.heap.size + 1 = w2.heap.size by rw [hsz])
  clear hbl hg hsz BL2
  go_wp2_with (first | ((with_reducible refine wpList_load_bk (T := 27) (op := ⟨some 16, .load 27 _, _, _, _, none⟩) rfl _ rfl Tryz.underlying27 Tryz.size27 w1.heap.size cs ?lx ?lb ?l1 ?_); (case lx => rfl); (case l1 => exact CZ.out); (case lb => exact X2.out)) | ((with_reducible refine wpList_store_bk (T := 27) (op := ⟨none, .store 27 _ _, _, _, _, none⟩) rfl _ _ rfl Tryz.size27 (w.heap.size + 1) ZS cs ?tx ?ty ?tb ?t1 ?t2 ?t3 ?_); (case tx => rfl); (case ty => rfl); (case t1 => rfl); (case t2 => exact CZ.out); (case t3 => exact CO.out); (case tb => exact Y2.out)))
  intro w9 hbl hg hsz
  have LD := Lib.hid (hbl.load Tryz.underlying27 Tryz.size27 CZ.out)
  have BL9 := gb_below (B := w.heap.size) hg (by omega) (by have := T1.out; have := T2.out; omega)
  have SF := Lib.hid (show SVN w.heap.size w9 (.agg cs) _ from (S2.out.grown hg (by simp)).mono (by simp; omega))
  have BF := Lib.hid (G2.out.trans BL9)
  clear hbl hg hsz BL9
  go_wp2_with fail
  refine bodyPost_ret (v := .tuple #[.agg cs, .int .i64 0]) ?_ rfl ⟨_, rfl, SF.out, BF.out⟩
  rw [results_cell_t Tryz.results27]
  simp [asAddr, Result.andThen, LD.out]
end
section
/-- The loop's relation. -/
def Lq (B p : Nat) (C : List (List In5)) (m0 : M) (n : Nat) (w : World) (i : Nat) (wr : World) : Prop := ∃ m V, Ath C m0 n i m ∧ SA B wr p m V ∧ Below w.heap.size w wr
set_option maxRecDepth 20000 in
set_option maxHeartbeats 4000000 in
theorem cyclesH_ok (C : List (List In5)) (m : M) (pv sv : Value) (n : Int) (w : World) (hp : RdC w pv C) (v : Vc C) (h : SV w sv m) (k : Okc m) (h0 : 0 ≤ n) (h1 : n ≤ 20000) (ho : m.out.length + 4 * n.toNat ≤ 1000000) :
    Calls Tryz.prog 18 #[pv, sv, .int .i64 n, .bool true] w (Run2Post (runH C n.toNat m) w) := by
  obtain ⟨N, rfl⟩ : ∃ N : Nat, n = N := ⟨n.toNat, by omega⟩
  rw [show ((N : Nat) : Int).toNat = N by omega] at ho ⊢
  have CC := Lib.hid (fun W (hb : Below w.heap.size w W) => copyState_any m sv W (h.below hb) k.ok)
  have FP := Lib.hid (fun m1 sv1 W (hb : Below w.heap.size w W) (h : SV W sv1 m1) (hfl : m1.fl.length ≤ 100) (hpc : m1.pc ≤ 1024) => pfind_any C m1 pv sv1 W (hp.keep hb) v h hfl hpc)
  obtain ⟨A, c, rfl, hprg⟩ := hp
  have LP := Lib.hid (fun B p m V W (h : SA B W p m V) (k : Okc m) => lands_pg B p m V W h k.ok)
  have SP := Lib.hid (fun B p m V W (hb : Below w.heap.size w W) (hB : w.heap.size ≤ B) (h : SA B W p (land m) V) (k : Okc m) (ho : m.out.length + 4 ≤ 1000000) (hs : m.stop = 0) => issue_pg B p A c C m V W h k v ((hprg.keep hb).mono hB) ho hs)
  have VP := Lib.hid v
  have KK := Lib.hid k
  have HO := Lib.hid ho
  obtain ⟨r, q, i, o, z, y, rfl, a1, a2, a3, a4, a5, a6⟩ := h
  clear a1 a2 a3 a4 a5 a6 hprg v ho k
  generalize hPl : C.length = pl at *
  clear hPl
  have X0 := Lib.hid (show BK 27 ((w.alloc (.cells #[r, q, i, .int .i64 m.tk, o, .int .i64 m.pc, z, .int .i64 m.stop, y, .int .i64 m.jp, .int .i64 m.dl] 27)).alloc (.cells ZS 27)) w.heap.size #[r, q, i, .int .i64 m.tk, o, .int .i64 m.pc, z, .int .i64 m.stop, y, .int .i64 m.jp, .int .i64 m.dl] from BK.alloc (heap_alloc_new w _) _)
  have Y0 := Lib.hid (show BK 27 ((w.alloc (.cells #[r, q, i, .int .i64 m.tk, o, .int .i64 m.pc, z, .int .i64 m.stop, y, .int .i64 m.jp, .int .i64 m.dl] 27)).alloc (.cells ZS 27)) (w.heap.size + 1) ZS from by have h := heap_alloc_new (w.alloc (.cells #[r, q, i, .int .i64 m.tk, o, .int .i64 m.pc, z, .int .i64 m.stop, y, .int .i64 m.jp, .int .i64 m.dl] 27)) (.cells ZS 27); simpa [BK] using h)
  have G0 := Lib.hid (below_two w (.cells #[r, q, i, .int .i64 m.tk, o, .int .i64 m.pc, z, .int .i64 m.stop, y, .int .i64 m.jp, .int .i64 m.dl] 27) (.cells ZS 27))
  go_enter Tryz.func18, Tryz.ntmps18
  go_wp2_with fail
  refine (CC.out _ G0.out).mono ?_
  rintro e w3 ⟨V, rfl, s3, b3⟩
  have X3 := Lib.hid (X0.out.below b3)
  have Y3 := Lib.hid (Y0.out.below b3)
  have G3 := Lib.hid (G0.out.trans (b3.mono (by simp; omega)))
  have S3 := Lib.hid (show SR (w.heap.size + 2) w3 m V by simpa using s3)
  have T3 := Lib.hid (show w.heap.size + 2 ≤ w3.heap.size by have := b3.size; simp at this; omega)
  clear b3 s3
  go_wp2_with (((with_reducible refine wpList_store_bk (T := 27) (op := ⟨none, .store 27 _ _, _, _, _, none⟩) rfl _ _ rfl Tryz.size27 w.heap.size #[r, q, i, .int .i64 m.tk, o, .int .i64 m.pc, z, .int .i64 m.stop, y, .int .i64 m.jp, .int .i64 m.dl] (stCells m V) ?sx ?sy ?sb ?s1 ?s2 ?s3 ?_); (case sx => rfl); (case sy => rfl); (case s1 => rfl); (case s2 => rfl); (case s3 => exact st_one m V)))
  case sb => exact X3.out
  intro w4 hbl hg hsz
  have Y4 := Lib.hid (Y3.out.grown hg (by simp))
  have L4 := Lib.hid (show Lq w.heap.size w.heap.size C m N w 0 w4 ∧ BK 27 w4 (w.heap.size + 1) ZS from ⟨⟨m, V, Ath.zero KK.out, (S3.out.grown hg (by intro k hk; cases hk; omega)).sa hbl (by omega) (Nat.le_refl _), gb_below (B := w.heap.size) hg (by omega) (by have := T3.out; omega) |> G3.out.trans⟩, Y4.out⟩)
  clear hbl hg hsz
  go_wp2_with fail
  go_loopg [10] N (fun gk dn wr2 => ∃ i : Nat, i ≤ N ∧ gk = N - i ∧ dn = .int .i64 i ∧ Lq w.heap.size w.heap.size C m N w i wr2 ∧ BK 27 wr2 (w.heap.size + 1) ZS)
  case atStart => exact ⟨0, by omega, rfl, rfl, L4.out.1, L4.out.2⟩
  case round =>
    clear L4
    obtain ⟨i, hi, rfl, rfl, hlp, hbq⟩ := hrel
    have YQ := Lib.hid hbq
    clear hbq
    obtain ⟨m1, V1, at1, sa1, bl1⟩ := hlp
    have AT := Lib.hid at1
    have SA1 := Lib.hid sa1
    have BL := Lib.hid bl1
    have k7 : wr.cell? ⟨w.heap.size, 7, none⟩ = some (.int .i64 m1.stop) := sa1.cell 7
    have hlw := sa1.lt
    clear at1 sa1 bl1
    by_cases hlt : i < N
    · have hd : decide ((i : Int) < (N : Int)) = true := by simpa using hlt
      by_cases hs : m1.stop = 0
      · have hz : (m1.stop == 0) = true := by simpa using hs
        have HS := Lib.hid hs
        clear hs
        go_wp2_with fail
        refine (LP.out w.heap.size w.heap.size m1 V1 _ SA1.out AT.out.ok).mono ?_
        rintro e w5 ⟨rfl, ⟨⟨V2, sa2⟩, b5⟩, kq⟩
        have SA2 := Lib.hid sa2
        have B5 := Lib.hid (BL.out.trans b5)
        have Z5 := Lib.hid (show BK 27 w5 (w.heap.size + 1) ZS from kq _ _ (by omega) YQ.out)
        clear sa2 b5 kq k7
        have e0 : w5.cell? ⟨w.heap.size, 0, none⟩ = some (V2.r) := SA2.out.cell 0
        have e1 : w5.cell? ⟨w.heap.size, 1, none⟩ = some (V2.m) := SA2.out.cell 1
        have e2 : w5.cell? ⟨w.heap.size, 2, none⟩ = some (V2.i (land m1)) := SA2.out.cell 2
        have e3 : w5.cell? ⟨w.heap.size, 3, none⟩ = some (.int .i64 (land m1).tk) := SA2.out.cell 3
        have e4 : w5.cell? ⟨w.heap.size, 4, none⟩ = some (V2.o (land m1)) := SA2.out.cell 4
        have e5 : w5.cell? ⟨w.heap.size, 5, none⟩ = some (.int .i64 (land m1).pc) := SA2.out.cell 5
        have e6 : w5.cell? ⟨w.heap.size, 6, none⟩ = some (V2.s (land m1)) := SA2.out.cell 6
        have e7 : w5.cell? ⟨w.heap.size, 7, none⟩ = some (.int .i64 (land m1).stop) := SA2.out.cell 7
        have e8 : w5.cell? ⟨w.heap.size, 8, none⟩ = some (V2.f (land m1)) := SA2.out.cell 8
        have e9 : w5.cell? ⟨w.heap.size, 9, none⟩ = some (.int .i64 (land m1).jp) := SA2.out.cell 9
        have e10 : w5.cell? ⟨w.heap.size, 10, none⟩ = some (.int .i64 (land m1).dl) := SA2.out.cell 10
        have SV5 := Lib.hid (SA2.out.sr.sv AT.out.ok.ok.land.R AT.out.ok.ok.land.mem)
        have FND := Lib.hid (FP.out (land m1) (.agg (stCells (land m1) V2)) _ B5.out SV5.out (Nat.le_trans (later_len m1.fl) (by have := AT.out.ok.fb.len; omega)) AT.out.ok.ok.pc)
        go_wp2_with fail
        clear e0 e1 e2 e3 e4 e5 e6 e7 e8 e9 e10
        refine FND.out.mono ?_
        rintro e w6 ⟨rfl, b6⟩
        have SA6 := Lib.hid (SA2.out.below b6)
        have B6 := Lib.hid (B5.out.trans (b6.mono B5.out.size))
        have Z6 := Lib.hid (Z5.out.below b6)
        have HCN := Lib.hid (show ¬ 0 ≤ fnd C (land m1) → hcyc C m1 = cyc C m1 from fun h => by unfold hcyc; exact if_neg h)
        have HCY := Lib.hid (show 0 ≤ fnd C (land m1) → hcyc C m1 = stop (land m1) 6 from fun h => by unfold hcyc; exact if_pos h)
        have ATS := Lib.hid (fun h => AT.out.step (m := m1) VP.out HO.out hlt h)
        clear b6 SV5 FND
        generalize fnd C (land m1) = res at *
        by_cases hr : 0 ≤ res
        · have hrb : decide (0 ≤ res) = true := by simpa using hr
          have RC := Lib.hid (HCY.out hr)
          have k76 : w6.cell? ⟨w.heap.size, 7, none⟩ = some (.int .i64 m1.stop) := SA6.out.cell 7
          have f76 := SA6.out.frozen 7
          have S7 := Lib.hid (SA6.out.setStop 6)
          have Z7 := Lib.hid (Z6.out.grown (grown_set w6 w.heap.size 7 (.int .i64 6)) (by simp))
          have B7 := Lib.hid (B6.out.trans (gb_below (grown_set w6 w.heap.size 7 (.int .i64 6)) (Nat.le_refl _) B6.out.size))
          go_wp2_with fail
          go_roundg (N - (i + 1))
          case measure => omega
          case rel => exact ⟨i + 1, by omega, rfl, by go_num, ⟨hcyc C m1, V2, ATS.out HS.out, by rw [RC.out]; exact S7.out, B7.out⟩, Z7.out⟩
        · have hrb : decide (0 ≤ res) = false := by simpa using hr
          have RC := Lib.hid (HCN.out hr)
          clear hr
          go_wp2_with fail
          refine (SP.out w.heap.size w.heap.size m1 V2 _ B6.out (by omega) SA6.out AT.out.ok (by have := AT.out.out; have := HO.out; omega) HS.out).mono ?_
          rintro e w7 ⟨rfl, ⟨⟨V3, sa3⟩, b7⟩, kq⟩
          have SA3 := Lib.hid sa3
          have B7 := Lib.hid (B6.out.trans b7)
          have Z7 := Lib.hid (show BK 27 w7 (w.heap.size + 1) ZS from kq _ _ (by omega) Z6.out)
          clear sa3 b7 kq
          go_wp2_with fail
          go_roundg (N - (i + 1))
          case measure => omega
          case rel => exact ⟨i + 1, by omega, rfl, by go_num, ⟨hcyc C m1, V3, ATS.out HS.out, by rw [RC.out]; exact SA3.out, B7.out⟩, Z7.out⟩
      · have hz : (m1.stop == 0) = false := by simpa using hs
        have DN := Lib.hid (AT.out.done (.inr hs))
        clear hs
        skip
        obtain ⟨TB, hbk⟩ := SA1.out.bk
        have BK1 := Lib.hid (show BK TB wr w.heap.size (stCells m1 V1) from hbk)
        clear hbk
        go_wp2_with (first | ((with_reducible refine wpList_load_bk2 (T := 27) (T' := TB) (op := ⟨some 34, .load 27 _, _, _, _, none⟩) rfl _ rfl Tryz.underlying27 Tryz.size27 w.heap.size (stCells m1 V1) ?lx ?lb ?l1 ?_); (case lx => rfl); (case l1 => rfl); (case lb => exact BK1.out)) | ((with_reducible refine wpList_store_bk (T := 27) (op := ⟨none, .store 27 _ _, _, _, _, none⟩) rfl _ _ rfl Tryz.size27 (w.heap.size + 1) ZS (stCells m1 V1) ?sx ?sy ?sb ?s1 ?s2 ?s3 ?_); (case sx => rfl); (case sy => rfl); (case s1 => rfl); (case s2 => rfl); (case s3 => exact st_one m1 V1); (case sb => exact YQ.out)))
        intro w9 hbl hg hsz
        have LD := Lib.hid (hbl.load Tryz.underlying27 Tryz.size27 rfl)
        have SVF := Lib.hid (svz SA1.out YQ.out hg AT.out.ok.ok)
        have BF := Lib.hid (BL.out.trans (gb_below (B := w.heap.size) hg (by omega) (by have := BL.out.size; omega)))
        clear hbl hg hsz
        go_wp2_with fail
        refine bodyPost_ret (v := .tuple #[.agg (stCells m1 V1), .int .i64 i]) ?_ rfl ⟨_, by rw [DN.out], by rw [DN.out]; exact SVF.out, BF.out⟩
        rw [results_cell_t Tryz.results18]
        simp [asAddr, Result.andThen, LD.out]
    · have hd : decide ((i : Int) < (N : Int)) = false := by simp; omega
      have DN := Lib.hid (AT.out.done (.inl (by omega)))
      skip
      obtain ⟨TB, hbk⟩ := SA1.out.bk
      have BK1 := Lib.hid (show BK TB wr w.heap.size (stCells m1 V1) from hbk)
      clear hbk
      go_wp2_with (first | ((with_reducible refine wpList_load_bk2 (T := 27) (T' := TB) (op := ⟨some 34, .load 27 _, _, _, _, none⟩) rfl _ rfl Tryz.underlying27 Tryz.size27 w.heap.size (stCells m1 V1) ?lx ?lb ?l1 ?_); (case lx => rfl); (case l1 => rfl); (case lb => exact BK1.out)) | ((with_reducible refine wpList_store_bk (T := 27) (op := ⟨none, .store 27 _ _, _, _, _, none⟩) rfl _ _ rfl Tryz.size27 (w.heap.size + 1) ZS (stCells m1 V1) ?sx ?sy ?sb ?s1 ?s2 ?s3 ?_); (case sx => rfl); (case sy => rfl); (case s1 => rfl); (case s2 => rfl); (case s3 => exact st_one m1 V1); (case sb => exact YQ.out)))
      intro w9 hbl hg hsz
      have LD := Lib.hid (hbl.load Tryz.underlying27 Tryz.size27 rfl)
      have SVF := Lib.hid (svz SA1.out YQ.out hg AT.out.ok.ok)
      have BF := Lib.hid (BL.out.trans (gb_below (B := w.heap.size) hg (by omega) (by have := BL.out.size; omega)))
      clear hbl hg hsz
      go_wp2_with fail
      refine bodyPost_ret (v := .tuple #[.agg (stCells m1 V1), .int .i64 i]) ?_ rfl ⟨_, by rw [DN.out], by rw [DN.out]; exact SVF.out, BF.out⟩
      rw [results_cell_t Tryz.results18]
      simp [asAddr, Result.andThen, LD.out]
set_option maxRecDepth 20000 in
set_option maxHeartbeats 4000000 in
theorem pfind_ok (C : List (List In5)) (m : M) (pv sv : Value) (w : World) (hp : RdC w pv C) (v : Vc C) (h : SV w sv m) (k : Okc m) : Calls Tryz.prog 29 #[pv, sv] w (IntBelow (hfind C m) w) := by
  have CC := Lib.hid (fun W (hb : Below w.heap.size w W) => copyState_any m sv W (h.below hb) k.ok)
  have FP := Lib.hid (fun m1 sv1 W (hb : Below w.heap.size w W) (h : SV W sv1 m1) (hfl : m1.fl.length ≤ 100) (hpc : m1.pc ≤ 1024) => pfind_any C m1 pv sv1 W (hp.keep hb) v h hfl hpc)
  have LP := Lib.hid (fun B p V W (h : SA B W p m V) => lands_pg B p m V W h k.ok)
  have HF := Lib.hid (show hfind C m = if m.stop = 0 then fnd C (land m) else -1 from rfl)
  have KK := Lib.hid k
  obtain ⟨A, c, rfl, _⟩ := hp
  obtain ⟨r, q, i, o, z, y, rfl, a1, a2, a3, a4, a5, a6⟩ := h
  clear a1 a2 a3 a4 a5 a6 v k
  generalize hfind C m = res at *
  generalize C.length = pl at *
  have X0 := Lib.hid (show BK 27 (w.alloc (.cells #[r, q, i, .int .i64 m.tk, o, .int .i64 m.pc, z, .int .i64 m.stop, y, .int .i64 m.jp, .int .i64 m.dl] 27)) w.heap.size #[r, q, i, .int .i64 m.tk, o, .int .i64 m.pc, z, .int .i64 m.stop, y, .int .i64 m.jp, .int .i64 m.dl] from heap_alloc_new w _)
  have G0 := Lib.hid (below_new w (.cells #[r, q, i, .int .i64 m.tk, o, .int .i64 m.pc, z, .int .i64 m.stop, y, .int .i64 m.jp, .int .i64 m.dl] 27))
  by_cases hs : m.stop = 0
  · have hsb : (m.stop != 0) = false := by simp [hs]
    have RS := Lib.hid (show res = fnd C (land m) by rw [HF.out, if_pos hs])
    clear hs
    go_enter Tryz.func29, Tryz.ntmps29
    go_wp2_with fail
    refine (CC.out _ G0.out).mono ?_
    rintro e w3 ⟨V, rfl, s3, b3⟩
    have X3 := Lib.hid (X0.out.below b3)
    have G3 := Lib.hid (G0.out.trans (b3.mono (by simp)))
    have S3 := Lib.hid (show SR (w.heap.size + 1) w3 m V by simpa using s3)
    have T3 : w.heap.size + 1 ≤ w3.heap.size := by have := b3.size; simp at this; omega
    clear b3 s3
    go_wp2_with (((with_reducible refine wpList_store_bk (T := 27) (op := ⟨none, .store 27 _ _, _, _, _, none⟩) rfl _ _ rfl Tryz.size27 w.heap.size #[r, q, i, .int .i64 m.tk, o, .int .i64 m.pc, z, .int .i64 m.stop, y, .int .i64 m.jp, .int .i64 m.dl] (stCells m V) ?sx ?sy ?sb ?s1 ?s2 ?s3 ?_); (case sx => rfl); (case sy => rfl); (case s1 => rfl); (case s2 => rfl); (case s3 => exact st_one m V); (case sb => exact X3.out)))
    intro w4 hbl hg hsz
    have SA4 := Lib.hid ((S3.out.grown hg (by intro k hk; cases hk; omega)).sa (B' := w.heap.size) hbl (by omega) (Nat.le_refl _))
    have G4 := Lib.hid (G3.out.trans (gb_below (B := w.heap.size) hg (by omega) (by omega)))
    clear hbl hg hsz
    go_wp2_with fail
    refine (LP.out w.heap.size w.heap.size V _ SA4.out).mono ?_
    rintro e w5 ⟨rfl, ⟨⟨V2, sa2⟩, b5⟩, kq⟩
    have SA2 := Lib.hid sa2
    have B5 := Lib.hid (G4.out.trans b5)
    clear sa2 b5 kq
    have e0 : w5.cell? ⟨w.heap.size, 0, none⟩ = some (V2.r) := SA2.out.cell 0
    have e1 : w5.cell? ⟨w.heap.size, 1, none⟩ = some (V2.m) := SA2.out.cell 1
    have e2 : w5.cell? ⟨w.heap.size, 2, none⟩ = some (V2.i (land m)) := SA2.out.cell 2
    have e3 : w5.cell? ⟨w.heap.size, 3, none⟩ = some (.int .i64 (land m).tk) := SA2.out.cell 3
    have e4 : w5.cell? ⟨w.heap.size, 4, none⟩ = some (V2.o (land m)) := SA2.out.cell 4
    have e5 : w5.cell? ⟨w.heap.size, 5, none⟩ = some (.int .i64 (land m).pc) := SA2.out.cell 5
    have e6 : w5.cell? ⟨w.heap.size, 6, none⟩ = some (V2.s (land m)) := SA2.out.cell 6
    have e7 : w5.cell? ⟨w.heap.size, 7, none⟩ = some (.int .i64 (land m).stop) := SA2.out.cell 7
    have e8 : w5.cell? ⟨w.heap.size, 8, none⟩ = some (V2.f (land m)) := SA2.out.cell 8
    have e9 : w5.cell? ⟨w.heap.size, 9, none⟩ = some (.int .i64 (land m).jp) := SA2.out.cell 9
    have e10 : w5.cell? ⟨w.heap.size, 10, none⟩ = some (.int .i64 (land m).dl) := SA2.out.cell 10
    have SV5 := Lib.hid (SA2.out.sr.sv KK.out.ok.land.R KK.out.ok.land.mem)
    have FND := Lib.hid (FP.out (land m) (.agg (stCells (land m) V2)) _ B5.out SV5.out (Nat.le_trans (later_len m.fl) (by have := KK.out.fb.len; omega)) KK.out.ok.pc)
    go_wp2_with fail
    clear e0 e1 e2 e3 e4 e5 e6 e7 e8 e9 e10
    refine FND.out.mono ?_
    rintro e w6 ⟨rfl, b6⟩
    have B6 := Lib.hid (B5.out.trans (b6.mono B5.out.size))
    clear b6 FND
    go_wp2_with fail
    go_ret
    exact intb_mk RS.out.symm B6.out
  · have hsb : (m.stop != 0) = true := by simpa using hs
    have RS := Lib.hid (show res = -1 by rw [HF.out, if_neg hs])
    go_enter Tryz.func29, Tryz.ntmps29
    go_wp2_with fail
    go_ret
    exact intb_mk RS.out.symm G0.out
end
section
theorem num7_any (x : Int) (w : World) : Calls Tryz.prog 25 #[.int .i64 x] w (IntPost x w) := by
  go_enter Tryz.func25, Tryz.ntmps25
  go_wp2
  go_ret
  exact ⟨rfl, rfl⟩
theorem runH_one (C : List (List In5)) (m : M) : (runH C 1 m).1 = if m.stop = 0 then hcyc C m else m := by
  by_cases h : m.stop = 0
  · rw [runH_go h, if_pos h]; rfl
  · rw [runH_stop h, if_neg h]
theorem runH_okc {C : List (List In5)} {m : M} (k : Okc m) (v : Vc C) (ho : m.out.length + 4 ≤ 1000000) : Okc (runH C 1 m).1 := by
  rw [runH_one]
  split
  · next h => exact (k.hcyc v ho h).1
  · exact k
def wkH : List (List In5) := [[⟨23, 1, 0, 0, 0⟩, ⟨23, 1, 0, 0, 0⟩, zw, zw]]
theorem wkH_vcc : Vcc wkH := vcc_of (by decide +kernel) (by decide +kernel)
theorem wkH_find : hfind wkH (m0 []) = 1 := by decide +kernel
theorem wkH_n : (runH wkH 5 (m0 [])).2 = 1 := by decide +kernel
theorem wkH_stop : (runH wkH 5 (m0 [])).1.stop = 6 := by decide +kernel
theorem okc00 : Okc (m0 []) := okc0 (xs := []) (by decide) (by simp)
set_option maxRecDepth 40000 in
set_option maxHeartbeats 8000000 in
theorem wakes7_any (w : World) (T : Tab w) : Calls Tryz.prog 28 #[] w (BoolBelow true w) := by
  have TT := Lib.hid T
  have PG0 := Lib.hid (rdc_lit w #[.int .i64 23, .int .i64 1, .int .i64 0, .int .i64 0, .int .i64 0, .string ⟨#[]⟩, .int .i64 23, .int .i64 1, .int .i64 0, .int .i64 0, .int .i64 0, .string ⟨#[]⟩, .int .i64 0, .int .i64 0, .int .i64 0, .int .i64 0, .int .i64 0, .string ⟨#[]⟩, .int .i64 0, .int .i64 0, .int .i64 0, .int .i64 0, .int .i64 0, .string ⟨#[]⟩] wkH 1 rfl rfl)
  have B0 := Lib.hid (below_new w (.cells #[.int .i64 23, .int .i64 1, .int .i64 0, .int .i64 0, .int .i64 0, .string ⟨#[]⟩, .int .i64 23, .int .i64 1, .int .i64 0, .int .i64 0, .int .i64 0, .string ⟨#[]⟩, .int .i64 0, .int .i64 0, .int .i64 0, .int .i64 0, .int .i64 0, .string ⟨#[]⟩, .int .i64 0, .int .i64 0, .int .i64 0, .int .i64 0, .int .i64 0, .string ⟨#[]⟩] 58))
  clear T
  go_enter Tryz.func28, Tryz.ntmps28
  go_wp2_with fail
  generalize w.alloc (.cells #[.int .i64 23, .int .i64 1, .int .i64 0, .int .i64 0, .int .i64 0, .string ⟨#[]⟩, .int .i64 23, .int .i64 1, .int .i64 0, .int .i64 0, .int .i64 0, .string ⟨#[]⟩, .int .i64 0, .int .i64 0, .int .i64 0, .int .i64 0, .int .i64 0, .string ⟨#[]⟩, .int .i64 0, .int .i64 0, .int .i64 0, .int .i64 0, .int .i64 0, .string ⟨#[]⟩] 58) = w0 at *
  generalize hg0 : (some (⟨w.heap.size, 0, none⟩ : Addr)) = a0 at *
  clear hg0
  have L0 := Lib.hid B0.out.size
  refine (new_ok [] _ _ (rd_nil _) (by decide)).mono ?_
  rintro e w1 ⟨V, rfl, s1, b1⟩
  have SV1 := Lib.hid (s1.sv okc00.ok.R okc00.ok.mem)
  have K1 := Lib.hid b1
  clear s1 b1
  go_wp2_with fail
  refine (find_ok wkH (m0 []) _ _ _ (PG0.out.keep K1.out) wkH_vcc SV1.out okc00 (TT.out.below (B0.out.trans (K1.out.mono L0.out))) (by decide)).mono ?_
  rintro e w2 ⟨rfl, b2⟩
  rw [wkH_find]
  have K2 := Lib.hid (K1.out.trans (b2.mono K1.out.size))
  clear b2
  go_wp2_with fail
  refine (new_ok [] _ _ (rd_nil _) (by decide)).mono ?_
  rintro e w3 ⟨V3, rfl, s3, b3⟩
  have SV3 := Lib.hid (s3.sv okc00.ok.R okc00.ok.mem)
  have K3 := Lib.hid (K2.out.trans (b3.mono K2.out.size))
  clear s3 b3
  go_wp2_with fail
  refine (hrun_ok wkH (m0 []) _ _ 5 _ (PG0.out.keep K3.out) wkH_vcc SV3.out okc00 (TT.out.below (B0.out.trans (K3.out.mono L0.out))) (by decide) (by decide) (by decide)).mono ?_
  rintro e w4 ⟨v4, rfl, s4, b4⟩
  rw [show (5 : Int).toNat = 5 from rfl] at s4 ⊢
  rw [wkH_n, show ((1 : Nat) : Int) = 1 from rfl]
  have E4 := Lib.hid wkH_stop
  have K4 := Lib.hid (K3.out.trans (b4.mono K3.out.size))
  clear b4
  generalize (runH wkH 5 (m0 [])).1 = mm at *
  obtain ⟨r1, q1, i1, o1, z1, y1, rfl, a1, a2, a3, a4, a5, a6⟩ := s4.sv
  have ON1 := Lib.hid (one11 (a := mm.tk) (b := mm.pc) (s := mm.stop) (j := mm.jp) (d := mm.dl) a1.one a2.one a3.one a4.one a5.one a6.one)
  clear a1 a2 a3 a4 a5 a6 s4
  rw [E4.out] at ON1 ⊢
  go_wp2_with ((with_reducible refine wpList_store_bk (T := 27) (op := ⟨none, .store 27 _ _, _, _, _, none⟩) rfl _ _ rfl Tryz.size27 w4.heap.size ZS #[r1, q1, i1, .int .i64 mm.tk, o1, .int .i64 mm.pc, z1, .int .i64 6, y1, .int .i64 mm.jp, .int .i64 mm.dl] ?sx ?sy ?sb ?s1 ?s2 ?s3 ?_); (case sx => rfl); (case sy => rfl); (case s1 => rfl); (case s2 => exact rfl); (case s3 => exact ON1.out); (case sb => exact heap_alloc_new _ _))
  intro w5 hbl hg hsz
  have K5 := Lib.hid (K4.out.trans (((below_new w4 (.cells ZS 27)).grown hg (by simp) (by intro k hk; cases hk; omega)).mono K4.out.size))
  have n7 : w5.cell? ⟨w4.heap.size, 7, none⟩ = some (.int .i64 6) := hbl.cell 7
  clear hbl hg hsz
  go_wp2_with (go_at_call 25; refine (num7_any _ _).mono ?_; rintro e w' ⟨rfl, rfl⟩)
  go_ret
  exact ⟨rfl, B0.out.trans (K5.out.mono L0.out)⟩
/-- What the loop keeps. -/
def Rf (g : Nat) (w : World) (i : Nat) (wr : World) : Prop := ∃ cs m, BK 27 wr g cs ∧ cs.size = 11 ∧ SV wr (.agg cs) m ∧ Okc m ∧ m.out.length ≤ 4 * i ∧ Below w.heap.size w wr
set_option maxRecDepth 40000 in
set_option maxHeartbeats 8000000 in
theorem found_any (pv : Value) (C : List (List In5)) (w : World) (hp : RdC w pv C) (vc : Vcc C) (T : Tab w) : Calls Tryz.prog 36 #[pv] w (BoolBelow true w) := by
  have TT := Lib.hid T
  have PG := Lib.hid (fun W (hb : Below w.heap.size w W) => code_ok C pv W (hp.keep hb) vc)
  have FD := Lib.hid (fun m cs W (hb : Below w.heap.size w W) (sv : SV W (.agg cs) m) (k : Okc m) (ho : m.out.length + 8 ≤ 1000000) => find_ok C m pv (.agg cs) W (hp.keep hb) vc sv k (T.below hb) (by omega))
  have HC := Lib.hid (fun m cs W (hb : Below w.heap.size w W) (sv : SV W (.agg cs) m) (k : Okc m) (ho : m.out.length + 8 ≤ 1000000) => hcyc_ok C m pv (.agg cs) W (hp.keep hb) vc sv k (T.below hb) ho)
  have PC := Lib.hid (fun m cs W (hb : Below w.heap.size w W) (sv : SV W (.agg cs) m) (k : Okc m) (ho : m.out.length + 8 ≤ 1000000) => cyclesH_ok C m pv (.agg cs) 1 W (hp.keep hb) vc.v sv k (by decide) (by decide) (by show m.out.length + 4 * 1 ≤ 1000000; omega))
  have PF := Lib.hid (fun m cs W (hb : Below w.heap.size w W) (sv : SV W (.agg cs) m) (k : Okc m) => pfind_ok C m pv (.agg cs) W (hp.keep hb) vc.v sv k)
  have PR := Lib.hid (fun m cs W (hb : Below w.heap.size w W) (sv : SV W (.agg cs) m) (k : Okc m) (ho : m.out.length + 8 ≤ 1000000) => cycles_ok C m pv (.agg cs) 1 W (hp.keep hb) vc.v sv k (by decide) (by decide) (by show m.out.length + 4 * 1 ≤ 1000000; omega))
  have VV := Lib.hid vc.v
  have K0 := Lib.hid okc00
  obtain ⟨Ap', cp, hpv, _⟩ := hp
  subst hpv
  generalize C.length = pl at *
  clear vc T
  go_enter Tryz.func36, Tryz.ntmps36
  go_wp2_with fail
  refine (PG.out _ (Below.refl _ _)).mono ?_
  rintro e w3 ⟨rfl, b3⟩
  have G3 := Lib.hid b3
  clear b3
  go_wp2_with fail
  refine (new_ok [] _ _ (rd_nil _) (by decide)).mono ?_
  rintro e w4 ⟨V, rfl, s4, b4⟩
  have G4 := Lib.hid (G3.out.trans (b4.mono G3.out.size))
  have S4 := Lib.hid (s4.sv K0.out.ok.R K0.out.ok.mem)
  clear s4 b4
  go_wp2_with ((with_reducible refine wpList_store_bk (T := 27) (op := ⟨none, .store 27 _ _, _, _, _, none⟩) rfl _ _ rfl Tryz.size27 w4.heap.size ZS (stCells (m0 []) V) ?ax ?ay ?ab ?a1 ?a2 ?a3 ?_); (case ax => rfl); (case ay => rfl); (case a1 => rfl); (case a2 => exact rfl); (case a3 => exact st_one (m0 []) V); (case ab => exact heap_alloc_new w4 _))
  intro w5 hbl hg hsz
  have BL5 := (below_new w4 (.cells ZS 27)).grown hg (by simp) (by intro k hk; cases hk; omega)
  have L5 := Lib.hid (show Rf w4.heap.size w 0 w5 from ⟨_, m0 [], hbl, rfl, S4.out.below BL5, K0.out, Nat.le_refl _, G4.out.trans (BL5.mono G4.out.size)⟩)
  have Z4 := Lib.hid G4.out.size
  clear hbl hg hsz BL5
  go_wp2_with fail
  generalize hgg : w4.heap.size = g at *
  clear hgg
  go_loopg [4] 30 (fun gk o wr2 => ∃ i : Nat, i ≤ 30 ∧ gk = 30 - i ∧ o = .int .i64 i ∧ Rf g w i wr2)
  case atStart => exact ⟨0, by omega, rfl, rfl, L5.out⟩
  case round =>
    clear L5
    obtain ⟨i, hi, rfl, rfl, hrl⟩ := hrel
    obtain ⟨cs, m, bk, hsz, sv, okm, hout, bel⟩ := hrl
    have B5 := Lib.hid bk
    have CZ := Lib.hid hsz
    have SV0 := Lib.hid sv
    have OK := Lib.hid okm
    have OUT := Lib.hid hout
    have BE := Lib.hid bel
    have gl := bk.lt
    clear bk hsz sv okm hout bel
    by_cases hlt : i < 30
    · have hd : decide ((i : Int) < 30) = true := by simp; omega
      have KM := Lib.hid (runC_okc (n := 1) VV.out OK.out (by have := OUT.out; omega))
      have KH := Lib.hid (runH_okc OK.out VV.out (by have := OUT.out; omega))
      have O8 := Lib.hid (show m.out.length + 8 ≤ 1000000 by have := OUT.out; omega)
      go_wp2_with ((with_reducible refine wpList_load_bk (T := 27) (op := ⟨some 21, .load 27 _, _, _, _, none⟩) rfl _ rfl Tryz.underlying27 Tryz.size27 g cs ?lx ?lb ?l1 ?_); (case lx => rfl); (case l1 => exact CZ.out); (case lb => exact B5.out))
      refine (FD.out m cs _ BE.out SV0.out OK.out O8.out).mono ?_
      rintro e w6 ⟨rfl, b6⟩
      have B6 := Lib.hid (B5.out.below b6)
      have SV6 := Lib.hid (SV0.out.below b6)
      have E6 := Lib.hid (BE.out.trans (b6.mono BE.out.size))
      have Z6 : g < w6.heap.size := B6.out.lt
      clear b6
      have PF6 := Lib.hid (fun W hb sv => PF.out m cs W hb sv OK.out)
      generalize hfind C m = hf at *
      have hne : (hf != hf) = false := by simp
      go_wp2_with ((with_reducible refine wpList_load_bk (T := 27) (op := ⟨some 27, .load 27 _, _, _, _, none⟩) rfl _ rfl Tryz.underlying27 Tryz.size27 g cs ?lx ?lb ?l1 ?_); (case lx => rfl); (case l1 => exact CZ.out); (case lb => exact B6.out))
      refine (HC.out m cs _ E6.out SV6.out OK.out O8.out).mono ?_
      rintro e w7 ⟨v7, rfl, s7, b7⟩
      have B7 := Lib.hid (B6.out.below b7)
      have SV7 := Lib.hid (SV6.out.below b7)
      have E7 := Lib.hid (E6.out.trans (b7.mono E6.out.size))
      clear b7
      have PC7 := Lib.hid (fun W hb sv => PC.out m cs W hb sv OK.out O8.out)
      rw [show (1 : Int).toNat = 1 from rfl] at PC7
      generalize hmh : (runH C 1 m).1 = mh at *
      have HMH := Lib.hid hmh
      clear hmh
      have SM7 := Lib.hid s7.sv
      obtain ⟨r1, q1, i1, o1, z1, y1, rfl, a1, a2, a3, a4, a5, a6⟩ := s7.sv
      have ON1 := Lib.hid (one11 (a := mh.tk) (b := mh.pc) (s := mh.stop) (j := mh.jp) (d := mh.dl) a1.one a2.one a3.one a4.one a5.one a6.one)
      clear a1 a2 a3 a4 a5 a6 s7
      go_wp2_with ((with_reducible refine wpList_store_bk (T := 27) (op := ⟨none, .store 27 _ _, _, _, _, none⟩) rfl _ _ rfl Tryz.size27 w7.heap.size ZS #[r1, q1, i1, .int .i64 mh.tk, o1, .int .i64 mh.pc, z1, .int .i64 mh.stop, y1, .int .i64 mh.jp, .int .i64 mh.dl] ?cx ?cy ?cb ?c1 ?c2 ?c3 ?_); (case cx => rfl); (case cy => rfl); (case c1 => rfl); (case c2 => exact rfl); (case c3 => exact ON1.out); (case cb => exact heap_alloc_new w7 _))
      intro w8 hbl hg hsz
      have BL8 := (below_new w7 (.cells ZS 27)).grown hg (by simp) (by intro k hk; cases hk; omega)
      have X8 := Lib.hid hbl
      have B8 := Lib.hid (B7.out.below BL8)
      have SV8 := Lib.hid (SV7.out.below BL8)
      have SM8 := Lib.hid (SM7.out.below BL8)
      have E8 := Lib.hid (E7.out.trans (BL8.mono E7.out.size))
      clear hbl hg hsz BL8
      go_wp2_with ((with_reducible refine wpList_load_bk (T := 27) (op := ⟨some 33, .load 27 _, _, _, _, none⟩) rfl _ rfl Tryz.underlying27 Tryz.size27 g cs ?lx ?lb ?l1 ?_); (case lx => rfl); (case l1 => exact CZ.out); (case lb => exact B8.out))
      refine (PC7.out _ E8.out SV8.out).mono ?_
      rintro e w9 ⟨v9, rfl, s9, b9⟩
      have B9 := Lib.hid (B8.out.below b9)
      have X9 := Lib.hid (X8.out.below b9)
      have SV9 := Lib.hid (SV8.out.below b9)
      have SM9 := Lib.hid (SM8.out.below b9)
      have E9 := Lib.hid (E8.out.trans (b9.mono E8.out.size))
      rw [HMH.out] at s9
      have SP9 := Lib.hid s9.sv
      clear b9
      obtain ⟨r2, q2, i2, o2, z2, y2, rfl, a1, a2, a3, a4, a5, a6⟩ := s9.sv
      have ON2 := Lib.hid (one11 (a := mh.tk) (b := mh.pc) (s := mh.stop) (j := mh.jp) (d := mh.dl) a1.one a2.one a3.one a4.one a5.one a6.one)
      clear a1 a2 a3 a4 a5 a6 s9
      go_wp2_with ((with_reducible refine wpList_store_bk (T := 27) (op := ⟨none, .store 27 _ _, _, _, _, none⟩) rfl _ _ rfl Tryz.size27 w9.heap.size ZS #[r2, q2, i2, .int .i64 mh.tk, o2, .int .i64 mh.pc, z2, .int .i64 mh.stop, y2, .int .i64 mh.jp, .int .i64 mh.dl] ?ex ?ey ?eb ?e1 ?e2 ?e3 ?_); (case ex => rfl); (case ey => rfl); (case e1 => rfl); (case e2 => exact rfl); (case e3 => exact ON2.out); (case eb => exact heap_alloc_new w9 _))
      intro wA hbl hg hsz
      have BLA := (below_new w9 (.cells ZS 27)).grown hg (by simp) (by intro k hk; cases hk; omega)
      have YA := Lib.hid hbl
      have XA := Lib.hid (X9.out.below BLA)
      have BA := Lib.hid (B9.out.below BLA)
      have SVA := Lib.hid (SV9.out.below BLA)
      have SMA := Lib.hid (SM9.out.below BLA)
      have SPA := Lib.hid (SP9.out.below BLA)
      have EA := Lib.hid (E9.out.trans (BLA.mono E9.out.size))
      clear hbl hg hsz BLA
      obtain ⟨r0, q0, i0, o0, z0, y0, ecs, _, _, _, _, _, _⟩ := SVA.out
      injection ecs with ecs
      subst ecs
      obtain ⟨f0, f1, f2, f3, f4, f5, f6, f7, f8, f9, f10⟩ := BA.out.c11
      go_wp2_with (go_at_call 25; refine (num7_any _ _).mono ?_; rintro e w' ⟨rfl, rfl⟩)
      clear f0 f1 f2 f3 f4 f5 f6 f7 f8 f9 f10
      refine (PF6.out _ EA.out SVA.out).mono ?_
      rintro e wB ⟨rfl, bB⟩
      have YB := Lib.hid (YA.out.below bB)
      have XB := Lib.hid (XA.out.below bB)
      have BB := Lib.hid (BA.out.below bB)
      have SVB := Lib.hid (SVA.out.below bB)
      have SMB := Lib.hid (SMA.out.below bB)
      have SPB := Lib.hid (SPA.out.below bB)
      have EB := Lib.hid (EA.out.trans (bB.mono EA.out.size))
      clear bB
      obtain ⟨x0, x1, x2, x3, x4, x5, x6, x7, x8, x9, x10⟩ := XB.out.c11
      obtain ⟨y0', y1', y2', y3', y4', y5', y6', y7', y8', y9', y10'⟩ := YB.out.c11
      go_wp2_with (go_at_call 25; refine (num7_any _ _).mono ?_; rintro e w' ⟨rfl, rfl⟩)
      refine (eqst_same mh _ _ _ SMB.out SPB.out KH.out.ok).mono ?_
      rintro e wC ⟨rfl, bC⟩
      have BC := Lib.hid (BB.out.below bC)
      have SVC := Lib.hid (SVB.out.below bC)
      have EC := Lib.hid (EB.out.trans (bC.mono EB.out.size))
      clear bC
      clear x0 x1 x2 x3 x4 x5 x6 x7 x8 x9 x10
      clear y0' y1' y2' y3' y4' y5' y6' y7' y8' y9' y10'
      obtain ⟨f0, f1, f2, f3, f4, f5, f6, f7, f8, f9, f10⟩ := BC.out.c11
      go_wp2_with fail
      clear f0 f1 f2 f3 f4 f5 f6 f7 f8 f9 f10
      refine (PR.out m _ _ EC.out SVC.out OK.out O8.out).mono ?_
      rintro e wD ⟨vD, rfl, sD, bD⟩
      rw [show (1 : Int).toNat = 1 from rfl] at sD ⊢
      have BD := Lib.hid (BC.out.below bD)
      have ED := Lib.hid (EC.out.trans (bD.mono EC.out.size))
      have ZD : g < wC.heap.size := BC.out.lt
      clear bD
      generalize hmc : (runC C 1 m).1 = mc at *
      clear hmc
      have SD := Lib.hid sD
      obtain ⟨r3, q3, i3, o3, z3, y3, rfl, a1, a2, a3, a4, a5, a6⟩ := sD.sv
      have ON3 := Lib.hid (one11 (a := mc.tk) (b := mc.pc) (s := mc.stop) (j := mc.jp) (d := mc.dl) a1.one a2.one a3.one a4.one a5.one a6.one)
      clear a1 a2 a3 a4 a5 a6 sD
      go_wp2_with ((with_reducible refine wpList_store_bk (T := 27) (op := ⟨none, .store 27 _ _, _, _, _, none⟩) rfl _ _ rfl Tryz.size27 g #[r0, q0, i0, .int .i64 m.tk, o0, .int .i64 m.pc, z0, .int .i64 m.stop, y0, .int .i64 m.jp, .int .i64 m.dl] #[r3, q3, i3, .int .i64 mc.tk, o3, .int .i64 mc.pc, z3, .int .i64 mc.stop, y3, .int .i64 mc.jp, .int .i64 mc.dl] ?fx ?fy ?fb ?f1 ?f2 ?f3 ?_); (case fx => rfl); (case fy => rfl); (case f1 => exact CZ.out); (case f2 => rfl); (case f3 => exact ON3.out); (case fb => exact BD.out))
      intro wE hbl hg hsz
      have SE := Lib.hid ((SD.out.grown hg ZD).sv)
      have EE := Lib.hid (ED.out.trans (gb_below (B := w.heap.size) hg (by have := Z4.out; omega) (by have := ED.out.size; omega)))
      have XE := Lib.hid hbl
      clear hbl hg hsz
      go_wp2_with fail
      go_roundg (30 - (i + 1))
      case measure => omega
      case rel => exact ⟨i + 1, by omega, rfl, by go_num, _, mc, XE.out, rfl, SE.out, KM.out.1, by have h1 := KM.out.2.1; have := OUT.out; omega, EE.out⟩
    · have hd : decide ((i : Int) < 30) = false := by simp; omega
      have WKE := Lib.hid (wakes7_any wr (TT.out.below BE.out))
      go_wp2_with (go_at_call 28; refine WKE.out.mono ?_; rintro e w' ⟨rfl, bz⟩)
      go_ret
      exact ⟨rfl, BE.out.trans (bz.mono BE.out.size)⟩
end
end Go.Proofs.YtbgmdikcbglpiaaGreatDoor
