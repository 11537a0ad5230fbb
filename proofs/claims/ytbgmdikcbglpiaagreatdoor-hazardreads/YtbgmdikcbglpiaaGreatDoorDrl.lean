/-
  A region that draws its order and ends in one store that waits for all else: the law of Drw for what stands ahead of it, then the store. No program is named here.
-/
import Derived.Test.YtbgmdikcbglpiaaGreatDoorJc
namespace Go.Proofs.YtbgmdikcbglpiaaGreatDoor
open Go.RowKit

section
variable {P : Program} {ops : Array Oper} {Q : Exit → Act → World → Prop} {a0 : Act} {S : World → Prop} {R : Nat → World → Value → Prop}
/-- Each slot is written once, no operation is guarded, each one's slot is there; the last one has none. -/
def drawL (ops : Array Oper) (n : Nat) : Bool := (List.range ops.size).all fun i => match ops[i]? with
  | none => true
  | some o => o.guard.isNone && (match o.dst with
    | none => decide (i + 1 = ops.size)
    | some d => decide (i + 1 < ops.size) && decide (d < n) && (List.range ops.size).all fun j => (j == i) || ((ops[j]?).bind (·.dst)) != some d)
theorem drawL_spec {n : Nat} (h : drawL ops n = true) {i : Nat} {o : Oper} (hi : ops[i]? = some o) : o.guard = none ∧ (i + 1 < ops.size → ∃ d, o.dst = some d ∧ d < n ∧ ∀ j oj, ops[j]? = some oj → oj.dst = some d → j = i) := by
  have hlt : i < ops.size := (Array.getElem?_eq_some_iff.1 hi).1
  have := List.all_eq_true.1 h i (List.mem_range.2 hlt)
  simp only [hi, Bool.and_eq_true] at this
  obtain ⟨h1, h2⟩ := this
  refine ⟨by simpa using h1, fun hn => ?_⟩
  cases hd : o.dst with
  | none => rw [hd] at h2; simp at h2; omega
  | some d =>
    rw [hd] at h2
    simp only [Bool.and_eq_true, decide_eq_true_eq] at h2
    refine ⟨d, rfl, h2.1.2, fun j oj hj hjd => ?_⟩
    have hl : j < ops.size := (Array.getElem?_eq_some_iff.1 hj).1
    have := List.all_eq_true.1 h2.2 j (List.mem_range.2 hl)
    simp only [hj, Option.bind_some, hjd, bne_self_eq_false, Bool.or_false, beq_iff_eq] at this
    exact this
theorem drawL_dst {n : Nat} (h : drawL ops n = true) {i : Nat} {o : Oper} {t : Nat} (hi : ops[i]? = some o) (ht : o.dst = some t) : i + 1 < ops.size := by
  have hlt : i < ops.size := (Array.getElem?_eq_some_iff.1 hi).1
  have := List.all_eq_true.1 h i (List.mem_range.2 hlt)
  simp only [hi, ht, Bool.and_eq_true, decide_eq_true_eq] at this
  exact this.2.1.1
theorem DI.stepL {l : Array Bool} {a : Act} {w : World} (hb : drawL ops a0.tmps.size = true) (st : ∀ i w w' v, Below w.heap.size w w' → R i w v → R i w' v) (h : DI ops a0 S R l a w) {i : Nat} {o : Oper} (hi : ops[i]? = some o) (hn : i + 1 < ops.size) {v : Value} {w' : World} (hs : S w') (hbel : Below w.heap.size w w') (hr : R i w' v) :
    DI ops a0 S R (l.setIfInBounds i true) (a.put o.dst v) w' := by
  obtain ⟨_, hx⟩ := drawL_spec hb hi
  obtain ⟨d, hd, hdn, huniq⟩ := hx hn
  have hdl : d < a.tmps.size := by rw [h.ts]; exact hdn
  have hin : o ∈ ops.toList := by
    obtain ⟨h1, h2⟩ := Array.getElem?_eq_some_iff.1 hi
    rw [← h2]; simp
  refine { sz := by simpa using h.sz, s := hs, df := ?_, ts := ?_, un := fun t ht => ?_, dn := fun j oj t hj hjt hl => ?_ }
  · rw [hd]; exact h.df
  · rw [hd]; simp [Act.put, h.ts]
  · rw [hd, getD_put a d t v hdl]
    have h1 : (o.dst != some t) = true := List.all_eq_true.1 ht o hin
    rw [hd] at h1
    have h2 : d ≠ t := by intro e; subst e; simp at h1
    rw [if_neg h2]
    exact h.un t ht
  · rw [hd, getD_put a d t v hdl]
    by_cases hdt : d = t
    · subst hdt
      have := huniq j oj hj hjt
      subst this
      rw [if_pos rfl]
      exact hr
    · rw [if_neg hdt]
      have hji : j ≠ i := by
        intro e
        subst e
        rw [hi] at hj
        cases hj
        rw [hd] at hjt
        cases hjt
        exact hdt rfl
      refine st j w w' _ hbel (h.dn j oj t hj hjt ?_)
      rw [Array.getD_eq_getD_getElem?, Array.getElem?_setIfInBounds_ne (Ne.symm hji)] at hl
      rw [Array.getD_eq_getD_getElem?]
      exact hl
/-- Does the last one wait for all others? -/
def lastB (ops : Array Oper) : Bool := match ops[ops.size - 1]? with
  | none => false
  | some o => o.dst.isNone && (List.range (ops.size - 1)).all fun j => o.after.any fun e => e.on == j && Region.binds .any e
theorem lastB_spec (h : lastB ops = true) : ∃ o, ops[ops.size - 1]? = some o ∧ o.dst = none ∧ ∀ j, j + 1 < ops.size → ∃ e ∈ o.after, e.on = j ∧ Region.binds .any e = true := by
  unfold lastB at h
  cases ho : ops[ops.size - 1]? with
  | none => rw [ho] at h; cases h
  | some o =>
    rw [ho] at h
    simp only [Bool.and_eq_true] at h
    refine ⟨o, rfl, by simpa using h.1, fun j hj => ?_⟩
    have := List.all_eq_true.1 h.2 j (List.mem_range.2 (by omega))
    obtain ⟨e, he, hp⟩ := Array.any_eq_true'.1 this
    simp only [Bool.and_eq_true, beq_iff_eq] at hp
    exact ⟨e, he, hp.1, hp.2⟩
theorem wpAny_dl (hb : drawL ops a0.tmps.size = true) (hk : backB ops = true) (hla : lastB ops = true) (st : ∀ i w w' v, Below w.heap.size w w' → R i w v → R i w' v) (hs : DSteps P ops a0 S R 0 (ops.toList.take (ops.size - 1)))
    (fin : ∀ o l a w (K : Act → World → Prop), ops[ops.size - 1]? = some o → DI ops a0 S R l a w → (∀ j, j + 1 < ops.size → l.getD j false = true) → (∀ a w, Q .normal a w → K a w) → o.wp P a w K Q) :
    ∀ (fuel : Nat) (l : Array Bool) (a : Act) (w : World), l.toList.countP (fun b => !b) ≤ fuel → DI ops a0 S R l a w → l.getD (ops.size - 1) true = false → wpAny P .any ops Q fuel l a w := by
  obtain ⟨ol, hol, hdl, hlast⟩ := lastB_spec hla
  have hpos : 0 < ops.size := by have := (Array.getElem?_eq_some_iff.1 hol).1; omega
  have rd : ∀ l a w, DI ops a0 S R l a w → l.getD (ops.size - 1) true = false → Region.ready .any ops l ≠ [] := fun l a w h h0 hr => by
    have hall := ready_nil hr (back_spec hk) h.sz (ops.size - 1) (by omega)
    have hlt : ops.size - 1 < l.size := by rw [h.sz]; omega
    rw [Array.getD_eq_getD_getElem?, Array.getElem?_eq_getElem hlt] at hall h0
    rw [show l[ops.size - 1] = true from hall] at h0
    cases h0
  intro fuel
  induction fuel with
  | zero =>
    intro l a w hc h h0
    exfalso
    have hlt : ops.size - 1 < l.size := by rw [h.sz]; omega
    have h1 : l[ops.size - 1] = false := by rw [Array.getD_eq_getD_getElem?, Array.getElem?_eq_getElem hlt] at h0; exact h0
    have := count_set hlt h1
    omega
  | succ fuel ih =>
    intro l a w hc h hl0
    refine ⟨fun hr => absurd hr (rd l a w h hl0), fun i hm => ?_⟩
    obtain ⟨h0, oj, hoj, hall⟩ := mem_ready.1 hm
    have hlt : i < l.size := by
      rcases Nat.lt_or_ge i l.size with h' | h'
      · exact h'
      · simp [Array.getElem?_eq_none h'] at h0
    have h1 : l[i] = false := by simpa [hlt] using h0
    have hct := count_set hlt h1
    have hg := (drawL_spec hb hoj).1
    unfold wpOp
    simp only [hoj, Region.wanted, hg, if_true]
    refine .inl ?_
    by_cases hn : i + 1 < ops.size
    · have hst := hs.at_ (i := i) (o := oj) (by rw [List.getElem?_take, if_pos (by omega)]; simpa using hoj)
      rw [Nat.zero_add] at hst
      refine hst a w _ Q h.s h.un (fun j t hjt => ?_) fun v w' hsw hbel hr => ih _ _ _ (by omega) (h.stepL hb st hoj hn hsw hbel hr) ?_
      · obtain ⟨p, hp, hpj⟩ := List.any_eq_true.1 hjt
        simp only [Bool.and_eq_true, beq_iff_eq] at hpj
        obtain ⟨rfl, rfl⟩ := hpj
        obtain ⟨e, he, hp2⟩ := List.mem_filterMap.1 hp
        by_cases hbe : Region.binds .any e = true
        · rw [if_pos hbe] at hp2
          cases hoe : ops[e.on]? with
          | none => rw [hoe] at hp2; simp at hp2
          | some oe =>
            rw [hoe] at hp2
            cases hde : oe.dst with
            | none => rw [Option.bind_some, hde] at hp2; simp at hp2
            | some t =>
              rw [Option.bind_some, hde] at hp2
              simp only [Option.map_some, Option.some.injEq] at hp2
              subst hp2
              refine h.dn e.on oe t hoe hde ?_
              have := hall e (by simpa using he) hbe
              simpa using this
        · rw [if_neg hbe] at hp2; cases hp2
      · rw [Array.getD_eq_getD_getElem?, Array.getElem?_setIfInBounds_ne (by omega), ← Array.getD_eq_getD_getElem?]
        exact hl0
    · have hi : i = ops.size - 1 := by have := h.sz; omega
      subst hi
      rw [hol] at hoj
      cases hoj
      have hdone : ∀ j, j + 1 < ops.size → l.getD j false = true := fun j hj => by
        obtain ⟨e, he, hej, hbe⟩ := hlast j hj
        subst hej
        simpa using hall e he hbe
      refine fin ol l a w _ hol h hdone fun a' w' hq => ?_
      have hz : ∀ j, j < ops.size → (l.setIfInBounds (ops.size - 1) true).getD j true = true := fun j hj => by
        by_cases hj2 : j = ops.size - 1
        · subst hj2
          rw [Array.getD_eq_getD_getElem?, Array.getElem?_setIfInBounds_self_of_lt hlt]
          rfl
        · rw [Array.getD_eq_getD_getElem?, Array.getElem?_setIfInBounds_ne (Ne.symm hj2)]
          have := hdone j (by omega)
          rw [Array.getD_eq_getD_getElem?] at this
          cases hh : l[j]? with
          | none => rfl
          | some b => rw [hh] at this; simpa using this
      have hre : Region.ready .any ops (l.setIfInBounds (ops.size - 1) true) = [] := by
        cases hr : Region.ready .any ops (l.setIfInBounds (ops.size - 1) true) with
        | nil => rfl
        | cons j js =>
          exfalso
          have hm : j ∈ Region.ready .any ops (l.setIfInBounds (ops.size - 1) true) := by rw [hr]; simp
          obtain ⟨q0, oq, hoq, _⟩ := mem_ready.1 hm
          rw [hz j (Array.getElem?_eq_some_iff.1 hoq).1] at q0
          cases q0
      cases fuel with
      | zero => exact ⟨hre, hq⟩
      | succ fuel => exact ⟨fun _ => hq, fun j hm => by rw [hre] at hm; cases hm⟩
/-- THE BEGINNING. -/
theorem wp_region_dl {id : Nat} (hm : P.follows .mixedOrders = true) {w : World} (hb : drawL ops a0.tmps.size = true) (hk : backB ops = true) (hla : lastB ops = true) (st : ∀ i w w' v, Below w.heap.size w w' → R i w v → R i w' v) (h0 : S w.drew) (hs : DSteps P ops a0 S R 0 (ops.toList.take (ops.size - 1)))
    (fin : ∀ o l a w (K : Act → World → Prop), ops[ops.size - 1]? = some o → DI ops a0 S R l a w → (∀ j, j + 1 < ops.size → l.getD j false = true) → (∀ a w, Q .normal a w → K a w) → o.wp P a w K Q) : (Code.region id ops true).wp P Q a0 w := by
  refine wp_region_any hm (wpAny_dl hb hk hla st hs fin _ _ _ _ ?_ ?_ ?_)
  · simp [List.countP_replicate]
  · exact { sz := by simp, s := h0, df := rfl, ts := rfl, un := fun _ _ => rfl, dn := fun i o t hi hd hl => absurd hl (by rw [Array.getD_eq_getD_getElem?, Array.getElem?_replicate]; split <;> simp) }
  · obtain ⟨ol, hol, _⟩ := lastB_spec hla
    have := (Array.getElem?_eq_some_iff.1 hol).1
    rw [Array.getD_eq_getD_getElem?, Array.getElem?_replicate, if_pos this]
    rfl
/-- The frame ahead of the last one, written out. -/
theorem DI.formL {l : Array Bool} {a : Act} {w : World} (hb : drawL ops a0.tmps.size = true) (h : DI ops a0 S R l a w) (hd : ∀ j, j + 1 < ops.size → l.getD j false = true) : ∃ vs : Nat → Value, (∀ i o t, ops[i]? = some o → o.dst = some t → R i w (vs t)) ∧ a = putAll ops.toList vs a0 := by
  refine ⟨fun t => a.tmps.getD t undef, fun i o t hi ht => h.dn i o t hi ht (hd i (drawL_dst hb hi ht)), ?_⟩
  have h1 := putAll_size ops.toList (fun t => a.tmps.getD t undef) a0
  have h2 := putAll_getD ops.toList (fun t => a.tmps.getD t undef) a0
  generalize putAll ops.toList (fun t => a.tmps.getD t undef) a0 = b at h1 h2
  obtain ⟨tb, db⟩ := b
  have h3 := h.df
  have h4 := h.ts
  have h5 := h.un
  obtain ⟨ta, da⟩ := a
  simp only at h1 h2 h3 h4 h5
  rw [h3, h1.2]
  congr 1
  apply Array.ext
  · rw [h4, h1.1]
  · intro i h6 h7
    have h8 := h2 i (by omega)
    have h9 : ta.getD i undef = tb.getD i undef := by
      rw [h8]
      by_cases hc : (ops.toList.all fun o => o.dst != some i) = true
      · rw [if_pos hc]; exact h5 i hc
      · rw [if_neg hc]
    simp only [Array.getD_eq_getD_getElem?, Array.getElem?_eq_getElem h6, Array.getElem?_eq_getElem h7, Option.getD_some] at h9
    exact h9
end
end Go.Proofs.YtbgmdikcbglpiaaGreatDoor
