/-
  How a run of so many steps is told step by step: a relation that a loop keeps, and what runs have in common. No program is named here.
-/
import Derived.Test.YtpnmlednningkaaDoorStp
namespace Go.Proofs.YtpnmlednningkaaDoor
open Go.RowKit

/-- A state that may be, with its stop. -/
structure Okk (m : M) : Prop where
  ok : Ok m
  s0 : 0 ≤ m.stop
  s5 : m.stop ≤ 5
variable {P : List In5} {m m0 : M} {n i : Nat}
theorem runP_stop (h : m.stop ≠ 0) : runP P n m = (m, 0) := by
  cases n with
  | zero => rfl
  | succ n => unfold runP; rw [if_neg h]
theorem runP_go (h : m.stop = 0) : runP P (n + 1) m = ((runP P n (stepP P m)).1, (runP P n (stepP P m)).2 + 1) := by
  rw [runP, if_pos h]
theorem stop_stp (x : In5) (h : m.stop = 0) : 0 ≤ (stp x m).stop ∧ (stp x m).stop ≤ 4 := by
  unfold stp
  by_cases c : x.o = 0; · rw [if_pos c]; simp [goto, h]
  rw [if_neg c]
  by_cases c : x.o ≤ 22
  · rw [if_pos c]
    split <;> simp [stop, put, h]
  rw [if_neg c]
  by_cases c : x.o = 23; · rw [if_pos c]; simp [put, h]
  rw [if_neg c]
  by_cases c : x.o = 24
  · rw [if_pos c]
    split <;> simp [stop, put, h]
  rw [if_neg c]
  by_cases c : x.o = 25
  · rw [if_pos c]
    split <;> simp [stop, goto, h]
  rw [if_neg c]
  by_cases c : x.o = 26
  · rw [if_pos c]
    have h2 : (tak m).2.stop = m.stop := by unfold tak; split <;> rfl
    simp [put, h2, h]
  rw [if_neg c]
  by_cases c : x.o = 27; · rw [if_pos c]; simp [goto, h]
  rw [if_neg c]
  by_cases c : x.o = 28; · rw [if_pos c]; simp [goto, h]
  rw [if_neg c]
  by_cases c : x.o = 29; · rw [if_pos c]; simp [goto, h]
  rw [if_neg c]
  by_cases c : x.o = 30; · rw [if_pos c]; simp [goto, h]
  rw [if_neg c]
  by_cases c : x.o = 31
  · rw [if_pos c]
    split <;> simp [stop, goto, h]
  rw [if_neg c]
  by_cases c : x.o = 32
  · rw [if_pos c]
    split <;> simp [stop, goto, h]
  rw [if_neg c]
  simp [stop]
theorem stop_step (h : m.stop = 0) : 0 ≤ (stepP P m).stop ∧ (stepP P m).stop ≤ 5 := by
  unfold stepP
  split
  · simp [stop]
  · have := stop_stp (P.getD m.pc zi) h; omega
/-- What a loop that steps keeps: m stands i steps behind m0, of n. -/
structure At (P : List In5) (m0 : M) (n i : Nat) (m : M) : Prop where
  le : i ≤ n
  run : runP P n m0 = ((runP P (n - i) m).1, (runP P (n - i) m).2 + i)
  ok : Okk m
  out : m.out.length ≤ m0.out.length + i
theorem At.zero (k : Okk m0) : At P m0 n 0 m0 := ⟨Nat.zero_le _, rfl, k, Nat.le_refl _⟩
theorem At.step (h : At P m0 n i m) (v : Vp P) (hb : m0.out.length + n ≤ 1000000) (hi : i < n) (hs : m.stop = 0) : At P m0 n (i + 1) (stepP P m) := by
  have ho := h.out
  have e : n - i = (n - (i + 1)) + 1 := by omega
  refine ⟨hi, ?_, ⟨h.ok.ok.step v (by omega), (stop_step hs).1, (stop_step hs).2⟩, ?_⟩
  · rw [h.run, e, runP_go hs]
    simp only [Prod.mk.injEq, true_and]
    omega
  · have := out_step v m; omega
theorem At.full (h : At P m0 n n m) : runP P n m0 = (m, n) := by
  rw [h.run, Nat.sub_self]; simp [runP]
theorem At.stopped (h : At P m0 n i m) (hs : m.stop ≠ 0) : runP P n m0 = (m, i) := by
  rw [h.run, runP_stop hs]; simp
theorem At.done (h : At P m0 n i m) (hd : n ≤ i ∨ m.stop ≠ 0) : runP P n m0 = (m, i) := by
  rcases hd with h1 | h1
  · have h2 := h.le
    obtain rfl : i = n := by omega
    exact h.full
  · exact h.stopped h1
/-- What a run leads to may be, and its outputs are at most so many more. -/
theorem run_okk (v : Vp P) (k : Okk m) (hb : m.out.length + n ≤ 1000000) : Okk (runP P n m).1 ∧ (runP P n m).1.out.length ≤ m.out.length + n ∧ (runP P n m).2 ≤ n := by
  induction n generalizing m with
  | zero => exact ⟨k, Nat.le_refl _, Nat.le_refl _⟩
  | succ n ih =>
    by_cases hs : m.stop = 0
    · rw [runP_go hs]
      have h1 := out_step v m
      have h2 := ih (m := stepP P m) ⟨k.ok.step v (by omega), (stop_step hs).1, (stop_step hs).2⟩ (by omega)
      exact ⟨h2.1, by have := h2.2.1; simp only; omega, by have := h2.2.2; simp only; omega⟩
    · rw [runP_stop hs]
      exact ⟨k, by simp only; omega, by simp only; omega⟩
/-- Two runs behind one another are one. -/
theorem runP_add (a b : Nat) (m : M) : runP P (a + b) m = ((runP P b (runP P a m).1).1, (runP P a m).2 + (runP P b (runP P a m).1).2) := by
  induction a generalizing m with
  | zero => simp [runP]
  | succ a ih =>
    by_cases hs : m.stop = 0
    · rw [show a + 1 + b = (a + b) + 1 by omega, runP_go hs, runP_go hs, ih]
      simp only [Prod.mk.injEq, true_and]
      omega
    · rw [runP_stop hs, runP_stop hs]
      simp only
      rw [runP_stop hs]
      rfl
/-- A run that was not stopped has all its steps. -/
theorem runP_all (n : Nat) (m : M) (h : (runP P n m).1.stop = 0) : (runP P n m).2 = n := by
  induction n generalizing m with
  | zero => rfl
  | succ n ih =>
    by_cases hs : m.stop = 0
    · rw [runP_go hs] at h ⊢
      simp only at h ⊢
      rw [ih _ h]
    · rw [runP_stop hs] at h
      exact absurd h hs
end Go.Proofs.YtpnmlednningkaaDoor
