/-
  May a word be, as the page reckons it: the same as the program. No program.
-/
import Derived.Test.YtddbfhdhldnoiaaDoorPd
namespace Go.Proofs.YtddbfhdhldnoiaaDoor
open Go.RowKit

theorem wd1_kind3 : ∀ {u : List UInt8} {t : Tk} {n : Nat}, wd1 u = some (t, n) → (t.k = 1 ∧ t.t = u.take n ∧ t.n = 0) ∨ (t.k = 2 ∧ t.t = []) ∨ (t.k = 3 ∧ t.t = u.take n ∧ t.n = 0)
  | c :: q, t, n, h => by
    simp only [wd1] at h
    split at h
    · split at h
      · simp only [Option.some.injEq, Prod.mk.injEq] at h
        obtain ⟨rfl, rfl⟩ := h
        exact .inl ⟨rfl, rfl, rfl⟩
      · cases h
    · split at h
      · split at h
        · split at h
          · cases h
          · simp only [Option.some.injEq, Prod.mk.injEq] at h
            obtain ⟨rfl, rfl⟩ := h
            exact .inr (.inl ⟨rfl, rfl⟩)
        · split at h
          · cases h
          · simp only [Option.some.injEq, Prod.mk.injEq] at h
            obtain ⟨rfl, rfl⟩ := h
            exact .inr (.inl ⟨rfl, rfl⟩)
      · split at h
        · simp only [Option.some.injEq, Prod.mk.injEq] at h
          obtain ⟨rfl, rfl⟩ := h
          exact .inr (.inr ⟨rfl, rfl, rfl⟩)
        · cases h
/-- The page's test of a word that is no number. -/
def pgN (t : Tk) : Bool := decide (t.n = 0) && (!t.t.isEmpty && (decide (o1E t.t = t.t.length) && decide ((o1T t.t).k = t.k)))
theorem pgN_may {t : Tk} (hk : t.k = 1 ∨ t.k = 3) : pgN t = mayB t := by
  have h2 : t.k ≠ 2 := by omega
  rw [Bool.eq_iff_iff]
  constructor
  · intro h
    unfold pgN at h
    simp only [Bool.and_eq_true, decide_eq_true_eq, Bool.not_eq_true'] at h
    obtain ⟨h0, h1, h3, h4⟩ := h
    have hne : t.t ≠ [] := by intro e; rw [e] at h1; cases h1
    cases hw : wd1 t.t with
    | none =>
      rw [(o1_none hw).2] at h3
      exact absurd (List.length_eq_zero_iff.1 h3.symm) hne
    | some y =>
      obtain ⟨y, m⟩ := y
      rw [(o1_some hw).2] at h3
      rw [(o1_some hw).1] at h4
      have hw0 : wd1 (t.t.drop 0) = some (y, m) := hw
      have hy : y.t = t.t ∧ y.n = 0 := by
        rcases wd1_kind3 hw with ⟨a, b, c⟩ | ⟨a, b⟩ | ⟨a, b, c⟩
        · exact ⟨by rw [b, h3, List.take_length], c⟩
        · omega
        · exact ⟨by rw [b, h3, List.take_length], c⟩
      unfold mayB
      rw [if_neg h2, (wdT_some hw0).1]
      simp only [Bool.and_eq_true, Bool.not_eq_true', decide_eq_true_eq, beq_iff_eq]
      exact ⟨h1, ⟨h4, hy.1⟩, by rw [hy.2, h0]⟩
  · intro h
    have hw := wd1_may h [] (fun d hd => by cases hd)
    rw [List.append_nil] at hw
    have ht : txT t = t.t := by unfold txT; rw [if_neg h2]
    rw [ht] at hw
    have hne : t.t.isEmpty = false := by
      unfold mayB at h
      rw [if_neg h2] at h
      simp only [Bool.and_eq_true, Bool.not_eq_true'] at h
      exact h.1
    unfold pgN
    rw [(o1_some hw).1, (o1_some hw).2]
    simp only [Bool.and_eq_true, decide_eq_true_eq, Bool.not_eq_true']
    refine ⟨?_, hne, trivial, trivial⟩
    rcases wd1_kind3 hw with ⟨_, _, c⟩ | ⟨a, _⟩ | ⟨_, _, c⟩
    · exact c
    · exact absurd a h2
    · exact c
theorem may_none {t : Tk} (h1 : t.k ≠ 1) (h2 : t.k ≠ 2) (h3 : t.k ≠ 3) : mayB t = false := by
  cases h : mayB t with
  | false => rfl
  | true =>
    have hw := wd1_may h [] (fun d hd => by cases hd)
    rcases wd1_kind3 hw with ⟨a, _, _⟩ | ⟨a, _⟩ | ⟨a, _, _⟩
    · exact absurd a h1
    · exact absurd a h2
    · exact absurd a h3
/-- What begins with a blank or a remark is no word. -/
theorem may_head {t : Tk} (hk : t.k ≠ 2) {c : UInt8} {q : List UInt8} (ht : t.t = c :: q) (hc : c = 32 ∨ c = 9 ∨ c = 59) : mayB t = false := by
  cases h : mayB t with
  | false => rfl
  | true =>
    have hw := wd1_may h [] (fun d hd => by cases hd)
    have h2 : txT t = t.t := by unfold txT; rw [if_neg hk]
    rw [List.append_nil, h2, ht] at hw
    obtain ⟨hb, h59⟩ := wd1_first hw
    rcases hc with rfl | rfl | rfl
    · exact absurd hb (by decide)
    · exact absurd hb (by decide)
    · exact absurd h59 (by decide)
end Go.Proofs.YtddbfhdhldnoiaaDoor
