/-
  The lines of a text as the page has them are what strings.Split gives at a line s end. No program.
-/
import Derived.Test.YtddbfhdhldnoiaaDoorPs
import Derived.Test.YtddbfhdhldnoiaaDoorShelf
import Derived.Lib.SplitLaws
namespace Go.Proofs.YtddbfhdhldnoiaaDoor
open Go.RowKit

/-- What has been read of a line goes ahead of its first part. -/
def pre (f : List UInt8) : List (List UInt8) → List (List UInt8)
  | [] => []
  | p :: ps => (f ++ p) :: ps
theorem pre_pre (f g : List UInt8) (L : List (List UInt8)) : pre f (pre g L) = pre (f ++ g) L := by cases L <;> simp [pre]
theorem spl_pre : ∀ (l cur : List UInt8), spl cur l = pre cur (spl [] l)
  | [], cur => by simp [spl, pre]
  | c :: r, cur => by
    by_cases h : c = 10
    · simp only [spl, if_pos h, pre, List.append_nil]
    · simp only [spl, if_neg h, List.nil_append]
      rw [spl_pre r (cur ++ [c]), spl_pre r [c], pre_pre]
theorem spl_count : ∀ l cur : List UInt8, (spl cur l).length = l.count 10 + 1
  | [], _ => rfl
  | c :: r, cur => by
    by_cases h : c = 10
    · subst h
      simp only [spl, if_true, List.length_cons, spl_count r []]
      simp
    · simp only [spl, if_neg h]
      rw [spl_count r _, List.count_cons_of_ne h]
theorem occ_nl (l : List UInt8) (j : Nat) : Lib.occAt l [10] j = decide (l[j]? = some 10) := by
  unfold Lib.occAt
  by_cases hj : j < l.length
  · rw [drop_at hj, List.getElem?_eq_getElem hj]
    show ((10 == l[j]) && true) = _
    rw [Bool.and_true, Bool.eq_iff_iff]
    simp only [beq_iff_eq, decide_eq_true_eq, Option.some.injEq]
    exact ⟨Eq.symm, Eq.symm⟩
  · rw [List.drop_of_length_le (by omega), List.getElem?_eq_none (by omega)]
    rfl
theorem idx_hit (r : List UInt8) : Lib.index (10 :: r) [10] = (0 : Nat) := Lib.index_first (Nat.zero_le _) (by rw [occ_nl]; simp) (fun j hj => absurd hj (Nat.not_lt_zero _))
theorem idx_none {c : UInt8} {r : List UInt8} (hc : c ≠ 10) (h : Lib.index r [10] = -1) : Lib.index (c :: r) [10] = -1 := by
  refine Lib.index_none fun j hj => ?_
  rcases Lib.index_spec r [10] with ⟨_, h2⟩ | ⟨i, h2, _⟩
  · cases j with
    | zero => rw [occ_nl]; simp [hc]
    | succ j =>
      have := h2 j (by simp only [List.length_cons] at hj; omega)
      rw [occ_nl] at this ⊢
      simpa using this
  · omega
theorem idx_some {c : UInt8} {r : List UInt8} {i : Nat} (hc : c ≠ 10) (h : Lib.index r [10] = i) : Lib.index (c :: r) [10] = ((i + 1 : Nat) : Int) := by
  rcases Lib.index_spec r [10] with ⟨h1, _⟩ | ⟨i', h1, h2, h3, h4⟩
  · omega
  · have : i' = i := by omega
    subst this
    refine Lib.index_first (by simp only [List.length_cons]; omega) ?_ fun j hj => ?_
    · rw [occ_nl] at h3 ⊢
      simpa using h3
    · cases j with
      | zero => rw [occ_nl]; simp [hc]
      | succ j =>
        have := h4 j (by omega)
        rw [occ_nl] at this ⊢
        simpa using this
theorem splitK_spl : ∀ (n : Nat) (l : List UInt8), l.length ≤ n → Lib.splitK [10] 0 (Lib.count l [10]) l = spl [] l
  | _, [], _ => by
    have h : Lib.index [] [10] = -1 := by decide
    rw [Lib.count_miss h]; rfl
  | 0, c :: r, h => by simp at h
  | n + 1, c :: r, hl => by
    simp only [List.length_cons] at hl
    have ih := splitK_spl n r (by omega)
    by_cases hc : c = 10
    · subst hc
      rw [Lib.count_hit (by simp) (idx_hit r), Nat.add_comm 1, Lib.splitK, idx_hit]
      rw [if_neg (by decide)]
      simp only [spl, if_true]
      show [] :: Lib.splitK [10] 0 (Lib.count r [10]) r = _
      rw [ih]
    · rcases Lib.index_spec r [10] with ⟨h1, _⟩ | ⟨i, h1, _⟩
      · rw [Lib.count_miss (idx_none hc h1)]
        rw [Lib.count_miss h1] at ih
        simp only [spl, if_neg hc, List.nil_append]
        rw [spl_pre, ← ih]
        rfl
      · have e1 := idx_some hc h1
        rw [Lib.count_hit (by simp) e1, Nat.add_comm 1, Lib.splitK, e1, if_neg (by simp; omega)]
        rw [Lib.count_hit (by simp) h1, Nat.add_comm 1, Lib.splitK, h1, if_neg (by simp)] at ih
        simp only [spl, if_neg hc, List.nil_append]
        rw [spl_pre, ← ih]
        simp only [pre, Int.toNat_natCast, Nat.add_zero, List.length_cons, List.length_nil, List.take_succ_cons, List.singleton_append]
        rw [show (c :: r).drop (i + 1 + (0 + 1)) = r.drop (i + (0 + 1)) from rfl]
end Go.Proofs.YtddbfhdhldnoiaaDoor
