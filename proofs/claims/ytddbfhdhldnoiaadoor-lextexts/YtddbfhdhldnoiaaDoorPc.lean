/-
  Words laid with blanks between, ahead, and a remark behind, and the words of that text. No program.
-/
import Derived.Test.YtddbfhdhldnoiaaDoorPb
namespace Go.Proofs.YtddbfhdhldnoiaaDoor
open Go.RowKit

/-- The words of a text at a place, behind words that stand ahead. -/
def V (l : List UInt8) (k : Nat) (acc : List Tk) : List Tk × Nat × Nat := W (l.length + 1) l k acc
theorem V_nil (k : Nat) (acc : List Tk) : V [] k acc = (acc, 0, 0) := rfl
theorem V_rem (r : List UInt8) (k : Nat) (acc : List Tk) : V (59 :: r) k acc = (acc, 0, 0) := by
  unfold V
  rw [List.length_cons, W, if_neg (by decide), if_pos (by decide)]
theorem V_blank {c : UInt8} (h : blk c = true) (r : List UInt8) (k : Nat) (acc : List Tk) : V (c :: r) k acc = V r (k + 1) acc := by
  unfold V
  rw [List.length_cons, W, if_pos h]
theorem V_blanks : ∀ (s r : List UInt8) (k : Nat) (acc : List Tk), (∀ c ∈ s, blk c = true) → V (s ++ r) k acc = V r (k + s.length) acc
  | [], r, k, acc, _ => rfl
  | c :: s, r, k, acc, h => by
    rw [List.cons_append, V_blank (h c (List.mem_cons_self ..)), V_blanks s r (k + 1) acc (fun x hx => h x (List.mem_cons_of_mem _ hx)), List.length_cons]
    congr 1; omega
theorem wd1_first {c : UInt8} {q : List UInt8} {y : Tk × Nat} (h : wd1 (c :: q) = some y) : blk c = false ∧ (c == 59) = false := by
  have hn : ∀ d : UInt8, (d = 32 ∨ d = 9 ∨ d = 59) → wd1 (d :: q) = none := by
    rintro d (rfl | rfl | rfl)
    · simp only [wd1]; rw [if_neg (by decide), if_neg (by decide), if_neg (by decide)]
    · simp only [wd1]; rw [if_neg (by decide), if_neg (by decide), if_neg (by decide)]
    · simp only [wd1]; rw [if_neg (by decide), if_neg (by decide), if_neg (by decide)]
  refine ⟨?_, ?_⟩
  · cases hb : blk c with
    | false => rfl
    | true =>
      have := hn c (by rcases blk_cases hb with h | h; exact .inl h; exact .inr (.inl h))
      rw [this] at h; cases h
  · cases hb : (c == 59) with
    | false => rfl
    | true =>
      rw [beq_iff_eq] at hb
      rw [hn c (.inr (.inr hb))] at h; cases h
theorem V_word {u r : List UInt8} {t : Tk} (h : wd1 (u ++ r) = some (t, u.length)) (k : Nat) (acc : List Tk) (ha : acc.length < 40) : V (u ++ r) k acc = V r (k + u.length) (acc ++ [⟨t.k, t.t, t.n, k⟩]) := by
  have hp := wd1_pos h
  match u, h, hp with
  | [], h, hp => exact absurd hp.1 (by decide)
  | c :: q, h, hp =>
    have hc := h
    rw [List.cons_append] at hc
    obtain ⟨h1, h2⟩ := wd1_first hc
    unfold V
    rw [List.cons_append, List.length_cons, W, if_neg (by rw [h1]; simp), if_neg (by rw [h2]; simp), hc]
    simp only [if_neg (show ¬ 40 ≤ acc.length by omega)]
    rw [show (c :: (q ++ r)).drop (c :: q).length = r from by rw [← List.cons_append, List.drop_left' rfl]]
    exact W_fuel _ _ _ _ _ (by rw [List.length_append]; omega) (by omega)
/-- Words, with the same blanks between, and something behind. -/
def lay (s p : List UInt8) : List Tk → List UInt8
  | [] => p
  | [x] => txT x ++ p
  | x :: y :: r => txT x ++ (s ++ lay s p (y :: r))
/-- Words with their places. -/
def plc (m : Nat) : List Tk → Nat → List Tk
  | [], _ => []
  | x :: r, a => ⟨x.k, x.t, x.n, a⟩ :: plc m r (a + (txT x).length + m)
theorem plc_len (m : Nat) : ∀ (xs : List Tk) (a : Nat), (plc m xs a).length = xs.length
  | [], _ => rfl
  | x :: r, a => by simp only [plc, List.length_cons, plc_len m r]
theorem plc_at (m : Nat) : ∀ (xs : List Tk) (a j : Nat) (x : Tk), xs[j]? = some x → ∃ p : Nat, a ≤ p ∧ (plc m xs a)[j]? = some ⟨x.k, x.t, x.n, p⟩
  | [], _, j, x, h => by simp at h
  | y :: r, a, 0, x, h => by simp at h; subst h; exact ⟨a, Nat.le_refl _, rfl⟩
  | y :: r, a, j + 1, x, h => by
    obtain ⟨p, hp, h2⟩ := plc_at m r (a + (txT y).length + m) j x (by simpa using h)
    exact ⟨p, by omega, by simpa [plc] using h2⟩
theorem plc_rise {m : Nat} (hm : 0 < m) : ∀ (xs : List Tk) (a j : Nat) (t u : Tk), (plc m xs a)[j]? = some t → (plc m xs a)[j + 1]? = some u → t.a < u.a
  | [], _, j, t, u, h, _ => by simp [plc] at h
  | [y], a, j, t, u, _, h => by simp [plc] at h
  | y :: z :: r, a, 0, t, u, h, h2 => by
    simp [plc] at h h2
    subst h h2
    show (a : Int) < ((a + (txT y).length + m : Nat) : Int)
    omega
  | y :: z :: r, a, j + 1, t, u, h, h2 => plc_rise hm (z :: r) (a + (txT y).length + m) j t u (by simpa [plc] using h) (by simpa [plc] using h2)
/-- The words of words that are laid. -/
theorem V_lay {s p : List UInt8} (hs : ∀ c ∈ s, blk c = true) (hs0 : s ≠ []) (hp : Rst p) (hV : ∀ k acc, V p k acc = (acc, 0, 0)) : ∀ (xs : List Tk) (k : Nat) (acc : List Tk), (∀ x ∈ xs, mayB x = true) → acc.length + xs.length ≤ 40 → V (lay s p xs) k acc = (acc ++ plc s.length xs k, 0, 0)
  | [], k, acc, _, _ => by rw [lay, hV, plc, List.append_nil]
  | [x], k, acc, h, hl => by
    rw [lay, V_word (wd1_may (h x (by simp)) p hp) k acc (by simp at hl; omega), hV]
    rfl
  | x :: y :: r, k, acc, h, hl => by
    have hr : Rst (s ++ lay s p (y :: r)) := by
      intro d hd
      cases s with
      | nil => exact absurd rfl hs0
      | cons c q => simp at hd; subst hd; exact hs _ (List.mem_cons_self ..)
    simp only [List.length_cons] at hl
    rw [lay, V_word (wd1_may (h x (by simp)) _ hr) k acc (by omega), V_blanks s _ _ _ hs, V_lay hs hs0 hp hV (y :: r) _ _ (fun z hz => h z (List.mem_cons_of_mem _ hz)) (by rw [List.length_append]; simp only [List.length_cons, List.length_nil]; omega), List.append_assoc]
    rfl
end Go.Proofs.YtddbfhdhldnoiaaDoor
