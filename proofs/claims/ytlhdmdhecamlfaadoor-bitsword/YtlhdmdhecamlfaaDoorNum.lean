/-
  Words of instructions as plain numbers: the word of an instruction's fields, the fields of a word, and that each is the other's. No program is named here. Conditions: as each says.
-/
import Derived.Test.YtlhdmdhecamlfaaDoorRefIns
import Derived.Laws.BitsAllLaws
namespace Go.Proofs.YtlhdmdhecamlfaaDoor
open Go.RowKit

/-- A register in its place; taken out of it. -/
def pr (k : Nat) (r : Int) : Int := if k = 0 then 0 else r * 2 ^ k
def ur (k : Nat) (w : Int) : Int := if k = 0 then 0 else w / 2 ^ k % 16
/-- The Imm in its place; taken out of it. -/
def pim (f : Nat) (m : Int) : Int := if lm f = 0 then 0 else m % 2 ^ lm f
def uim (f : Nat) (w : Int) : Int := if lm f = 0 then 0 else if stg f then w % 2 ^ lm f else if w % 2 ^ lm f < 2 ^ (lm f - 1) then w % 2 ^ lm f else w % 2 ^ lm f - 2 ^ lm f
/-- The word. -/
def wd (n : Nat) (d a b m : Int) : Int := n * 67108864 + pr (ld (fm n)) d + pr (la (fm n)) a + pr (lb (fm n)) b + pim (fm n) m
def opW (w : Int) : Nat := (w / 67108864).toNat

/-- Each field is as its form has it. -/
structure Fit (n : Nat) (d a b m : Int) : Prop where
  d0 : 0 ≤ d
  d1 : d < 16
  a0 : 0 ≤ a
  a1 : a < 16
  b0 : 0 ≤ b
  b1 : b < 16
  dz : sd (fm n) = false → d = 0
  az : sa (fm n) = false → a = 0
  bz : sb (fm n) = false → b = 0
  im : immB (fm n) m = true
theorem fits_parts {h : Bool} {r : Int} (hh : fitsB h r = true) : 0 ≤ r ∧ r < 16 ∧ (h = false → r = 0) := by
  cases h
  · simp [fitsB] at hh; omega
  · simp [fitsB] at hh; exact ⟨hh.1, hh.2, fun h => by cases h⟩
theorem fits_of {h : Bool} {r : Int} (h0 : 0 ≤ r) (h1 : r < 16) (hz : h = false → r = 0) : fitsB h r = true := by
  cases h
  · simp [fitsB, hz rfl]
  · simp [fitsB, h0, h1]
theorem ins_fit {n : Nat} {d a b m : Int} {s : ByteArray} (h : insB n d a b m s = true) (hs : s.size = 0) : Fit n d a b m := by
  unfold insB at h
  rw [rest_imm hs] at h
  simp only [Bool.and_eq_true] at h
  obtain ⟨⟨⟨h1, h2⟩, h3⟩, h4⟩ := h
  obtain ⟨p1, p2, p3⟩ := fits_parts h1
  obtain ⟨q1, q2, q3⟩ := fits_parts h2
  obtain ⟨r1, r2, r3⟩ := fits_parts h3
  exact ⟨p1, p2, q1, q2, r1, r2, p3, q3, r3, h4⟩
theorem fit_ins {n : Nat} {d a b m : Int} {s : ByteArray} (h : Fit n d a b m) (hs : s.size = 0) : insB n d a b m s = true := by
  unfold insB
  rw [rest_imm hs, fits_of h.d0 h.d1 h.dz, fits_of h.a0 h.a1 h.az, fits_of h.b0 h.b1 h.bz, h.im]
  rfl

/-! ### Bits that do not meet -/
theorem or_add (i : Nat) (x y : Int) (h0 : 0 ≤ x) (h1 : x % 2 ^ i = 0) (h2 : 0 ≤ y) (h3 : y < 2 ^ i) (h4 : x + y < 4294967296) : bits .or .u32 x y = x + y := by
  obtain ⟨x, rfl⟩ := Int.eq_ofNat_of_zero_le h0
  obtain ⟨y, rfl⟩ := Int.eq_ofNat_of_zero_le h2
  have e1 : x % 2 ^ i = 0 := by exact_mod_cast h1
  have e3 : y < 2 ^ i := by exact_mod_cast h3
  rw [u32_or_nat x y (by omega) (by omega), nat_join i x y e1 e3]
  simp
theorem or_mid (i j : Nat) (x a z : Int) (h0 : 0 ≤ x) (h1 : x % 2 ^ j = 0) (h2 : 0 ≤ a) (h3 : a < 2 ^ i) (h4 : 0 ≤ z) (h5 : z % 2 ^ i = 0) (h6 : z < 2 ^ j) (hij : i ≤ j) (h7 : x + a + z < 4294967296) : bits .or .u32 (x + a) z = x + a + z := by
  obtain ⟨x, rfl⟩ := Int.eq_ofNat_of_zero_le h0
  obtain ⟨a, rfl⟩ := Int.eq_ofNat_of_zero_le h2
  obtain ⟨z, rfl⟩ := Int.eq_ofNat_of_zero_le h4
  have e1 : x % 2 ^ j = 0 := by exact_mod_cast h1
  have e3 : a < 2 ^ i := by exact_mod_cast h3
  have e5 : z % 2 ^ i = 0 := by exact_mod_cast h5
  have e6 : z < 2 ^ j := by exact_mod_cast h6
  have hd : 2 ^ i ∣ 2 ^ j := Nat.pow_dvd_pow 2 hij
  have e8 : x % 2 ^ i = 0 := Nat.mod_eq_zero_of_dvd (Nat.dvd_trans hd (Nat.dvd_of_mod_eq_zero e1))
  have e9 : (x + z) % 2 ^ i = 0 := by rw [Nat.add_mod, e8, e5]; simp
  have e : (x + a) ||| z = x + a + z := by
    have h1 : x + a = x ||| a := (nat_join i x a e8 e3).symm
    have h2 : (x ||| a) ||| z = x + z + a := by
      rw [Nat.or_assoc, Nat.or_comm a z, ← Nat.or_assoc, nat_join j x z e1 e6, nat_join i (x + z) a e9 e3]
    rw [← h1] at h2
    omega
  have h8 : ((x : Int) + a) = ((x + a : Nat) : Int) := by simp
  rw [h8, u32_or_nat (x + a) z (by omega) (by omega), e]
  simp

theorem or_five (o D A B M : Int) (o0 : 0 ≤ o) (o1 : o % 67108864 = 0) (o2 : o ≤ 4227858432) (D0 : 0 ≤ D) (D1 : D % 4194304 = 0) (D2 : D ≤ 62914560) (A0 : 0 ≤ A) (A1 : A % 262144 = 0) (A2 : A ≤ 3932160) (B0 : 0 ≤ B) (B1 : B % 16384 = 0) (B2 : B ≤ 245760) (M0 : 0 ≤ M) (M1 : M < 16384 ∨ B = 0 ∧ M < 262144) :
    bits .or .u32 (bits .or .u32 (bits .or .u32 (bits .or .u32 o D) A) B) M = o + D + A + B + M := by
  rw [or_add 26 o D (by omega) (by omega) (by omega) (by omega) (by omega), or_add 22 (o + D) A (by omega) (by omega) (by omega) (by omega) (by omega), or_add 18 (o + D + A) B (by omega) (by omega) (by omega) (by omega) (by omega)]
  rcases M1 with h | ⟨h1, h2⟩
  · rw [or_add 14 (o + D + A + B) M (by omega) (by omega) (by omega) (by omega) (by omega)]
  · rw [or_add 18 (o + D + A + B) M (by omega) (by omega) (by omega) (by omega) (by omega)]
theorem or_store (o A B M : Int) (o0 : 0 ≤ o) (o1 : o % 67108864 = 0) (o2 : o ≤ 4227858432) (B0 : 0 ≤ B) (B1 : B % 4194304 = 0) (B2 : B ≤ 62914560) (A0 : 0 ≤ A) (A1 : A % 262144 = 0) (A2 : A ≤ 3932160) (M0 : 0 ≤ M) (M1 : M < 16384) :
    bits .or .u32 (bits .or .u32 (bits .or .u32 (bits .or .u32 o 0) A) B) M = o + A + B + M := by
  rw [or_add 26 o 0 (by omega) (by omega) (by omega) (by omega) (by omega), Int.add_zero, or_add 22 o A (by omega) (by omega) (by omega) (by omega) (by omega), or_mid 22 26 o A B (by omega) (by omega) (by omega) (by omega) (by omega) (by omega) (by omega) (by omega) (by omega), or_add 14 (o + A + B) M (by omega) (by omega) (by omega) (by omega) (by omega)]
/-- As the page joins them: A ahead of D. -/
theorem or_page (o D A B M : Int) (o0 : 0 ≤ o) (o1 : o % 67108864 = 0) (o2 : o ≤ 4227858432) (D0 : 0 ≤ D) (D1 : D % 4194304 = 0) (D2 : D ≤ 62914560) (A0 : 0 ≤ A) (A1 : A % 262144 = 0) (A2 : A ≤ 3932160) (B0 : 0 ≤ B) (B1 : B % 16384 = 0) (B2 : B ≤ 245760) (M0 : 0 ≤ M) (M1 : M < 16384 ∨ B = 0 ∧ M < 262144) :
    bits .or .u32 (bits .or .u32 (bits .or .u32 (bits .or .u32 o A) D) B) M = o + D + A + B + M := by
  rw [or_add 22 o A (by omega) (by omega) (by omega) (by omega) (by omega), or_mid 22 26 o A D (by omega) (by omega) (by omega) (by omega) (by omega) (by omega) (by omega) (by omega) (by omega), or_add 18 (o + A + D) B (by omega) (by omega) (by omega) (by omega) (by omega)]
  rcases M1 with h | ⟨h1, h2⟩
  · rw [or_add 14 (o + A + D + B) M (by omega) (by omega) (by omega) (by omega) (by omega)]; omega
  · rw [or_add 18 (o + A + D + B) M (by omega) (by omega) (by omega) (by omega) (by omega)]; omega
theorem or_page0 (o D A B : Int) (o0 : 0 ≤ o) (o1 : o % 67108864 = 0) (o2 : o ≤ 4227858432) (D0 : 0 ≤ D) (D1 : D % 4194304 = 0) (D2 : D ≤ 62914560) (A0 : 0 ≤ A) (A1 : A % 262144 = 0) (A2 : A ≤ 3932160) (B0 : 0 ≤ B) (B1 : B % 16384 = 0) (B2 : B ≤ 245760) :
    bits .or .u32 (bits .or .u32 (bits .or .u32 o A) D) B = o + D + A + B := by
  rw [or_add 22 o A (by omega) (by omega) (by omega) (by omega) (by omega), or_mid 22 26 o A D (by omega) (by omega) (by omega) (by omega) (by omega) (by omega) (by omega) (by omega) (by omega), or_add 18 (o + A + D) B (by omega) (by omega) (by omega) (by omega) (by omega)]
  omega
theorem or_page5 (o A B M : Int) (o0 : 0 ≤ o) (o1 : o % 67108864 = 0) (o2 : o ≤ 4227858432) (B0 : 0 ≤ B) (B1 : B % 4194304 = 0) (B2 : B ≤ 62914560) (A0 : 0 ≤ A) (A1 : A % 262144 = 0) (A2 : A ≤ 3932160) (M0 : 0 ≤ M) (M1 : M < 16384) :
    bits .or .u32 (bits .or .u32 (bits .or .u32 o A) B) M = o + A + B + M := by
  rw [or_add 22 o A (by omega) (by omega) (by omega) (by omega) (by omega), or_mid 22 26 o A B (by omega) (by omega) (by omega) (by omega) (by omega) (by omega) (by omega) (by omega) (by omega), or_add 14 (o + A + B) M (by omega) (by omega) (by omega) (by omega) (by omega)]

theorem forms10 {f : Nat} (h : f < 10) : f = 0 ∨ f = 1 ∨ f = 2 ∨ f = 3 ∨ f = 4 ∨ f = 5 ∨ f = 6 ∨ f = 7 ∨ f = 8 ∨ f = 9 := by omega
section
variable {n : Nat} {d a b m : Int}
/-- As the program joins them. -/
theorem or_pack {f : Nat} (hf : f < 10) (hfm : fm n = f) (h : Fit n d a b m) (hn : n < 64) : bits .or .u32 (bits .or .u32 (bits .or .u32 (bits .or .u32 (n * 67108864) (pr (ld f) d)) (pr (la f) a)) (pr (lb f) b)) (pim f m) = wd n d a b m := by
  obtain ⟨d0, d1, a0, a1, b0, b1, dz, az, bz, im⟩ := h
  unfold wd
  rw [hfm] at *
  clear hfm
  obtain rfl | rfl | rfl | rfl | rfl | rfl | rfl | rfl | rfl | rfl := forms10 hf
  all_goals
    simp [pr, ld, la, lb, pim, lm, layRows, sd, sa, sb, formRows, immB, stg, bt, numB, wideB] at *
  all_goals
    first
      | (rw [or_store _ _ _ _ (by omega) (by omega) (by omega) (by omega) (by omega) (by omega) (by omega) (by omega) (by omega) (by omega) (by omega)]; done)
      | (rw [or_five _ _ _ _ _ (by omega) (by omega) (by omega) (by omega) (by omega) (by omega) (by omega) (by omega) (by omega) (by omega) (by omega) (by omega) (by omega) (by first | (left; omega) | (right; omega))]; try omega)
/-- As the page joins them. -/
theorem or_ref {f : Nat} (hf : f < 10) (h5 : f ≠ 5) (hfm : fm n = f) (h : Fit n d a b m) (hn : n < 64) (M : Int) (hM : M = pim f m) (h0 : lm f ≠ 0) : bits .or .u32 (bits .or .u32 (bits .or .u32 (bits .or .u32 (n * 67108864) (a * 262144)) (d * 4194304)) (b * 16384)) M = wd n d a b m := by
  obtain ⟨d0, d1, a0, a1, b0, b1, dz, az, bz, im⟩ := h
  unfold wd
  rw [hfm] at *
  clear hfm
  subst hM
  obtain rfl | rfl | rfl | rfl | rfl | rfl | rfl | rfl | rfl | rfl := forms10 hf
  all_goals
    simp [pr, ld, la, lb, pim, lm, layRows, sd, sa, sb, formRows, immB, stg, bt, numB, wideB] at *
  all_goals
    rw [or_page _ _ _ _ _ (by omega) (by omega) (by omega) (by omega) (by omega) (by omega) (by omega) (by omega) (by omega) (by omega) (by omega) (by omega) (by omega) (by first | (left; omega) | (right; omega))]; try omega
theorem or_ref0 {f : Nat} (hf : f < 10) (hfm : fm n = f) (h : Fit n d a b m) (hn : n < 64) (h0 : lm f = 0) : bits .or .u32 (bits .or .u32 (bits .or .u32 (n * 67108864) (a * 262144)) (d * 4194304)) (b * 16384) = wd n d a b m := by
  obtain ⟨d0, d1, a0, a1, b0, b1, dz, az, bz, im⟩ := h
  unfold wd
  rw [hfm] at *
  clear hfm
  obtain rfl | rfl | rfl | rfl | rfl | rfl | rfl | rfl | rfl | rfl := forms10 hf
  all_goals
    simp [pr, ld, la, lb, pim, lm, layRows, sd, sa, sb, formRows, immB, stg, bt] at *
  all_goals
    rw [or_page0 _ _ _ _ (by omega) (by omega) (by omega) (by omega) (by omega) (by omega) (by omega) (by omega) (by omega) (by omega) (by omega) (by omega)]; try omega
theorem or_ref5 (hfm : fm n = 5) (h : Fit n d a b m) (hn : n < 64) (M : Int) (hM : M = pim 5 m) : bits .or .u32 (bits .or .u32 (bits .or .u32 (n * 67108864) (a * 262144)) (b * 4194304)) M = wd n d a b m := by
  obtain ⟨d0, d1, a0, a1, b0, b1, dz, az, bz, im⟩ := h
  unfold wd
  rw [hfm] at *
  clear hfm
  subst hM
  simp [pr, ld, la, lb, pim, lm, layRows, sd, sa, sb, formRows, immB, stg, bt, wideB] at *
  rw [or_page5 _ _ _ _ (by omega) (by omega) (by omega) (by omega) (by omega) (by omega) (by omega) (by omega) (by omega) (by omega) (by omega)]
theorem wd_u32 (h : Fit n d a b m) (hn : n < 34) : 0 ≤ wd n d a b m ∧ wd n d a b m ≤ 4294967295 := by
  obtain ⟨d0, d1, a0, a1, b0, b1, dz, az, bz, im⟩ := h
  have hf := fm_lt hn
  unfold wd
  generalize fm n = f at *
  obtain rfl | rfl | rfl | rfl | rfl | rfl | rfl | rfl | rfl | rfl := forms10 hf
  all_goals
    simp [pr, ld, la, lb, pim, lm, layRows, sd, sa, sb, formRows, immB, stg, bt, numB, wideB] at *
    omega
/-- The fields of a word are those that it was made of. -/
theorem wd_back (h : Fit n d a b m) (hn : n < 34) : opW (wd n d a b m) = n ∧ ur (ld (fm n)) (wd n d a b m) = d ∧ ur (la (fm n)) (wd n d a b m) = a ∧ ur (lb (fm n)) (wd n d a b m) = b ∧ uim (fm n) (wd n d a b m) = m := by
  obtain ⟨d0, d1, a0, a1, b0, b1, dz, az, bz, im⟩ := h
  have hf := fm_lt hn
  unfold wd opW
  generalize fm n = f at *
  obtain rfl | rfl | rfl | rfl | rfl | rfl | rfl | rfl | rfl | rfl := forms10 hf
  all_goals
    simp [pr, ur, uim, ld, la, lb, pim, lm, layRows, sd, sa, sb, formRows, immB, stg, bt, numB, wideB] at *
    and_intros <;> first | omega | (split <;> omega)
end
end Go.Proofs.YtlhdmdhecamlfaaDoor
