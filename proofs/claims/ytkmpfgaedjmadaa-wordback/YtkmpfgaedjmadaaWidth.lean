/-
  Contracts of Fits, Cut and Sign, and of the document's own Fits and Sign: for every number and every width from 1 to 32 each returns what the page says; of other widths the error. Nothing that was there has turned.
-/
import Derived.Test.YtkmpfgaedjmadaaCalls
import Derived.Deep.QuietTactic
import Derived.BigQuiet
namespace Go.Proofs.Ytkmpfgaedjmadaa
open Go.RowKit

/-- p and P are the powers of 2 at a width. -/
structure Pow (bits p P : Int) : Prop where
  lo : 1 ≤ bits
  hi : bits ≤ 32
  half : (2 : Int) ^ (bits.toNat - 1) = p
  full : (2 : Int) ^ bits.toNat = P
  twice : P = p + p
  one : 1 ≤ p
  top : p ≤ 2147483648

theorem pow_at (bits : Int) (h1 : 1 ≤ bits) (h2 : bits ≤ 32) : ∃ p P, Pow bits p P := by
  obtain ⟨k, rfl⟩ := Int.eq_ofNat_of_zero_le (show 0 ≤ bits by omega)
  obtain ⟨j, rfl⟩ : ∃ j, k = j + 1 := ⟨k - 1, by omega⟩
  have hj : j ≤ 31 := by omega
  refine ⟨((2 ^ j : Nat) : Int), ((2 ^ (j + 1) : Nat) : Int), h1, h2, ?_, ?_, ?_, ?_, ?_⟩
  · simp [Int.natCast_pow]
  · rw [Int.toNat_natCast, Int.natCast_pow]; rfl
  · have : 2 ^ (j + 1) = 2 ^ j + 2 ^ j := by rw [Nat.pow_succ]; omega
    omega
  · have := Nat.one_le_two_pow (n := j)
    omega
  · have : 2 ^ j ≤ 2 ^ 31 := Nat.pow_le_pow_right (by omega) hj
    omega

theorem and_mask (n bits p P : Int) (h : Pow bits p P) : Go.bits .and .u64 (IntKind.u64.wrap n) (P - 1) % 4294967296 = n % P := by
  obtain ⟨lo, hi, half, full, twice, one, top⟩ := h
  rw [IntKind.wrap_u64]
  have hk : bits.toNat ≤ 32 := by omega
  have hP : P = ((2 ^ bits.toNat : Nat) : Int) := by rw [← full, Int.natCast_pow]; rfl
  have h0 : 0 ≤ n % 18446744073709551616 := by omega
  rw [u64_and _ _ (by omega) (by omega) (by omega) (by omega)]
  have e : (P - 1).toNat = 2 ^ bits.toNat - 1 := by omega
  rw [e, Nat.and_two_pow_sub_one_eq_mod]
  have h64 : (18446744073709551616 : Nat) = 2 ^ 64 := rfl
  have hd : (2 ^ bits.toNat : Nat) ∣ 18446744073709551616 := by rw [h64]; exact Nat.pow_dvd_pow 2 (by omega)
  have hdi : P ∣ (18446744073709551616 : Int) := by
    rw [hP]
    exact Int.natCast_dvd_natCast.2 hd
  have h1 : (((n % 18446744073709551616).toNat % 2 ^ bits.toNat : Nat) : Int) = n % P := by
    rw [Int.natCast_emod, Int.toNat_of_nonneg h0, ← hP, Int.emod_emod_of_dvd _ hdi]
  rw [h1]
  have := Int.emod_nonneg n (show P ≠ 0 by omega)
  have := Int.emod_lt_of_pos n (show 0 < P by omega)
  omega

theorem and_mask2 (n bits p P : Int) (h : Pow bits p P) : Go.bits .and .u64 (IntKind.u64.wrap n) (IntKind.u64.wrap (IntKind.u64.wrap (2 ^ bits.toNat) - 1)) % 4294967296 = n % P := by
  have h1 : IntKind.u64.wrap (IntKind.u64.wrap (2 ^ bits.toNat) - 1) = P - 1 := by
    have h2 := h.twice
    have h3 := h.one
    have h4 := h.top
    rw [h.full, IntKind.wrap_u64, IntKind.wrap_u64]
    omega
  rw [h1]
  exact and_mask n bits p P h

def FitsPost (b : Bool) (k : Int) (w : World) (e : Ending) (w' : World) : Prop := e = .returned (.tuple #[.bool b, .int .i64 k]) ∧ w = w'

section
variable {n bits p P : Int} (w : World)

set_option maxHeartbeats 400000 in
theorem fits_yes (h : Pow bits p P) (hn : -p ≤ n) (hn2 : n < p) : Calls Try.prog 20 #[.int .i64 n, .int .i64 bits] w (FitsPost true 0 w) := by
  obtain ⟨lo, hi, half, full, twice, one, top⟩ := h
  clear full twice
  have hd : decide (n < p) = true := by simpa using hn2
  go_enter Try.func20, Try.ntmps20
  go_wp2
  go_ret2
  exact ⟨rfl, rfl⟩
set_option maxHeartbeats 400000 in
theorem fits_no (h : Pow bits p P) (hn : n < -p ∨ p ≤ n) : Calls Try.prog 20 #[.int .i64 n, .int .i64 bits] w (FitsPost false 0 w) := by
  obtain ⟨lo, hi, half, full, twice, one, top⟩ := h
  clear full twice
  rcases hn with hn | hn
  · go_enter Try.func20, Try.ntmps20
    go_wp2
    go_ret2
    exact ⟨rfl, rfl⟩
  · have hn' : -p ≤ n := by omega
    have hd : decide (n < p) = false := by simp; omega
    go_enter Try.func20, Try.ntmps20
    go_wp2
    go_ret2
    exact ⟨rfl, rfl⟩
set_option maxHeartbeats 400000 in
theorem fits_bad (h : bits < 1 ∨ 32 < bits) : Calls Try.prog 20 #[.int .i64 n, .int .i64 bits] w (FitsPost false 1 w) := by
  rcases h with h | h
  · go_enter Try.func20, Try.ntmps20
    go_wp2
    go_ret2
    exact ⟨rfl, rfl⟩
  · have h1 : 1 ≤ bits := by omega
    have hd : decide (bits ≤ 32) = false := by simp; omega
    go_enter Try.func20, Try.ntmps20
    go_wp2
    go_ret2
    exact ⟨rfl, rfl⟩
set_option maxHeartbeats 400000 in
theorem reffits_yes (h : Pow bits p P) (hn : -p ≤ n) (hn2 : n < p) : Calls Try.prog 22 #[.int .i64 n, .int .i64 bits] w (BoolPost true w) := by
  obtain ⟨lo, hi, half, full, twice, one, top⟩ := h
  clear full twice
  have hd : decide (n < p) = true := by simpa using hn2
  go_enter Try.func22, Try.ntmps22
  go_wp2
  go_ret
  exact ⟨rfl, rfl⟩
set_option maxHeartbeats 400000 in
theorem reffits_no (h : Pow bits p P) (hn : n < -p ∨ p ≤ n) : Calls Try.prog 22 #[.int .i64 n, .int .i64 bits] w (BoolPost false w) := by
  obtain ⟨lo, hi, half, full, twice, one, top⟩ := h
  clear full twice
  rcases hn with hn | hn
  · go_enter Try.func22, Try.ntmps22
    go_wp2
    go_ret
    exact ⟨rfl, rfl⟩
  · have hn' : -p ≤ n := by omega
    have hd : decide (n < p) = false := by simp; omega
    go_enter Try.func22, Try.ntmps22
    go_wp2
    go_ret
    exact ⟨rfl, rfl⟩
set_option maxHeartbeats 400000 in
theorem cut_yes (h : Pow bits p P) (hn : -p ≤ n) (hn2 : n < p) : Calls Try.prog 21 #[.int .i64 n, .int .i64 bits] w (OfPost (n % P) 0 w) := by
  have HM := Lib.hid (and_mask n bits p P h)
  have HP := Lib.hid h
  obtain ⟨lo, hi, half, full, twice, one, top⟩ := h
  have hPt : P ≤ 4294967296 := by omega
  have hPo : 2 ≤ P := by omega
  clear half twice
  go_enter Try.func21, Try.ntmps21
  go_wp2_with (go_at_call 20; refine (fits_yes _ HP.out hn hn2).mono ?_; rintro e w' ⟨rfl, rfl⟩)
  go_ret2
  exact of_mk HM.out rfl
set_option maxHeartbeats 400000 in
theorem cut_no (h : Pow bits p P) (hn : n < -p ∨ p ≤ n) : Calls Try.prog 21 #[.int .i64 n, .int .i64 bits] w (OfPost 0 7 w) := by
  have HP := Lib.hid h
  have HN := Lib.hid hn
  clear h hn
  go_enter Try.func21, Try.ntmps21
  go_wp2_with (go_at_call 20; refine (fits_no _ HP.out HN.out).mono ?_; rintro e w' ⟨rfl, rfl⟩)
  go_ret2
  exact ⟨rfl, rfl⟩
set_option maxHeartbeats 400000 in
theorem cut_bad (h : bits < 1 ∨ 32 < bits) : Calls Try.prog 21 #[.int .i64 n, .int .i64 bits] w (OfPost 0 1 w) := by
  have HB := Lib.hid h
  clear h
  go_enter Try.func21, Try.ntmps21
  go_wp2_with (go_at_call 20; refine (fits_bad _ HB.out).mono ?_; rintro e w' ⟨rfl, rfl⟩)
  go_ret2
  exact ⟨rfl, rfl⟩

def SignPost (x k : Int) (w : World) (e : Ending) (w' : World) : Prop := e = .returned (.tuple #[.int .i64 x, .int .i64 k]) ∧ ∃ m, w' = w.drewN m
theorem sign_mk {x k y : Int} {w : World} {m : Nat} (h : y = x) : SignPost x k w (.returned (.tuple #[.int .i64 y, .int .i64 k])) (w.drewN m) := by subst h; exact ⟨rfl, m, rfl⟩
set_option maxHeartbeats 400000 in
theorem sign_lo (h : Pow bits p P) (hn : 0 ≤ n) (hn2 : n < p) : Calls Try.prog 23 #[.int .u32 n, .int .i64 bits] w (SignPost n 0 w) := by
  have HP := Lib.hid h
  obtain ⟨lo, hi, half, full, twice, one, top⟩ := h
  have hPt : P ≤ 4294967296 := by omega
  have hPo : 2 ≤ P := by omega
  have hPn : n < P := by omega
  have hh : n < P / 2 := by omega
  have hnt : n ≤ 4294967295 := by omega
  clear half twice
  go_enter Try.func23, Try.ntmps23
  go_wp2
  go_quiet (fail)
  go_wp2
  go_ret2
  exact sign_mk rfl
set_option maxHeartbeats 400000 in
theorem sign_hi (h : Pow bits p P) (hn : p ≤ n) (hn2 : n < P) : Calls Try.prog 23 #[.int .u32 n, .int .i64 bits] w (SignPost (n - P) 0 w) := by
  have HP := Lib.hid h
  obtain ⟨lo, hi, half, full, twice, one, top⟩ := h
  have hPt : P ≤ 4294967296 := by omega
  have hPo : 2 ≤ P := by omega
  have hh : P / 2 ≤ n := by omega
  have hn0 : 0 ≤ n := by omega
  have hnt : n ≤ 4294967295 := by omega
  clear half twice hn
  go_enter Try.func23, Try.ntmps23
  go_wp2
  go_quiet (fail)
  go_wp2
  go_ret2
  exact sign_mk rfl
set_option maxHeartbeats 400000 in
theorem sign_no (h : Pow bits p P) (hn : P ≤ n) (hnt : n ≤ 4294967295) : Calls Try.prog 23 #[.int .u32 n, .int .i64 bits] w (SignPost 0 7 w) := by
  have HP := Lib.hid h
  obtain ⟨lo, hi, half, full, twice, one, top⟩ := h
  have hPt : P ≤ 4294967296 := by omega
  have hPo : 2 ≤ P := by omega
  have hn0 : 0 ≤ n := by omega
  clear half twice
  go_enter Try.func23, Try.ntmps23
  go_wp2
  go_quiet (fail)
  go_wp2
  go_ret2
  exact sign_mk rfl
set_option maxHeartbeats 400000 in
theorem sign_bad (h : bits < 1 ∨ 32 < bits) : Calls Try.prog 23 #[.int .u32 n, .int .i64 bits] w (SignPost 0 1 w) := by
  rcases h with h | h
  · go_enter Try.func23, Try.ntmps23
    go_wp2
    go_ret2
    exact ⟨rfl, 0, rfl⟩
  · have h1 : 1 ≤ bits := by omega
    have hd : decide (bits ≤ 32) = false := by simp; omega
    go_enter Try.func23, Try.ntmps23
    go_wp2
    go_ret2
    exact ⟨rfl, 0, rfl⟩
def IntPost (x : Int) (w : World) (e : Ending) (w' : World) : Prop := e = .returned (.int .i64 x) ∧ w = w'
set_option maxHeartbeats 400000 in
theorem refsign_lo (h : Pow bits p P) (hn : 0 ≤ n) (hn2 : n < p) : Calls Try.prog 24 #[.int .u32 n, .int .i64 bits] w (IntPost n w) := by
  obtain ⟨lo, hi, half, full, twice, one, top⟩ := h
  have hnt : n ≤ 4294967295 := by omega
  clear full twice
  go_enter Try.func24, Try.ntmps24
  go_wp2
  go_ret
  exact ⟨rfl, rfl⟩
set_option maxHeartbeats 400000 in
theorem refsign_hi (h : Pow bits p P) (hn : p ≤ n) (hn2 : n < P) : Calls Try.prog 24 #[.int .u32 n, .int .i64 bits] w (IntPost (n - P) w) := by
  obtain ⟨lo, hi, half, full, twice, one, top⟩ := h
  have hPt : P ≤ 4294967296 := by omega
  have hPo : 2 ≤ P := by omega
  have hn0 : 0 ≤ n := by omega
  have hnt : n ≤ 4294967295 := by omega
  clear twice
  go_enter Try.func24, Try.ntmps24
  go_wp2
  go_ret
  exact ⟨rfl, rfl⟩
end
end Go.Proofs.Ytkmpfgaedjmadaa
