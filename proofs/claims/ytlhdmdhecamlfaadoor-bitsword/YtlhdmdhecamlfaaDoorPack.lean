/-
  Contracts of the small calls of package bits and of those of package word that it asks: registers and numbers put into a word and taken out of it, and the page's own number of bits. Conditions: a place is one that a layout has; a register is from 0 to 15; a number fits where it says so.
-/
import Derived.Test.YtlhdmdhecamlfaaDoorNum
import Derived.Deep.RegionHeld3
namespace Go.Proofs.YtlhdmdhecamlfaaDoor
open Go.RowKit

def WordPost (x : Int) (w : World) (e : Ending) (w' : World) : Prop := e = .returned (.int .u32 x) ∧ w = w'
theorem word_mk {x x' : Int} {w : World} (h : x' = x) : WordPost x w (.returned (.int .u32 x')) w := by subst h; exact ⟨rfl, rfl⟩
/-- A word and an error; new memory alone. -/
def WordTwo (x c : Int) (w : World) (e : Ending) (w' : World) : Prop := e = .returned (.tuple #[.int .u32 x, .int .i64 c]) ∧ Below w.heap.size w w'
theorem wtwo_mk {x x' c : Int} {w w' : World} (h : x' = x) (hb : Below w.heap.size w w') : WordTwo x c w (.returned (.tuple #[.int .u32 x', .int .i64 c])) w' := by subst h; exact ⟨rfl, hb⟩
def NumTwo (x c : Int) (w : World) (e : Ending) (w' : World) : Prop := e = .returned (.tuple #[.int .i64 x, .int .i64 c]) ∧ Below w.heap.size w w'
theorem ntwo_mk {x x' c : Int} {w w' : World} (h : x' = x) (hb : Below w.heap.size w w') : NumTwo x c w (.returned (.tuple #[.int .i64 x', .int .i64 c])) w' := by subst h; exact ⟨rfl, hb⟩
theorem packReg_any (k : Nat) (r : Int) (w : World) (hk : k = 0 ∨ k = 14 ∨ k = 18 ∨ k = 22) (h0 : 0 ≤ r) (h1 : r < 16) : Calls Tryd.prog 47 #[.int .i64 k, .int .i64 r] w (WordPost (pr k r) w) := by
  obtain rfl | rfl | rfl | rfl := hk
  all_goals
    go_enter Tryd.func47, Tryd.ntmps47
    go_wp2
    go_ret
    exact word_mk (by simp [pr] <;> omega)
theorem unpackReg_any (k : Nat) (x : Int) (w : World) (hk : k = 0 ∨ k = 14 ∨ k = 18 ∨ k = 22) (h0 : 0 ≤ x) (h1 : x ≤ 4294967295) : Calls Tryd.prog 49 #[.int .i64 k, .int .u32 x] w (IntPost (ur k x) w) := by
  obtain rfl | rfl | rfl | rfl := hk
  all_goals
    go_enter Tryd.func49, Tryd.ntmps49
    go_wp2
    go_ret
    exact int_mk (by simp [ur] <;> omega)
def CutPost (x : Int) (w : World) (e : Ending) (w' : World) : Prop := e = .returned (.tuple #[.int .u32 x, .int .i64 0]) ∧ w = w'
theorem cut_mk {x x' : Int} {w : World} (h : x' = x) : CutPost x w (.returned (.tuple #[.int .u32 x', .int .i64 0])) w := by subst h; exact ⟨rfl, rfl⟩
theorem wfits14 (n : Int) (w : World) (hn : -8192 ≤ n) (hn2 : n < 8192) : Calls Tryd.prog 56 #[.int .i64 n, .int .i64 14] w fun e w' => e = .returned (.tuple #[.bool true, .int .i64 0]) ∧ w = w' := by
  have hd : decide (n < 8192) = true := by simpa using hn2
  go_enter Tryd.func56, Tryd.ntmps56
  go_wp2
  go_ret2
  exact ⟨rfl, rfl⟩
theorem mask14 (n : Int) : Go.bits .and .u64 (IntKind.u64.wrap n) 16383 % 4294967296 = n % 16384 := by
  rw [IntKind.wrap_u64]
  have h0 : 0 ≤ n % 18446744073709551616 := by omega
  rw [u64_and _ _ (by omega) (by omega) (by omega) (by omega)]
  have e : (16383 : Int).toNat = 16383 := rfl
  rw [e, nat_mask14]
  omega
theorem mask14b (n : Int) : Go.bits .and .u64 (n % 18446744073709551616) 16383 % 4294967296 = n % 16384 := by
  have := mask14 n
  rwa [IntKind.wrap_u64] at this
theorem cut14 (n : Int) (w : World) (hn : -8192 ≤ n) (hn2 : n < 8192) : Calls Tryd.prog 52 #[.int .i64 n, .int .i64 14] w (CutPost (n % 16384) w) := by
  go_enter Tryd.func52, Tryd.ntmps52
  go_wp2_with (go_at_call 56; refine (wfits14 _ _ hn hn2).mono ?_; rintro e w' ⟨rfl, rfl⟩)
  go_ret2
  exact cut_mk (by first | exact mask14 n | exact mask14b n)
def SignPost14 (x : Int) (w : World) (e : Ending) (w' : World) : Prop := e = .returned (.tuple #[.int .i64 x, .int .i64 0]) ∧ ∃ m, w' = w.drewN m
theorem sign14_lo (n : Int) (w : World) (hn : 0 ≤ n) (hn2 : n < 8192) : Calls Tryd.prog 53 #[.int .u32 n, .int .i64 14] w (SignPost14 n w) := by
  have hnt : n ≤ 4294967295 := by omega
  have hP : n < 16384 := by omega
  go_enter Tryd.func53, Tryd.ntmps53
  go_wp2
  go_quiet (fail)
  go_wp2
  go_ret2
  exact ⟨rfl, _, rfl⟩
theorem sign14_hi (n : Int) (w : World) (hn : 8192 ≤ n) (hn2 : n < 16384) : Calls Tryd.prog 53 #[.int .u32 n, .int .i64 14] w (SignPost14 (n - 16384) w) := by
  have hnt : n ≤ 4294967295 := by omega
  have hn0 : 0 ≤ n := by omega
  go_enter Tryd.func53, Tryd.ntmps53
  go_wp2
  go_quiet (fail)
  go_wp2
  go_ret2
  exact ⟨rfl, _, rfl⟩
theorem rsign14_lo (n : Int) (w : World) (hn : 0 ≤ n) (hn2 : n < 8192) : Calls Tryd.prog 37 #[.int .u32 n, .int .i64 14] w (IntPost n w) := by
  have hnt : n ≤ 4294967295 := by omega
  go_enter Tryd.func37, Tryd.ntmps37
  go_wp2
  go_ret
  exact ⟨rfl, rfl⟩
theorem rsign14_hi (n : Int) (w : World) (hn : 8192 ≤ n) (hn2 : n < 16384) : Calls Tryd.prog 37 #[.int .u32 n, .int .i64 14] w (IntPost (n - 16384) w) := by
  have hnt : n ≤ 4294967295 := by omega
  have hn0 : 0 ≤ n := by omega
  go_enter Tryd.func37, Tryd.ntmps37
  go_wp2
  go_ret
  exact ⟨rfl, rfl⟩
theorem wfits18 (n : Int) (w : World) (hn : -131072 ≤ n) (hn2 : n < 131072) : Calls Tryd.prog 56 #[.int .i64 n, .int .i64 18] w fun e w' => e = .returned (.tuple #[.bool true, .int .i64 0]) ∧ w = w' := by
  have hd : decide (n < 131072) = true := by simpa using hn2
  go_enter Tryd.func56, Tryd.ntmps56
  go_wp2
  go_ret2
  exact ⟨rfl, rfl⟩
theorem mask18 (n : Int) : Go.bits .and .u64 (IntKind.u64.wrap n) 262143 % 4294967296 = n % 262144 := by
  rw [IntKind.wrap_u64]
  have h0 : 0 ≤ n % 18446744073709551616 := by omega
  rw [u64_and _ _ (by omega) (by omega) (by omega) (by omega)]
  have e : (262143 : Int).toNat = 262143 := rfl
  rw [e, nat_mask18]
  omega
theorem mask18b (n : Int) : Go.bits .and .u64 (n % 18446744073709551616) 262143 % 4294967296 = n % 262144 := by
  have := mask18 n
  rwa [IntKind.wrap_u64] at this
theorem cut18 (n : Int) (w : World) (hn : -131072 ≤ n) (hn2 : n < 131072) : Calls Tryd.prog 52 #[.int .i64 n, .int .i64 18] w (CutPost (n % 262144) w) := by
  go_enter Tryd.func52, Tryd.ntmps52
  go_wp2_with (go_at_call 56; refine (wfits18 _ _ hn hn2).mono ?_; rintro e w' ⟨rfl, rfl⟩)
  go_ret2
  exact cut_mk (by first | exact mask18 n | exact mask18b n)
def SignPost18 (x : Int) (w : World) (e : Ending) (w' : World) : Prop := e = .returned (.tuple #[.int .i64 x, .int .i64 0]) ∧ ∃ m, w' = w.drewN m
theorem sign18_lo (n : Int) (w : World) (hn : 0 ≤ n) (hn2 : n < 131072) : Calls Tryd.prog 53 #[.int .u32 n, .int .i64 18] w (SignPost18 n w) := by
  have hnt : n ≤ 4294967295 := by omega
  have hP : n < 262144 := by omega
  go_enter Tryd.func53, Tryd.ntmps53
  go_wp2
  go_quiet (fail)
  go_wp2
  go_ret2
  exact ⟨rfl, _, rfl⟩
theorem sign18_hi (n : Int) (w : World) (hn : 131072 ≤ n) (hn2 : n < 262144) : Calls Tryd.prog 53 #[.int .u32 n, .int .i64 18] w (SignPost18 (n - 262144) w) := by
  have hnt : n ≤ 4294967295 := by omega
  have hn0 : 0 ≤ n := by omega
  go_enter Tryd.func53, Tryd.ntmps53
  go_wp2
  go_quiet (fail)
  go_wp2
  go_ret2
  exact ⟨rfl, _, rfl⟩
theorem rsign18_lo (n : Int) (w : World) (hn : 0 ≤ n) (hn2 : n < 131072) : Calls Tryd.prog 37 #[.int .u32 n, .int .i64 18] w (IntPost n w) := by
  have hnt : n ≤ 4294967295 := by omega
  go_enter Tryd.func37, Tryd.ntmps37
  go_wp2
  go_ret
  exact ⟨rfl, rfl⟩
theorem rsign18_hi (n : Int) (w : World) (hn : 131072 ≤ n) (hn2 : n < 262144) : Calls Tryd.prog 37 #[.int .u32 n, .int .i64 18] w (IntPost (n - 262144) w) := by
  have hnt : n ≤ 4294967295 := by omega
  have hn0 : 0 ≤ n := by omega
  go_enter Tryd.func37, Tryd.ntmps37
  go_wp2
  go_ret
  exact ⟨rfl, rfl⟩
end Go.Proofs.YtlhdmdhecamlfaaDoor
