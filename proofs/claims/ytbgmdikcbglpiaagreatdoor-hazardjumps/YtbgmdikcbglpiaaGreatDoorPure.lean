/-
  Contracts of the small calls of both sides that leave the world as it was, or only make new memory: what each returns is told by the Lean functions of module Tab and of this one. Conditions: the tables lie in the world; ops from 0 to 33, forms from 0 to 9 where it says so.
-/
import Derived.Test.YtbgmdikcbglpiaaGreatDoorTab
import Derived.Deep.QuietTactic
import Derived.BigQuiet
namespace Go.Proofs.YtbgmdikcbglpiaaGreatDoor
open Go.RowKit

def BoolPost (b : Bool) (w : World) (e : Ending) (w' : World) : Prop := e = .returned (.bool b) ∧ w = w'
def IntPost (x : Int) (w : World) (e : Ending) (w' : World) : Prop := e = .returned (.int .i64 x) ∧ w = w'
def IntBelow (x : Int) (w : World) (e : Ending) (w' : World) : Prop := e = .returned (.int .i64 x) ∧ Below w.heap.size w w'
def BoolBelow (b : Bool) (w : World) (e : Ending) (w' : World) : Prop := e = .returned (.bool b) ∧ Below w.heap.size w w'
theorem bool_mk {b b' : Bool} {w : World} (h : b' = b) : BoolPost b w (.returned (.bool b')) w := by subst h; exact ⟨rfl, rfl⟩
theorem int_mk {x x' : Int} {w : World} (h : x' = x) : IntPost x w (.returned (.int .i64 x')) w := by subst h; exact ⟨rfl, rfl⟩
theorem intb_mk {x x' : Int} {w w' : World} (h : x' = x) (hb : Below w.heap.size w w') : IntBelow x w (.returned (.int .i64 x')) w' := by subst h; exact ⟨rfl, hb⟩
theorem below_new (w : World) (o : Obj) : Below w.heap.size w (w.alloc o) := (Below.refl _ _).alloc (Nat.le_refl _) _

theorem str_ne {a b : ByteArray} (h : a ≠ b) : (a.toList == b.toList) = false := by
  rw [beq_eq_false_iff_ne]
  intro e
  rw [ByteArray.toList_eq, ByteArray.toList_eq] at e
  obtain ⟨x⟩ := a
  obtain ⟨y⟩ := b
  exact h (congrArg ByteArray.mk (Array.toList_inj.1 e))
theorem isOp_yes (n : Nat) (w : World) (h : n < 34) : Calls Tryz.prog 101 #[.int .i64 n] w (BoolPost true w) := by
  have h1 : (0 : Int) ≤ (n : Int) := by omega
  have h2 : (n : Int) ≤ 33 := by omega
  go_enter Tryz.func101, Tryz.ntmps101
  go_wp2
  go_ret
  exact ⟨rfl, rfl⟩
theorem isOp_no (op : Int) (w : World) (h : op < 0 ∨ 33 < op) : Calls Tryz.prog 101 #[.int .i64 op] w (BoolPost false w) := by
  rcases h with h | h
  · have hd : decide ((0 : Int) ≤ op) = false := by simp; omega
    go_enter Tryz.func101, Tryz.ntmps101
    go_wp2
    go_ret
    exact ⟨rfl, rfl⟩
  · have h1 : (0 : Int) ≤ op := by omega
    have hd : decide (op ≤ 33) = false := by simp; omega
    go_enter Tryz.func101, Tryz.ntmps101
    go_wp2
    go_ret
    exact ⟨rfl, rfl⟩
theorem between_yes (n lo hi : Int) (w : World) (h1 : lo ≤ n) (h2 : n ≤ hi) : Calls Tryz.prog 34 #[.int .i64 n, .int .i64 lo, .int .i64 hi] w (BoolPost true w) := by
  go_enter Tryz.func34, Tryz.ntmps34
  go_wp2
  go_ret
  exact ⟨rfl, rfl⟩
theorem between_no (n lo hi : Int) (w : World) (h : n < lo ∨ hi < n) : Calls Tryz.prog 34 #[.int .i64 n, .int .i64 lo, .int .i64 hi] w (BoolPost false w) := by
  by_cases h1 : lo ≤ n
  · have hd : decide (n ≤ hi) = false := by simp; omega
    clear h
    go_enter Tryz.func34, Tryz.ntmps34
    go_wp2
    go_ret
    exact ⟨rfl, rfl⟩
  · have hd : decide (lo ≤ n) = false := by simpa using h1
    clear h
    go_enter Tryz.func34, Tryz.ntmps34
    go_wp2
    go_ret
    exact ⟨rfl, rfl⟩
theorem valid_yes (n : Nat) (w : World) (h : n < 34) : Calls Tryz.prog 31 #[.int .i64 n] w (BoolPost true w) := by
  go_enter Tryz.func31, Tryz.ntmps31
  go_wp2_with (go_at_call 34; refine (between_yes _ _ _ _ (by omega) (by omega)).mono ?_; rintro e w' ⟨rfl, rfl⟩)
  go_ret
  exact ⟨rfl, rfl⟩
theorem valid_no (op : Int) (w : World) (h : op < 0 ∨ 33 < op) : Calls Tryz.prog 31 #[.int .i64 op] w (BoolPost false w) := by
  have H := Lib.hid h
  clear h
  go_enter Tryz.func31, Tryz.ntmps31
  go_wp2_with (go_at_call 34; refine (between_no _ _ _ _ H.out).mono ?_; rintro e w' ⟨rfl, rfl⟩)
  go_ret
  exact ⟨rfl, rfl⟩
theorem num_any (x : Int) (w : World) : Calls Tryz.prog 12 #[.int .i64 x] w (IntPost x w) := by
  go_enter Tryz.func12, Tryz.ntmps12
  go_wp2
  go_ret
  exact ⟨rfl, rfl⟩
/-- A register, if it has one; else 0. -/
def fitsB (has : Bool) (r : Int) : Bool := if has then decide (0 ≤ r) && decide (r < 16) else decide (r = 0)
theorem fits_any (has : Bool) (r : Int) (w : World) : Calls Tryz.prog 102 #[.bool has, .int .i64 r] w (BoolPost (fitsB has r) w) := by
  cases has
  · go_enter Tryz.func102, Tryz.ntmps102
    go_wp2
    go_ret
    exact bool_mk (by simp [fitsB] <;> rfl)
  · by_cases h0 : 0 ≤ r
    · go_enter Tryz.func102, Tryz.ntmps102
      go_wp2
      go_ret
      exact bool_mk (by simp [fitsB, h0])
    · have hd : decide (0 ≤ r) = false := by simpa using h0
      go_enter Tryz.func102, Tryz.ntmps102
      go_wp2
      go_ret
      exact bool_mk (by simp [fitsB]; omega)
/-- A number from 0 to a greatest. -/
def numB (x m : Int) : Bool := decide (0 ≤ x) && decide (x ≤ m)
theorem nu_any (x m : Int) (w : World) : Calls Tryz.prog 17 #[.int .i64 x, .int .i64 m] w (BoolPost (numB x m) w) := by
  by_cases h0 : 0 ≤ x
  · go_enter Tryz.func17, Tryz.ntmps17
    go_wp2
    go_ret
    exact bool_mk (by simp [numB, h0])
  · have hd : decide (0 ≤ x) = false := by simpa using h0
    go_enter Tryz.func17, Tryz.ntmps17
    go_wp2
    go_ret
    exact bool_mk (by simp [numB]; omega)
theorem reg_any (has : Bool) (r : Int) (w : World) : Calls Tryz.prog 107 #[.int .i64 r, .bool has] w (BoolPost (fitsB has r) w) := by
  cases has
  · go_enter Tryz.func107, Tryz.ntmps107
    go_wp2
    go_ret
    exact bool_mk (by simp [fitsB] <;> rfl)
  · go_enter Tryz.func107, Tryz.ntmps107
    go_wp2_with (go_at_call 17; refine (nu_any _ _ _).mono ?_; rintro e w' ⟨rfl, rfl⟩)
    go_ret
    exact bool_mk (by unfold fitsB numB; rw [Bool.eq_iff_iff]; simp; omega)
/-- Bits of a form's Imm. -/
def bt (f : Nat) : Int := [0, 0, 0, 14, 18, 14, 0, 0, 18, 14].getD f 0
def wideB (x h : Int) : Bool := decide (-h ≤ x) && decide (x < h)
theorem wide14 (x : Int) (w : World) : Calls Tryz.prog 109 #[.int .i64 x, .int .i64 14] w (BoolPost (wideB x 8192) w) := by
  by_cases h0 : -8192 ≤ x
  · go_enter Tryz.func109, Tryz.ntmps109
    go_wp2
    go_ret
    exact bool_mk (by simp [wideB, h0])
  · have hd : decide (-8192 ≤ x) = false := by simpa using h0
    go_enter Tryz.func109, Tryz.ntmps109
    go_wp2
    go_ret
    exact bool_mk (by simp [wideB]; omega)
theorem wide18 (x : Int) (w : World) : Calls Tryz.prog 109 #[.int .i64 x, .int .i64 18] w (BoolPost (wideB x 131072) w) := by
  by_cases h0 : -131072 ≤ x
  · go_enter Tryz.func109, Tryz.ntmps109
    go_wp2
    go_ret
    exact bool_mk (by simp [wideB, h0])
  · have hd : decide (-131072 ≤ x) = false := by simpa using h0
    go_enter Tryz.func109, Tryz.ntmps109
    go_wp2
    go_ret
    exact bool_mk (by simp [wideB]; omega)
theorem hasD_any (f : Nat) (w : World) (h : f < 10) : Calls Tryz.prog 33 #[.int .i64 f] w (BoolPost (sd f) w) := by
  obtain rfl | rfl | rfl | rfl | rfl | rfl | rfl | rfl | rfl | rfl : f = 0 ∨ f = 1 ∨ f = 2 ∨ f = 3 ∨ f = 4 ∨ f = 5 ∨ f = 6 ∨ f = 7 ∨ f = 8 ∨ f = 9 := by omega
  all_goals
    clear h
    go_enter Tryz.func33, Tryz.ntmps33
    go_wp2
    go_ret
    exact bool_mk (by decide)
theorem hasA_any (f : Nat) (w : World) (h : f < 10) : Calls Tryz.prog 91 #[.int .i64 f] w (BoolPost (sa f) w) := by
  obtain rfl | rfl | rfl | rfl | rfl | rfl | rfl | rfl | rfl | rfl : f = 0 ∨ f = 1 ∨ f = 2 ∨ f = 3 ∨ f = 4 ∨ f = 5 ∨ f = 6 ∨ f = 7 ∨ f = 8 ∨ f = 9 := by omega
  all_goals
    clear h
    go_enter Tryz.func91, Tryz.ntmps91
    go_wp2
    go_ret
    exact bool_mk (by decide)
theorem hasB_any (f : Nat) (w : World) (h : f < 10) : Calls Tryz.prog 92 #[.int .i64 f] w (BoolPost (sb f) w) := by
  obtain rfl | rfl | rfl | rfl | rfl | rfl | rfl | rfl | rfl | rfl : f = 0 ∨ f = 1 ∨ f = 2 ∨ f = 3 ∨ f = 4 ∨ f = 5 ∨ f = 6 ∨ f = 7 ∨ f = 8 ∨ f = 9 := by omega
  all_goals
    clear h
    go_enter Tryz.func92, Tryz.ntmps92
    go_wp2
    go_ret
    exact bool_mk (by decide)
theorem target_any (f : Nat) (w : World) (h : f < 10) : Calls Tryz.prog 110 #[.int .i64 f] w (BoolPost (stg f) w) := by
  obtain rfl | rfl | rfl | rfl | rfl | rfl | rfl | rfl | rfl | rfl : f = 0 ∨ f = 1 ∨ f = 2 ∨ f = 3 ∨ f = 4 ∨ f = 5 ∨ f = 6 ∨ f = 7 ∨ f = 8 ∨ f = 9 := by omega
  all_goals
    clear h
    go_enter Tryz.func110, Tryz.ntmps110
    go_wp2
    go_ret
    exact bool_mk (by decide)
theorem bits_any (f : Nat) (w : World) (h : f < 10) : Calls Tryz.prog 111 #[.int .i64 f] w (IntPost (bt f) w) := by
  obtain rfl | rfl | rfl | rfl | rfl | rfl | rfl | rfl | rfl | rfl : f = 0 ∨ f = 1 ∨ f = 2 ∨ f = 3 ∨ f = 4 ∨ f = 5 ∨ f = 6 ∨ f = 7 ∨ f = 8 ∨ f = 9 := by omega
  all_goals
    clear h
    go_enter Tryz.func111, Tryz.ntmps111
    go_wp2
    go_ret
    exact int_mk (by decide)
end Go.Proofs.YtbgmdikcbglpiaaGreatDoor
