/-
  The small calls of package lex and of the page: whether a byte is a digit, whether a name begins with it, what a digit tells, where blanks end. They leave the world as it was.
-/
import Derived.Test.YtddbfhdhldnoiaaDoorLx
import Derived.Test.YtddbfhdhldnoiaaDoorRows
import Derived.WalkKit
import Derived.WalkSpells
import Derived.WalkLawsBesides
import Derived.Lib.Hide
import Derived.Below
import Derived.OpenShut
import Derived.LaidMore
import Derived.Deep.QuietTactic
import Derived.BigQuiet
import Derived.IntWalk
namespace Go.Proofs.YtddbfhdhldnoiaaDoor
open Go.RowKit

def BoolPost (b : Bool) (w : World) (e : Ending) (w' : World) : Prop := e = .returned (.bool b) ∧ w = w'
def IntPost (x : Int) (w : World) (e : Ending) (w' : World) : Prop := e = .returned (.int .i64 x) ∧ w = w'
def BoolBelow (b : Bool) (w : World) (e : Ending) (w' : World) : Prop := e = .returned (.bool b) ∧ Below w.heap.size w w'
theorem bool_mk {b b' : Bool} {w : World} (h : b' = b) : BoolPost b w (.returned (.bool b')) w := by subst h; exact ⟨rfl, rfl⟩
theorem int_mk {x x' : Int} {w : World} (h : x' = x) : IntPost x w (.returned (.int .i64 x')) w := by subst h; exact ⟨rfl, rfl⟩
theorem u8_int (c : UInt8) : (0 : Int) ≤ (c.toNat : Int) ∧ (c.toNat : Int) ≤ 255 := by have := c.toNat_lt; omega
theorem below_new (w : World) (o : Obj) : Below w.heap.size w (w.alloc o) := (Below.refl _ _).alloc (Nat.le_refl _) _
theorem get_list (s : ByteArray) (k : Nat) (h : k < s.size) : s.data.toList[k]'(by simpa using h) = s[k] := rfl
theorem len_list (s : ByteArray) : s.data.toList.length = s.size := by simp
theorem spnS_yes {p : UInt8 → Bool} {s : ByteArray} {k : Nat} (h : k < s.size) (hp : p s[k] = true) : spn p (s.data.toList.drop k) = spn p (s.data.toList.drop (k + 1)) + 1 := spn_yes (l := s.data.toList) (by simpa using h) hp
theorem spnS_no {p : UInt8 → Bool} {s : ByteArray} {k : Nat} (h : k < s.size) (hp : p s[k] = false) : spn p (s.data.toList.drop k) = 0 := spn_no (l := s.data.toList) (by simpa using h) hp
theorem spnS_end {p : UInt8 → Bool} {s : ByteArray} {k : Nat} (h : s.size ≤ k) : spn p (s.data.toList.drop k) = 0 := spn_end (l := s.data.toList) (by simpa using h)
theorem spnS_le (p : UInt8 → Bool) (s : ByteArray) (k : Nat) : spn p (s.data.toList.drop k) ≤ s.size - k := by have := spn_le p (s.data.toList.drop k); simpa using this
theorem isdig_any (x : Int) (w : World) : Calls Tryd.prog 45 #[.int .u8 x] w (BoolPost (dgI x) w) := by
  by_cases h1 : 48 ≤ x
  · by_cases h2 : x ≤ 57
    · rw [show dgI x = true from dgI_iff.2 ⟨h1, h2⟩]
      go_enter Tryd.func45, Tryd.ntmps45
      go_wp2
      go_ret
      exact ⟨rfl, rfl⟩
    · have e2 : decide (x ≤ 57) = false := by simpa using h2
      rw [show dgI x = false by unfold dgI; rw [e2]; simp]
      clear h2
      go_enter Tryd.func45, Tryd.ntmps45
      go_wp2
      go_ret
      exact ⟨rfl, rfl⟩
  · have e1 : decide (48 ≤ x) = false := by simpa using h1
    rw [show dgI x = false by unfold dgI; rw [e1]; simp]
    clear h1
    go_enter Tryd.func45, Tryd.ntmps45
    go_wp2
    go_ret
    exact ⟨rfl, rfl⟩
theorem rdig_any (x : Int) (w : World) : Calls Tryd.prog 51 #[.int .u8 x] w (BoolPost (dgI x) w) := by
  by_cases h1 : 48 ≤ x
  · by_cases h2 : x ≤ 57
    · rw [show dgI x = true from dgI_iff.2 ⟨h1, h2⟩]
      go_enter Tryd.func51, Tryd.ntmps51
      go_wp2
      go_ret
      exact ⟨rfl, rfl⟩
    · have e2 : decide (x ≤ 57) = false := by simpa using h2
      rw [show dgI x = false by unfold dgI; rw [e2]; simp]
      clear h2
      go_enter Tryd.func51, Tryd.ntmps51
      go_wp2
      go_ret
      exact ⟨rfl, rfl⟩
  · have e1 : decide (48 ≤ x) = false := by simpa using h1
    rw [show dgI x = false by unfold dgI; rw [e1]; simp]
    clear h1
    go_enter Tryd.func51, Tryd.ntmps51
    go_wp2
    go_ret
    exact ⟨rfl, rfl⟩
theorem begins_any (x : Int) (w : World) : Calls Tryd.prog 43 #[.int .u8 x] w (BoolPost (ltI x) w) := by
  have key : (97 ≤ x ∧ x ≤ 122) ∨ (97 ≤ x ∧ 122 < x) ∨ x = 95 ∨ x = 46 ∨ (x < 97 ∧ x ≠ 95 ∧ x ≠ 46) := by omega
  rcases key with ⟨h1, h2⟩ | ⟨h1, h2⟩ | h | h | ⟨h1, h2, h3⟩
  · rw [show ltI x = true by unfold ltI; simp [h1, h2]]
    go_enter Tryd.func43, Tryd.ntmps43
    go_wp2
    go_ret
    exact ⟨rfl, rfl⟩
  · have e1 : decide (x ≤ 122) = false := by simp; omega
    have e2 : (x == 95) = false := by rw [beq_eq_false_iff_ne]; omega
    have e3 : (x == 46) = false := by rw [beq_eq_false_iff_ne]; omega
    rw [show ltI x = false by unfold ltI; rw [e1]; simp; omega]
    clear h2
    go_enter Tryd.func43, Tryd.ntmps43
    go_wp2
    go_ret
    exact ⟨rfl, rfl⟩
  · subst h
    go_enter Tryd.func43, Tryd.ntmps43
    go_wp2
    go_ret
    exact ⟨rfl, rfl⟩
  · subst h
    go_enter Tryd.func43, Tryd.ntmps43
    go_wp2
    go_ret
    exact ⟨rfl, rfl⟩
  · have e1 : decide (97 ≤ x) = false := by simp; omega
    have e2 : (x == 95) = false := by rw [beq_eq_false_iff_ne]; omega
    have e3 : (x == 46) = false := by rw [beq_eq_false_iff_ne]; omega
    rw [show ltI x = false by unfold ltI; rw [e1]; simp; omega]
    clear h1 h2 h3
    go_enter Tryd.func43, Tryd.ntmps43
    go_wp2
    go_ret
    exact ⟨rfl, rfl⟩
theorem rletter_any (x : Int) (w : World) : Calls Tryd.prog 50 #[.int .u8 x] w (BoolPost (ltI x) w) := by
  have key : (97 ≤ x ∧ x ≤ 122) ∨ (97 ≤ x ∧ 122 < x) ∨ x = 95 ∨ x = 46 ∨ (x < 97 ∧ x ≠ 95 ∧ x ≠ 46) := by omega
  rcases key with ⟨h1, h2⟩ | ⟨h1, h2⟩ | h | h | ⟨h1, h2, h3⟩
  · rw [show ltI x = true by unfold ltI; simp [h1, h2]]
    go_enter Tryd.func50, Tryd.ntmps50
    go_wp2
    go_ret
    exact ⟨rfl, rfl⟩
  · have e1 : decide (x ≤ 122) = false := by simp; omega
    have e2 : (x == 95) = false := by rw [beq_eq_false_iff_ne]; omega
    have e3 : (x == 46) = false := by rw [beq_eq_false_iff_ne]; omega
    rw [show ltI x = false by unfold ltI; rw [e1]; simp; omega]
    clear h2
    go_enter Tryd.func50, Tryd.ntmps50
    go_wp2
    go_ret
    exact ⟨rfl, rfl⟩
  · subst h
    go_enter Tryd.func50, Tryd.ntmps50
    go_wp2
    go_ret
    exact ⟨rfl, rfl⟩
  · subst h
    go_enter Tryd.func50, Tryd.ntmps50
    go_wp2
    go_ret
    exact ⟨rfl, rfl⟩
  · have e1 : decide (97 ≤ x) = false := by simp; omega
    have e2 : (x == 95) = false := by rw [beq_eq_false_iff_ne]; omega
    have e3 : (x == 46) = false := by rw [beq_eq_false_iff_ne]; omega
    rw [show ltI x = false by unfold ltI; rw [e1]; simp; omega]
    clear h1 h2 h3
    go_enter Tryd.func50, Tryd.ntmps50
    go_wp2
    go_ret
    exact ⟨rfl, rfl⟩
theorem wrap_u8 (x : Int) (h1 : 0 ≤ x) (h2 : x ≤ 255) : IntKind.u8.wrap x = x := by
  have h1' : IntKind.u8.min = 0 := rfl
  have h2' : IntKind.u8.max = 255 := rfl
  exact IntWalk.u8_in _ (by omega)
theorem hex_any (x : Int) (w : World) : Calls Tryd.prog 52 #[.int .u8 x] w (BoolPost (dgI x || hxI x) w) := by
  by_cases hd : dgI x = true
  · rw [hd]
    have Q := (rdig_any x)
    rw [hd] at Q
    clear hd
    go_enter Tryd.func52, Tryd.ntmps52
    go_wp2_with (go_at_call 51; refine (Q _).mono ?_; rintro e w' ⟨rfl, rfl⟩)
    go_ret
    exact ⟨rfl, rfl⟩
  · have hd' : dgI x = false := by simpa using hd
    have Q := (rdig_any x)
    rw [hd'] at Q ⊢
    clear hd hd'
    by_cases h1 : 97 ≤ x
    · by_cases h2 : x ≤ 102
      · rw [show hxI x = true from hxI_iff.2 ⟨h1, h2⟩]
        go_enter Tryd.func52, Tryd.ntmps52
        go_wp2_with (go_at_call 51; refine (Q _).mono ?_; rintro e w' ⟨rfl, rfl⟩)
        go_ret
        exact ⟨rfl, rfl⟩
      · have e2 : decide (x ≤ 102) = false := by simpa using h2
        rw [show hxI x = false by unfold hxI; rw [e2]; simp]
        clear h2
        go_enter Tryd.func52, Tryd.ntmps52
        go_wp2_with (go_at_call 51; refine (Q _).mono ?_; rintro e w' ⟨rfl, rfl⟩)
        go_ret
        exact ⟨rfl, rfl⟩
    · have e1 : decide (97 ≤ x) = false := by simpa using h1
      rw [show hxI x = false by unfold hxI; rw [e1]; simp]
      clear h1
      go_enter Tryd.func52, Tryd.ntmps52
      go_wp2_with (go_at_call 51; refine (Q _).mono ?_; rintro e w' ⟨rfl, rfl⟩)
      go_ret
      exact ⟨rfl, rfl⟩
theorem ldig_any (x : Int) (w : World) (h0 : 0 ≤ x) (h255 : x ≤ 255) : Calls Tryd.prog 58 #[.int .u8 x] w (IntPost (dvI x) w) := by
  by_cases hd : dgI x = true
  · have hq := dgI_iff.1 hd
    obtain ⟨q1, q2⟩ := hq
    have E := Lib.hid (show dvI x = x - 48 by unfold dvI; rw [if_pos hd])
    have Q := (isdig_any x)
    rw [hd] at Q
    clear hd
    go_enter Tryd.func58, Tryd.ntmps58
    go_wp2_with (go_at_call 45; refine (Q _).mono ?_; rintro e w' ⟨rfl, rfl⟩)
    go_ret
    exact int_mk (by rw [E.out])
  · have hd' : dgI x = false := by simpa using hd
    have Q := (isdig_any x)
    rw [hd'] at Q
    by_cases h1 : 97 ≤ x
    · by_cases h2 : x ≤ 102
      · have E := Lib.hid (show dvI x = x - 87 by unfold dvI; rw [if_neg hd, if_pos (hxI_iff.2 ⟨h1, h2⟩)])
        clear hd hd'
        go_enter Tryd.func58, Tryd.ntmps58
        go_wp2_with (go_at_call 45; refine (Q _).mono ?_; rintro e w' ⟨rfl, rfl⟩)
        go_ret
        exact int_mk (by rw [E.out]; omega)
      · have e2 : decide (x ≤ 102) = false := by simpa using h2
        have E := Lib.hid (show dvI x = 16 by unfold dvI; rw [if_neg hd, if_neg (by unfold hxI; rw [e2]; simp)])
        clear h2 hd hd'
        go_enter Tryd.func58, Tryd.ntmps58
        go_wp2_with (go_at_call 45; refine (Q _).mono ?_; rintro e w' ⟨rfl, rfl⟩)
        go_ret
        exact int_mk (by rw [E.out])
    · have e1 : decide (97 ≤ x) = false := by simpa using h1
      have E := Lib.hid (show dvI x = 16 by unfold dvI; rw [if_neg hd, if_neg (by unfold hxI; rw [e1]; simp)])
      clear h1 hd hd'
      go_enter Tryd.func58, Tryd.ntmps58
      go_wp2_with (go_at_call 45; refine (Q _).mono ?_; rintro e w' ⟨rfl, rfl⟩)
      go_ret
      exact int_mk (by rw [E.out])
/-- Where blanks end. -/
theorem skip_any (s : ByteArray) (k : Nat) (w : World) (hs : s.size ≤ maxLen) (hk : k ≤ s.size) : Calls Tryd.prog 31 #[.string s, .int .i64 k] w (IntPost ((k + spn blk (s.data.toList.drop k) : Nat) : Int) w) := by
  unfold maxLen at hs
  generalize hE : k + spn blk (s.data.toList.drop k) = E
  have HE := Lib.hid hE
  clear hE
  go_enter Tryd.func31, Tryd.ntmps31
  go_wp2
  go_loop [1] (fun a => ∃ j : Nat, j ≤ s.size ∧ a = .int .i64 j ∧ j + spn blk (s.data.toList.drop j) = E) (fun a => s.size - (intOf a).toNat)
  case atStart => exact ⟨k, hk, rfl, HE.out⟩
  case round =>
    obtain ⟨j, hj, rfl, he⟩ := hrel
    have JE := Lib.hid he
    clear he
    by_cases hlt : j < s.size
    · have Y := Lib.hid (fun h => spnS_yes (p := blk) hlt h)
      have N := Lib.hid (fun h => spnS_no (p := blk) hlt h)
      have key : (s[j].toNat : Int) = 32 ∨ (s[j].toNat : Int) = 9 ∨ ((s[j].toNat : Int) ≠ 32 ∧ (s[j].toNat : Int) ≠ 9) := by omega
      rcases key with h | h | ⟨h1, h2⟩
      · have e1 : ((s[j].toNat : Int) == 32) = true := by simpa using h
        have B := Lib.hid (show blk s[j] = true by unfold blk blI; simp [h])
        clear h
        go_wp2
        go_round
        case rel => exact ⟨j + 1, by omega, by go_num, by have h1 := Y.out B.out; have h2 := JE.out; omega⟩
        case measure => simp [intOf]; omega
      · have e1 : ((s[j].toNat : Int) == 32) = false := by rw [beq_eq_false_iff_ne]; omega
        have e2 : ((s[j].toNat : Int) == 9) = true := by simpa using h
        have B := Lib.hid (show blk s[j] = true by unfold blk blI; simp [h])
        clear h
        go_wp2
        go_round
        case rel => exact ⟨j + 1, by omega, by go_num, by have h1 := Y.out B.out; have h2 := JE.out; omega⟩
        case measure => simp [intOf]; omega
      · have e1 : ((s[j].toNat : Int) == 32) = false := by rw [beq_eq_false_iff_ne]; omega
        have e2 : ((s[j].toNat : Int) == 9) = false := by rw [beq_eq_false_iff_ne]; omega
        have B := Lib.hid (show blk s[j] = false by unfold blk blI; simp [h1, h2])
        clear h1 h2
        go_wp2
        go_ret
        exact int_mk (by have h1 := N.out B.out; have h2 := JE.out; omega)
    · have M := Lib.hid (spnS_end (p := blk) (s := s) (k := j) (by omega))
      go_wp2
      go_ret
      exact int_mk (by have h1 := M.out; have h2 := JE.out; omega)
end Go.Proofs.YtddbfhdhldnoiaaDoor
