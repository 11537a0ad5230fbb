/-
  Texts of numbers, registers and values, as the program and the page make them. Conditions: numbers are of 64 bits; the tables lie in the world; a name is of at most 12 letters.
-/
import Derived.Test.YtgaoelpgdianiaaDoorRefIns
import Derived.Deep.RegionHeld3
import Derived.Lib.ItoaLen
import Derived.Lib.AppendIntMem
namespace Go.Proofs.YtgaoelpgdianiaaDoor
open Go.RowKit

def I64 (x : Int) : Prop := -9223372036854775808 ≤ x ∧ x ≤ 9223372036854775807
def StrBelow (s : ByteArray) (w : World) (e : Ending) (w' : World) : Prop := e = .returned (.string s) ∧ Below w.heap.size w w'
theorem strb_mk {s s' : ByteArray} {w w' : World} (h : s' = s) (hb : Below w.heap.size w w') : StrBelow s w (.returned (.string s')) w' := by subst h; exact ⟨rfl, hb⟩
def itoa (x : Int) : ByteArray := ⟨(Lib.itoa x).toArray⟩
theorem itoa_size (x : Int) (h : I64 x) : (itoa x).size ≤ 21 := by
  have := Lib.itoa_length_le x h.1 h.2
  show (Lib.itoa x).toArray.size ≤ 21
  simpa using this
theorem itoa_any (x : Int) (w : World) (hx : I64 x) (H : Tab w) : Calls Tryd.prog 55 #[.int .i64 x] w (StrBelow (itoa x) w) :=
  (Tryd.strconv_Itoa x hx.1 hx.2 w H.pow).mono fun _ _ ⟨he, k, os, hw⟩ => ⟨he, by subst hw; exact Lib.below_grow _ w (Nat.le_refl _) k os⟩
/-- A register's text. -/
def regT (x : Int) : ByteArray := ⟨#[114]⟩ ++ itoa x
theorem regT_size (x : Int) (h : I64 x) : (regT x).size ≤ 22 := by
  have := itoa_size x h
  unfold regT
  rw [ByteArray.size_append]
  show 1 + (itoa x).size ≤ 22
  omega
theorem reg58 (x : Int) (w : World) (hx : I64 x) (H : Tab w) : Calls Tryd.prog 58 #[.int .i64 x] w (StrBelow (regT x) w) := by
  have T := Lib.hid H
  have HX := Lib.hid hx
  have hz := itoa_size x hx
  have hq : ¬ 9223372036854775807 < 1 + (itoa x).size := by omega
  clear H hx hz
  go_enter Tryd.func58, Tryd.ntmps58
  go_wp2_with (go_at_call 55; refine (itoa_any _ _ HX.out T.out).mono ?_; rintro e w1 ⟨rfl, hb⟩)
  go_ret
  exact strb_mk rfl hb
theorem reg54 (x : Int) (w : World) (hx : I64 x) (H : Tab w) : Calls Tryd.prog 54 #[.int .i64 x] w (StrBelow (regT x) w) := by
  have T := Lib.hid H
  have HX := Lib.hid hx
  have hz := itoa_size x hx
  have hq : ¬ 9223372036854775807 < 1 + (itoa x).size := by omega
  clear H hx hz
  go_enter Tryd.func54, Tryd.ntmps54
  go_wp2_with (go_at_call 55; refine (itoa_any _ _ HX.out T.out).mono ?_; rintro e w1 ⟨rfl, hb⟩)
  go_ret
  exact strb_mk rfl hb

/-- The text of a value: a number, or a name with a number. -/
def valT (m : Int) (s : ByteArray) : ByteArray :=
  if s.size = 0 then itoa m else if 0 < m then (s ++ ⟨#[43]⟩) ++ itoa m else if m < 0 then s ++ itoa m else s
theorem valT_size (m : Int) (s : ByteArray) (h : I64 m) (hs : s.size ≤ 12) : (valT m s).size ≤ 40 := by
  have := itoa_size m h
  have h1 : (⟨#[43]⟩ : ByteArray).size = 1 := rfl
  unfold valT
  split
  · omega
  · split
    · rw [ByteArray.size_append, ByteArray.size_append]; omega
    · split
      · rw [ByteArray.size_append]; omega
      · omega
theorem val_empty (o d a b m : Int) (w : World) (hx : I64 m) (H : Tab w) : Calls Tryd.prog 60 #[.agg #[.int .i64 o, .int .i64 d, .int .i64 a, .int .i64 b, .int .i64 m, .string ⟨#[]⟩]] w (StrBelow (itoa m) w) := by
  have T := Lib.hid H
  have HX := Lib.hid hx
  clear H hx
  go_enter Tryd.func60, Tryd.ntmps60
  go_wp2_with (go_at_call 55; refine (itoa_any _ _ HX.out (T.out.alloc _)).mono ?_; rintro e w1 ⟨rfl, hb⟩)
  go_ret
  exact strb_mk rfl ((below_new _ _).trans (hb.mono (by simp)))
set_option maxHeartbeats 400000 in
theorem val_pos (o d a b m : Int) (s : ByteArray) (w : World) (hx : I64 m) (H : Tab w) (hp : 0 < s.size) (hs : s.size ≤ 12) (hm : 0 < m) : Calls Tryd.prog 60 #[.agg #[.int .i64 o, .int .i64 d, .int .i64 a, .int .i64 b, .int .i64 m, .string s]] w (StrBelow ((s ++ ⟨#[43]⟩) ++ itoa m) w) := by
  have T := Lib.hid H
  have HX := Lib.hid hx
  have hz := itoa_size m hx
  have hn1 := toList_ne hp
  have hn2 := isEmpty_ne hp
  have hd : decide (0 < m) = true := by simpa using hm
  have q1 : ¬ 9223372036854775807 < s.size + 1 := by omega
  have q2 : ¬ 9223372036854775807 < s.size + 1 + (itoa m).size := by omega
  clear H hx hz
  go_enter Tryd.func60, Tryd.ntmps60
  go_wp2_with fail
  go_region_held3 (fun w' => w'.cell? ⟨w.heap.size, 4, none⟩ = some (.int .i64 m) ∧ w'.cell? ⟨w.heap.size, 5, none⟩ = some (.string s)) (first | go_keep | (exact ⟨(hb.cell (p := ⟨w.heap.size, 4, none⟩) (by simp)).trans (by simp [go_sem]), (hb.cell (p := ⟨w.heap.size, 5, none⟩) (by simp)).trans (by simp [go_sem])⟩)) ((go_at_call 55; refine (itoa_any _ _ HX.out (by first | exact (T.out.alloc _) | exact (T.out.alloc _).drew)).mono ?_; rintro e w1 ⟨rfl, hb⟩))
  all_goals go_wp2
  all_goals go_ret
  all_goals exact strb_mk rfl ((below_new _ _).trans (Below.mono (by first | exact hb | exact ⟨hb.os, hb.tape, hb.output, hb.size, hb.block⟩) (by simp)))
set_option maxHeartbeats 400000 in
theorem val_neg (o d a b m : Int) (s : ByteArray) (w : World) (hx : I64 m) (H : Tab w) (hp : 0 < s.size) (hs : s.size ≤ 12) (hm : m < 0) : Calls Tryd.prog 60 #[.agg #[.int .i64 o, .int .i64 d, .int .i64 a, .int .i64 b, .int .i64 m, .string s]] w (StrBelow (s ++ itoa m) w) := by
  have T := Lib.hid H
  have HX := Lib.hid hx
  have hz := itoa_size m hx
  have hn1 := toList_ne hp
  have hn2 := isEmpty_ne hp
  have hd : decide (0 < m) = false := by simp; omega
  have hd2 : decide (m < 0) = true := by simpa using hm
  have q2 : ¬ 9223372036854775807 < s.size + (itoa m).size := by omega
  clear H hx hz
  go_enter Tryd.func60, Tryd.ntmps60
  go_wp2_with fail
  go_region_held3 (fun w' => w'.cell? ⟨w.heap.size, 4, none⟩ = some (.int .i64 m) ∧ w'.cell? ⟨w.heap.size, 5, none⟩ = some (.string s)) (first | go_keep | (exact ⟨(hb.cell (p := ⟨w.heap.size, 4, none⟩) (by simp)).trans (by simp [go_sem]), (hb.cell (p := ⟨w.heap.size, 5, none⟩) (by simp)).trans (by simp [go_sem])⟩)) ((go_at_call 55; refine (itoa_any _ _ HX.out (by first | exact (T.out.alloc _) | exact (T.out.alloc _).drew)).mono ?_; rintro e w1 ⟨rfl, hb⟩))
  all_goals go_wp2
  all_goals go_ret
  all_goals exact strb_mk rfl ((below_new _ _).trans (Below.mono (by first | exact hb | exact ⟨hb.os, hb.tape, hb.output, hb.size, hb.block⟩) (by simp)))
theorem val_zero (o d a b : Int) (s : ByteArray) (w : World) (hp : 0 < s.size) : Calls Tryd.prog 60 #[.agg #[.int .i64 o, .int .i64 d, .int .i64 a, .int .i64 b, .int .i64 0, .string s]] w (StrBelow s w) := by
  have hn1 := toList_ne hp
  have hn2 := isEmpty_ne hp
  go_enter Tryd.func60, Tryd.ntmps60
  go_wp2
  go_ret
  exact strb_mk rfl (below_new _ _)
theorem val_any (o d a b m : Int) (s : ByteArray) (w : World) (hx : I64 m) (H : Tab w) (hs : s.size ≤ 12) : Calls Tryd.prog 60 #[.agg #[.int .i64 o, .int .i64 d, .int .i64 a, .int .i64 b, .int .i64 m, .string s]] w (StrBelow (valT m s) w) := by
  by_cases h0 : s.size = 0
  · have e := empty_of h0
    subst e
    exact val_empty o d a b m w hx H
  · unfold valT
    rw [if_neg h0]
    by_cases h1 : 0 < m
    · rw [if_pos h1]; exact val_pos o d a b m s w hx H (by omega) hs h1
    · rw [if_neg h1]
      by_cases h2 : m < 0
      · rw [if_pos h2]; exact val_neg o d a b m s w hx H (by omega) hs h2
      · rw [if_neg h2]
        obtain rfl : m = 0 := by omega
        exact val_zero o d a b s w (by omega)
end Go.Proofs.YtgaoelpgdianiaaDoor
