/-
  Contracts of the program's calls and of the document's own: Parts, Make, number, pack, conjugate, Of, Pair, Norm, Has, Paired, num, wakes: each returns what the Lean functions of module Num tell, and leaves the world as it was. Conditions: words are from 0 to 2^32 - 1.
-/
import Derived.Test.YtbgmdikcbglpiaaGreatDoorRows
import Derived.Test.YtbgmdikcbglpiaaGreatDoorPNum
import Derived.WalkKit
import Derived.WalkSpells
import Derived.WalkLawsBesides
import Derived.Lib.Hide
namespace Go.Proofs.YtbgmdikcbglpiaaGreatDoor.Pa
open Go.RowKit

def BoolPost (b : Bool) (w : World) (e : Ending) (w' : World) : Prop := e = .returned (.bool b) ∧ w = w'
def TwoPost (x y : Int) (w : World) (e : Ending) (w' : World) : Prop := e = .returned (.tuple #[.int .i64 x, .int .i64 y]) ∧ w = w'
def WordPost (x : Int) (w : World) (e : Ending) (w' : World) : Prop := e = .returned (.int .u32 x) ∧ w = w'
def IntPost (x : Int) (w : World) (e : Ending) (w' : World) : Prop := e = .returned (.int .i64 x) ∧ w = w'
def CplxPost (a b : Nat) (w : World) (e : Ending) (w' : World) : Prop := e = .returned (.complex .f64 a b) ∧ w = w'
def OfPost (x k : Int) (w : World) (e : Ending) (w' : World) : Prop := e = .returned (.tuple #[.int .u32 x, .int .i64 k]) ∧ w = w'
theorem two_mk {x y x' y' : Int} {w : World} (h : x' = x) (h' : y' = y) : TwoPost x y w (.returned (.tuple #[.int .i64 x', .int .i64 y'])) w := by subst h; subst h'; exact ⟨rfl, rfl⟩
theorem word_mk {x x' : Int} {w : World} (h : x' = x) : WordPost x w (.returned (.int .u32 x')) w := by subst h; exact ⟨rfl, rfl⟩
theorem int_mk {x x' : Int} {w : World} (h : x' = x) : IntPost x w (.returned (.int .i64 x')) w := by subst h; exact ⟨rfl, rfl⟩
theorem of_mk {x k y j : Int} {w : World} (h : y = x) (h' : j = k) : OfPost x k w (.returned (.tuple #[.int .u32 y, .int .i64 j])) w := by subst h; subst h'; exact ⟨rfl, rfl⟩

theorem parts_any (x : Int) (w : World) (H : U32 x) : Calls Tryz.prog 136 #[.int .u32 x] w (TwoPost (lo x) (hi x) w) := by
  obtain ⟨h1, h2⟩ := H
  go_enter Tryz.func136, Tryz.ntmps136
  go_wp2
  go_ret2
  exact two_mk (wrap_i16 _) (wrap_i16 _)
theorem rparts_any (x : Int) (w : World) (H : U32 x) : Calls Tryz.prog 113 #[.int .u32 x] w (TwoPost (lo x) (hi x) w) := by
  have H' := Lib.hid H
  obtain ⟨h1, h2⟩ := H
  go_enter Tryz.func113, Tryz.ntmps113
  go_wp2
  go_ret2
  exact two_mk (rparts_form _ H'.out) (wrap_i16 _)
theorem make_any (x y : Int) (w : World) : Calls Tryz.prog 137 #[.int .i64 x, .int .i64 y] w (WordPost (mk x y) w) := by
  go_enter Tryz.func137, Tryz.ntmps137
  go_wp2
  go_ret
  exact word_mk (make_form _ _)
theorem rmake_any (x y : Int) (w : World) : Calls Tryz.prog 114 #[.int .i64 x, .int .i64 y] w (WordPost (mk x y) w) := by
  go_enter Tryz.func114, Tryz.ntmps114
  go_wp2
  go_ret
  exact word_mk (rmake_form _ _)
theorem number_any (x : Int) (w : World) (H : U32 x) : Calls Tryz.prog 133 #[.int .u32 x] w (CplxPost (fl (lo x)) (fl (hi x)) w) := by
  have H' := Lib.hid H
  clear H
  go_enter Tryz.func133, Tryz.ntmps133
  go_wp2_with (go_at_call 136; refine (parts_any _ _ H'.out).mono ?_; rintro e w' ⟨rfl, rfl⟩)
  go_ret
  exact ⟨rfl, rfl⟩
theorem pack_any (a b : Nat) (x y : Int) (w : World) (ha : Fl a x) (hb : Fl b y) : Calls Tryz.prog 134 #[.complex .f64 a b] w (WordPost (mk x y) w) := by
  have h1 := fun w => run_convert_float_int (P := Tryz.prog) w 143 3 .f64 .i64 a x (by rw [Tryz.underlying143]; rfl) Tryz.underlying3 (fl_int ha)
  have h2 := fun w => run_convert_float_int (P := Tryz.prog) w 143 3 .f64 .i64 b y (by rw [Tryz.underlying143]; rfl) Tryz.underlying3 (fl_int hb)
  go_enter Tryz.func134, Tryz.ntmps134
  go_wp2_with (go_at_call 137; refine (make_any _ _ _).mono ?_; rintro e w' ⟨rfl, rfl⟩)
  go_ret
  exact ⟨rfl, rfl⟩
theorem conj_any (a b : Nat) (w : World) : Calls Tryz.prog 135 #[.complex .f64 a b] w (CplxPost a (Op.negFloat .f64 b) w) := by
  have hn : ∀ w, (Op.unary .neg (.float .f64 b)).run Tryz.prog w = .ok (.float .f64 (Op.negFloat .f64 b)) w := fun _ => rfl
  go_enter Tryz.func135, Tryz.ntmps135
  go_wp2
  go_ret
  exact ⟨rfl, rfl⟩

/-- Sum and difference. -/
theorem of18 (a b : Int) (w : World) (Ha : U32 a) (Hb : U32 b) : Calls Tryz.prog 129 #[.int .i64 18, .int .u32 a, .int .u32 b] w (OfPost (pV 18 a b) 0 w) := by
  have H1 := Lib.hid Ha
  have H2 := Lib.hid Hb
  clear Ha Hb
  obtain ⟨re, im, h, f1, f2⟩ := csum (op := .add) (.inl rfl) (lo_in a) (hi_in a) (lo_in b) (hi_in b)
  have F1 := Lib.hid f1
  have F2 := Lib.hid f2
  clear f1 f2
  have hop := fun t w => run_complex_sum (P := Tryz.prog) w .add (Or.inl rfl) t .f64 _ _ _ _ re im h
  clear h
  go_enter Tryz.func129, Tryz.ntmps129
  go_wp2_with (first | (go_at_call 133; refine (number_any _ _ (by first | exact H1.out | exact H2.out)).mono ?_; rintro e w' ⟨rfl, rfl⟩) | (go_at_call 134; refine (pack_any _ _ _ _ _ F1.out F2.out).mono ?_; rintro e w' ⟨rfl, rfl⟩))
  go_ret2
  exact of_mk rfl rfl
theorem of19 (a b : Int) (w : World) (Ha : U32 a) (Hb : U32 b) : Calls Tryz.prog 129 #[.int .i64 19, .int .u32 a, .int .u32 b] w (OfPost (pV 19 a b) 0 w) := by
  have H1 := Lib.hid Ha
  have H2 := Lib.hid Hb
  clear Ha Hb
  obtain ⟨re, im, h, f1, f2⟩ := csum (op := .sub) (.inr rfl) (lo_in a) (hi_in a) (lo_in b) (hi_in b)
  have F1 := Lib.hid f1
  have F2 := Lib.hid f2
  clear f1 f2
  have hop := fun t w => run_complex_sum (P := Tryz.prog) w .sub (Or.inr rfl) t .f64 _ _ _ _ re im h
  clear h
  go_enter Tryz.func129, Tryz.ntmps129
  go_wp2_with (first | (go_at_call 133; refine (number_any _ _ (by first | exact H1.out | exact H2.out)).mono ?_; rintro e w' ⟨rfl, rfl⟩) | (go_at_call 134; refine (pack_any _ _ _ _ _ F1.out F2.out).mono ?_; rintro e w' ⟨rfl, rfl⟩))
  go_ret2
  exact of_mk rfl rfl
theorem of20 (a b : Int) (w : World) (Ha : U32 a) (Hb : U32 b) : Calls Tryz.prog 129 #[.int .i64 20, .int .u32 a, .int .u32 b] w (OfPost (pV 20 a b) 0 w) := by
  have H1 := Lib.hid Ha
  have H2 := Lib.hid Hb
  clear Ha Hb
  obtain ⟨re, im, h, f1, f2⟩ := cmul (fl_part (lo_in a)) (fl_part (hi_in a)) (fl_part (lo_in b)) (fl_part (hi_in b)) (mul_abs (lo_in a) (lo_in b)) (mul_abs (hi_in a) (hi_in b)) (mul_abs (lo_in a) (hi_in b)) (mul_abs (hi_in a) (lo_in b))
  have F1 := Lib.hid f1
  have F2 := Lib.hid f2
  clear f1 f2
  have hop := fun t w => run_complex_mul (P := Tryz.prog) w t _ _ _ _ re im h
  clear h
  go_enter Tryz.func129, Tryz.ntmps129
  go_wp2_with (first | (go_at_call 133; refine (number_any _ _ (by first | exact H1.out | exact H2.out)).mono ?_; rintro e w' ⟨rfl, rfl⟩) | (go_at_call 134; refine (pack_any _ _ _ _ _ F1.out F2.out).mono ?_; rintro e w' ⟨rfl, rfl⟩))
  go_ret2
  exact of_mk rfl rfl
theorem of21 (a b : Int) (w : World) (Ha : U32 a) (Hb : U32 b) : Calls Tryz.prog 129 #[.int .i64 21, .int .u32 a, .int .u32 b] w (OfPost (pV 21 a b) 0 w) := by
  have H1 := Lib.hid Ha
  have H2 := Lib.hid Hb
  clear Ha Hb
  have F1 := Lib.hid (fl_part (lo_in a))
  have F2 := Lib.hid (fl_neg (fl_part (hi_in a)))
  go_enter Tryz.func129, Tryz.ntmps129
  go_wp2_with (first | (go_at_call 133; refine (number_any _ _ (by first | exact H1.out | exact H2.out)).mono ?_; rintro e w' ⟨rfl, rfl⟩) | (go_at_call 134; refine (pack_any _ _ _ _ _ F1.out F2.out).mono ?_; rintro e w' ⟨rfl, rfl⟩) | (go_at_call 135; refine (conj_any _ _ _).mono ?_; rintro e w' ⟨rfl, rfl⟩))
  go_ret2
  exact of_mk rfl rfl
theorem of_good (op a b : Int) (w : World) (Ha : U32 a) (Hb : U32 b) (h1 : 18 ≤ op) (h2 : op ≤ 21) : Calls Tryz.prog 129 #[.int .i64 op, .int .u32 a, .int .u32 b] w (OfPost (pV op a b) 0 w) := by
  rcases (show op = 18 ∨ op = 19 ∨ op = 20 ∨ op = 21 from by omega) with rfl | rfl | rfl | rfl
  · exact of18 a b w Ha Hb
  · exact of19 a b w Ha Hb
  · exact of20 a b w Ha Hb
  · exact of21 a b w Ha Hb
theorem of_none (op a b : Int) (w : World) (Ha : U32 a) (Hb : U32 b) (h : op < 18 ∨ 21 < op) : Calls Tryz.prog 129 #[.int .i64 op, .int .u32 a, .int .u32 b] w (OfPost 0 1 w) := by
  have H1 := Lib.hid Ha
  have H2 := Lib.hid Hb
  clear Ha Hb
  have h18 : (op == 18) = false := by simp; omega
  have h19 : (op == 19) = false := by simp; omega
  have h20 : (op == 20) = false := by simp; omega
  have h21 : (op == 21) = false := by simp; omega
  clear h
  go_enter Tryz.func129, Tryz.ntmps129
  go_wp2_with (go_at_call 133; refine (number_any _ _ (by first | exact H1.out | exact H2.out)).mono ?_; rintro e w' ⟨rfl, rfl⟩)
  go_ret2
  exact ⟨rfl, rfl⟩
theorem rpair18 (a b : Int) (w : World) (Ha : U32 a) (Hb : U32 b) : Calls Tryz.prog 96 #[.int .i64 18, .int .u32 a, .int .u32 b] w (WordPost (pV 18 a b) w) := by
  have H1 := Lib.hid Ha
  have H2 := Lib.hid Hb
  clear Ha Hb
  obtain ⟨a1, a2⟩ := lo_in a
  obtain ⟨a3, a4⟩ := hi_in a
  obtain ⟨b1, b2⟩ := lo_in b
  obtain ⟨b3, b4⟩ := hi_in b
  go_enter Tryz.func96, Tryz.ntmps96
  go_wp2_with (first | (go_at_call 113; refine (rparts_any _ _ (by first | exact H1.out | exact H2.out)).mono ?_; rintro e w' ⟨rfl, rfl⟩) | (go_at_call 114; refine (rmake_any _ _ _).mono ?_; rintro e w' ⟨rfl, rfl⟩))
  go_ret
  exact word_mk rfl
theorem rpair19 (a b : Int) (w : World) (Ha : U32 a) (Hb : U32 b) : Calls Tryz.prog 96 #[.int .i64 19, .int .u32 a, .int .u32 b] w (WordPost (pV 19 a b) w) := by
  have H1 := Lib.hid Ha
  have H2 := Lib.hid Hb
  clear Ha Hb
  obtain ⟨a1, a2⟩ := lo_in a
  obtain ⟨a3, a4⟩ := hi_in a
  obtain ⟨b1, b2⟩ := lo_in b
  obtain ⟨b3, b4⟩ := hi_in b
  go_enter Tryz.func96, Tryz.ntmps96
  go_wp2_with (first | (go_at_call 113; refine (rparts_any _ _ (by first | exact H1.out | exact H2.out)).mono ?_; rintro e w' ⟨rfl, rfl⟩) | (go_at_call 114; refine (rmake_any _ _ _).mono ?_; rintro e w' ⟨rfl, rfl⟩))
  go_ret
  exact word_mk rfl
theorem rpair20 (a b : Int) (w : World) (Ha : U32 a) (Hb : U32 b) : Calls Tryz.prog 96 #[.int .i64 20, .int .u32 a, .int .u32 b] w (WordPost (pV 20 a b) w) := by
  have H1 := Lib.hid Ha
  have H2 := Lib.hid Hb
  clear Ha Hb
  obtain ⟨a1, a2⟩ := mul_le (lo_in a) (lo_in b)
  obtain ⟨a3, a4⟩ := mul_le (hi_in a) (hi_in b)
  obtain ⟨b1, b2⟩ := mul_le (lo_in a) (hi_in b)
  obtain ⟨b3, b4⟩ := mul_le (hi_in a) (lo_in b)
  go_enter Tryz.func96, Tryz.ntmps96
  go_wp2_with (first | (go_at_call 113; refine (rparts_any _ _ (by first | exact H1.out | exact H2.out)).mono ?_; rintro e w' ⟨rfl, rfl⟩) | (go_at_call 114; refine (rmake_any _ _ _).mono ?_; rintro e w' ⟨rfl, rfl⟩))
  go_ret
  exact word_mk rfl
theorem rpair21 (a b : Int) (w : World) (Ha : U32 a) (Hb : U32 b) : Calls Tryz.prog 96 #[.int .i64 21, .int .u32 a, .int .u32 b] w (WordPost (pV 21 a b) w) := by
  have H1 := Lib.hid Ha
  have H2 := Lib.hid Hb
  clear Ha Hb
  obtain ⟨a3, a4⟩ := hi_in a
  go_enter Tryz.func96, Tryz.ntmps96
  go_wp2_with (first | (go_at_call 113; refine (rparts_any _ _ (by first | exact H1.out | exact H2.out)).mono ?_; rintro e w' ⟨rfl, rfl⟩) | (go_at_call 114; refine (rmake_any _ _ _).mono ?_; rintro e w' ⟨rfl, rfl⟩))
  go_ret
  exact word_mk rfl
theorem rpair_good (op a b : Int) (w : World) (Ha : U32 a) (Hb : U32 b) (h1 : 18 ≤ op) (h2 : op ≤ 21) : Calls Tryz.prog 96 #[.int .i64 op, .int .u32 a, .int .u32 b] w (WordPost (pV op a b) w) := by
  rcases (show op = 18 ∨ op = 19 ∨ op = 20 ∨ op = 21 from by omega) with rfl | rfl | rfl | rfl
  · exact rpair18 a b w Ha Hb
  · exact rpair19 a b w Ha Hb
  · exact rpair20 a b w Ha Hb
  · exact rpair21 a b w Ha Hb

theorem has_yes (op : Int) (w : World) (h1 : 18 ≤ op) (h2 : op ≤ 21) : Calls Tryz.prog 128 #[.int .i64 op] w (BoolPost true w) := by
  go_enter Tryz.func128, Tryz.ntmps128
  go_wp2
  go_ret
  exact ⟨rfl, rfl⟩
theorem has_no (op : Int) (w : World) (h : op < 18 ∨ 21 < op) : Calls Tryz.prog 128 #[.int .i64 op] w (BoolPost false w) := by
  rcases h with h | h
  · go_enter Tryz.func128, Tryz.ntmps128
    go_wp2
    go_ret
    exact ⟨rfl, rfl⟩
  · have h1 : 18 ≤ op := by omega
    have h2 : decide (op ≤ 21) = false := by simp; omega
    go_enter Tryz.func128, Tryz.ntmps128
    go_wp2
    go_ret
    exact ⟨rfl, rfl⟩
theorem refhas_yes (op : Int) (w : World) (h1 : 18 ≤ op) (h2 : op ≤ 21) : Calls Tryz.prog 95 #[.int .i64 op] w (BoolPost true w) := by
  go_enter Tryz.func95, Tryz.ntmps95
  go_wp2
  go_ret
  exact ⟨rfl, rfl⟩
theorem refhas_no (op : Int) (w : World) (h : op < 18 ∨ 21 < op) : Calls Tryz.prog 95 #[.int .i64 op] w (BoolPost false w) := by
  rcases h with h | h
  · go_enter Tryz.func95, Tryz.ntmps95
    go_wp2
    go_ret
    exact ⟨rfl, rfl⟩
  · have h1 : 18 ≤ op := by omega
    have h2 : decide (op ≤ 21) = false := by simp; omega
    go_enter Tryz.func95, Tryz.ntmps95
    go_wp2
    go_ret
    exact ⟨rfl, rfl⟩
end Go.Proofs.YtbgmdikcbglpiaaGreatDoor.Pa
