/-
  What each law of layer 4 asks at its end; bounds of bits taken together. Condition: the tables lie in the world.
-/
import Derived.Test.YtlhdmdhecamlfaaDoorUnwOf
namespace Go.Proofs.YtlhdmdhecamlfaaDoor
open Go.RowKit

theorem wrap_bd (x : Int) : 0 ≤ IntKind.u32.wrap x ∧ IntKind.u32.wrap x ≤ 4294967295 := by rw [IntKind.wrap_u32]; omega
theorem or_bd (a b : Int) : 0 ≤ bits .or .u32 a b ∧ bits .or .u32 a b ≤ 4294967295 := wrap_bd _
theorem xor_bd (a b : Int) : 0 ≤ bits .xor .u32 a b ∧ bits .xor .u32 a b ≤ 4294967295 := wrap_bd _
theorem bins_yes (x : Int) (w : World) (H : Tab w) (x0 : 0 ≤ x) (x1 : x ≤ 4294967295) (h : okW x = true) : Calls Tryd.prog 12 #[.int .u32 x] w (InsTwo (xo x) (xd x) (xa x) (xb x) (xm x) 0 w) := by
  have := bins_any x w H x0 x1
  unfold InsOfPost at this
  rw [h] at this
  exact this
theorem bins_no (x : Int) (w : World) (H : Tab w) (x0 : 0 ≤ x) (x1 : x ≤ 4294967295) (h : okW x = false) : Calls Tryd.prog 12 #[.int .u32 x] w (InsTwo 0 0 0 0 0 8 w) := by
  have := bins_any x w H x0 x1
  unfold InsOfPost at this
  obtain ⟨e1, e2, e3, e4, e5⟩ := x_no h
  rw [h, e1, e2, e3, e4, e5] at this
  exact this
theorem unw_yes (x : Int) (w : World) (x0 : 0 ≤ x) (x1 : x ≤ 4294967295) (h : okW x = true) : Calls Tryd.prog 13 #[.int .u32 x] w (InsBool (xo x) (xd x) (xa x) (xb x) (xm x) true w) := by
  have := unw_any x w x0 x1
  unfold UnwPost at this
  rw [h] at this
  exact this
theorem unw_no (x : Int) (w : World) (x0 : 0 ≤ x) (x1 : x ≤ 4294967295) (h : okW x = false) : Calls Tryd.prog 13 #[.int .u32 x] w (InsBool 0 0 0 0 0 false w) := by
  have := unw_any x w x0 x1
  unfold UnwPost at this
  obtain ⟨e1, e2, e3, e4, e5⟩ := x_no h
  rw [h, e1, e2, e3, e4, e5] at this
  exact this
theorem wk_ok : okW 1564737535 = true := by decide +kernel
theorem wk_x : xo 1564737535 = 23 ∧ xd 1564737535 = 5 ∧ xa 1564737535 = 0 ∧ xb 1564737535 = 0 ∧ xm 1564737535 = -1 := by decide +kernel
theorem bins_wk (w : World) (H : Tab w) : Calls Tryd.prog 12 #[.int .u32 1564737535] w (InsTwo 23 5 0 0 (-1) 0 w) := by
  have h := bins_any 1564737535 w H (by decide) (by decide)
  unfold InsOfPost at h
  obtain ⟨e1, e2, e3, e4, e5⟩ := wk_x
  rw [e1, e2, e3, e4, e5, wk_ok] at h
  exact h
theorem word_zero (w : World) (H : Tab w) : Calls Tryd.prog 8 #[.agg #[.int .i64 0, .int .i64 0, .int .i64 0, .int .i64 0, .int .i64 0, .string ⟨#[]⟩]] w (WordTwo 0 0 w) := by
  have h := word_good 0 0 0 0 0 ⟨#[]⟩ w (by decide) H (by decide +kernel) rfl
  have e : wd 0 0 0 0 0 = 0 := by decide +kernel
  rw [e] at h
  exact h
theorem wakes_any (w : World) (H : Tab w) : Calls Tryd.prog 14 #[] w (BoolBelow true w) := by
  have T := Lib.hid H
  clear H
  go_enter Tryd.func14, Tryd.ntmps14
  go_wp2_with fail
  refine (word_zero _ T.out).mono ?_
  rintro e w1 ⟨rfl, hb⟩
  have T1 := Lib.hid (T.out.below hb)
  have HB := Lib.hid hb
  clear hb
  go_wp2_with fail
  refine (bins_wk _ T1.out).mono ?_
  rintro e w2 ⟨rfl, hb⟩
  have HB2 := Lib.hid hb
  clear hb
  go_wp2_with (go_at_call 11; refine (num_any _ _).mono ?_; rintro e w' ⟨rfl, rfl⟩)
  go_ret
  exact ⟨rfl, (HB.out.trans (HB2.out.mono HB.out.size)).alloc (Nat.le_trans HB.out.size HB2.out.size) _⟩
end Go.Proofs.YtlhdmdhecamlfaaDoor
