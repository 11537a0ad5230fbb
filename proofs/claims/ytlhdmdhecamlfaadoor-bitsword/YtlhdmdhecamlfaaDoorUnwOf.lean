/-
  Contract of the page's Unword (every word): which instruction a word is of. Conditions: the word is one of 32 bits.
-/
import Derived.Test.YtlhdmdhecamlfaaDoorUnwA
import Derived.Test.YtlhdmdhecamlfaaDoorUnwB
import Derived.Test.YtlhdmdhecamlfaaDoorUnwC
import Derived.Test.YtlhdmdhecamlfaaDoorUnwD
namespace Go.Proofs.YtlhdmdhecamlfaaDoor
open Go.RowKit

def UnwPost (x : Int) (w : World) (e : Ending) (w' : World) : Prop := InsBool (xo x) (xd x) (xa x) (xb x) (xm x) (okW x) w e w'
theorem upost_no {x : Int} {w w' : World} {e : Ending} (h : okW x = false) (hz : ZeroFalse w e w') : UnwPost x w e w' := by
  obtain ⟨e1, e2, e3, e4, e5⟩ := x_no h
  unfold UnwPost
  rw [e1, e2, e3, e4, e5, h]
  exact hz
theorem upost_yes {x : Int} {w w' : World} {e : Ending} (h : okW x = true) (hz : InsBool (opW x) (ur (ld (fm (opW x))) x) (ur (la (fm (opW x))) x) (ur (lb (fm (opW x))) x) (uim (fm (opW x)) x) true w e w') : UnwPost x w e w' := by
  obtain ⟨e1, e2, e3, e4, e5⟩ := x_yes h
  unfold UnwPost
  rw [e1, e2, e3, e4, e5, h]
  exact hz
section
variable (n f : Nat) (x : Int) (w : World)
theorem unw_bad (x0 : 0 ≤ x) (x1 : x ≤ 4294967295) (hn : n < 34) (hx : x / 67108864 = (n : Int)) (hf : fm n = f) (hi : insB n (ur (ld f) x) (ur (la f) x) (ur (lb f) x) (uim f x) ⟨#[]⟩ = false) : Calls Tryd.prog 13 #[.int .u32 x] w (ZeroFalse w) := by
  obtain rfl | rfl | rfl | rfl | rfl | rfl | rfl | rfl | rfl | rfl := forms10 (hf ▸ fm_lt hn)
  · have e := uim_0 (f := 0) (m := x) rfl
    rw [e] at hi
    exact unw0_bad n x w x0 x1 hn hx hf hi
  · have e := uim_0 (f := 1) (m := x) rfl
    rw [e] at hi
    exact unw1_bad n x w x0 x1 hn hx hf hi
  · have e := uim_0 (f := 2) (m := x) rfl
    rw [e] at hi
    exact unw2_bad n x w x0 x1 hn hx hf hi
  · have e := uim_14 (f := 3) (m := x) rfl rfl
    by_cases hm : x % 16384 < 8192
    · rw [if_pos hm] at e
      rw [e] at hi
      exact unw3lo_bad n x w x0 x1 hn hx hf hi hm
    · rw [if_neg hm] at e
      rw [e] at hi
      exact unw3hi_bad n x w x0 x1 hn hx hf hi (by omega)
  · have e := uim_18 (f := 4) (m := x) rfl rfl
    by_cases hm : x % 262144 < 131072
    · rw [if_pos hm] at e
      rw [e] at hi
      exact unw4lo_bad n x w x0 x1 hn hx hf hi hm
    · rw [if_neg hm] at e
      rw [e] at hi
      exact unw4hi_bad n x w x0 x1 hn hx hf hi (by omega)
  · have e := uim_14 (f := 5) (m := x) rfl rfl
    by_cases hm : x % 16384 < 8192
    · rw [if_pos hm] at e
      rw [e] at hi
      exact unw5lo_bad n x w x0 x1 hn hx hf hi hm
    · rw [if_neg hm] at e
      rw [e] at hi
      exact unw5hi_bad n x w x0 x1 hn hx hf hi (by omega)
  · have e := uim_0 (f := 6) (m := x) rfl
    rw [e] at hi
    exact unw6_bad n x w x0 x1 hn hx hf hi
  · have e := uim_0 (f := 7) (m := x) rfl
    rw [e] at hi
    exact unw7_bad n x w x0 x1 hn hx hf hi
  · have e := uim_t18 (f := 8) (m := x) rfl rfl
    rw [e] at hi
    exact unw8_bad n x w x0 x1 hn hx hf hi
  · have e := uim_t14 (f := 9) (m := x) rfl rfl
    rw [e] at hi
    exact unw9_bad n x w x0 x1 hn hx hf hi
theorem unw_far (x0 : 0 ≤ x) (x1 : x ≤ 4294967295) (hn : n < 34) (hx : x / 67108864 = (n : Int)) (hf : fm n = f) (hi : insB n (ur (ld f) x) (ur (la f) x) (ur (lb f) x) (uim f x) ⟨#[]⟩ = true) (hw : wd n (ur (ld f) x) (ur (la f) x) (ur (lb f) x) (uim f x) ≠ x) : Calls Tryd.prog 13 #[.int .u32 x] w (ZeroFalse w) := by
  obtain rfl | rfl | rfl | rfl | rfl | rfl | rfl | rfl | rfl | rfl := forms10 (hf ▸ fm_lt hn)
  · have e := uim_0 (f := 0) (m := x) rfl
    rw [e] at hi hw
    exact unw0_far n x w x0 x1 hn hx hf hi hw
  · have e := uim_0 (f := 1) (m := x) rfl
    rw [e] at hi hw
    exact unw1_far n x w x0 x1 hn hx hf hi hw
  · have e := uim_0 (f := 2) (m := x) rfl
    rw [e] at hi hw
    exact unw2_far n x w x0 x1 hn hx hf hi hw
  · have e := uim_14 (f := 3) (m := x) rfl rfl
    by_cases hm : x % 16384 < 8192
    · rw [if_pos hm] at e
      rw [e] at hi hw
      exact unw3lo_far n x w x0 x1 hn hx hf hi hm hw
    · rw [if_neg hm] at e
      rw [e] at hi hw
      exact unw3hi_far n x w x0 x1 hn hx hf hi (by omega) hw
  · have e := uim_18 (f := 4) (m := x) rfl rfl
    by_cases hm : x % 262144 < 131072
    · rw [if_pos hm] at e
      rw [e] at hi hw
      exact unw4lo_far n x w x0 x1 hn hx hf hi hm hw
    · rw [if_neg hm] at e
      rw [e] at hi hw
      exact unw4hi_far n x w x0 x1 hn hx hf hi (by omega) hw
  · have e := uim_14 (f := 5) (m := x) rfl rfl
    by_cases hm : x % 16384 < 8192
    · rw [if_pos hm] at e
      rw [e] at hi hw
      exact unw5lo_far n x w x0 x1 hn hx hf hi hm hw
    · rw [if_neg hm] at e
      rw [e] at hi hw
      exact unw5hi_far n x w x0 x1 hn hx hf hi (by omega) hw
  · have e := uim_0 (f := 6) (m := x) rfl
    rw [e] at hi hw
    exact unw6_far n x w x0 x1 hn hx hf hi hw
  · have e := uim_0 (f := 7) (m := x) rfl
    rw [e] at hi hw
    exact unw7_far n x w x0 x1 hn hx hf hi hw
  · have e := uim_t18 (f := 8) (m := x) rfl rfl
    rw [e] at hi hw
    exact unw8_far n x w x0 x1 hn hx hf hi hw
  · have e := uim_t14 (f := 9) (m := x) rfl rfl
    rw [e] at hi hw
    exact unw9_far n x w x0 x1 hn hx hf hi hw
theorem unw_good (x0 : 0 ≤ x) (x1 : x ≤ 4294967295) (hn : n < 34) (hx : x / 67108864 = (n : Int)) (hf : fm n = f) (hi : insB n (ur (ld f) x) (ur (la f) x) (ur (lb f) x) (uim f x) ⟨#[]⟩ = true) (hw : wd n (ur (ld f) x) (ur (la f) x) (ur (lb f) x) (uim f x) = x) : Calls Tryd.prog 13 #[.int .u32 x] w (InsBool n (ur (ld f) x) (ur (la f) x) (ur (lb f) x) (uim f x) true w) := by
  obtain rfl | rfl | rfl | rfl | rfl | rfl | rfl | rfl | rfl | rfl := forms10 (hf ▸ fm_lt hn)
  · have e := uim_0 (f := 0) (m := x) rfl
    rw [e] at hi hw ⊢
    exact unw0_good n x w x0 x1 hn hx hf hi hw
  · have e := uim_0 (f := 1) (m := x) rfl
    rw [e] at hi hw ⊢
    exact unw1_good n x w x0 x1 hn hx hf hi hw
  · have e := uim_0 (f := 2) (m := x) rfl
    rw [e] at hi hw ⊢
    exact unw2_good n x w x0 x1 hn hx hf hi hw
  · have e := uim_14 (f := 3) (m := x) rfl rfl
    by_cases hm : x % 16384 < 8192
    · rw [if_pos hm] at e
      rw [e] at hi hw ⊢
      exact unw3lo_good n x w x0 x1 hn hx hf hi hm hw
    · rw [if_neg hm] at e
      rw [e] at hi hw ⊢
      exact unw3hi_good n x w x0 x1 hn hx hf hi (by omega) hw
  · have e := uim_18 (f := 4) (m := x) rfl rfl
    by_cases hm : x % 262144 < 131072
    · rw [if_pos hm] at e
      rw [e] at hi hw ⊢
      exact unw4lo_good n x w x0 x1 hn hx hf hi hm hw
    · rw [if_neg hm] at e
      rw [e] at hi hw ⊢
      exact unw4hi_good n x w x0 x1 hn hx hf hi (by omega) hw
  · have e := uim_14 (f := 5) (m := x) rfl rfl
    by_cases hm : x % 16384 < 8192
    · rw [if_pos hm] at e
      rw [e] at hi hw ⊢
      exact unw5lo_good n x w x0 x1 hn hx hf hi hm hw
    · rw [if_neg hm] at e
      rw [e] at hi hw ⊢
      exact unw5hi_good n x w x0 x1 hn hx hf hi (by omega) hw
  · have e := uim_0 (f := 6) (m := x) rfl
    rw [e] at hi hw ⊢
    exact unw6_good n x w x0 x1 hn hx hf hi hw
  · have e := uim_0 (f := 7) (m := x) rfl
    rw [e] at hi hw ⊢
    exact unw7_good n x w x0 x1 hn hx hf hi hw
  · have e := uim_t18 (f := 8) (m := x) rfl rfl
    rw [e] at hi hw ⊢
    exact unw8_good n x w x0 x1 hn hx hf hi hw
  · have e := uim_t14 (f := 9) (m := x) rfl rfl
    rw [e] at hi hw ⊢
    exact unw9_good n x w x0 x1 hn hx hf hi hw
end
/-- Which instruction a word is of, as the page tells. -/
theorem unw_any (x : Int) (w : World) (x0 : 0 ≤ x) (x1 : x ≤ 4294967295) : Calls Tryd.prog 13 #[.int .u32 x] w (UnwPost x w) := by
  have e := op_eq x0
  by_cases h : opW x < 34
  · have hk := ok_near h
    unfold okB at hk
    cases hi : insB (opW x) (ur (ld (fm (opW x))) x) (ur (la (fm (opW x))) x) (ur (lb (fm (opW x))) x) (uim (fm (opW x)) x) ⟨#[]⟩
    · exact (unw_bad (opW x) _ x w x0 x1 h e rfl hi).mono fun _ _ hz => upost_no (by rw [hk, hi]; rfl) hz
    · by_cases hw : wd (opW x) (ur (ld (fm (opW x))) x) (ur (la (fm (opW x))) x) (ur (lb (fm (opW x))) x) (uim (fm (opW x)) x) = x
      · exact (unw_good (opW x) _ x w x0 x1 h e rfl hi hw).mono fun _ _ hz => upost_yes (by rw [hk, hi, decide_eq_true hw]; rfl) hz
      · exact (unw_far (opW x) _ x w x0 x1 h e rfl hi hw).mono fun _ _ hz => upost_no (by rw [hk, hi, decide_eq_false hw]; rfl) hz
  · exact (unw_noop x w x0 x1 (by rw [e]; omega)).mono fun _ _ hz => upost_no (ok_far h) hz
end Go.Proofs.YtlhdmdhecamlfaaDoor
