/-
  Contract of lex.Text on words of any number.
-/
import Derived.Test.YtddbfhdhldnoiaaDoorLn
namespace Go.Proofs.YtddbfhdhldnoiaaDoor
open Go.RowKit

set_option maxHeartbeats 1000000 in
theorem check_big (A : Option Addr) (n c : Nat) (w : World) (h : 40 < n) : Calls Tryd.prog 13 #[.slice A n c] w (IntBelow 1 w) := by
  have h40' : (40 : Int) < (n : Int) := by omega
  go_enter Tryd.func13, Tryd.ntmps13
  go_wp2
  go_ret
  exact intb_mk rfl (Below.refl _ _)
set_option maxHeartbeats 2000000 in
theorem text_all (xs : List Tk) (v : Value) (w : World) (h : RdT w v xs) (hS : Small xs) (H : Tab w) : Calls Tryd.prog 9 #[v] w (TxPost xs w) := by
  by_cases hl : xs.length ≤ 1000000000000000
  · exact text_any xs v w h hS hl H
  · obtain ⟨A, c, rfl, r⟩ := h
    have HM := Lib.hid (show mayL xs = false by unfold mayL; rw [Bool.and_eq_false_iff]; exact .inl (by simp; omega))
    have CH := Lib.hid (check_big A xs.length c w (by omega))
    clear r hl
    generalize xs.length = n at *
    go_enter Tryd.func9, Tryd.ntmps9
    go_wp2_with fail
    refine CH.out.mono ?_
    rintro e w1 ⟨rfl, b1⟩
    have B1 := Lib.hid b1
    clear b1
    go_wp2_with fail
    go_ret2
    exact tx_no HM.out rfl B1.out
end Go.Proofs.YtddbfhdhldnoiaaDoor
