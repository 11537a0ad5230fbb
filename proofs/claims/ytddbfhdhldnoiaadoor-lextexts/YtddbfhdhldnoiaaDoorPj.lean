/-
  Contract: equality of two rows of strings that are the same. It makes no memory.
-/
import Derived.Test.YtddbfhdhldnoiaaDoorLp
namespace Go.Proofs.YtddbfhdhldnoiaaDoor
open Go.RowKit

set_option maxHeartbeats 1000000 in
theorem eqs_same (ss : List ByteArray) (v1 v2 : Value) (w : World) (h1 : RdS w v1 ss) (h2 : RdS w v2 ss) (hl : ss.length ≤ 9000000000000000) : Calls Tryd.prog 17 #[v1, v2] w (QuietBool true w) := by
  obtain ⟨A1, c1, rfl, r1⟩ := h1
  obtain ⟨A2, c2, rfl, r2⟩ := h2
  have R1 := Lib.hid r1
  have R2 := Lib.hid r2
  clear r1 r2
  generalize hn : ss.length = n at *
  have HN := Lib.hid hn
  clear hn
  have hne : ((n : Int) != (n : Int)) = false := by simp
  go_enter Tryd.func17, Tryd.ntmps17
  go_wp2
  go_loopw [5] (fun o wr2 => ∃ (i m : Nat), i ≤ n ∧ o = .int .i64 i ∧ wr2 = w.drewN m) (fun o _ => n - (intOf o).toNat)
  case atStart => exact ⟨0, 0, by omega, rfl, rfl⟩
  case round =>
    obtain ⟨i, m, hi, rfl, rfl⟩ := hrel
    by_cases hlt : i < n
    · have hd : decide ((i : Int) < (n : Int)) = true := by simpa using hlt
      have i0 : (0 : Int) ≤ (i : Int) := by omega
      have i1 : (i : Int) < (n : Int) := by omega
      have hil : i < ss.length := by have := HN.out; omega
      obtain ⟨ad1, rfl, hg1, hc1⟩ := R1.out (by omega)
      obtain ⟨ad2, rfl, hg2, hc2⟩ := R2.out (by omega)
      have q0 := hc1 i _ (List.getElem?_eq_getElem hil)
      have s0 := hc2 i _ (List.getElem?_eq_getElem hil)
      generalize ss[i] = f at q0 s0
      clear hil hc1 hc2
      go_wp2_with fail
      go_quiet (fail)
      go_wp2
      go_roundw
      case rel => exact ⟨i + 1, _, by omega, by go_num, rfl⟩
      case measure => simp [intOf]; omega
    · have hd : decide ((i : Int) < (n : Int)) = false := by simp; omega
      go_wp2
      go_ret
      exact ⟨rfl, m, rfl⟩
end Go.Proofs.YtddbfhdhldnoiaaDoor
