/-
  BitsNone: the walk: of words of each op, with one bit below it, the program tells what the page does. Condition: the tables lie in the world.
-/
import Derived.Test.YtlhdmdhecamlfaaDoorShell
import Derived.Deep.LoopGhost
import Derived.Deep.DeepCutAuto
namespace Go.Proofs.YtlhdmdhecamlfaaDoor
open Go.RowKit

theorem none_far (op k : Nat) (h : op < 64) (hk : k < 26) (h33 : 33 < op) : okW (bits .or .u32 ((op : Int) * 67108864) (2 ^ k % 4294967296)) = false := by
  have p0 : (0 : Int) < 2 ^ k := Int.pow_pos (by decide)
  have p1 : (2 : Int) ^ k < 2 ^ 26 := by exact_mod_cast (Nat.pow_lt_pow_right (by decide : 1 < 2) hk)
  have p2 : (2 : Int) ^ 26 = 67108864 := by decide
  have p3 : (2 : Int) ^ k % 4294967296 = 2 ^ k := Int.emod_eq_of_lt (by omega) (by omega)
  rw [p3, or_add 26 _ _ (by omega) (by omega) (by omega) p1 (by omega)]
  apply ok_far
  unfold opW
  generalize (2 : Int) ^ k = z at *
  omega
set_option maxHeartbeats 4000000 in
set_option maxRecDepth 100000 in
theorem bitsNone_walk (A1 A2 A3 A4 A5 : Option Addr) (n1 c1 n2 c2 n3 c3 n4 c4 n5 c5 : Nat) (w : World) (H : Tab w) :
    Calls Tryd.prog 7 #[.agg #[.slice A1 n1 c1, .slice A2 n2 c2, .slice A3 n3 c3, .slice A4 n4 c4, .slice A5 n5 c5]] w (TruePost w) := by
  have T := Lib.hid H
  have big := H.big
  clear H
  go_enter Tryd.func7, Tryd.ntmps7
  go_wp2_with fail
  have z0 : (w.alloc (.cells #[.slice A1 n1 c1, .slice A2 n2 c2, .slice A3 n3 c3, .slice A4 n4 c4, .slice A5 n5 c5] 32)).heap.size = w.heap.size + 1 := by simp
  have Q0 := Lib.hid (show (w.alloc (.cells #[.slice A1 n1 c1, .slice A2 n2 c2, .slice A3 n3 c3, .slice A4 n4 c4, .slice A5 n5 c5] 32)).cell? ⟨w.heap.size, 4, none⟩ = some (.slice A5 n5 c5) by simp [go_sem])
  generalize hW0 : (w.alloc (.cells #[.slice A1 n1 c1, .slice A2 n2 c2, .slice A3 n3 c3, .slice A4 n4 c4, .slice A5 n5 c5] 32)) = W0 at z0 Q0
  have HW0 := Lib.hid hW0
  have Z0 := Lib.hid z0
  clear hW0 z0
  have T0 := Lib.hid (show Tab W0 from HW0.out ▸ T.out.alloc _)
  go_loopg [3] 64 (fun gk o wr2 => ∃ op : Nat, op ≤ 64 ∧ gk = 64 - op ∧ o = .int .i64 op ∧ Below (w.heap.size + 1) W0 wr2)
  case atStart => exact ⟨0, by omega, rfl, rfl, Below.refl _ _⟩
  case round =>
    obtain ⟨op, hop, rfl, rfl, hb⟩ := hrel
    have HB := Lib.hid hb
    clear hb
    by_cases hle : op < 64
    · have hd : decide ((op : Int) < 64) = true := by simp; omega
      go_wp2_with fail
      go_loopg [4] 26 (fun gk o wr2 => ∃ k : Nat, k ≤ 26 ∧ gk = 26 - k ∧ o = .int .i64 k ∧ Below (w.heap.size + 1) W0 wr2)
      case atStart => exact ⟨0, by omega, rfl, rfl, HB.out⟩
      case round =>
        clear HB
        obtain ⟨k, hk, rfl, rfl, hb⟩ := hrel
        have HB := Lib.hid hb
        have HG := Lib.hid (show w.heap.size + 1 ≤ wr.heap.size by have := hb.size; have := Z0.out; omega)
        clear hb
        by_cases hlt : k < 26
        · have hdk : decide ((k : Int) < 26) = true := by simp; omega
          go_wp2_with fail
          have FAR := Lib.hid (none_far op k hle hlt)
          obtain ⟨X0, X1⟩ := or_bd ((op : Int) * 67108864) (2 ^ k % 4294967296)
          generalize bits BinOp.or IntKind.u32 ((op : Int) * 67108864) (2 ^ k % 4294967296) = X at X0 X1 FAR ⊢
          have TR := Lib.hid (tab_below T0.out HB.out (by have := T.out.big; omega))
          cases hok : okW X
          · as_aux_lemma =>
            skip
            have OK := Lib.hid hok
            clear hok
            refine (bins_no _ _ TR.out X0 X1 OK.out).mono ?_
            rintro e w1 ⟨rfl, hb1⟩
            have H1 := Lib.hid (HB.out.trans (hb1.mono HG.out))
            have G1 := Lib.hid (Nat.le_trans HG.out hb1.size)
            clear hb1
            go_wp2_with fail
            refine (unw_no _ _ X0 X1 OK.out).mono ?_
            rintro e w2 ⟨rfl, hb2⟩
            obtain ⟨q, hz2, hB2⟩ := box_cells hb2
            have k0 : w2.cell? ⟨w1.heap.size, 0, none⟩ = some (.int .i64 0) := q 0
            have k1 : w2.cell? ⟨w1.heap.size, 1, none⟩ = some (.int .i64 0) := q 1
            have k2 : w2.cell? ⟨w1.heap.size, 2, none⟩ = some (.int .i64 0) := q 2
            have k3 : w2.cell? ⟨w1.heap.size, 3, none⟩ = some (.int .i64 0) := q 3
            have k4 : w2.cell? ⟨w1.heap.size, 4, none⟩ = some (.int .i64 0) := q 4
            have k5 : w2.cell? ⟨w1.heap.size, 5, none⟩ = some (.string ⟨#[]⟩) := q 5
            have H2 := Lib.hid (H1.out.trans (hB2.mono G1.out))
            have G2 := Lib.hid (Nat.le_trans G1.out hB2.size)
            clear q hb2 hB2
            by_cases h33 : op ≤ 33
            · have hd33 : decide ((33 : Int) < (op : Int)) = false := by simp; omega
              go_wp2_with (go_at_call 11; refine (num_any _ _).mono ?_; rintro e w' ⟨rfl, rfl⟩)
              go_roundg (26 - (k + 1))
              case measure => omega
              case rel => exact ⟨k + 1, by omega, rfl, by go_num, H2.out.alloc G2.out _⟩

            · have hd33 : decide ((33 : Int) < (op : Int)) = true := by simp; omega
              go_wp2_with (go_at_call 11; refine (num_any _ _).mono ?_; rintro e w' ⟨rfl, rfl⟩)
              go_roundg (26 - (k + 1))
              case measure => omega
              case rel => exact ⟨k + 1, by omega, rfl, by go_num, H2.out.alloc G2.out _⟩
          · as_aux_lemma =>
            skip
            have OK := Lib.hid hok
            clear hok
            refine (bins_yes _ _ TR.out X0 X1 OK.out).mono ?_
            rintro e w1 ⟨rfl, hb1⟩
            have H1 := Lib.hid (HB.out.trans (hb1.mono HG.out))
            have G1 := Lib.hid (Nat.le_trans HG.out hb1.size)
            clear hb1
            go_wp2_with fail
            refine (unw_yes _ _ X0 X1 OK.out).mono ?_
            rintro e w2 ⟨rfl, hb2⟩
            obtain ⟨q, hz2, hB2⟩ := box_cells hb2
            have k0 : w2.cell? ⟨w1.heap.size, 0, none⟩ = some (.int .i64 (xo X)) := q 0
            have k1 : w2.cell? ⟨w1.heap.size, 1, none⟩ = some (.int .i64 (xd X)) := q 1
            have k2 : w2.cell? ⟨w1.heap.size, 2, none⟩ = some (.int .i64 (xa X)) := q 2
            have k3 : w2.cell? ⟨w1.heap.size, 3, none⟩ = some (.int .i64 (xb X)) := q 3
            have k4 : w2.cell? ⟨w1.heap.size, 4, none⟩ = some (.int .i64 (xm X)) := q 4
            have k5 : w2.cell? ⟨w1.heap.size, 5, none⟩ = some (.string ⟨#[]⟩) := q 5
            have H2 := Lib.hid (H1.out.trans (hB2.mono G1.out))
            have G2 := Lib.hid (Nat.le_trans G1.out hB2.size)
            clear q hb2 hB2
            have h33 : op ≤ 33 := by
              rcases Nat.lt_or_ge 33 op with h | h
              · have := FAR.out h; rw [OK.out] at this; cases this
              · exact h
            have hd33 : decide ((33 : Int) < (op : Int)) = false := by simp; omega
            have s1 : (xo X != xo X) = false := by simp
            have s2 : (xd X != xd X) = false := by simp
            have s3 : (xa X != xa X) = false := by simp
            have s4 : (xb X != xb X) = false := by simp
            have s5 : (xm X != xm X) = false := by simp
            go_wp2_with (go_at_call 11; refine (num_any _ _).mono ?_; rintro e w' ⟨rfl, rfl⟩)
            go_roundg (26 - (k + 1))
            case measure => omega
            case rel => exact ⟨k + 1, by omega, rfl, by go_num, H2.out.alloc G2.out _⟩
        · have hdk : decide ((k : Int) < 26) = false := by simp; omega
          go_wp2_with fail
          go_roundg (64 - (op + 1))
          case measure => omega
          case rel => exact ⟨op + 1, by omega, rfl, by go_num, HB.out⟩
    · have hd : decide ((op : Int) < 64) = false := by simp; omega
      have q0 := (HB.out.cell (p := ⟨w.heap.size, 4, none⟩) (by simp)).trans Q0.out
      have T5 := Lib.hid (tab_below T0.out HB.out (by have := T.out.big; omega))
      have n50 : (0 : Int) ≤ (n5 : Int) := by omega
      go_wp2_with (go_at_call 14; refine (wakes_any _ T5.out).mono ?_; rintro e w9 ⟨rfl, hb9⟩)
      go_ret
      have hb0 : Below w.heap.size w W0 := HW0.out ▸ below_new w _
      exact ⟨rfl, (hb0.trans (HB.out.mono (by omega))).trans (hb9.mono (by have := HB.out.size; have := Z0.out; omega))⟩
end Go.Proofs.YtlhdmdhecamlfaaDoor
