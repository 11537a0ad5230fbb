/-
  SeqMemory: the walk: programs that store and load, also beyond memory, do on both machines the same. Conditions: the tables lie in the world; the argument reads as a script.
-/
import Derived.Test.YtpnmlednningkaaDoorShell
import Derived.Deep.LoopGhost
namespace Go.Proofs.YtpnmlednningkaaDoor
open Go.RowKit

def memP (k : Int) : List In5 := [⟨23, 1, 0, 0, 253⟩, ⟨26, 2, 0, 0, 0⟩, ⟨25, 0, 1, 2, k⟩, ⟨24, 3, 1, 0, k⟩, ⟨27, 0, 3, 0, 0⟩, ⟨22, 1, 1, 0, 1⟩, ⟨28, 0, 0, 0, 1⟩]
def memE : List In5 := [⟨23, 1, 0, 0, -1⟩, ⟨24, 2, 1, 0, 1⟩, ⟨25, 0, 1, 2, 0⟩]
theorem mem_vp (k : Int) (h0 : -2 ≤ k) (h1 : k ≤ 4) : Vp (memP k) := by
  have h : k = -2 ∨ k = -1 ∨ k = 0 ∨ k = 1 ∨ k = 2 ∨ k = 3 ∨ k = 4 := by omega
  rcases h with rfl | rfl | rfl | rfl | rfl | rfl | rfl <;> exact vp_of (by decide +kernel)
theorem mem_ve : Vp memE := vp_of (by decide +kernel)
set_option maxRecDepth 40000 in
set_option maxHeartbeats 4000000 in
theorem seqMemory_walk (v : Value) (w : World) (T : Tab w) (H : Asked w v) : Calls Tryd.prog 8 #[v] w (BoolBelow true w) := by
  obtain ⟨xs, ins, SC⟩ := H.sc
  obtain ⟨A0, A1, A2, A3, A4, A5, A6, A7, A8, n0, c0, n1, c1, n2, c2, n3, c3, n4, c4, n5, c5, n6, c6, n7, c7, n8, c8, tk, pc, stop, j, d, rfl, _, _, _, _, _, _, _, _, _, _, _, _, b8⟩ := SC.form
  have RU := Lib.hid (fun W (hb : Below w.heap.size w W) pv P (hp : RdP W pv P) (v : Vp P) => runs_any _ pv xs ins P W (SC.below hb) hp v (T.below hb))
  have n80 : (0 : Int) ≤ (n8 : Int) := by omega
  have n81 : (n8 : Int) ≤ 1125899906842624 := by omega
  clear SC T H b8
  have X0 := Lib.hid (show BK 29 (w.alloc (.cells #[.slice A0 n0 c0, .slice A1 n1 c1, .slice A2 n2 c2, .slice A3 n3 c3, .int .i64 tk, .slice A4 n4 c4, .int .i64 pc, .slice A5 n5 c5, .int .i64 stop, .slice A6 n6 c6, .int .i64 j, .int .i64 d, .slice A7 n7 c7, .slice A8 n8 c8] 29)) w.heap.size #[.slice A0 n0 c0, .slice A1 n1 c1, .slice A2 n2 c2, .slice A3 n3 c3, .int .i64 tk, .slice A4 n4 c4, .int .i64 pc, .slice A5 n5 c5, .int .i64 stop, .slice A6 n6 c6, .int .i64 j, .int .i64 d, .slice A7 n7 c7, .slice A8 n8 c8] from heap_alloc_new w _)
  have G0 := Lib.hid (below_new w (.cells #[.slice A0 n0 c0, .slice A1 n1 c1, .slice A2 n2 c2, .slice A3 n3 c3, .int .i64 tk, .slice A4 n4 c4, .int .i64 pc, .slice A5 n5 c5, .int .i64 stop, .slice A6 n6 c6, .int .i64 j, .int .i64 d, .slice A7 n7 c7, .slice A8 n8 c8] 29))
  go_enter Tryd.func8, Tryd.ntmps8
  go_wp2_with fail
  go_loopg [3] 5 (fun gk o wr2 => ∃ i : Nat, i ≤ 5 ∧ gk = 5 - i ∧ o = .int .i64 ((i : Int) - 2) ∧ BK 29 wr2 w.heap.size #[.slice A0 n0 c0, .slice A1 n1 c1, .slice A2 n2 c2, .slice A3 n3 c3, .int .i64 tk, .slice A4 n4 c4, .int .i64 pc, .slice A5 n5 c5, .int .i64 stop, .slice A6 n6 c6, .int .i64 j, .int .i64 d, .slice A7 n7 c7, .slice A8 n8 c8] ∧ Below w.heap.size w wr2)
  case atStart => exact ⟨0, by omega, rfl, rfl, X0.out, G0.out⟩
  case round =>
    obtain ⟨i, hi, rfl, rfl, hbk, hbb⟩ := hrel
    have X1 := Lib.hid hbk
    have G1 := Lib.hid hbb
    obtain ⟨q0, q1, q2, q3, q4, q5, q6, q7, q8, q9, q10, q11, q12, q13⟩ := hbk.c14
    have hl1 := hbk.lt
    have GS := Lib.hid hbb.size
    clear hbk hbb
    by_cases hlt : i < 5
    · have hd : decide ((i : Int) - 2 < 3) = true := by simp; omega
      go_wp2_with fail
      refine (RU.out _ ?hb _ (memP ((i : Int) - 2 + (n8 : Int) % 3)) ?hp (mem_vp _ (by omega) (by omega))).mono ?_
      case hp => exact rdp_lit _ _ _ 7 rfl rfl (by decide)
      case hb => exact G1.out.alloc GS.out _
      rintro e w1 ⟨rfl, b1⟩
      have X2 := Lib.hid ((X1.out.alloc (.cells #[.int .i64 23, .int .i64 1, .int .i64 0, .int .i64 0, .int .i64 253, .string ⟨#[]⟩, .int .i64 26, .int .i64 2, .int .i64 0, .int .i64 0, .int .i64 0, .string ⟨#[]⟩, .int .i64 25, .int .i64 0, .int .i64 1, .int .i64 2, .int .i64 ((i : Int) - 2 + (n8 : Int) % 3), .string ⟨#[]⟩, .int .i64 24, .int .i64 3, .int .i64 1, .int .i64 0, .int .i64 ((i : Int) - 2 + (n8 : Int) % 3), .string ⟨#[]⟩, .int .i64 27, .int .i64 0, .int .i64 3, .int .i64 0, .int .i64 0, .string ⟨#[]⟩, .int .i64 22, .int .i64 1, .int .i64 1, .int .i64 0, .int .i64 1, .string ⟨#[]⟩, .int .i64 28, .int .i64 0, .int .i64 0, .int .i64 0, .int .i64 1, .string ⟨#[]⟩] 54)).below b1)
      have G2 := Lib.hid ((G1.out.alloc GS.out (.cells #[.int .i64 23, .int .i64 1, .int .i64 0, .int .i64 0, .int .i64 253, .string ⟨#[]⟩, .int .i64 26, .int .i64 2, .int .i64 0, .int .i64 0, .int .i64 0, .string ⟨#[]⟩, .int .i64 25, .int .i64 0, .int .i64 1, .int .i64 2, .int .i64 ((i : Int) - 2 + (n8 : Int) % 3), .string ⟨#[]⟩, .int .i64 24, .int .i64 3, .int .i64 1, .int .i64 0, .int .i64 ((i : Int) - 2 + (n8 : Int) % 3), .string ⟨#[]⟩, .int .i64 27, .int .i64 0, .int .i64 3, .int .i64 0, .int .i64 0, .string ⟨#[]⟩, .int .i64 22, .int .i64 1, .int .i64 1, .int .i64 0, .int .i64 1, .string ⟨#[]⟩, .int .i64 28, .int .i64 0, .int .i64 0, .int .i64 0, .int .i64 1, .string ⟨#[]⟩] 54)).trans (b1.mono (by have := GS.out; simp; omega)))
      clear b1 q0 q1 q2 q3 q4 q5 q6 q7 q8 q9 q10 q11 q12 q13
      go_wp2_with fail
      go_roundg (5 - (i + 1))
      case measure => omega
      case rel => exact ⟨i + 1, by omega, rfl, by go_num, X2.out, G2.out⟩
    · have hd : decide ((i : Int) - 2 < 3) = false := by simp; omega
      go_wp2_with fail
      refine (RU.out _ ?hb _ memE ?hp mem_ve).mono ?_
      case hp => exact rdp_lit _ _ _ 3 rfl rfl (by decide)
      case hb => exact G1.out.alloc GS.out _
      rintro e w1 ⟨rfl, b1⟩
      have G2 := Lib.hid ((G1.out.alloc GS.out (.cells #[.int .i64 23, .int .i64 1, .int .i64 0, .int .i64 0, .int .i64 (-1), .string ⟨#[]⟩, .int .i64 24, .int .i64 2, .int .i64 1, .int .i64 0, .int .i64 1, .string ⟨#[]⟩, .int .i64 25, .int .i64 0, .int .i64 1, .int .i64 2, .int .i64 0, .string ⟨#[]⟩] 54)).trans (b1.mono (by have := GS.out; simp; omega)))
      clear b1
      go_wp2
      go_ret
      exact ⟨rfl, G2.out⟩
end Go.Proofs.YtpnmlednningkaaDoor
