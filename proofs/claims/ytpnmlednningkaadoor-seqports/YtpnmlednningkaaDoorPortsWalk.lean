/-
  SeqPorts: the walk: a program that takes inputs and puts out does on both machines the same. Conditions: the tables lie in the world; the argument reads as a script.
-/
import Derived.Test.YtpnmlednningkaaDoorShell
namespace Go.Proofs.YtpnmlednningkaaDoor
open Go.RowKit

def portsP (k : Int) : List In5 := [⟨26, 1, 0, 0, 0⟩, ⟨27, 0, 1, 0, 0⟩, ⟨26, 2, 0, 0, 0⟩, ⟨18, 3, 2, 1, 0⟩, ⟨27, 0, 3, 0, 0⟩, ⟨30, 0, 2, 0, k⟩, ⟨27, 0, 0, 0, 0⟩, ⟨26, 0, 0, 0, 0⟩, ⟨33, 0, 0, 0, 0⟩]
theorem ports_vp (k : Int) (h0 : 0 ≤ k) (h1 : k < 3) : Vp (portsP k) := by
  have h : k = 0 ∨ k = 1 ∨ k = 2 := by omega
  rcases h with rfl | rfl | rfl <;> exact vp_of (by decide +kernel)
set_option maxRecDepth 40000 in
set_option maxHeartbeats 4000000 in
theorem seqPorts_walk (v : Value) (w : World) (T : Tab w) (H : Asked w v) : Calls Tryd.prog 11 #[v] w (BoolBelow true w) := by
  obtain ⟨xs, ins, SC⟩ := H.sc
  obtain ⟨A0, A1, A2, A3, A4, A5, A6, A7, A8, n0, c0, n1, c1, n2, c2, n3, c3, n4, c4, n5, c5, n6, c6, n7, c7, n8, c8, tk, pc, stop, j, d, rfl, _, _, _, _, _, _, _, _, _, _, _, _, b8⟩ := SC.form
  have RU := Lib.hid (fun W (hb : Below w.heap.size w W) pv P (hp : RdP W pv P) (v : Vp P) => runs_any _ pv xs ins P W (SC.below hb) hp v (T.below hb))
  have n80 : (0 : Int) ≤ (n8 : Int) := by omega
  have n81 : (n8 : Int) ≤ 1125899906842624 := by omega
  clear SC T H b8
  have X0 := Lib.hid (show BK 29 (w.alloc (.cells #[.slice A0 n0 c0, .slice A1 n1 c1, .slice A2 n2 c2, .slice A3 n3 c3, .int .i64 tk, .slice A4 n4 c4, .int .i64 pc, .slice A5 n5 c5, .int .i64 stop, .slice A6 n6 c6, .int .i64 j, .int .i64 d, .slice A7 n7 c7, .slice A8 n8 c8] 29)) w.heap.size #[.slice A0 n0 c0, .slice A1 n1 c1, .slice A2 n2 c2, .slice A3 n3 c3, .int .i64 tk, .slice A4 n4 c4, .int .i64 pc, .slice A5 n5 c5, .int .i64 stop, .slice A6 n6 c6, .int .i64 j, .int .i64 d, .slice A7 n7 c7, .slice A8 n8 c8] from heap_alloc_new w _)
  have G0 := Lib.hid (below_new w (.cells #[.slice A0 n0 c0, .slice A1 n1 c1, .slice A2 n2 c2, .slice A3 n3 c3, .int .i64 tk, .slice A4 n4 c4, .int .i64 pc, .slice A5 n5 c5, .int .i64 stop, .slice A6 n6 c6, .int .i64 j, .int .i64 d, .slice A7 n7 c7, .slice A8 n8 c8] 29))
  go_enter Tryd.func11, Tryd.ntmps11
  go_wp2_with fail
  refine (RU.out _ ?hb _ (portsP ((n8 : Int) % 3)) ?hp (ports_vp _ (by omega) (by omega))).mono ?_
  case hp =>
    have h := rdp_lit (w.alloc (.cells #[.slice A0 n0 c0, .slice A1 n1 c1, .slice A2 n2 c2, .slice A3 n3 c3, .int .i64 tk, .slice A4 n4 c4, .int .i64 pc, .slice A5 n5 c5, .int .i64 stop, .slice A6 n6 c6, .int .i64 j, .int .i64 d, .slice A7 n7 c7, .slice A8 n8 c8] 29)) #[.int .i64 26, .int .i64 1, .int .i64 0, .int .i64 0, .int .i64 0, .string ⟨#[]⟩, .int .i64 27, .int .i64 0, .int .i64 1, .int .i64 0, .int .i64 0, .string ⟨#[]⟩, .int .i64 26, .int .i64 2, .int .i64 0, .int .i64 0, .int .i64 0, .string ⟨#[]⟩, .int .i64 18, .int .i64 3, .int .i64 2, .int .i64 1, .int .i64 0, .string ⟨#[]⟩, .int .i64 27, .int .i64 0, .int .i64 3, .int .i64 0, .int .i64 0, .string ⟨#[]⟩, .int .i64 30, .int .i64 0, .int .i64 2, .int .i64 0, .int .i64 ((n8 : Int) % 3), .string ⟨#[]⟩, .int .i64 27, .int .i64 0, .int .i64 0, .int .i64 0, .int .i64 0, .string ⟨#[]⟩, .int .i64 26, .int .i64 0, .int .i64 0, .int .i64 0, .int .i64 0, .string ⟨#[]⟩, .int .i64 33, .int .i64 0, .int .i64 0, .int .i64 0, .int .i64 0, .string ⟨#[]⟩] (portsP ((n8 : Int) % 3)) 9 (by rfl) (by rfl) (by decide)
    simpa using h
  case hb => exact G0.out.alloc (by simp) _
  rintro e w1 ⟨rfl, b1⟩
  have G1 := Lib.hid ((G0.out.alloc (by simp) (.cells #[.int .i64 26, .int .i64 1, .int .i64 0, .int .i64 0, .int .i64 0, .string ⟨#[]⟩, .int .i64 27, .int .i64 0, .int .i64 1, .int .i64 0, .int .i64 0, .string ⟨#[]⟩, .int .i64 26, .int .i64 2, .int .i64 0, .int .i64 0, .int .i64 0, .string ⟨#[]⟩, .int .i64 18, .int .i64 3, .int .i64 2, .int .i64 1, .int .i64 0, .string ⟨#[]⟩, .int .i64 27, .int .i64 0, .int .i64 3, .int .i64 0, .int .i64 0, .string ⟨#[]⟩, .int .i64 30, .int .i64 0, .int .i64 2, .int .i64 0, .int .i64 ((n8 : Int) % 3), .string ⟨#[]⟩, .int .i64 27, .int .i64 0, .int .i64 0, .int .i64 0, .int .i64 0, .string ⟨#[]⟩, .int .i64 26, .int .i64 0, .int .i64 0, .int .i64 0, .int .i64 0, .string ⟨#[]⟩, .int .i64 33, .int .i64 0, .int .i64 0, .int .i64 0, .int .i64 0, .string ⟨#[]⟩] 54)).trans (b1.mono (by simp; omega)))
  clear b1
  go_wp2
  go_ret
  exact ⟨rfl, G1.out⟩
end Go.Proofs.YtpnmlednningkaaDoor
