/-
  SeqJumps: the walk: programs that count down, and up, by each kind of jump, do on both machines the same. Conditions: the tables lie in the world; the argument reads as a script.
-/
import Derived.Test.YtpnmlednningkaaDoorShell
namespace Go.Proofs.YtpnmlednningkaaDoor
open Go.RowKit

def downP (k : Int) : List In5 := [⟨23, 1, 0, 0, k⟩, ⟨27, 0, 1, 0, 0⟩, ⟨22, 1, 1, 0, -1⟩, ⟨30, 0, 1, 0, 1⟩, ⟨33, 0, 0, 0, 0⟩]
def upP : List In5 := [⟨26, 1, 0, 0, 0⟩, ⟨29, 0, 1, 0, 4⟩, ⟨27, 0, 1, 0, 0⟩, ⟨28, 0, 0, 0, 0⟩, ⟨28, 0, 0, 0, 5⟩]
theorem down_vp (k : Int) (h0 : 1 ≤ k) (h1 : k < 6) : Vp (downP k) := by
  have h : k = 1 ∨ k = 2 ∨ k = 3 ∨ k = 4 ∨ k = 5 := by omega
  rcases h with rfl | rfl | rfl | rfl | rfl <;> exact vp_of (by decide +kernel)
theorem up_vp : Vp upP := vp_of (by decide +kernel)
set_option maxRecDepth 40000 in
set_option maxHeartbeats 4000000 in
theorem seqJumps_walk (v : Value) (w : World) (T : Tab w) (H : Asked w v) : Calls Tryd.prog 9 #[v] w (BoolBelow true w) := by
  obtain ⟨xs, ins, SC⟩ := H.sc
  obtain ⟨A0, A1, A2, A3, A4, A5, A6, A7, A8, n0, c0, n1, c1, n2, c2, n3, c3, n4, c4, n5, c5, n6, c6, n7, c7, n8, c8, tk, pc, stop, j, d, rfl, _, _, _, _, _, _, _, _, _, _, _, _, b8⟩ := SC.form
  have RU := Lib.hid (fun W (hb : Below w.heap.size w W) pv P (hp : RdP W pv P) (v : Vp P) => runs_any _ pv xs ins P W (SC.below hb) hp v (T.below hb))
  have n80 : (0 : Int) ≤ (n8 : Int) := by omega
  have n81 : (n8 : Int) ≤ 1125899906842624 := by omega
  clear SC T H b8
  have X0 := Lib.hid (show BK 29 (w.alloc (.cells #[.slice A0 n0 c0, .slice A1 n1 c1, .slice A2 n2 c2, .slice A3 n3 c3, .int .i64 tk, .slice A4 n4 c4, .int .i64 pc, .slice A5 n5 c5, .int .i64 stop, .slice A6 n6 c6, .int .i64 j, .int .i64 d, .slice A7 n7 c7, .slice A8 n8 c8] 29)) w.heap.size #[.slice A0 n0 c0, .slice A1 n1 c1, .slice A2 n2 c2, .slice A3 n3 c3, .int .i64 tk, .slice A4 n4 c4, .int .i64 pc, .slice A5 n5 c5, .int .i64 stop, .slice A6 n6 c6, .int .i64 j, .int .i64 d, .slice A7 n7 c7, .slice A8 n8 c8] from heap_alloc_new w _)
  have G0 := Lib.hid (below_new w (.cells #[.slice A0 n0 c0, .slice A1 n1 c1, .slice A2 n2 c2, .slice A3 n3 c3, .int .i64 tk, .slice A4 n4 c4, .int .i64 pc, .slice A5 n5 c5, .int .i64 stop, .slice A6 n6 c6, .int .i64 j, .int .i64 d, .slice A7 n7 c7, .slice A8 n8 c8] 29))
  go_enter Tryd.func9, Tryd.ntmps9
  go_wp2_with fail
  refine (RU.out _ ?hb _ (downP (1 + (n8 : Int) % 5)) ?hp (down_vp _ (by omega) (by omega))).mono ?_
  case hp =>
    have h := RdP.keep (rdp_lit (w.alloc (.cells #[.slice A0 n0 c0, .slice A1 n1 c1, .slice A2 n2 c2, .slice A3 n3 c3, .int .i64 tk, .slice A4 n4 c4, .int .i64 pc, .slice A5 n5 c5, .int .i64 stop, .slice A6 n6 c6, .int .i64 j, .int .i64 d, .slice A7 n7 c7, .slice A8 n8 c8] 29)) #[.int .i64 23, .int .i64 1, .int .i64 0, .int .i64 0, .int .i64 (1 + (n8 : Int) % 5), .string ⟨#[]⟩, .int .i64 27, .int .i64 0, .int .i64 1, .int .i64 0, .int .i64 0, .string ⟨#[]⟩, .int .i64 22, .int .i64 1, .int .i64 1, .int .i64 0, .int .i64 (-1), .string ⟨#[]⟩, .int .i64 30, .int .i64 0, .int .i64 1, .int .i64 0, .int .i64 1, .string ⟨#[]⟩, .int .i64 33, .int .i64 0, .int .i64 0, .int .i64 0, .int .i64 0, .string ⟨#[]⟩] (downP (1 + (n8 : Int) % 5)) 5 (by rfl) (by rfl) (by decide)) (below_new _ (.cells #[.int .i64 26, .int .i64 1, .int .i64 0, .int .i64 0, .int .i64 0, .string ⟨#[]⟩, .int .i64 29, .int .i64 0, .int .i64 1, .int .i64 0, .int .i64 4, .string ⟨#[]⟩, .int .i64 27, .int .i64 0, .int .i64 1, .int .i64 0, .int .i64 0, .string ⟨#[]⟩, .int .i64 28, .int .i64 0, .int .i64 0, .int .i64 0, .int .i64 0, .string ⟨#[]⟩, .int .i64 28, .int .i64 0, .int .i64 0, .int .i64 0, .int .i64 5, .string ⟨#[]⟩] 54))
    simpa using h
  case hb => exact (G0.out.alloc (by simp) _).alloc (by simp; omega) _
  rintro e w1 ⟨rfl, b1⟩
  have X1 := Lib.hid (((X0.out.alloc (.cells #[.int .i64 23, .int .i64 1, .int .i64 0, .int .i64 0, .int .i64 (1 + (n8 : Int) % 5), .string ⟨#[]⟩, .int .i64 27, .int .i64 0, .int .i64 1, .int .i64 0, .int .i64 0, .string ⟨#[]⟩, .int .i64 22, .int .i64 1, .int .i64 1, .int .i64 0, .int .i64 (-1), .string ⟨#[]⟩, .int .i64 30, .int .i64 0, .int .i64 1, .int .i64 0, .int .i64 1, .string ⟨#[]⟩, .int .i64 33, .int .i64 0, .int .i64 0, .int .i64 0, .int .i64 0, .string ⟨#[]⟩] 54)).alloc (.cells #[.int .i64 26, .int .i64 1, .int .i64 0, .int .i64 0, .int .i64 0, .string ⟨#[]⟩, .int .i64 29, .int .i64 0, .int .i64 1, .int .i64 0, .int .i64 4, .string ⟨#[]⟩, .int .i64 27, .int .i64 0, .int .i64 1, .int .i64 0, .int .i64 0, .string ⟨#[]⟩, .int .i64 28, .int .i64 0, .int .i64 0, .int .i64 0, .int .i64 0, .string ⟨#[]⟩, .int .i64 28, .int .i64 0, .int .i64 0, .int .i64 0, .int .i64 5, .string ⟨#[]⟩] 54)).below b1)
  have G1 := Lib.hid (((G0.out.alloc (by simp) (.cells #[.int .i64 23, .int .i64 1, .int .i64 0, .int .i64 0, .int .i64 (1 + (n8 : Int) % 5), .string ⟨#[]⟩, .int .i64 27, .int .i64 0, .int .i64 1, .int .i64 0, .int .i64 0, .string ⟨#[]⟩, .int .i64 22, .int .i64 1, .int .i64 1, .int .i64 0, .int .i64 (-1), .string ⟨#[]⟩, .int .i64 30, .int .i64 0, .int .i64 1, .int .i64 0, .int .i64 1, .string ⟨#[]⟩, .int .i64 33, .int .i64 0, .int .i64 0, .int .i64 0, .int .i64 0, .string ⟨#[]⟩] 54)).alloc (by simp; omega) (.cells #[.int .i64 26, .int .i64 1, .int .i64 0, .int .i64 0, .int .i64 0, .string ⟨#[]⟩, .int .i64 29, .int .i64 0, .int .i64 1, .int .i64 0, .int .i64 4, .string ⟨#[]⟩, .int .i64 27, .int .i64 0, .int .i64 1, .int .i64 0, .int .i64 0, .string ⟨#[]⟩, .int .i64 28, .int .i64 0, .int .i64 0, .int .i64 0, .int .i64 0, .string ⟨#[]⟩, .int .i64 28, .int .i64 0, .int .i64 0, .int .i64 0, .int .i64 5, .string ⟨#[]⟩] 54)).trans (b1.mono (by simp; omega)))
  have U1 := Lib.hid (RdP.keep (rdp_lit ((w.alloc (.cells #[.slice A0 n0 c0, .slice A1 n1 c1, .slice A2 n2 c2, .slice A3 n3 c3, .int .i64 tk, .slice A4 n4 c4, .int .i64 pc, .slice A5 n5 c5, .int .i64 stop, .slice A6 n6 c6, .int .i64 j, .int .i64 d, .slice A7 n7 c7, .slice A8 n8 c8] 29)).alloc (.cells #[.int .i64 23, .int .i64 1, .int .i64 0, .int .i64 0, .int .i64 (1 + (n8 : Int) % 5), .string ⟨#[]⟩, .int .i64 27, .int .i64 0, .int .i64 1, .int .i64 0, .int .i64 0, .string ⟨#[]⟩, .int .i64 22, .int .i64 1, .int .i64 1, .int .i64 0, .int .i64 (-1), .string ⟨#[]⟩, .int .i64 30, .int .i64 0, .int .i64 1, .int .i64 0, .int .i64 1, .string ⟨#[]⟩, .int .i64 33, .int .i64 0, .int .i64 0, .int .i64 0, .int .i64 0, .string ⟨#[]⟩] 54)) #[.int .i64 26, .int .i64 1, .int .i64 0, .int .i64 0, .int .i64 0, .string ⟨#[]⟩, .int .i64 29, .int .i64 0, .int .i64 1, .int .i64 0, .int .i64 4, .string ⟨#[]⟩, .int .i64 27, .int .i64 0, .int .i64 1, .int .i64 0, .int .i64 0, .string ⟨#[]⟩, .int .i64 28, .int .i64 0, .int .i64 0, .int .i64 0, .int .i64 0, .string ⟨#[]⟩, .int .i64 28, .int .i64 0, .int .i64 0, .int .i64 0, .int .i64 5, .string ⟨#[]⟩] upP 5 (by rfl) (by rfl) (by decide)) b1)
  obtain ⟨q0, q1, q2, q3, q4, q5, q6, q7, q8, q9, q10, q11, q12, q13⟩ := X1.out.c14
  have hl1 := X1.out.lt
  clear b1
  go_wp2_with fail
  refine (RU.out _ G1.out _ upP ?hq up_vp).mono ?_
  case hq => simpa using U1.out
  rintro e w2 ⟨rfl, b2⟩
  have G2 := Lib.hid (G1.out.trans (b2.mono G1.out.size))
  clear b2
  go_wp2
  go_ret
  exact ⟨rfl, G2.out⟩
end Go.Proofs.YtpnmlednningkaaDoor
