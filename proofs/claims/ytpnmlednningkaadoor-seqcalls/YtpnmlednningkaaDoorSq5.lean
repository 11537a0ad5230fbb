/-
  Contracts of package seq's call jump. Conditions: the state lies behind the pointer, and may be; the instruction's registers are below 16.
-/
import Derived.Test.YtpnmlednningkaaDoorSq4
import Derived.Deep.RegionHeld3
namespace Go.Proofs.YtpnmlednningkaaDoor
open Go.RowKit

set_option maxRecDepth 20000 in
set_option maxHeartbeats 1000000 in
theorem jump_jmp (B p : Nat) (x : In5) (m : M) (V : Vs) (w : World) (h : SA B w p m V) (ho : x.o = 28) : Calls Tryd.prog 60 #[.agg x.cells, .pointer (some ⟨p, 0, none⟩)] w (RetPost B p x.m 0 m w) := by
  have t29 : ((x.o : Int) == 29) = false := by simp; omega
  have t30 : ((x.o : Int) == 30) = false := by simp; omega
  have t31 : ((x.o : Int) == 31) = false := by simp; omega
  have t32 : ((x.o : Int) == 32) = false := by simp; omega
  have t33 : ((x.o : Int) == 33) = false := by simp; omega
  clear ho
  have H := Lib.hid h
  clear h
  obtain ⟨o, d, a, b, im⟩ := x
  simp only [In5.cells] at *
  go_enter Tryd.func60, Tryd.ntmps60
  go_wp2
  go_ret2
  exact ⟨rfl, ⟨_, H.out.alloc _⟩, (below_new _ _).mono H.out.B_le⟩
set_option maxRecDepth 20000 in
set_option maxHeartbeats 1000000 in
theorem jump_halt (B p : Nat) (x : In5) (m : M) (V : Vs) (w : World) (h : SA B w p m V) (ho : x.o = 33) : Calls Tryd.prog 60 #[.agg x.cells, .pointer (some ⟨p, 0, none⟩)] w (RetPost B p 0 1 m w) := by
  have t29 : ((x.o : Int) == 29) = false := by simp; omega
  have t30 : ((x.o : Int) == 30) = false := by simp; omega
  have t31 : ((x.o : Int) == 31) = false := by simp; omega
  have t32 : ((x.o : Int) == 32) = false := by simp; omega
  have t33 : ((x.o : Int) == 33) = true := by simp; omega
  clear ho
  have H := Lib.hid h
  clear h
  obtain ⟨o, d, a, b, im⟩ := x
  simp only [In5.cells] at *
  go_enter Tryd.func60, Tryd.ntmps60
  go_wp2
  go_ret2
  exact ⟨rfl, ⟨_, H.out.alloc _⟩, (below_new _ _).mono H.out.B_le⟩
set_option maxRecDepth 20000 in
set_option maxHeartbeats 1000000 in
theorem jump_ret (B p : Nat) (x : In5) (m : M) (V : Vs) (w : World) (h : SA B w p m V) (nx st : Int) (m' : M) (C : ∀ W, SA B W p m V → Calls Tryd.prog 80 #[.pointer (some ⟨p, 0, none⟩)] W (RetPost B p nx st m' W)) (ho : x.o = 32) : Calls Tryd.prog 60 #[.agg x.cells, .pointer (some ⟨p, 0, none⟩)] w (RetPost B p nx st m' w) := by
  have t29 : ((x.o : Int) == 29) = false := by simp; omega
  have t30 : ((x.o : Int) == 30) = false := by simp; omega
  have t31 : ((x.o : Int) == 31) = false := by simp; omega
  have t32 : ((x.o : Int) == 32) = true := by simp; omega
  have t33 : ((x.o : Int) == 33) = false := by simp; omega
  clear ho
  have H := Lib.hid (h.alloc (.cells x.cells 54))
  have HB := Lib.hid ((below_new w (.cells x.cells 54)).mono h.B_le)
  have CC := Lib.hid C
  clear h C
  obtain ⟨o, d, a, b, im⟩ := x
  simp only [In5.cells] at *
  go_enter Tryd.func60, Tryd.ntmps60
  go_wp2_with fail
  refine (CC.out _ H.out).mono ?_
  rintro e W3 ⟨rfl, ⟨V3, S3⟩, hb3⟩
  have SS := Lib.hid S3
  have BB := Lib.hid hb3
  clear S3 hb3
  go_wp2
  go_ret2
  exact ⟨rfl, ⟨_, SS.out⟩, HB.out.trans BB.out⟩
set_option maxRecDepth 20000 in
set_option maxHeartbeats 1000000 in
theorem jump_call (B p : Nat) (x : In5) (m : M) (V : Vs) (w : World) (h : SA B w p m V) (nx st : Int) (m' : M) (C : ∀ W, SA B W p m V → Calls Tryd.prog 79 #[.agg x.cells, .pointer (some ⟨p, 0, none⟩)] W (RetPost B p nx st m' W)) (ho : x.o = 31) : Calls Tryd.prog 60 #[.agg x.cells, .pointer (some ⟨p, 0, none⟩)] w (RetPost B p nx st m' w) := by
  have t29 : ((x.o : Int) == 29) = false := by simp; omega
  have t30 : ((x.o : Int) == 30) = false := by simp; omega
  have t31 : ((x.o : Int) == 31) = true := by simp; omega
  have t32 : ((x.o : Int) == 32) = false := by simp; omega
  have t33 : ((x.o : Int) == 33) = false := by simp; omega
  clear ho
  have H := Lib.hid (h.alloc (.cells x.cells 54))
  have HB := Lib.hid ((below_new w (.cells x.cells 54)).mono h.B_le)
  have CC := Lib.hid C
  clear h C
  obtain ⟨o, d, a, b, im⟩ := x
  simp only [In5.cells] at *
  go_enter Tryd.func60, Tryd.ntmps60
  go_wp2_with fail
  refine (CC.out _ H.out).mono ?_
  rintro e W3 ⟨rfl, ⟨V3, S3⟩, hb3⟩
  have SS := Lib.hid S3
  have BB := Lib.hid hb3
  clear S3 hb3
  go_wp2
  go_ret2
  exact ⟨rfl, ⟨_, SS.out⟩, HB.out.trans BB.out⟩
set_option maxRecDepth 20000 in
set_option maxHeartbeats 1000000 in
theorem jump_bz_yes (B p : Nat) (x : In5) (m : M) (V : Vs) (w : World) (h : SA B w p m V) (k : Ok m) (ho : x.o = 29) (ha : x.a < 16) (hr : m.reg x.a = 0) : Calls Tryd.prog 60 #[.agg x.cells, .pointer (some ⟨p, 0, none⟩)] w (RetPost B p x.m 0 m w) := by
  have t29 : ((x.o : Int) == 29) = true := by simp; omega
  have t30 : ((x.o : Int) == 30) = false := by simp; omega
  have t31 : ((x.o : Int) == 31) = false := by simp; omega
  have t32 : ((x.o : Int) == 32) = false := by simp; omega
  have t33 : ((x.o : Int) == 33) = false := by simp; omega
  have tb : ((m.reg x.a) == 0) = true := by simpa using hr
  clear ho hr
  go_enter Tryd.func60, Tryd.ntmps60
  simp only [In5.cells]
  go_wp2_with fail
  generalize hW : w.alloc (.cells #[.int .i64 x.o, .int .i64 x.d, .int .i64 x.a, .int .i64 x.b, .int .i64 x.m, .string ByteArray.empty] 54) = W
  have BX := Lib.hid (show Bx W w.heap.size x by rw [← hW]; exact bx_new w x)
  have SW := Lib.hid (show SA B W p m V by rw [← hW]; exact h.alloc _)
  have HB := Lib.hid (show Below B w W by rw [← hW]; exact (below_new w _).mono h.B_le)
  have hz : w.heap.size < W.heap.size := BX.out.lt
  have hpl : p < W.heap.size := SW.out.lt
  have hpz : p ≠ w.heap.size := Nat.ne_of_lt h.lt
  have hrz : V.gr ≠ w.heap.size := Nat.ne_of_lt h.gr_lt.2
  clear hW
  have q0 : W.cell? ⟨w.heap.size, 0, none⟩ = some (.int .i64 x.o) := BX.out.c 0
  have q1 : W.cell? ⟨w.heap.size, 1, none⟩ = some (.int .i64 x.d) := BX.out.c 1
  have q2 : W.cell? ⟨w.heap.size, 2, none⟩ = some (.int .i64 x.a) := BX.out.c 2
  have q3 : W.cell? ⟨w.heap.size, 3, none⟩ = some (.int .i64 x.b) := BX.out.c 3
  have q4 : W.cell? ⟨w.heap.size, 4, none⟩ = some (.int .i64 x.m) := BX.out.c 4
  have q5 : W.cell? ⟨w.heap.size, 5, none⟩ = some (.string ByteArray.empty) := BX.out.c 5
  have d0 : W.cell? ⟨p, 0, none⟩ = some (.slice (some ⟨V.gr, 0, none⟩) 16 V.cr) := SW.out.cell 0
  have i0 : (0 : Int) ≤ (x.a : Int) := by omega
  have i1 : (x.a : Int) < 16 := by omega
  have ra := SW.out.reg k ha
  have RR := Lib.hid ra
  have HL := Lib.hid (show V.gr < W.heap.size from SW.out.gr_lt.2)
  go_region_held3 (fun w' => w'.cell? ⟨w.heap.size, 0, none⟩ = some (.int .i64 x.o) ∧ w'.cell? ⟨w.heap.size, 1, none⟩ = some (.int .i64 x.d) ∧ w'.cell? ⟨w.heap.size, 2, none⟩ = some (.int .i64 x.a) ∧ w'.cell? ⟨w.heap.size, 3, none⟩ = some (.int .i64 x.b) ∧ w'.cell? ⟨w.heap.size, 4, none⟩ = some (.int .i64 x.m) ∧ w'.cell? ⟨w.heap.size, 5, none⟩ = some (.string ByteArray.empty) ∧ w'.cell? ⟨p, 0, none⟩ = some (.slice (some ⟨V.gr, 0, none⟩) 16 V.cr) ∧ w'.cell? ⟨V.gr, x.a, none⟩ = some (.int .u32 (m.reg x.a))) (first | go_keep | exact ⟨(hb2.cell (p := ⟨w.heap.size, 0, none⟩) hz).trans q0, (hb2.cell (p := ⟨w.heap.size, 1, none⟩) hz).trans q1, (hb2.cell (p := ⟨w.heap.size, 2, none⟩) hz).trans q2, (hb2.cell (p := ⟨w.heap.size, 3, none⟩) hz).trans q3, (hb2.cell (p := ⟨w.heap.size, 4, none⟩) hz).trans q4, (hb2.cell (p := ⟨w.heap.size, 5, none⟩) hz).trans q5, (hb2.cell (p := ⟨p, 0, none⟩) hpl).trans d0, (hb2.cell (p := ⟨V.gr, x.a, none⟩) HL.out).trans RR.out⟩) ((go_at_call 78; refine (branch_yes B p x m V _ SW.out.drew).mono ?_; rintro e w2 ⟨rfl, hb2⟩))
  all_goals go_wp2
  all_goals go_ret2
  all_goals exact ⟨rfl, ⟨_, SW.out.drew.below hb2⟩, HB.out.drew.trans (hb2.mono (show B ≤ W.heap.size from SW.out.B_le))⟩
set_option maxRecDepth 20000 in
set_option maxHeartbeats 1000000 in
theorem jump_bz_no (B p : Nat) (x : In5) (m : M) (V : Vs) (w : World) (h : SA B w p m V) (k : Ok m) (ho : x.o = 29) (ha : x.a < 16) (hr : m.reg x.a ≠ 0) : Calls Tryd.prog 60 #[.agg x.cells, .pointer (some ⟨p, 0, none⟩)] w (RetPost B p (m.pc + 1 : Nat) 0 m w) := by
  have t29 : ((x.o : Int) == 29) = true := by simp; omega
  have t30 : ((x.o : Int) == 30) = false := by simp; omega
  have t31 : ((x.o : Int) == 31) = false := by simp; omega
  have t32 : ((x.o : Int) == 32) = false := by simp; omega
  have t33 : ((x.o : Int) == 33) = false := by simp; omega
  have tb : ((m.reg x.a) == 0) = false := by simpa using hr
  clear ho hr
  go_enter Tryd.func60, Tryd.ntmps60
  simp only [In5.cells]
  go_wp2_with fail
  generalize hW : w.alloc (.cells #[.int .i64 x.o, .int .i64 x.d, .int .i64 x.a, .int .i64 x.b, .int .i64 x.m, .string ByteArray.empty] 54) = W
  have BX := Lib.hid (show Bx W w.heap.size x by rw [← hW]; exact bx_new w x)
  have SW := Lib.hid (show SA B W p m V by rw [← hW]; exact h.alloc _)
  have HB := Lib.hid (show Below B w W by rw [← hW]; exact (below_new w _).mono h.B_le)
  have hz : w.heap.size < W.heap.size := BX.out.lt
  have hpl : p < W.heap.size := SW.out.lt
  have hpz : p ≠ w.heap.size := Nat.ne_of_lt h.lt
  have hrz : V.gr ≠ w.heap.size := Nat.ne_of_lt h.gr_lt.2
  clear hW
  have q0 : W.cell? ⟨w.heap.size, 0, none⟩ = some (.int .i64 x.o) := BX.out.c 0
  have q1 : W.cell? ⟨w.heap.size, 1, none⟩ = some (.int .i64 x.d) := BX.out.c 1
  have q2 : W.cell? ⟨w.heap.size, 2, none⟩ = some (.int .i64 x.a) := BX.out.c 2
  have q3 : W.cell? ⟨w.heap.size, 3, none⟩ = some (.int .i64 x.b) := BX.out.c 3
  have q4 : W.cell? ⟨w.heap.size, 4, none⟩ = some (.int .i64 x.m) := BX.out.c 4
  have q5 : W.cell? ⟨w.heap.size, 5, none⟩ = some (.string ByteArray.empty) := BX.out.c 5
  have d0 : W.cell? ⟨p, 0, none⟩ = some (.slice (some ⟨V.gr, 0, none⟩) 16 V.cr) := SW.out.cell 0
  have i0 : (0 : Int) ≤ (x.a : Int) := by omega
  have i1 : (x.a : Int) < 16 := by omega
  have ra := SW.out.reg k ha
  have RR := Lib.hid ra
  have HL := Lib.hid (show V.gr < W.heap.size from SW.out.gr_lt.2)
  go_region_held3 (fun w' => w'.cell? ⟨w.heap.size, 0, none⟩ = some (.int .i64 x.o) ∧ w'.cell? ⟨w.heap.size, 1, none⟩ = some (.int .i64 x.d) ∧ w'.cell? ⟨w.heap.size, 2, none⟩ = some (.int .i64 x.a) ∧ w'.cell? ⟨w.heap.size, 3, none⟩ = some (.int .i64 x.b) ∧ w'.cell? ⟨w.heap.size, 4, none⟩ = some (.int .i64 x.m) ∧ w'.cell? ⟨w.heap.size, 5, none⟩ = some (.string ByteArray.empty) ∧ w'.cell? ⟨p, 0, none⟩ = some (.slice (some ⟨V.gr, 0, none⟩) 16 V.cr) ∧ w'.cell? ⟨V.gr, x.a, none⟩ = some (.int .u32 (m.reg x.a))) (first | go_keep | exact ⟨(hb2.cell (p := ⟨w.heap.size, 0, none⟩) hz).trans q0, (hb2.cell (p := ⟨w.heap.size, 1, none⟩) hz).trans q1, (hb2.cell (p := ⟨w.heap.size, 2, none⟩) hz).trans q2, (hb2.cell (p := ⟨w.heap.size, 3, none⟩) hz).trans q3, (hb2.cell (p := ⟨w.heap.size, 4, none⟩) hz).trans q4, (hb2.cell (p := ⟨w.heap.size, 5, none⟩) hz).trans q5, (hb2.cell (p := ⟨p, 0, none⟩) hpl).trans d0, (hb2.cell (p := ⟨V.gr, x.a, none⟩) HL.out).trans RR.out⟩) ((go_at_call 78; refine (branch_no B p x m V _ SW.out.drew k).mono ?_; rintro e w2 ⟨rfl, hb2⟩))
  all_goals go_wp2
  all_goals go_ret2
  all_goals exact ⟨rfl, ⟨_, SW.out.drew.below hb2⟩, HB.out.drew.trans (hb2.mono (show B ≤ W.heap.size from SW.out.B_le))⟩
set_option maxRecDepth 20000 in
set_option maxHeartbeats 1000000 in
theorem jump_bnz_yes (B p : Nat) (x : In5) (m : M) (V : Vs) (w : World) (h : SA B w p m V) (k : Ok m) (ho : x.o = 30) (ha : x.a < 16) (hr : m.reg x.a ≠ 0) : Calls Tryd.prog 60 #[.agg x.cells, .pointer (some ⟨p, 0, none⟩)] w (RetPost B p x.m 0 m w) := by
  have t29 : ((x.o : Int) == 29) = false := by simp; omega
  have t30 : ((x.o : Int) == 30) = true := by simp; omega
  have t31 : ((x.o : Int) == 31) = false := by simp; omega
  have t32 : ((x.o : Int) == 32) = false := by simp; omega
  have t33 : ((x.o : Int) == 33) = false := by simp; omega
  have tb : ((m.reg x.a) != 0) = true := by simpa using hr
  clear ho hr
  go_enter Tryd.func60, Tryd.ntmps60
  simp only [In5.cells]
  go_wp2_with fail
  generalize hW : w.alloc (.cells #[.int .i64 x.o, .int .i64 x.d, .int .i64 x.a, .int .i64 x.b, .int .i64 x.m, .string ByteArray.empty] 54) = W
  have BX := Lib.hid (show Bx W w.heap.size x by rw [← hW]; exact bx_new w x)
  have SW := Lib.hid (show SA B W p m V by rw [← hW]; exact h.alloc _)
  have HB := Lib.hid (show Below B w W by rw [← hW]; exact (below_new w _).mono h.B_le)
  have hz : w.heap.size < W.heap.size := BX.out.lt
  have hpl : p < W.heap.size := SW.out.lt
  have hpz : p ≠ w.heap.size := Nat.ne_of_lt h.lt
  have hrz : V.gr ≠ w.heap.size := Nat.ne_of_lt h.gr_lt.2
  clear hW
  have q0 : W.cell? ⟨w.heap.size, 0, none⟩ = some (.int .i64 x.o) := BX.out.c 0
  have q1 : W.cell? ⟨w.heap.size, 1, none⟩ = some (.int .i64 x.d) := BX.out.c 1
  have q2 : W.cell? ⟨w.heap.size, 2, none⟩ = some (.int .i64 x.a) := BX.out.c 2
  have q3 : W.cell? ⟨w.heap.size, 3, none⟩ = some (.int .i64 x.b) := BX.out.c 3
  have q4 : W.cell? ⟨w.heap.size, 4, none⟩ = some (.int .i64 x.m) := BX.out.c 4
  have q5 : W.cell? ⟨w.heap.size, 5, none⟩ = some (.string ByteArray.empty) := BX.out.c 5
  have d0 : W.cell? ⟨p, 0, none⟩ = some (.slice (some ⟨V.gr, 0, none⟩) 16 V.cr) := SW.out.cell 0
  have i0 : (0 : Int) ≤ (x.a : Int) := by omega
  have i1 : (x.a : Int) < 16 := by omega
  have ra := SW.out.reg k ha
  have RR := Lib.hid ra
  have HL := Lib.hid (show V.gr < W.heap.size from SW.out.gr_lt.2)
  go_region_held3 (fun w' => w'.cell? ⟨w.heap.size, 0, none⟩ = some (.int .i64 x.o) ∧ w'.cell? ⟨w.heap.size, 1, none⟩ = some (.int .i64 x.d) ∧ w'.cell? ⟨w.heap.size, 2, none⟩ = some (.int .i64 x.a) ∧ w'.cell? ⟨w.heap.size, 3, none⟩ = some (.int .i64 x.b) ∧ w'.cell? ⟨w.heap.size, 4, none⟩ = some (.int .i64 x.m) ∧ w'.cell? ⟨w.heap.size, 5, none⟩ = some (.string ByteArray.empty) ∧ w'.cell? ⟨p, 0, none⟩ = some (.slice (some ⟨V.gr, 0, none⟩) 16 V.cr) ∧ w'.cell? ⟨V.gr, x.a, none⟩ = some (.int .u32 (m.reg x.a))) (first | go_keep | exact ⟨(hb2.cell (p := ⟨w.heap.size, 0, none⟩) hz).trans q0, (hb2.cell (p := ⟨w.heap.size, 1, none⟩) hz).trans q1, (hb2.cell (p := ⟨w.heap.size, 2, none⟩) hz).trans q2, (hb2.cell (p := ⟨w.heap.size, 3, none⟩) hz).trans q3, (hb2.cell (p := ⟨w.heap.size, 4, none⟩) hz).trans q4, (hb2.cell (p := ⟨w.heap.size, 5, none⟩) hz).trans q5, (hb2.cell (p := ⟨p, 0, none⟩) hpl).trans d0, (hb2.cell (p := ⟨V.gr, x.a, none⟩) HL.out).trans RR.out⟩) ((go_at_call 78; refine (branch_yes B p x m V _ SW.out.drew).mono ?_; rintro e w2 ⟨rfl, hb2⟩))
  all_goals go_wp2
  all_goals go_ret2
  all_goals exact ⟨rfl, ⟨_, SW.out.drew.below hb2⟩, HB.out.drew.trans (hb2.mono (show B ≤ W.heap.size from SW.out.B_le))⟩
set_option maxRecDepth 20000 in
set_option maxHeartbeats 1000000 in
theorem jump_bnz_no (B p : Nat) (x : In5) (m : M) (V : Vs) (w : World) (h : SA B w p m V) (k : Ok m) (ho : x.o = 30) (ha : x.a < 16) (hr : m.reg x.a = 0) : Calls Tryd.prog 60 #[.agg x.cells, .pointer (some ⟨p, 0, none⟩)] w (RetPost B p (m.pc + 1 : Nat) 0 m w) := by
  have t29 : ((x.o : Int) == 29) = false := by simp; omega
  have t30 : ((x.o : Int) == 30) = true := by simp; omega
  have t31 : ((x.o : Int) == 31) = false := by simp; omega
  have t32 : ((x.o : Int) == 32) = false := by simp; omega
  have t33 : ((x.o : Int) == 33) = false := by simp; omega
  have tb : ((m.reg x.a) != 0) = false := by simpa using hr
  clear ho hr
  go_enter Tryd.func60, Tryd.ntmps60
  simp only [In5.cells]
  go_wp2_with fail
  generalize hW : w.alloc (.cells #[.int .i64 x.o, .int .i64 x.d, .int .i64 x.a, .int .i64 x.b, .int .i64 x.m, .string ByteArray.empty] 54) = W
  have BX := Lib.hid (show Bx W w.heap.size x by rw [← hW]; exact bx_new w x)
  have SW := Lib.hid (show SA B W p m V by rw [← hW]; exact h.alloc _)
  have HB := Lib.hid (show Below B w W by rw [← hW]; exact (below_new w _).mono h.B_le)
  have hz : w.heap.size < W.heap.size := BX.out.lt
  have hpl : p < W.heap.size := SW.out.lt
  have hpz : p ≠ w.heap.size := Nat.ne_of_lt h.lt
  have hrz : V.gr ≠ w.heap.size := Nat.ne_of_lt h.gr_lt.2
  clear hW
  have q0 : W.cell? ⟨w.heap.size, 0, none⟩ = some (.int .i64 x.o) := BX.out.c 0
  have q1 : W.cell? ⟨w.heap.size, 1, none⟩ = some (.int .i64 x.d) := BX.out.c 1
  have q2 : W.cell? ⟨w.heap.size, 2, none⟩ = some (.int .i64 x.a) := BX.out.c 2
  have q3 : W.cell? ⟨w.heap.size, 3, none⟩ = some (.int .i64 x.b) := BX.out.c 3
  have q4 : W.cell? ⟨w.heap.size, 4, none⟩ = some (.int .i64 x.m) := BX.out.c 4
  have q5 : W.cell? ⟨w.heap.size, 5, none⟩ = some (.string ByteArray.empty) := BX.out.c 5
  have d0 : W.cell? ⟨p, 0, none⟩ = some (.slice (some ⟨V.gr, 0, none⟩) 16 V.cr) := SW.out.cell 0
  have i0 : (0 : Int) ≤ (x.a : Int) := by omega
  have i1 : (x.a : Int) < 16 := by omega
  have ra := SW.out.reg k ha
  have RR := Lib.hid ra
  have HL := Lib.hid (show V.gr < W.heap.size from SW.out.gr_lt.2)
  go_region_held3 (fun w' => w'.cell? ⟨w.heap.size, 0, none⟩ = some (.int .i64 x.o) ∧ w'.cell? ⟨w.heap.size, 1, none⟩ = some (.int .i64 x.d) ∧ w'.cell? ⟨w.heap.size, 2, none⟩ = some (.int .i64 x.a) ∧ w'.cell? ⟨w.heap.size, 3, none⟩ = some (.int .i64 x.b) ∧ w'.cell? ⟨w.heap.size, 4, none⟩ = some (.int .i64 x.m) ∧ w'.cell? ⟨w.heap.size, 5, none⟩ = some (.string ByteArray.empty) ∧ w'.cell? ⟨p, 0, none⟩ = some (.slice (some ⟨V.gr, 0, none⟩) 16 V.cr) ∧ w'.cell? ⟨V.gr, x.a, none⟩ = some (.int .u32 (m.reg x.a))) (first | go_keep | exact ⟨(hb2.cell (p := ⟨w.heap.size, 0, none⟩) hz).trans q0, (hb2.cell (p := ⟨w.heap.size, 1, none⟩) hz).trans q1, (hb2.cell (p := ⟨w.heap.size, 2, none⟩) hz).trans q2, (hb2.cell (p := ⟨w.heap.size, 3, none⟩) hz).trans q3, (hb2.cell (p := ⟨w.heap.size, 4, none⟩) hz).trans q4, (hb2.cell (p := ⟨w.heap.size, 5, none⟩) hz).trans q5, (hb2.cell (p := ⟨p, 0, none⟩) hpl).trans d0, (hb2.cell (p := ⟨V.gr, x.a, none⟩) HL.out).trans RR.out⟩) ((go_at_call 78; refine (branch_no B p x m V _ SW.out.drew k).mono ?_; rintro e w2 ⟨rfl, hb2⟩))
  all_goals go_wp2
  all_goals go_ret2
  all_goals exact ⟨rfl, ⟨_, SW.out.drew.below hb2⟩, HB.out.drew.trans (hb2.mono (show B ≤ W.heap.size from SW.out.B_le))⟩
end Go.Proofs.YtpnmlednningkaaDoor
