/-
  Contract of package pipe's call do: what a slot does is what the Lean function slot tells. Conditions: the state lies behind the pointer, and may be; the instruction may be.
-/
import Derived.Test.YtbgmdikcbglpiaaGreatDoorPp5
namespace Go.Proofs.YtbgmdikcbglpiaaGreatDoor
open Go.RowKit

set_option maxRecDepth 20000 in
set_option maxHeartbeats 1000000 in
theorem pdo_nop (B p : Nat) (x : In5) (m : M) (V : Vs) (w : World) (h : SA B w p m V) (ho : x.o = 0) : Calls Tryz.prog 88 #[.agg x.cells, .pointer (some ⟨p, 0, none⟩)] w (DoP B p m false 0 w) := by
  have t0 : ((x.o : Int) == 0) = true := by simp; omega
  have t25 : ((x.o : Int) == 25) = false := by simp; omega
  have t27 : ((x.o : Int) == 27) = false := by simp; omega
  have t28 : ((x.o : Int) == 28) = false := by simp; omega
  have t29 : ((x.o : Int) == 29) = false := by simp; omega
  have t30 : ((x.o : Int) == 30) = false := by simp; omega
  have t31 : ((x.o : Int) == 31) = false := by simp; omega
  have t32 : ((x.o : Int) == 32) = false := by simp; omega
  have t33 : ((x.o : Int) == 33) = false := by simp; omega
  clear ho
  have H := Lib.hid (h.alloc (.cells x.cells 55))
  have HB := Lib.hid ((below_new w (.cells x.cells 55)).mono h.B_le)
  clear h
  obtain ⟨o, d, a, b, im⟩ := x
  simp only [In5.cells] at *
  go_enter Tryz.func88, Tryz.ntmps88
  go_wp2
  go_ret2
  exact ⟨rfl, ⟨_, H.out⟩, HB.out⟩
set_option maxRecDepth 20000 in
set_option maxHeartbeats 1000000 in
theorem pdo_halt (B p : Nat) (x : In5) (m : M) (V : Vs) (w : World) (h : SA B w p m V) (ho : x.o = 33) : Calls Tryz.prog 88 #[.agg x.cells, .pointer (some ⟨p, 0, none⟩)] w (DoP B p m false 1 w) := by
  have t0 : ((x.o : Int) == 0) = false := by simp; omega
  have t25 : ((x.o : Int) == 25) = false := by simp; omega
  have t27 : ((x.o : Int) == 27) = false := by simp; omega
  have t28 : ((x.o : Int) == 28) = false := by simp; omega
  have t29 : ((x.o : Int) == 29) = false := by simp; omega
  have t30 : ((x.o : Int) == 30) = false := by simp; omega
  have t31 : ((x.o : Int) == 31) = false := by simp; omega
  have t32 : ((x.o : Int) == 32) = false := by simp; omega
  have t33 : ((x.o : Int) == 33) = true := by simp; omega
  clear ho
  have H := Lib.hid (h.alloc (.cells x.cells 55))
  have HB := Lib.hid ((below_new w (.cells x.cells 55)).mono h.B_le)
  clear h
  obtain ⟨o, d, a, b, im⟩ := x
  simp only [In5.cells] at *
  go_enter Tryz.func88, Tryz.ntmps88
  go_wp2
  go_ret2
  exact ⟨rfl, ⟨_, H.out⟩, HB.out⟩
set_option maxRecDepth 20000 in
set_option maxHeartbeats 1000000 in
theorem pdo_st (B p : Nat) (x : In5) (m : M) (V : Vs) (w : World) (h : SA B w p m V) (m2 : M) (st : Int) (C : ∀ W, SA B W p m V → Calls Tryz.prog 104 #[.agg x.cells, .pointer (some ⟨p, 0, none⟩)] W (StopPost B p st m2 W)) (ho : x.o = 25) : Calls Tryz.prog 88 #[.agg x.cells, .pointer (some ⟨p, 0, none⟩)] w (DoP B p m2 false st w) := by
  have t0 : ((x.o : Int) == 0) = false := by simp; omega
  have t25 : ((x.o : Int) == 25) = true := by simp; omega
  have t27 : ((x.o : Int) == 27) = false := by simp; omega
  have t28 : ((x.o : Int) == 28) = false := by simp; omega
  have t29 : ((x.o : Int) == 29) = false := by simp; omega
  have t30 : ((x.o : Int) == 30) = false := by simp; omega
  have t31 : ((x.o : Int) == 31) = false := by simp; omega
  have t32 : ((x.o : Int) == 32) = false := by simp; omega
  have t33 : ((x.o : Int) == 33) = false := by simp; omega
  clear ho
  have H := Lib.hid (h.alloc (.cells x.cells 55))
  have HB := Lib.hid ((below_new w (.cells x.cells 55)).mono h.B_le)
  have CC := Lib.hid (C _ H.out)
  clear h C
  obtain ⟨o, d, a, b, im⟩ := x
  simp only [In5.cells] at *
  go_enter Tryz.func88, Tryz.ntmps88
  go_wp2_with fail
  refine CC.out.mono ?_
  rintro e W3 ⟨rfl, S3, hb3⟩
  have SS := Lib.hid S3
  have BB := Lib.hid (HB.out.trans hb3)
  clear S3 hb3
  go_wp2
  go_ret2
  exact ⟨rfl, SS.out, BB.out⟩
set_option maxRecDepth 20000 in
set_option maxHeartbeats 1000000 in
theorem pdo_jump28 (B p : Nat) (x : In5) (m : M) (V : Vs) (w : World) (h : SA B w p m V) (m2 : M) (j : Bool) (st : Int) (C : ∀ W, SA B W p m V → Calls Tryz.prog 105 #[.agg x.cells, .pointer (some ⟨p, 0, none⟩)] W (DoP B p m2 j st W)) (ho : x.o = 28) : Calls Tryz.prog 88 #[.agg x.cells, .pointer (some ⟨p, 0, none⟩)] w (DoP B p m2 j st w) := by
  have t0 : ((x.o : Int) == 0) = false := by simp; omega
  have t25 : ((x.o : Int) == 25) = false := by simp; omega
  have t27 : ((x.o : Int) == 27) = false := by simp; omega
  have t28 : ((x.o : Int) == 28) = true := by simp; omega
  have t29 : ((x.o : Int) == 29) = false := by simp; omega
  have t30 : ((x.o : Int) == 30) = false := by simp; omega
  have t31 : ((x.o : Int) == 31) = false := by simp; omega
  have t32 : ((x.o : Int) == 32) = false := by simp; omega
  have t33 : ((x.o : Int) == 33) = false := by simp; omega
  clear ho
  have H := Lib.hid (h.alloc (.cells x.cells 55))
  have HB := Lib.hid ((below_new w (.cells x.cells 55)).mono h.B_le)
  have CC := Lib.hid (C _ H.out)
  clear h C
  obtain ⟨o, d, a, b, im⟩ := x
  simp only [In5.cells] at *
  go_enter Tryz.func88, Tryz.ntmps88
  go_wp2_with fail
  refine CC.out.mono ?_
  rintro e W3 ⟨rfl, S3, hb3⟩
  have SS := Lib.hid S3
  have BB := Lib.hid (HB.out.trans hb3)
  clear S3 hb3
  go_wp2
  go_ret2
  exact ⟨rfl, SS.out, BB.out⟩
set_option maxRecDepth 20000 in
set_option maxHeartbeats 1000000 in
theorem pdo_jump29 (B p : Nat) (x : In5) (m : M) (V : Vs) (w : World) (h : SA B w p m V) (m2 : M) (j : Bool) (st : Int) (C : ∀ W, SA B W p m V → Calls Tryz.prog 105 #[.agg x.cells, .pointer (some ⟨p, 0, none⟩)] W (DoP B p m2 j st W)) (ho : x.o = 29) : Calls Tryz.prog 88 #[.agg x.cells, .pointer (some ⟨p, 0, none⟩)] w (DoP B p m2 j st w) := by
  have t0 : ((x.o : Int) == 0) = false := by simp; omega
  have t25 : ((x.o : Int) == 25) = false := by simp; omega
  have t27 : ((x.o : Int) == 27) = false := by simp; omega
  have t28 : ((x.o : Int) == 28) = false := by simp; omega
  have t29 : ((x.o : Int) == 29) = true := by simp; omega
  have t30 : ((x.o : Int) == 30) = false := by simp; omega
  have t31 : ((x.o : Int) == 31) = false := by simp; omega
  have t32 : ((x.o : Int) == 32) = false := by simp; omega
  have t33 : ((x.o : Int) == 33) = false := by simp; omega
  clear ho
  have H := Lib.hid (h.alloc (.cells x.cells 55))
  have HB := Lib.hid ((below_new w (.cells x.cells 55)).mono h.B_le)
  have CC := Lib.hid (C _ H.out)
  clear h C
  obtain ⟨o, d, a, b, im⟩ := x
  simp only [In5.cells] at *
  go_enter Tryz.func88, Tryz.ntmps88
  go_wp2_with fail
  refine CC.out.mono ?_
  rintro e W3 ⟨rfl, S3, hb3⟩
  have SS := Lib.hid S3
  have BB := Lib.hid (HB.out.trans hb3)
  clear S3 hb3
  go_wp2
  go_ret2
  exact ⟨rfl, SS.out, BB.out⟩
set_option maxRecDepth 20000 in
set_option maxHeartbeats 1000000 in
theorem pdo_jump30 (B p : Nat) (x : In5) (m : M) (V : Vs) (w : World) (h : SA B w p m V) (m2 : M) (j : Bool) (st : Int) (C : ∀ W, SA B W p m V → Calls Tryz.prog 105 #[.agg x.cells, .pointer (some ⟨p, 0, none⟩)] W (DoP B p m2 j st W)) (ho : x.o = 30) : Calls Tryz.prog 88 #[.agg x.cells, .pointer (some ⟨p, 0, none⟩)] w (DoP B p m2 j st w) := by
  have t0 : ((x.o : Int) == 0) = false := by simp; omega
  have t25 : ((x.o : Int) == 25) = false := by simp; omega
  have t27 : ((x.o : Int) == 27) = false := by simp; omega
  have t28 : ((x.o : Int) == 28) = false := by simp; omega
  have t29 : ((x.o : Int) == 29) = false := by simp; omega
  have t30 : ((x.o : Int) == 30) = true := by simp; omega
  have t31 : ((x.o : Int) == 31) = false := by simp; omega
  have t32 : ((x.o : Int) == 32) = false := by simp; omega
  have t33 : ((x.o : Int) == 33) = false := by simp; omega
  clear ho
  have H := Lib.hid (h.alloc (.cells x.cells 55))
  have HB := Lib.hid ((below_new w (.cells x.cells 55)).mono h.B_le)
  have CC := Lib.hid (C _ H.out)
  clear h C
  obtain ⟨o, d, a, b, im⟩ := x
  simp only [In5.cells] at *
  go_enter Tryz.func88, Tryz.ntmps88
  go_wp2_with fail
  refine CC.out.mono ?_
  rintro e W3 ⟨rfl, S3, hb3⟩
  have SS := Lib.hid S3
  have BB := Lib.hid (HB.out.trans hb3)
  clear S3 hb3
  go_wp2
  go_ret2
  exact ⟨rfl, SS.out, BB.out⟩
set_option maxRecDepth 20000 in
set_option maxHeartbeats 1000000 in
theorem pdo_jump31 (B p : Nat) (x : In5) (m : M) (V : Vs) (w : World) (h : SA B w p m V) (m2 : M) (j : Bool) (st : Int) (C : ∀ W, SA B W p m V → Calls Tryz.prog 105 #[.agg x.cells, .pointer (some ⟨p, 0, none⟩)] W (DoP B p m2 j st W)) (ho : x.o = 31) : Calls Tryz.prog 88 #[.agg x.cells, .pointer (some ⟨p, 0, none⟩)] w (DoP B p m2 j st w) := by
  have t0 : ((x.o : Int) == 0) = false := by simp; omega
  have t25 : ((x.o : Int) == 25) = false := by simp; omega
  have t27 : ((x.o : Int) == 27) = false := by simp; omega
  have t28 : ((x.o : Int) == 28) = false := by simp; omega
  have t29 : ((x.o : Int) == 29) = false := by simp; omega
  have t30 : ((x.o : Int) == 30) = false := by simp; omega
  have t31 : ((x.o : Int) == 31) = true := by simp; omega
  have t32 : ((x.o : Int) == 32) = false := by simp; omega
  have t33 : ((x.o : Int) == 33) = false := by simp; omega
  clear ho
  have H := Lib.hid (h.alloc (.cells x.cells 55))
  have HB := Lib.hid ((below_new w (.cells x.cells 55)).mono h.B_le)
  have CC := Lib.hid (C _ H.out)
  clear h C
  obtain ⟨o, d, a, b, im⟩ := x
  simp only [In5.cells] at *
  go_enter Tryz.func88, Tryz.ntmps88
  go_wp2_with fail
  refine CC.out.mono ?_
  rintro e W3 ⟨rfl, S3, hb3⟩
  have SS := Lib.hid S3
  have BB := Lib.hid (HB.out.trans hb3)
  clear S3 hb3
  go_wp2
  go_ret2
  exact ⟨rfl, SS.out, BB.out⟩
set_option maxRecDepth 20000 in
set_option maxHeartbeats 1000000 in
theorem pdo_jump32 (B p : Nat) (x : In5) (m : M) (V : Vs) (w : World) (h : SA B w p m V) (m2 : M) (j : Bool) (st : Int) (C : ∀ W, SA B W p m V → Calls Tryz.prog 105 #[.agg x.cells, .pointer (some ⟨p, 0, none⟩)] W (DoP B p m2 j st W)) (ho : x.o = 32) : Calls Tryz.prog 88 #[.agg x.cells, .pointer (some ⟨p, 0, none⟩)] w (DoP B p m2 j st w) := by
  have t0 : ((x.o : Int) == 0) = false := by simp; omega
  have t25 : ((x.o : Int) == 25) = false := by simp; omega
  have t27 : ((x.o : Int) == 27) = false := by simp; omega
  have t28 : ((x.o : Int) == 28) = false := by simp; omega
  have t29 : ((x.o : Int) == 29) = false := by simp; omega
  have t30 : ((x.o : Int) == 30) = false := by simp; omega
  have t31 : ((x.o : Int) == 31) = false := by simp; omega
  have t32 : ((x.o : Int) == 32) = true := by simp; omega
  have t33 : ((x.o : Int) == 33) = false := by simp; omega
  clear ho
  have H := Lib.hid (h.alloc (.cells x.cells 55))
  have HB := Lib.hid ((below_new w (.cells x.cells 55)).mono h.B_le)
  have CC := Lib.hid (C _ H.out)
  clear h C
  obtain ⟨o, d, a, b, im⟩ := x
  simp only [In5.cells] at *
  go_enter Tryz.func88, Tryz.ntmps88
  go_wp2_with fail
  refine CC.out.mono ?_
  rintro e W3 ⟨rfl, S3, hb3⟩
  have SS := Lib.hid S3
  have BB := Lib.hid (HB.out.trans hb3)
  clear S3 hb3
  go_wp2
  go_ret2
  exact ⟨rfl, SS.out, BB.out⟩
set_option maxRecDepth 20000 in
set_option maxHeartbeats 1000000 in
theorem pdo_out (B p : Nat) (x : In5) (m : M) (V : Vs) (w : World) (h : SA B w p m V) (k : Ok m) (ha : x.a < 16) (ho : x.o = 27) : Calls Tryz.prog 88 #[.agg x.cells, .pointer (some ⟨p, 0, none⟩)] w (DoP B p { m with out := m.out ++ [m.reg x.a] } false 0 w) := by
  have t0 : ((x.o : Int) == 0) = false := by simp; omega
  have t25 : ((x.o : Int) == 25) = false := by simp; omega
  have t27 : ((x.o : Int) == 27) = true := by simp; omega
  have t28 : ((x.o : Int) == 28) = false := by simp; omega
  have t29 : ((x.o : Int) == 29) = false := by simp; omega
  have t30 : ((x.o : Int) == 30) = false := by simp; omega
  have t31 : ((x.o : Int) == 31) = false := by simp; omega
  have t32 : ((x.o : Int) == 32) = false := by simp; omega
  have t33 : ((x.o : Int) == 33) = false := by simp; omega
  clear ho
  go_enter Tryz.func88, Tryz.ntmps88
  simp only [In5.cells]
  go_wp2_with fail
  generalize hW : w.alloc (.cells #[.int .i64 x.o, .int .i64 x.d, .int .i64 x.a, .int .i64 x.b, .int .i64 x.m, .string ByteArray.empty] 55) = W
  have BX := Lib.hid (show Bx W w.heap.size x by rw [← hW]; exact bx_new w x)
  have SW := Lib.hid (show SA B W p m V by rw [← hW]; exact h.alloc _)
  have HB := Lib.hid (show Below B w W by rw [← hW]; exact (below_new w _).mono h.B_le)
  have HG := Lib.hid (show w.grownBy W (some p) by rw [← hW]; exact World.grownBy_alloc w _ _)
  have hz : w.heap.size < W.heap.size := BX.out.lt
  have hpl : p < W.heap.size := SW.out.lt
  have hpz : p ≠ w.heap.size := Nat.ne_of_lt h.lt
  have hrz : V.gr ≠ w.heap.size := Nat.ne_of_lt h.gr_lt.2
  clear hW
  have q0 : W.cell? ⟨w.heap.size, 0, none⟩ = some (.int .i64 x.o) := BX.out.c 0
  have q1 : W.cell? ⟨w.heap.size, 1, none⟩ = some (.int .i64 x.d) := BX.out.c 1
  have q2 : W.cell? ⟨w.heap.size, 2, none⟩ = some (.int .i64 x.a) := BX.out.c 2
  have q3 : W.cell? ⟨w.heap.size, 3, none⟩ = some (.int .i64 x.b) := BX.out.c 3
  have q4 : W.cell? ⟨w.heap.size, 4, none⟩ = some (.int .i64 x.m) := BX.out.c 4
  have q5 : W.cell? ⟨w.heap.size, 5, none⟩ = some (.string ByteArray.empty) := BX.out.c 5
  have d0 : W.cell? ⟨p, 0, none⟩ = some (.slice (some ⟨V.gr, 0, none⟩) 16 V.cr) := SW.out.cell 0
  have d4 : W.cell? ⟨p, 4, none⟩ = some (.slice V.ao m.out.length V.co) := SW.out.cell 4
  have i0 : (0 : Int) ≤ (x.a : Int) := by omega
  have i1 : (x.a : Int) < 16 := by omega
  have ra := SW.out.reg k ha
  have hol := k.out
  have f4 := SW.out.frozen 4
  go_region_law ((with_reducible refine step_app 23 69 4 (.int .u32 0) Tryz.info69 rfl (by decide) Tryz.underlying23 (o := ⟨some 34, _, _, _, _, none⟩) (B := B) (n := m.out.length) (c := V.co) (va := V.ao) (xs := m.out.map ui) (u := .int .u32 (m.reg x.a)) rfl rfl _ _ rfl ?_ ?_ ?_ ?_ ?_ ?_ ?_ ?_); (· rfl); rotate_left; (· rfl); (· exact heap_alloc_new W _); (· exact (SW.out.alloc _).drew.ho); (· omega); (· exact (SW.out.alloc _).drew.B_le); intro g cap w7 hown7 hg7 hat7 hlt7; have F7 := Lib.hid (faro7 (SW.out.alloc _).drew hg7); have C7 : w7.cell? ⟨p, 4, none⟩ = some (.slice V.ao m.out.length V.co) := F7.out.1; have D7 := F7.out.2; have L7 : p < w7.heap.size := World.block_lt_of_cell? w7 _ C7; have P7 := Lib.hid ((SW.out.alloc _).drew.app hg7 hown7 hat7); have B7 := Lib.hid (belowo7 HB.out SW.out hg7); clear hown7 hg7 hat7)
  all_goals go_wp2
  all_goals go_ret2
  all_goals exact ⟨rfl, ⟨_, P7.out⟩, B7.out.setCell (by exact SW.out.hp) _⟩
set_option maxRecDepth 20000 in
set_option maxHeartbeats 1000000 in
theorem pdo_launch2 (B p : Nat) (x : In5) (m : M) (V : Vs) (w : World) (h : SA B w p m V) (T : Tab w) (_hB : 1 < B) (m2 : M) (st : Int) (C : ∀ W, SA B W p m V → Tab W → Calls Tryz.prog 106 #[.agg x.cells, .pointer (some ⟨p, 0, none⟩)] W (StopPost B p st m2 W)) (ho : (1 ≤ x.o ∧ x.o ≤ 24) ∨ x.o = 26) : Calls Tryz.prog 88 #[.agg x.cells, .pointer (some ⟨p, 0, none⟩)] w (DoP B p m2 false st w) := by
  have t0 : ((x.o : Int) == 0) = false := by simp; omega
  have t25 : ((x.o : Int) == 25) = false := by simp; omega
  have t27 : ((x.o : Int) == 27) = false := by simp; omega
  have t28 : ((x.o : Int) == 28) = false := by simp; omega
  have t29 : ((x.o : Int) == 29) = false := by simp; omega
  have t30 : ((x.o : Int) == 30) = false := by simp; omega
  have t31 : ((x.o : Int) == 31) = false := by simp; omega
  have t32 : ((x.o : Int) == 32) = false := by simp; omega
  have t33 : ((x.o : Int) == 33) = false := by simp; omega
  clear ho
  have H := Lib.hid (h.alloc (.cells x.cells 55))
  have HB := Lib.hid ((below_new w (.cells x.cells 55)).mono h.B_le)
  have CC := Lib.hid (C _ H.out (T.alloc _))
  clear h C T
  obtain ⟨o, d, a, b, im⟩ := x
  simp only [In5.cells] at *
  go_enter Tryz.func88, Tryz.ntmps88
  go_wp2_with fail
  refine CC.out.mono ?_
  rintro e W3 ⟨rfl, S3, hb3⟩
  have SS := Lib.hid S3
  have BB := Lib.hid (HB.out.trans hb3)
  clear S3 hb3
  go_wp2
  go_ret2
  exact ⟨rfl, SS.out, BB.out⟩
theorem nat_of {y : Int} (h : 0 ≤ y) : y = (y.toNat : Int) := by omega
theorem tak_fl (m : M) : (tak m).2.fl = m.fl := by unfold tak; split <;> rfl
/-- All ops. -/
theorem pdo_any (B p : Nat) (x : In5) (m : M) (V : Vs) (w : World) (h : SA B w p m V) (k : Ok m) (v : Vi x) (T : Tab w) (hB : 1 < B) (hfl : m.fl.length < 1000) : Calls Tryz.prog 88 #[.agg x.cells, .pointer (some ⟨p, 0, none⟩)] w (DoP B p (slot x m).1 (slot x m).2.1 (slot x m).2.2 w) := by
  -- a world that the call comes to keeps the tables
  rcases op_ways v.o with ho | ⟨h1, h2⟩ | ho | ho | ho | ho | ho | ho | ho | ho | ho | ho | ho
  · rw [show slot x m = (m, false, 0) by unfold slot; rw [if_pos ho]]; exact pdo_nop B p x m V w h ho
  · rw [show slot x m = (if dz x m then (m, false, 3) else (fly m x (res x m), false, 0)) by unfold slot; rw [if_neg (by omega), if_pos h2]]
    cases hz : dz x m
    · exact pdo_launch2 B p x m V w h T hB _ 0 (fun W hW TW => launch_go B p x m V W hW TW hB v.o _ m hfl fun W2 hW2 => rs_ok B p x m V W2 hW2 k v.a v.b h1 h2 hz) (by omega)
    · exact pdo_launch2 B p x m V w h T hB m 3 (fun W hW TW => launch_stop B p x m V W hW 0 3 m (fun W2 hW2 => rs_dz B p x m V W2 hW2 k v.a v.b h1 h2 hz) (by decide)) (by omega)
  · rw [show slot x m = (fly m x (x.m % 4294967296), false, 0) by unfold slot; rw [if_neg (by omega), if_neg (by omega), if_pos ho]]
    exact pdo_launch2 B p x m V w h T hB _ 0 (fun W hW TW => launch_go B p x m V W hW TW hB v.o _ m hfl fun W2 hW2 => rs_li B p x m V W2 hW2 ho) (by omega)
  · rw [show slot x m = (if adr m x < 256 then (fly m x (m.word (adr m x)), false, 0) else (m, false, 2)) by unfold slot; rw [if_neg (by omega), if_neg (by omega), if_neg (by omega), if_pos ho]]
    by_cases hin : adr m x < 256
    · rw [if_pos hin]
      exact pdo_launch2 B p x m V w h T hB _ 0 (fun W hW TW => launch_go B p x m V W hW TW hB v.o _ m hfl fun W2 hW2 => rs_ld B p x m V W2 hW2 _ _ (fun W3 hW3 => pload_ok B p x m V W3 hW3 k v.a hin) ho) (by omega)
    · rw [if_neg hin]
      exact pdo_launch2 B p x m V w h T hB m 2 (fun W hW TW => launch_stop B p x m V W hW 0 2 m (fun W2 hW2 => rs_ld B p x m V W2 hW2 _ _ (fun W3 hW3 => pload_bad B p x m V W3 hW3 k v.a (by omega)) ho) (by decide)) (by omega)
  · rw [show slot x m = (if adr m x < 256 then ({ m with mem := m.mem.set (adr m x) (m.reg x.b) }, false, 0) else (m, false, 2)) by unfold slot; rw [if_neg (by omega), if_neg (by omega), if_neg (by omega), if_neg (by omega), if_pos ho]]
    by_cases hin : adr m x < 256
    · rw [if_pos hin]
      exact pdo_st B p x m V w h _ 0 (fun W hW => store_ok B p x m V W hW k v.a v.d v.b hin) ho
    · rw [if_neg hin]
      exact pdo_st B p x m V w h _ 2 (fun W hW => store_bad B p x m V W hW k v.a (by omega)) ho
  · rw [show slot x m = (fly (tak m).2 x (tak m).1, false, 0) by unfold slot; rw [if_neg (by omega), if_neg (by omega), if_neg (by omega), if_neg (by omega), if_neg (by omega), if_pos ho]]
    exact pdo_launch2 B p x m V w h T hB _ 0 (fun W hW TW => launch_go B p x m V W hW TW hB v.o _ (tak m).2 (by rw [tak_fl]; exact hfl) fun W2 hW2 => rs_in B p x m V W2 hW2 k ho) (by omega)
  · rw [show slot x m = ({ m with out := m.out ++ [m.reg x.a] }, false, 0) by unfold slot; rw [if_neg (by omega), if_neg (by omega), if_neg (by omega), if_neg (by omega), if_neg (by omega), if_neg (by omega), if_pos ho]]
    exact pdo_out B p x m V w h k v.a ho
  · have ht := v.tg (by omega) (by omega)
    rw [show slot x m = (jmp m x.m.toNat, true, 0) by unfold slot; rw [if_neg (by omega), if_neg (by omega), if_neg (by omega), if_neg (by omega), if_neg (by omega), if_neg (by omega), if_neg (by omega), if_pos ho]]
    exact pdo_jump28 B p x m V w h _ _ _ (fun W hW => jump_jmp B p x m V W hW _ (nat_of ht.1) ho) ho
  · have ht := v.tg (by omega) (by omega)
    rw [show slot x m = (if m.reg x.a = 0 then (jmp m x.m.toNat, true, 0) else (m, false, 0)) by unfold slot; rw [if_neg (by omega), if_neg (by omega), if_neg (by omega), if_neg (by omega), if_neg (by omega), if_neg (by omega), if_neg (by omega), if_neg (by omega), if_pos ho]]
    by_cases hr : m.reg x.a = 0
    · rw [if_pos hr]; exact pdo_jump29 B p x m V w h _ _ _ (fun W hW => jump_bz_yes B p x m V W hW k v.a _ (nat_of ht.1) hr ho) ho
    · rw [if_neg hr]; exact pdo_jump29 B p x m V w h _ _ _ (fun W hW => jump_bz_no B p x m V W hW k v.a hr ho) ho
  · have ht := v.tg (by omega) (by omega)
    rw [show slot x m = (if m.reg x.a = 0 then (m, false, 0) else (jmp m x.m.toNat, true, 0)) by unfold slot; rw [if_neg (by omega), if_neg (by omega), if_neg (by omega), if_neg (by omega), if_neg (by omega), if_neg (by omega), if_neg (by omega), if_neg (by omega), if_neg (by omega), if_pos ho]]
    by_cases hr : m.reg x.a = 0
    · rw [if_pos hr]; exact pdo_jump30 B p x m V w h _ _ _ (fun W hW => jump_bnz_no B p x m V W hW k v.a hr ho) ho
    · rw [if_neg hr]; exact pdo_jump30 B p x m V w h _ _ _ (fun W hW => jump_bnz_yes B p x m V W hW k v.a _ (nat_of ht.1) hr ho) ho
  · have ht := v.tg (by omega) (by omega)
    rw [show slot x m = (if m.st.length = 16 then (m, false, 4) else (jmp { m with st := m.st ++ [min (m.pc + 3) 1024] } x.m.toNat, true, 0)) by unfold slot; rw [if_neg (by omega), if_neg (by omega), if_neg (by omega), if_neg (by omega), if_neg (by omega), if_neg (by omega), if_neg (by omega), if_neg (by omega), if_neg (by omega), if_neg (by omega), if_pos ho]]
    by_cases hf : m.st.length = 16
    · rw [if_pos hf]
      exact pdo_jump31 B p x m V w h _ _ _ (fun W hW => jump_call_stop B p x m V W hW m 4 (by decide) (fun W2 hW2 => pcall_full B p m V W2 hW2 hf) ho) ho
    · rw [if_neg hf]
      exact pdo_jump31 B p x m V w h _ _ _ (fun W hW => jump_call_go B p x m V W hW { m with st := m.st ++ [min (m.pc + 3) 1024] } (fun W2 hW2 => pcall_ok B p m V W2 hW2 k (by have := k.st; omega)) _ (nat_of ht.1) ho) ho
  · rw [show slot x m = (if m.st.length = 0 then (m, false, 4) else (jmp { m with st := m.st.take (m.st.length - 1) } (m.st.getD (m.st.length - 1) 0), true, 0)) by unfold slot; rw [if_neg (by omega), if_neg (by omega), if_neg (by omega), if_neg (by omega), if_neg (by omega), if_neg (by omega), if_neg (by omega), if_neg (by omega), if_neg (by omega), if_neg (by omega), if_neg (by omega), if_pos ho]]
    by_cases hf : m.st.length = 0
    · rw [if_pos hf]
      exact pdo_jump32 B p x m V w h _ _ _ (fun W hW => jump_ret_stop B p x m V W hW m 4 (by decide) (fun W2 hW2 => ret_none B p m V W2 hW2 (List.length_eq_zero_iff.1 hf)) ho) ho
    · rw [if_neg hf]
      exact pdo_jump32 B p x m V w h _ _ _ (fun W hW => jump_ret_go B p x m V W hW { m with st := m.st.take (m.st.length - 1) } _ (fun W2 hW2 => ret_some B p m V W2 hW2 k _ (by omega)) ho) ho
  · rw [show slot x m = (m, false, 1) by unfold slot; rw [if_neg (by omega), if_neg (by omega), if_neg (by omega), if_neg (by omega), if_neg (by omega), if_neg (by omega), if_neg (by omega), if_neg (by omega), if_neg (by omega), if_neg (by omega), if_neg (by omega), if_neg (by omega)]]
    exact pdo_halt B p x m V w h ho
end Go.Proofs.YtbgmdikcbglpiaaGreatDoor
