/-
  Contracts of package seq's calls: resultOf, compute, jump. Conditions: the state lies behind the pointer, and may be; the instruction's registers are below 16.
-/
import Derived.Test.YtpnmlednningkaaDoorStp
import Derived.BigQuiet
import Derived.Deep.RegionHeld3
namespace Go.Proofs.YtpnmlednningkaaDoor
open Go.RowKit

def ResPost (v k : Int) (w : World) (e : Ending) (w' : World) : Prop := e = .returned (.tuple #[.int .u32 v, .int .i64 k]) ∧ Below w.heap.size w w'
set_option maxHeartbeats 400000 in
theorem result_addi (gr cr : Nat) (x : In5) (va vb v k : Int) (w : World) (ho : x.o = 22) (ha : x.a < 16) (hb : x.b < 16) (ca : w.cell? ⟨gr, x.a, none⟩ = some (.int .u32 va)) (cb : w.cell? ⟨gr, x.b, none⟩ = some (.int .u32 vb)) (C : ∀ W, Calls Tryd.prog 88 #[.int .i64 1, .int .u32 va, .int .u32 (x.m % 4294967296)] W (Wo.OfPost v k W)) :
    Calls Tryd.prog 81 #[.agg x.cells, .slice (some ⟨gr, 0, none⟩) 16 cr] w (ResPost v k w) := by
  have CC := Lib.hid C
  clear C
  obtain ⟨o, d, a, b, im⟩ := x
  simp only [In5.cells] at *
  have i0 : (0 : Int) ≤ (a : Int) := by omega
  have i1 : (a : Int) < 16 := by omega
  have i2 : (0 : Int) ≤ (b : Int) := by omega
  have i3 : (b : Int) < 16 := by omega
  have hlt := World.block_lt_of_cell? w _ ca
  simp only at hlt
  have t : ((o : Int) == 22) = true := by simp; omega
  clear ho
  clear ha hb
  go_enter Tryd.func81, Tryd.ntmps81
  go_wp2_with fail
  go_quiet (fail)
  go_wp2_with ((go_at_call 88; refine (CC.out _).mono ?_; rintro e w' ⟨rfl, rfl⟩))
  go_ret2
  exact ⟨rfl, below_drewN (below_new _ _) _⟩
set_option maxHeartbeats 400000 in
theorem result_pair (gr cr : Nat) (x : In5) (va vb v k : Int) (w : World) (h1 : 18 ≤ x.o) (h2 : x.o ≤ 21) (ha : x.a < 16) (hb : x.b < 16) (ca : w.cell? ⟨gr, x.a, none⟩ = some (.int .u32 va)) (cb : w.cell? ⟨gr, x.b, none⟩ = some (.int .u32 vb)) (C : ∀ W, Calls Tryd.prog 90 #[.int .i64 x.o, .int .u32 va, .int .u32 vb] W (Pa.OfPost v k W)) :
    Calls Tryd.prog 81 #[.agg x.cells, .slice (some ⟨gr, 0, none⟩) 16 cr] w (ResPost v k w) := by
  have CC := Lib.hid C
  clear C
  obtain ⟨o, d, a, b, im⟩ := x
  simp only [In5.cells] at *
  have i0 : (0 : Int) ≤ (a : Int) := by omega
  have i1 : (a : Int) < 16 := by omega
  have i2 : (0 : Int) ≤ (b : Int) := by omega
  have i3 : (b : Int) < 16 := by omega
  have hlt := World.block_lt_of_cell? w _ ca
  simp only at hlt
  have t : ((o : Int) == 22) = false := by simp; omega
  have HP := Lib.hid (fun W => Pa.has_yes (o : Int) W (by omega) (by omega))
  clear h1 h2
  clear ha hb
  go_enter Tryd.func81, Tryd.ntmps81
  go_wp2_with fail
  go_quiet (fail)
  go_wp2_with (first | (go_at_call 89; refine (HP.out _).mono ?_; rintro e w' ⟨rfl, rfl⟩) | (go_at_call 90; refine (CC.out _).mono ?_; rintro e w' ⟨rfl, rfl⟩))
  go_ret2
  exact ⟨rfl, below_drewN (below_new _ _) _⟩
set_option maxHeartbeats 400000 in
theorem result_word (gr cr : Nat) (x : In5) (va vb v k : Int) (w : World) (h2 : x.o ≤ 17) (ha : x.a < 16) (hb : x.b < 16) (ca : w.cell? ⟨gr, x.a, none⟩ = some (.int .u32 va)) (cb : w.cell? ⟨gr, x.b, none⟩ = some (.int .u32 vb)) (C : ∀ W, Calls Tryd.prog 88 #[.int .i64 x.o, .int .u32 va, .int .u32 vb] W (Wo.OfPost v k W)) :
    Calls Tryd.prog 81 #[.agg x.cells, .slice (some ⟨gr, 0, none⟩) 16 cr] w (ResPost v k w) := by
  have CC := Lib.hid C
  clear C
  obtain ⟨o, d, a, b, im⟩ := x
  simp only [In5.cells] at *
  have i0 : (0 : Int) ≤ (a : Int) := by omega
  have i1 : (a : Int) < 16 := by omega
  have i2 : (0 : Int) ≤ (b : Int) := by omega
  have i3 : (b : Int) < 16 := by omega
  have hlt := World.block_lt_of_cell? w _ ca
  simp only at hlt
  have t : ((o : Int) == 22) = false := by simp; omega
  have HP := Lib.hid (fun W => Pa.has_no (o : Int) W (by omega))
  clear h2
  clear ha hb
  go_enter Tryd.func81, Tryd.ntmps81
  go_wp2_with fail
  go_quiet (fail)
  go_wp2_with (first | (go_at_call 89; refine (HP.out _).mono ?_; rintro e w' ⟨rfl, rfl⟩) | (go_at_call 88; refine (CC.out _).mono ?_; rintro e w' ⟨rfl, rfl⟩))
  go_ret2
  exact ⟨rfl, below_drewN (below_new _ _) _⟩
theorem u_add (a m : Int) : (a + m % 4294967296) % 4294967296 = (a + m) % 4294967296 := by omega
section
variable {m : M} {x : In5}
theorem result_ok (gr cr : Nat) (w : World) (k : Ok m) (h1 : 1 ≤ x.o) (h2 : x.o ≤ 22) (ha : x.a < 16) (hb : x.b < 16) (hz : dz x m = false) (ca : w.cell? ⟨gr, x.a, none⟩ = some (.int .u32 (m.reg x.a))) (cb : w.cell? ⟨gr, x.b, none⟩ = some (.int .u32 (m.reg x.b))) :
    Calls Tryd.prog 81 #[.agg x.cells, .slice (some ⟨gr, 0, none⟩) 16 cr] w (ResPost (res x m) 0 w) := by
  have Ua := k.reg ha
  have Ub := k.reg hb
  unfold res
  by_cases h22 : x.o = 22
  · rw [if_pos h22]
    refine result_addi gr cr x _ _ _ _ w h22 ha hb ca cb fun W => ?_
    have h := Wo.of_good 1 (m.reg x.a) (x.m % 4294967296) W Ua (by constructor <;> omega) (by omega) (by omega) (by omega)
    rw [← u_add]
    exact h
  · rw [if_neg h22]
    by_cases h18 : 18 ≤ x.o
    · rw [if_pos h18]
      exact result_pair gr cr x _ _ _ _ w h18 (by omega) ha hb ca cb fun W => Pa.of_good _ _ _ W Ua Ub (by omega) (by omega)
    · rw [if_neg h18]
      refine result_word gr cr x _ _ _ _ w (by omega) ha hb ca cb fun W => Wo.of_good _ _ _ W Ua Ub (by omega) (by omega) ?_
      rintro ⟨h3, h4⟩
      simp [dz, h4] at hz
      omega
theorem result_dz (gr cr : Nat) (w : World) (k : Ok m) (ha : x.a < 16) (hb : x.b < 16) (hz : dz x m = true) (ca : w.cell? ⟨gr, x.a, none⟩ = some (.int .u32 (m.reg x.a))) (cb : w.cell? ⟨gr, x.b, none⟩ = some (.int .u32 (m.reg x.b))) :
    Calls Tryd.prog 81 #[.agg x.cells, .slice (some ⟨gr, 0, none⟩) 16 cr] w (ResPost 0 7 w) := by
  simp only [dz, Bool.and_eq_true, decide_eq_true_eq] at hz
  obtain ⟨⟨h1, h2⟩, h3⟩ := hz
  rw [h3] at cb
  exact result_word gr cr x _ _ _ _ w h2 ha hb ca cb fun W => Wo.of_zero _ _ W (k.reg ha) (by omega) (by omega)
end
set_option maxRecDepth 20000 in
set_option maxHeartbeats 1000000 in
theorem compute_ok (B p : Nat) (x : In5) (m : M) (V : Vs) (w : World) (h : SA B w p m V) (k : Ok m) (ha : x.a < 16) (hb : x.b < 16) (hd : x.d < 16) (h1 : 1 ≤ x.o) (h2 : x.o ≤ 22) (hz : dz x m = false) : Calls Tryd.prog 61 #[.agg x.cells, .pointer (some ⟨p, 0, none⟩)] w (StopPost B p 0 { m with R := m.R.set x.d (res x m) } w) := by
  go_enter Tryd.func61, Tryd.ntmps61
  simp only [In5.cells]
  go_wp2_with fail
  generalize hW : w.alloc (.cells #[.int .i64 x.o, .int .i64 x.d, .int .i64 x.a, .int .i64 x.b, .int .i64 x.m, .string ByteArray.empty] 54) = W
  have BX := Lib.hid (show Bx W w.heap.size x by rw [← hW]; exact bx_new w x)
  have SW := Lib.hid (show SA B W p m V by rw [← hW]; exact h.alloc _)
  have HB := Lib.hid (show Below B w W by rw [← hW]; exact (below_new w _).mono h.B_le)
  have hzz : w.heap.size < W.heap.size := BX.out.lt
  have hpl : p < W.heap.size := SW.out.lt
  have hpz : p ≠ w.heap.size := Nat.ne_of_lt h.lt
  have hrz : V.gr ≠ w.heap.size := Nat.ne_of_lt h.gr_lt.2
  clear hW
  have q0 : W.cell? ⟨w.heap.size, 0, none⟩ = some (.int .i64 x.o) := BX.out.c 0
  have q1 : W.cell? ⟨w.heap.size, 1, none⟩ = some (.int .i64 x.d) := BX.out.c 1
  have q2 : W.cell? ⟨w.heap.size, 2, none⟩ = some (.int .i64 x.a) := BX.out.c 2
  have q3 : W.cell? ⟨w.heap.size, 3, none⟩ = some (.int .i64 x.b) := BX.out.c 3
  have q4 : W.cell? ⟨w.heap.size, 4, none⟩ = some (.int .i64 x.m) := BX.out.c 4
  have q5 : W.cell? ⟨w.heap.size, 5, none⟩ = some (.string ByteArray.empty) := BX.out.c 5
  have d0 : W.cell? ⟨p, 0, none⟩ = some (.slice (some ⟨V.gr, 0, none⟩) 16 V.cr) := SW.out.cell 0
  have d1 : W.cell? ⟨p, 1, none⟩ = some (.slice (some ⟨V.gm, 0, none⟩) 256 V.cm) := SW.out.cell 1
  have RS := Lib.hid (result_ok V.gr V.cr W.drew k h1 h2 ha hb hz (SW.out.drew.reg k ha) (SW.out.drew.reg k hb))
  clear hz
  go_region_held3 (fun w' => w'.cell? ⟨w.heap.size, 0, none⟩ = some (.int .i64 x.o) ∧ w'.cell? ⟨w.heap.size, 1, none⟩ = some (.int .i64 x.d) ∧ w'.cell? ⟨w.heap.size, 2, none⟩ = some (.int .i64 x.a) ∧ w'.cell? ⟨w.heap.size, 3, none⟩ = some (.int .i64 x.b) ∧ w'.cell? ⟨w.heap.size, 4, none⟩ = some (.int .i64 x.m) ∧ w'.cell? ⟨w.heap.size, 5, none⟩ = some (.string ByteArray.empty) ∧ w'.cell? ⟨p, 0, none⟩ = some (.slice (some ⟨V.gr, 0, none⟩) 16 V.cr)) (first | go_keep | exact ⟨(hb3.cell (p := ⟨w.heap.size, 0, none⟩) hzz).trans q0, (hb3.cell (p := ⟨w.heap.size, 1, none⟩) hzz).trans q1, (hb3.cell (p := ⟨w.heap.size, 2, none⟩) hzz).trans q2, (hb3.cell (p := ⟨w.heap.size, 3, none⟩) hzz).trans q3, (hb3.cell (p := ⟨w.heap.size, 4, none⟩) hzz).trans q4, (hb3.cell (p := ⟨w.heap.size, 5, none⟩) hzz).trans q5, (hb3.cell (p := ⟨p, 0, none⟩) hpl).trans d0⟩) ((go_at_call 81; refine RS.out.mono ?_; rintro e W3 ⟨rfl, hb3⟩))
  go_wp2_with fail
  have S3 := Lib.hid (SW.out.drew.below hb3)
  have X3 := Lib.hid (BX.out.drew.below hb3)
  have B3 := Lib.hid (HB.out.drew.trans (hb3.mono (show B ≤ W.heap.size from SW.out.B_le)))
  clear q0 q1 q2 q3 q4 q5 d0 d1 hb3
  have q0 : W3.cell? ⟨w.heap.size, 0, none⟩ = some (.int .i64 x.o) := X3.out.c 0
  have q1 : W3.cell? ⟨w.heap.size, 1, none⟩ = some (.int .i64 x.d) := X3.out.c 1
  have q2 : W3.cell? ⟨w.heap.size, 2, none⟩ = some (.int .i64 x.a) := X3.out.c 2
  have q3 : W3.cell? ⟨w.heap.size, 3, none⟩ = some (.int .i64 x.b) := X3.out.c 3
  have q4 : W3.cell? ⟨w.heap.size, 4, none⟩ = some (.int .i64 x.m) := X3.out.c 4
  have q5 : W3.cell? ⟨w.heap.size, 5, none⟩ = some (.string ByteArray.empty) := X3.out.c 5
  have d0 : W3.cell? ⟨p, 0, none⟩ = some (.slice (some ⟨V.gr, 0, none⟩) 16 V.cr) := S3.out.cell 0
  have d1 : W3.cell? ⟨p, 1, none⟩ = some (.slice (some ⟨V.gm, 0, none⟩) 256 V.cm) := S3.out.cell 1
  have i2 : (0 : Int) ≤ (x.d : Int) := by omega
  have i3 : (x.d : Int) < 16 := by omega
  have rd := S3.out.reg k hd
  have rf := S3.out.regF x.d
  clear hzz hpl
  go_still_tail 8, (by kernel_rfl)
  change wpList _ _ _ _ _ W3.drew
  go_wp2
  go_ret
  exact ⟨rfl, ⟨_, S3.out.drew.setR _ _⟩, B3.out.drew.setCell (by exact S3.out.gr_lt.1) _⟩
set_option maxRecDepth 20000 in
set_option maxHeartbeats 1000000 in
theorem compute_dz (B p : Nat) (x : In5) (m : M) (V : Vs) (w : World) (h : SA B w p m V) (k : Ok m) (ha : x.a < 16) (hb : x.b < 16) (hz : dz x m = true) : Calls Tryd.prog 61 #[.agg x.cells, .pointer (some ⟨p, 0, none⟩)] w (StopPost B p 3 m w) := by
  go_enter Tryd.func61, Tryd.ntmps61
  simp only [In5.cells]
  go_wp2_with fail
  generalize hW : w.alloc (.cells #[.int .i64 x.o, .int .i64 x.d, .int .i64 x.a, .int .i64 x.b, .int .i64 x.m, .string ByteArray.empty] 54) = W
  have BX := Lib.hid (show Bx W w.heap.size x by rw [← hW]; exact bx_new w x)
  have SW := Lib.hid (show SA B W p m V by rw [← hW]; exact h.alloc _)
  have HB := Lib.hid (show Below B w W by rw [← hW]; exact (below_new w _).mono h.B_le)
  have hzz : w.heap.size < W.heap.size := BX.out.lt
  have hpl : p < W.heap.size := SW.out.lt
  have hpz : p ≠ w.heap.size := Nat.ne_of_lt h.lt
  have hrz : V.gr ≠ w.heap.size := Nat.ne_of_lt h.gr_lt.2
  clear hW
  have q0 : W.cell? ⟨w.heap.size, 0, none⟩ = some (.int .i64 x.o) := BX.out.c 0
  have q1 : W.cell? ⟨w.heap.size, 1, none⟩ = some (.int .i64 x.d) := BX.out.c 1
  have q2 : W.cell? ⟨w.heap.size, 2, none⟩ = some (.int .i64 x.a) := BX.out.c 2
  have q3 : W.cell? ⟨w.heap.size, 3, none⟩ = some (.int .i64 x.b) := BX.out.c 3
  have q4 : W.cell? ⟨w.heap.size, 4, none⟩ = some (.int .i64 x.m) := BX.out.c 4
  have q5 : W.cell? ⟨w.heap.size, 5, none⟩ = some (.string ByteArray.empty) := BX.out.c 5
  have d0 : W.cell? ⟨p, 0, none⟩ = some (.slice (some ⟨V.gr, 0, none⟩) 16 V.cr) := SW.out.cell 0
  have d1 : W.cell? ⟨p, 1, none⟩ = some (.slice (some ⟨V.gm, 0, none⟩) 256 V.cm) := SW.out.cell 1
  have RS := Lib.hid (result_dz V.gr V.cr W.drew k ha hb hz (SW.out.drew.reg k ha) (SW.out.drew.reg k hb))
  clear hz
  go_region_held3 (fun w' => w'.cell? ⟨w.heap.size, 0, none⟩ = some (.int .i64 x.o) ∧ w'.cell? ⟨w.heap.size, 1, none⟩ = some (.int .i64 x.d) ∧ w'.cell? ⟨w.heap.size, 2, none⟩ = some (.int .i64 x.a) ∧ w'.cell? ⟨w.heap.size, 3, none⟩ = some (.int .i64 x.b) ∧ w'.cell? ⟨w.heap.size, 4, none⟩ = some (.int .i64 x.m) ∧ w'.cell? ⟨w.heap.size, 5, none⟩ = some (.string ByteArray.empty) ∧ w'.cell? ⟨p, 0, none⟩ = some (.slice (some ⟨V.gr, 0, none⟩) 16 V.cr)) (first | go_keep | exact ⟨(hb3.cell (p := ⟨w.heap.size, 0, none⟩) hzz).trans q0, (hb3.cell (p := ⟨w.heap.size, 1, none⟩) hzz).trans q1, (hb3.cell (p := ⟨w.heap.size, 2, none⟩) hzz).trans q2, (hb3.cell (p := ⟨w.heap.size, 3, none⟩) hzz).trans q3, (hb3.cell (p := ⟨w.heap.size, 4, none⟩) hzz).trans q4, (hb3.cell (p := ⟨w.heap.size, 5, none⟩) hzz).trans q5, (hb3.cell (p := ⟨p, 0, none⟩) hpl).trans d0⟩) ((go_at_call 81; refine RS.out.mono ?_; rintro e W3 ⟨rfl, hb3⟩))
  go_wp2_with fail
  go_ret
  exact ⟨rfl, ⟨_, SW.out.drew.below hb3⟩, HB.out.drew.trans (hb3.mono (show B ≤ W.heap.size from SW.out.B_le))⟩
end Go.Proofs.YtpnmlednningkaaDoor
