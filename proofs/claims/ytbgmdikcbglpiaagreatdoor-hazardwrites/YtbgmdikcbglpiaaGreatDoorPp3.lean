/-
  Contracts of package pipe's call resultOf. Conditions: the state lies behind the pointer, and may be; the instruction may be.
-/
import Derived.Test.YtbgmdikcbglpiaaGreatDoorPp2
namespace Go.Proofs.YtbgmdikcbglpiaaGreatDoor
open Go.RowKit

theorem gb_dn (w : World) (n : Nat) (r : Option Nat) : w.grownBy (w.drewN n) r := ⟨rfl, rfl, rfl, Nat.le_refl _, fun _ _ _ => rfl⟩
def RPost1 (B p : Nat) (v : Int) (m' : M) (w : World) (e : Ending) (w' : World) : Prop := e = .returned (.int .u32 v) ∧ (∃ V', SA B w' p m' V') ∧ w.grownBy w' (some p)
set_option maxHeartbeats 400000 in
theorem tk_none (B p : Nat) (m : M) (V : Vs) (w : World) (h : SA B w p m V) (hk : m.tk = m.inp.length) : Calls Tryz.prog 124 #[.pointer (some ⟨p, 0, none⟩)] w (RPost1 B p 0 m w) := by
  have H := Lib.hid h
  have c3 : w.cell? ⟨p, 3, none⟩ = some (.int .i64 m.tk) := h.cell 3
  have c2 : w.cell? ⟨p, 2, none⟩ = some (.slice V.ai m.inp.length V.ci) := h.cell 2
  rw [hk] at c3
  have hq : ((m.inp.length : Int) == (m.inp.length : Int)) = true := by simp
  generalize V.ai = ai at c2
  generalize V.ci = ci at c2
  generalize m.inp.length = n at c2 c3 hq
  clear h hk
  go_enter Tryz.func124, Tryz.ntmps124
  go_wp2_with fail
  go_quiet (fail)
  go_wp2
  go_ret
  exact ⟨rfl, ⟨_, H.out.drewN _⟩, gb_dn _ _ _⟩
set_option maxHeartbeats 400000 in
theorem tk_some (B p : Nat) (m : M) (V : Vs) (w : World) (h : SA B w p m V) (k : Ok m) (hk : m.tk < m.inp.length) : Calls Tryz.prog 124 #[.pointer (some ⟨p, 0, none⟩)] w (RPost1 B p (m.input m.tk) { m with tk := m.tk + 1 } w) := by
  have H := Lib.hid h
  have c3 : w.cell? ⟨p, 3, none⟩ = some (.int .i64 m.tk) := h.cell 3
  have c2 : w.cell? ⟨p, 2, none⟩ = some (.slice V.ai m.inp.length V.ci) := h.cell 2
  have f3 := h.frozen 3
  obtain ⟨g, hg, hgl, hgc⟩ := h.input hk
  have hgp : g ≠ p := by intro e; subst e; exact h.pi (by rw [hg]; rfl)
  rw [hg] at c2
  have hn := k.inp
  have hq : ((m.tk : Int) == (m.inp.length : Int)) = false := by simp; omega
  generalize V.ci = ci at c2
  generalize hv : m.input m.tk = v at hgc
  generalize hN : m.inp.length = n at c2 hq hn hk
  have e1 : m.tk + 1 - 1 = m.tk := by omega
  generalize ht : m.tk = t at *
  have HT := Lib.hid ht
  have i0 : (0 : Int) ≤ (t : Int) := by omega
  have i1 : (t : Int) < (n : Int) := by omega
  clear h k hN ht
  go_enter Tryz.func124, Tryz.ntmps124
  go_wp2_with fail
  go_quiet (fail)
  go_wp2_with fail
  go_quiet (fail)
  go_wp2
  go_ret
  rename_i nq1
  exact ⟨rfl, ⟨_, ((H.out.drewN nq1).setTk (t + 1)).drewN nq⟩, gb_trans (gb_dn _ _ _) (gb_trans (grown_set _ p 3 _) (gb_dn _ _ _))⟩
theorem tk_any (B p : Nat) (m : M) (V : Vs) (w : World) (h : SA B w p m V) (k : Ok m) : Calls Tryz.prog 124 #[.pointer (some ⟨p, 0, none⟩)] w (RPost1 B p (tak m).1 (tak m).2 w) := by
  unfold tak
  by_cases hk : m.tk = m.inp.length
  · rw [if_pos hk]; exact tk_none B p m V w h hk
  · rw [if_neg hk]; exact tk_some B p m V w h k (by have := k.tk; omega)
set_option maxRecDepth 20000 in
set_option maxHeartbeats 1000000 in
theorem rs_li (B p : Nat) (x : In5) (m : M) (V : Vs) (w : World) (h : SA B w p m V) (ho : x.o = 23) : Calls Tryz.prog 120 #[.agg x.cells, .pointer (some ⟨p, 0, none⟩)] w (RPost B p (x.m % 4294967296) 0 m w) := by
  have t23 : ((x.o : Int) == 23) = true := by simp; omega
  have t26 : ((x.o : Int) == 26) = false := by simp; omega
  have t24 : ((x.o : Int) == 24) = false := by simp; omega
  clear ho
  have H := Lib.hid (h.alloc (.cells x.cells 55))
  have HG := Lib.hid (World.grownBy_alloc w (.cells x.cells 55) (some p))
  clear h
  obtain ⟨o, d, a, b, im⟩ := x
  simp only [In5.cells] at *
  go_enter Tryz.func120, Tryz.ntmps120
  go_wp2
  go_ret2
  exact ⟨rfl, ⟨_, H.out⟩, HG.out⟩
set_option maxRecDepth 20000 in
set_option maxHeartbeats 1000000 in
theorem rs_in (B p : Nat) (x : In5) (m : M) (V : Vs) (w : World) (h : SA B w p m V) (k : Ok m) (ho : x.o = 26) : Calls Tryz.prog 120 #[.agg x.cells, .pointer (some ⟨p, 0, none⟩)] w (RPost B p (tak m).1 0 (tak m).2 w) := by
  have t23 : ((x.o : Int) == 23) = false := by simp; omega
  have t26 : ((x.o : Int) == 26) = true := by simp; omega
  have t24 : ((x.o : Int) == 24) = false := by simp; omega
  clear ho
  have H := Lib.hid (h.alloc (.cells x.cells 55))
  have HG := Lib.hid (World.grownBy_alloc w (.cells x.cells 55) (some p))
  have TK := Lib.hid (tk_any B p m V _ H.out k)
  clear h k
  obtain ⟨o, d, a, b, im⟩ := x
  simp only [In5.cells] at *
  go_enter Tryz.func120, Tryz.ntmps120
  go_wp2_with fail
  refine TK.out.mono ?_
  rintro e W3 ⟨rfl, S3, hg3⟩
  have SS := Lib.hid S3
  have GG := Lib.hid (gb_trans HG.out hg3)
  clear S3 hg3
  go_wp2
  go_ret2
  exact ⟨rfl, SS.out, GG.out⟩
set_option maxRecDepth 20000 in
set_option maxHeartbeats 1000000 in
theorem rs_ld (B p : Nat) (x : In5) (m : M) (V : Vs) (w : World) (h : SA B w p m V) (v st : Int) (C : ∀ W, SA B W p m V → Calls Tryz.prog 125 #[.agg x.cells, .pointer (some ⟨p, 0, none⟩)] W (RPost B p v st m W)) (ho : x.o = 24) : Calls Tryz.prog 120 #[.agg x.cells, .pointer (some ⟨p, 0, none⟩)] w (RPost B p v st m w) := by
  have t23 : ((x.o : Int) == 23) = false := by simp; omega
  have t26 : ((x.o : Int) == 26) = false := by simp; omega
  have t24 : ((x.o : Int) == 24) = true := by simp; omega
  clear ho
  have H := Lib.hid (h.alloc (.cells x.cells 55))
  have HG := Lib.hid (World.grownBy_alloc w (.cells x.cells 55) (some p))
  have CC := Lib.hid (C _ H.out)
  clear h C
  obtain ⟨o, d, a, b, im⟩ := x
  simp only [In5.cells] at *
  go_enter Tryz.func120, Tryz.ntmps120
  go_wp2_with fail
  refine CC.out.mono ?_
  rintro e W3 ⟨rfl, S3, hg3⟩
  have SS := Lib.hid S3
  have GG := Lib.hid (gb_trans HG.out hg3)
  clear S3 hg3
  go_wp2
  go_ret2
  exact ⟨rfl, SS.out, GG.out⟩
set_option maxRecDepth 20000 in
set_option maxHeartbeats 1000000 in
theorem rs_ok (B p : Nat) (x : In5) (m : M) (V : Vs) (w : World) (h : SA B w p m V) (k : Ok m) (ha : x.a < 16) (hb : x.b < 16) (h1 : 1 ≤ x.o) (h2 : x.o ≤ 22) (hz0 : dz x m = false) : Calls Tryz.prog 120 #[.agg x.cells, .pointer (some ⟨p, 0, none⟩)] w (RPost B p (res x m) 0 m w) := by
  have t23 : ((x.o : Int) == 23) = false := by simp; omega
  have t26 : ((x.o : Int) == 26) = false := by simp; omega
  have t24 : ((x.o : Int) == 24) = false := by simp; omega
  go_enter Tryz.func120, Tryz.ntmps120
  simp only [In5.cells]
  go_wp2_with fail
  generalize hW : w.alloc (.cells #[.int .i64 x.o, .int .i64 x.d, .int .i64 x.a, .int .i64 x.b, .int .i64 x.m, .string ByteArray.empty] 55) = W
  have BX := Lib.hid (show Bx W w.heap.size x by rw [← hW]; exact bx_new w x)
  have SW := Lib.hid (show SA B W p m V by rw [← hW]; exact h.alloc _)
  have HB := Lib.hid (show Below B w W by rw [← hW]; exact (below_new w _).mono h.B_le)
  have HG := Lib.hid (show w.grownBy W (some p) by rw [← hW]; exact World.grownBy_alloc w _ _)
  have hz : w.heap.size < W.heap.size := BX.out.lt
  have hpl : p < W.heap.size := SW.out.lt
  have hpz : p ≠ w.heap.size := Nat.ne_of_lt h.lt
  have hrz : V.gr ≠ w.heap.size := Nat.ne_of_lt h.gr_lt.2
  clear hW
  have q0 : W.cell? ⟨w.heap.size, 0, none⟩ = some (.int .i64 x.o) := BX.out.c 0
  have q1 : W.cell? ⟨w.heap.size, 1, none⟩ = some (.int .i64 x.d) := BX.out.c 1
  have q2 : W.cell? ⟨w.heap.size, 2, none⟩ = some (.int .i64 x.a) := BX.out.c 2
  have q3 : W.cell? ⟨w.heap.size, 3, none⟩ = some (.int .i64 x.b) := BX.out.c 3
  have q4 : W.cell? ⟨w.heap.size, 4, none⟩ = some (.int .i64 x.m) := BX.out.c 4
  have q5 : W.cell? ⟨w.heap.size, 5, none⟩ = some (.string ByteArray.empty) := BX.out.c 5
  have d0 : W.cell? ⟨p, 0, none⟩ = some (.slice (some ⟨V.gr, 0, none⟩) 16 V.cr) := SW.out.cell 0
  have RS := Lib.hid (result_ok V.gr V.cr W.drew k h1 h2 ha hb hz0 (SW.out.drew.reg k ha) (SW.out.drew.reg k hb))
  clear hz0 h1 h2
  go_region_held3 (fun w' => w'.cell? ⟨w.heap.size, 0, none⟩ = some (.int .i64 x.o) ∧ w'.cell? ⟨w.heap.size, 1, none⟩ = some (.int .i64 x.d) ∧ w'.cell? ⟨w.heap.size, 2, none⟩ = some (.int .i64 x.a) ∧ w'.cell? ⟨w.heap.size, 3, none⟩ = some (.int .i64 x.b) ∧ w'.cell? ⟨w.heap.size, 4, none⟩ = some (.int .i64 x.m) ∧ w'.cell? ⟨w.heap.size, 5, none⟩ = some (.string ByteArray.empty) ∧ w'.cell? ⟨p, 0, none⟩ = some (.slice (some ⟨V.gr, 0, none⟩) 16 V.cr)) (first | go_keep | exact ⟨(hb3.cell (p := ⟨w.heap.size, 0, none⟩) hz).trans q0, (hb3.cell (p := ⟨w.heap.size, 1, none⟩) hz).trans q1, (hb3.cell (p := ⟨w.heap.size, 2, none⟩) hz).trans q2, (hb3.cell (p := ⟨w.heap.size, 3, none⟩) hz).trans q3, (hb3.cell (p := ⟨w.heap.size, 4, none⟩) hz).trans q4, (hb3.cell (p := ⟨w.heap.size, 5, none⟩) hz).trans q5, (hb3.cell (p := ⟨p, 0, none⟩) hpl).trans d0⟩) ((go_at_call 126; refine RS.out.mono ?_; rintro e W3 ⟨rfl, hb3⟩))
  go_wp2_with fail
  go_ret2
  exact ⟨rfl, ⟨_, SW.out.drew.below hb3⟩, gb_trans (gb_trans HG.out (gb_drew _ _)) (gb_bel _ hb3)⟩
set_option maxRecDepth 20000 in
set_option maxHeartbeats 1000000 in
theorem rs_dz (B p : Nat) (x : In5) (m : M) (V : Vs) (w : World) (h : SA B w p m V) (k : Ok m) (ha : x.a < 16) (hb : x.b < 16) (h1 : 1 ≤ x.o) (h2 : x.o ≤ 22) (hz0 : dz x m = true) : Calls Tryz.prog 120 #[.agg x.cells, .pointer (some ⟨p, 0, none⟩)] w (RPost B p 0 3 m w) := by
  have t23 : ((x.o : Int) == 23) = false := by simp; omega
  have t26 : ((x.o : Int) == 26) = false := by simp; omega
  have t24 : ((x.o : Int) == 24) = false := by simp; omega
  go_enter Tryz.func120, Tryz.ntmps120
  simp only [In5.cells]
  go_wp2_with fail
  generalize hW : w.alloc (.cells #[.int .i64 x.o, .int .i64 x.d, .int .i64 x.a, .int .i64 x.b, .int .i64 x.m, .string ByteArray.empty] 55) = W
  have BX := Lib.hid (show Bx W w.heap.size x by rw [← hW]; exact bx_new w x)
  have SW := Lib.hid (show SA B W p m V by rw [← hW]; exact h.alloc _)
  have HB := Lib.hid (show Below B w W by rw [← hW]; exact (below_new w _).mono h.B_le)
  have HG := Lib.hid (show w.grownBy W (some p) by rw [← hW]; exact World.grownBy_alloc w _ _)
  have hz : w.heap.size < W.heap.size := BX.out.lt
  have hpl : p < W.heap.size := SW.out.lt
  have hpz : p ≠ w.heap.size := Nat.ne_of_lt h.lt
  have hrz : V.gr ≠ w.heap.size := Nat.ne_of_lt h.gr_lt.2
  clear hW
  have q0 : W.cell? ⟨w.heap.size, 0, none⟩ = some (.int .i64 x.o) := BX.out.c 0
  have q1 : W.cell? ⟨w.heap.size, 1, none⟩ = some (.int .i64 x.d) := BX.out.c 1
  have q2 : W.cell? ⟨w.heap.size, 2, none⟩ = some (.int .i64 x.a) := BX.out.c 2
  have q3 : W.cell? ⟨w.heap.size, 3, none⟩ = some (.int .i64 x.b) := BX.out.c 3
  have q4 : W.cell? ⟨w.heap.size, 4, none⟩ = some (.int .i64 x.m) := BX.out.c 4
  have q5 : W.cell? ⟨w.heap.size, 5, none⟩ = some (.string ByteArray.empty) := BX.out.c 5
  have d0 : W.cell? ⟨p, 0, none⟩ = some (.slice (some ⟨V.gr, 0, none⟩) 16 V.cr) := SW.out.cell 0
  have RS := Lib.hid (result_dz V.gr V.cr W.drew k ha hb hz0 (SW.out.drew.reg k ha) (SW.out.drew.reg k hb))
  clear hz0 h1 h2
  go_region_held3 (fun w' => w'.cell? ⟨w.heap.size, 0, none⟩ = some (.int .i64 x.o) ∧ w'.cell? ⟨w.heap.size, 1, none⟩ = some (.int .i64 x.d) ∧ w'.cell? ⟨w.heap.size, 2, none⟩ = some (.int .i64 x.a) ∧ w'.cell? ⟨w.heap.size, 3, none⟩ = some (.int .i64 x.b) ∧ w'.cell? ⟨w.heap.size, 4, none⟩ = some (.int .i64 x.m) ∧ w'.cell? ⟨w.heap.size, 5, none⟩ = some (.string ByteArray.empty) ∧ w'.cell? ⟨p, 0, none⟩ = some (.slice (some ⟨V.gr, 0, none⟩) 16 V.cr)) (first | go_keep | exact ⟨(hb3.cell (p := ⟨w.heap.size, 0, none⟩) hz).trans q0, (hb3.cell (p := ⟨w.heap.size, 1, none⟩) hz).trans q1, (hb3.cell (p := ⟨w.heap.size, 2, none⟩) hz).trans q2, (hb3.cell (p := ⟨w.heap.size, 3, none⟩) hz).trans q3, (hb3.cell (p := ⟨w.heap.size, 4, none⟩) hz).trans q4, (hb3.cell (p := ⟨w.heap.size, 5, none⟩) hz).trans q5, (hb3.cell (p := ⟨p, 0, none⟩) hpl).trans d0⟩) ((go_at_call 126; refine RS.out.mono ?_; rintro e W3 ⟨rfl, hb3⟩))
  go_wp2_with fail
  go_ret2
  exact ⟨rfl, ⟨_, SW.out.drew.below hb3⟩, gb_trans (gb_trans HG.out (gb_drew _ _)) (gb_bel _ hb3)⟩
end Go.Proofs.YtbgmdikcbglpiaaGreatDoor
