/-
  Contracts of package pipe's small calls: address, take, store, ret, compute. Conditions: the state lies behind the pointer, and may be; the instruction's registers are below 16.
-/
import Derived.Test.YtbgmdikcbglpiaaGreatDoorStp
namespace Go.Proofs.YtbgmdikcbglpiaaGreatDoor
open Go.RowKit

set_option maxHeartbeats 400000 in
theorem addr_any (gr cr : Nat) (x : In5) (m : M) (w : World) (ha : x.a < 16) (hc : w.cell? ⟨gr, x.a, none⟩ = some (.int .u32 (m.reg x.a))) : Calls Tryz.prog 117 #[.agg x.cells, .slice (some ⟨gr, 0, none⟩) 16 cr] w (WordBelow (adr m x : Nat) w) := by
  have E := Lib.hid (adr_eq m x)
  obtain ⟨o, d, a, b, im⟩ := x
  simp only [In5.cells] at *
  have i0 : (0 : Int) ≤ (a : Int) := by omega
  have i1 : (a : Int) < 16 := by omega
  have hlt := World.block_lt_of_cell? w _ hc
  simp only at hlt
  generalize m.reg a = v at *
  clear ha
  go_enter Tryz.func117, Tryz.ntmps117
  go_wp2_with fail
  go_quiet (fail)
  go_wp2
  go_ret
  refine wordb_mk ?_ ?_
  · rw [E.out]; simp
  · exact below_drewN (below_new _ _) _
def TakePost (B : Nat) (p : Nat) (x : Int) (m' : M) (V : Vs) (w : World) (e : Ending) (w' : World) : Prop := e = .returned (.int .u32 x) ∧ SA B w' p m' V ∧ Below B w w' ∧ w'.heap.size = w.heap.size
set_option maxHeartbeats 400000 in
theorem take_none (B p : Nat) (m : M) (V : Vs) (w : World) (h : SA B w p m V) (hk : m.tk = m.inp.length) : Calls Tryz.prog 124 #[.pointer (some ⟨p, 0, none⟩)] w (TakePost B p 0 m V w) := by
  have H := Lib.hid h
  have c3 : w.cell? ⟨p, 3, none⟩ = some (.int .i64 m.tk) := h.cell 3
  have c2 : w.cell? ⟨p, 2, none⟩ = some (.slice V.ai m.inp.length V.ci) := h.cell 2
  rw [hk] at c3
  have hq : ((m.inp.length : Int) == (m.inp.length : Int)) = true := by simp
  generalize V.ai = ai at c2
  generalize V.ci = ci at c2
  generalize m.inp.length = n at c2 c3 hq
  clear h hk
  go_enter Tryz.func124, Tryz.ntmps124
  go_wp2_with fail
  go_quiet (fail)
  go_wp2
  go_ret
  exact ⟨rfl, H.out.drewN _, below_drewN (Below.refl _ _) _, rfl⟩
set_option maxHeartbeats 400000 in
theorem take_some (B p : Nat) (m : M) (V : Vs) (w : World) (h : SA B w p m V) (k : Ok m) (hk : m.tk < m.inp.length) : Calls Tryz.prog 124 #[.pointer (some ⟨p, 0, none⟩)] w (TakePost B p (m.input m.tk) { m with tk := m.tk + 1 } V w) := by
  have H := Lib.hid h
  have c3 : w.cell? ⟨p, 3, none⟩ = some (.int .i64 m.tk) := h.cell 3
  have c2 : w.cell? ⟨p, 2, none⟩ = some (.slice V.ai m.inp.length V.ci) := h.cell 2
  have f3 := h.frozen 3
  have hpb := h.hp
  obtain ⟨g, hg, hgl, hgc⟩ := h.input hk
  have hgp : g ≠ p := by intro e; subst e; exact h.pi (by rw [hg]; rfl)
  rw [hg] at c2
  have hn := k.inp
  have hq : ((m.tk : Int) == (m.inp.length : Int)) = false := by simp; omega
  generalize V.ci = ci at c2
  generalize hv : m.input m.tk = v at hgc
  generalize hN : m.inp.length = n at c2 hq hn hk
  have e1 : m.tk + 1 - 1 = m.tk := by omega
  generalize ht : m.tk = t at *
  have HT := Lib.hid ht
  have i0 : (0 : Int) ≤ (t : Int) := by omega
  have i1 : (t : Int) < (n : Int) := by omega
  clear h k hN ht
  go_enter Tryz.func124, Tryz.ntmps124
  go_wp2_with fail
  go_quiet (fail)
  go_wp2_with fail
  go_quiet (fail)
  go_wp2
  go_ret
  refine ⟨rfl, ?_, below_drewN (((below_drewN (Below.refl _ _) _).setCell (by exact hpb) _)) _, by simp⟩
  rename_i nq1
  exact ((H.out.drewN nq1).setTk (t + 1)).drewN nq
def RetPost (B : Nat) (p : Nat) (x y : Int) (m' : M) (w : World) (e : Ending) (w' : World) : Prop := e = .returned (.tuple #[.int .i64 x, .int .i64 y]) ∧ Goes B w p m' w'
set_option maxHeartbeats 400000 in
theorem ret_none (B p : Nat) (m : M) (V : Vs) (w : World) (h : SA B w p m V) (hk : m.st = []) : Calls Tryz.prog 119 #[.pointer (some ⟨p, 0, none⟩)] w (RetPost B p 0 4 m w) := by
  have H := Lib.hid h
  have c6 : w.cell? ⟨p, 6, none⟩ = some (.slice V.az m.st.length V.cs) := h.cell 6
  rw [hk] at c6
  simp only [List.length_nil] at c6
  generalize V.az = az at c6
  generalize V.cs = cs at c6
  clear h hk
  go_enter Tryz.func119, Tryz.ntmps119
  go_wp2
  go_ret2
  exact ⟨rfl, ⟨_, H.out⟩, Below.refl _ _⟩
set_option maxHeartbeats 400000 in
theorem ret_some (B p : Nat) (m : M) (V : Vs) (w : World) (h : SA B w p m V) (k : Ok m) (n : Nat) (hk : m.st.length = n + 1) : Calls Tryz.prog 119 #[.pointer (some ⟨p, 0, none⟩)] w (RetPost B p (m.st.getD n 0 : Nat) 0 { m with st := m.st.take n } w) := by
  have H := Lib.hid h
  have c6 : w.cell? ⟨p, 6, none⟩ = some (.slice V.az m.st.length V.cs) := h.cell 6
  have f6 := h.frozen 6
  have hpb := h.hp
  obtain ⟨g, hg, hgl, hgc⟩ := h.ret (i := n) (by omega)
  have hgp : g ≠ p := by intro e; subst e; exact h.ps (by rw [hg]; rfl)
  rw [hg, hk] at c6
  have hn := k.st
  have hcs := h.caps
  have POP := Lib.hid (h.pop hg hk)
  generalize V.cs = cs at c6 hcs POP
  generalize m.st.getD n 0 = v at *
  rw [hk] at hn hcs
  obtain ⟨hc1, hc2⟩ := hcs
  have e1 : wrap64 ((n + 1 : Nat) - 1 : Int) = (n : Int) := by unfold wrap64; omega
  have i0 : (0 : Int) ≤ (n : Int) := by omega
  clear h k hk
  go_enter Tryz.func119, Tryz.ntmps119
  go_wp2
  go_ret2
  exact ⟨rfl, ⟨_, POP.out⟩, (Below.refl _ _).setCell (by exact hpb) _⟩
def StopPost (B p : Nat) (x : Int) (m' : M) (w : World) (e : Ending) (w' : World) : Prop := e = .returned (.int .i64 x) ∧ Goes B w p m' w'
set_option maxRecDepth 20000 in
set_option maxHeartbeats 1000000 in
theorem store_bad (B p : Nat) (x : In5) (m : M) (V : Vs) (w : World) (h : SA B w p m V) (k : Ok m) (ha : x.a < 16) (hin : 256 ≤ adr m x) : Calls Tryz.prog 104 #[.agg x.cells, .pointer (some ⟨p, 0, none⟩)] w (StopPost B p 2 m w) := by
  have hdec : decide ((256 : Int) ≤ (adr m x : Nat)) = true := by simp; omega
  go_enter Tryz.func104, Tryz.ntmps104
  simp only [In5.cells]
  go_wp2_with fail
  generalize hW : w.alloc (.cells #[.int .i64 x.o, .int .i64 x.d, .int .i64 x.a, .int .i64 x.b, .int .i64 x.m, .string ByteArray.empty] 55) = W
  have BX := Lib.hid (show Bx W w.heap.size x by rw [← hW]; exact bx_new w x)
  have SW := Lib.hid (show SA B W p m V by rw [← hW]; exact h.alloc _)
  have HB := Lib.hid (show Below B w W by rw [← hW]; exact (below_new w _).mono h.B_le)
  have hz : w.heap.size < W.heap.size := BX.out.lt
  have hpl : p < W.heap.size := SW.out.lt
  have hpz : p ≠ w.heap.size := Nat.ne_of_lt h.lt
  have hrz : V.gr ≠ w.heap.size := Nat.ne_of_lt h.gr_lt.2
  clear hW
  have q0 : W.cell? ⟨w.heap.size, 0, none⟩ = some (.int .i64 x.o) := BX.out.c 0
  have q1 : W.cell? ⟨w.heap.size, 1, none⟩ = some (.int .i64 x.d) := BX.out.c 1
  have q2 : W.cell? ⟨w.heap.size, 2, none⟩ = some (.int .i64 x.a) := BX.out.c 2
  have q3 : W.cell? ⟨w.heap.size, 3, none⟩ = some (.int .i64 x.b) := BX.out.c 3
  have q4 : W.cell? ⟨w.heap.size, 4, none⟩ = some (.int .i64 x.m) := BX.out.c 4
  have q5 : W.cell? ⟨w.heap.size, 5, none⟩ = some (.string ByteArray.empty) := BX.out.c 5
  have d0 : W.cell? ⟨p, 0, none⟩ = some (.slice (some ⟨V.gr, 0, none⟩) 16 V.cr) := SW.out.cell 0
  have d1 : W.cell? ⟨p, 1, none⟩ = some (.slice (some ⟨V.gm, 0, none⟩) 256 V.cm) := SW.out.cell 1
  have ra := SW.out.reg k ha
  go_still_tail 5, (by kernel_rfl)
  change wpList _ _ _ _ _ W.drew
  go_wp2_with (go_at_call 117; refine (addr_any V.gr V.cr x m W.drew ha ra).mono ?_; rintro e W3 ⟨rfl, hb3⟩)
  go_ret
  exact ⟨rfl, ⟨_, SW.out.drew.below hb3⟩, HB.out.drew.trans (hb3.mono (show B ≤ W.heap.size from SW.out.B_le))⟩
set_option maxRecDepth 20000 in
set_option maxHeartbeats 1000000 in
theorem store_ok (B p : Nat) (x : In5) (m : M) (V : Vs) (w : World) (h : SA B w p m V) (k : Ok m) (ha : x.a < 16) (hd : x.d < 16) (hb : x.b < 16) (hin : adr m x < 256) : Calls Tryz.prog 104 #[.agg x.cells, .pointer (some ⟨p, 0, none⟩)] w (StopPost B p 0 { m with mem := m.mem.set (adr m x) (m.reg x.b) } w) := by
  have hdec : decide ((256 : Int) ≤ (adr m x : Nat)) = false := by simp; omega
  go_enter Tryz.func104, Tryz.ntmps104
  simp only [In5.cells]
  go_wp2_with fail
  generalize hW : w.alloc (.cells #[.int .i64 x.o, .int .i64 x.d, .int .i64 x.a, .int .i64 x.b, .int .i64 x.m, .string ByteArray.empty] 55) = W
  have BX := Lib.hid (show Bx W w.heap.size x by rw [← hW]; exact bx_new w x)
  have SW := Lib.hid (show SA B W p m V by rw [← hW]; exact h.alloc _)
  have HB := Lib.hid (show Below B w W by rw [← hW]; exact (below_new w _).mono h.B_le)
  have hz : w.heap.size < W.heap.size := BX.out.lt
  have hpl : p < W.heap.size := SW.out.lt
  have hpz : p ≠ w.heap.size := Nat.ne_of_lt h.lt
  have hrz : V.gr ≠ w.heap.size := Nat.ne_of_lt h.gr_lt.2
  clear hW
  have q0 : W.cell? ⟨w.heap.size, 0, none⟩ = some (.int .i64 x.o) := BX.out.c 0
  have q1 : W.cell? ⟨w.heap.size, 1, none⟩ = some (.int .i64 x.d) := BX.out.c 1
  have q2 : W.cell? ⟨w.heap.size, 2, none⟩ = some (.int .i64 x.a) := BX.out.c 2
  have q3 : W.cell? ⟨w.heap.size, 3, none⟩ = some (.int .i64 x.b) := BX.out.c 3
  have q4 : W.cell? ⟨w.heap.size, 4, none⟩ = some (.int .i64 x.m) := BX.out.c 4
  have q5 : W.cell? ⟨w.heap.size, 5, none⟩ = some (.string ByteArray.empty) := BX.out.c 5
  have d0 : W.cell? ⟨p, 0, none⟩ = some (.slice (some ⟨V.gr, 0, none⟩) 16 V.cr) := SW.out.cell 0
  have d1 : W.cell? ⟨p, 1, none⟩ = some (.slice (some ⟨V.gm, 0, none⟩) 256 V.cm) := SW.out.cell 1
  have ra := SW.out.reg k ha
  go_still_tail 5, (by kernel_rfl)
  change wpList _ _ _ _ _ W.drew
  go_wp2_with (go_at_call 117; refine (addr_any V.gr V.cr x m W.drew ha ra).mono ?_; rintro e W3 ⟨rfl, hb3⟩)
  have S3 := Lib.hid (SW.out.drew.below hb3)
  have X3 := Lib.hid (BX.out.drew.below hb3)
  have B3 := Lib.hid (HB.out.drew.trans (hb3.mono (show B ≤ W.heap.size from SW.out.B_le)))
  clear ra q0 q1 q2 q3 q4 q5 d0 d1 hb3
  have q0 : W3.cell? ⟨w.heap.size, 0, none⟩ = some (.int .i64 x.o) := X3.out.c 0
  have q1 : W3.cell? ⟨w.heap.size, 1, none⟩ = some (.int .i64 x.d) := X3.out.c 1
  have q2 : W3.cell? ⟨w.heap.size, 2, none⟩ = some (.int .i64 x.a) := X3.out.c 2
  have q3 : W3.cell? ⟨w.heap.size, 3, none⟩ = some (.int .i64 x.b) := X3.out.c 3
  have q4 : W3.cell? ⟨w.heap.size, 4, none⟩ = some (.int .i64 x.m) := X3.out.c 4
  have q5 : W3.cell? ⟨w.heap.size, 5, none⟩ = some (.string ByteArray.empty) := X3.out.c 5
  have d0 : W3.cell? ⟨p, 0, none⟩ = some (.slice (some ⟨V.gr, 0, none⟩) 16 V.cr) := S3.out.cell 0
  have d1 : W3.cell? ⟨p, 1, none⟩ = some (.slice (some ⟨V.gm, 0, none⟩) 256 V.cm) := S3.out.cell 1
  have i0 : (0 : Int) ≤ (adr m x : Nat) := by omega
  have i1 : ((adr m x : Nat) : Int) < 256 := by omega
  have i2 : (0 : Int) ≤ (x.d : Int) := by omega
  have i3 : (x.d : Int) < 16 := by omega
  have i4 : (0 : Int) ≤ (x.b : Int) := by omega
  have i5 : (x.b : Int) < 16 := by omega
  have rm := S3.out.word k hin
  have rd := S3.out.reg k hb
  have rf := S3.out.wordF (adr m x)
  clear hz hpl
  go_still_tail 14, (by kernel_rfl)
  change wpList _ _ _ _ _ W3.drew
  go_wp2
  go_ret
  exact ⟨rfl, ⟨_, S3.out.drew.setM _ _⟩, B3.out.drew.setCell (by exact S3.out.gm_lt.1) _⟩
def ResPost (v k : Int) (w : World) (e : Ending) (w' : World) : Prop := e = .returned (.tuple #[.int .u32 v, .int .i64 k]) ∧ Below w.heap.size w w'
set_option maxHeartbeats 400000 in
theorem result_addi (gr cr : Nat) (x : In5) (va vb v k : Int) (w : World) (ho : x.o = 22) (ha : x.a < 16) (hb : x.b < 16) (ca : w.cell? ⟨gr, x.a, none⟩ = some (.int .u32 va)) (cb : w.cell? ⟨gr, x.b, none⟩ = some (.int .u32 vb)) (C : ∀ W, Calls Tryz.prog 127 #[.int .i64 1, .int .u32 va, .int .u32 (x.m % 4294967296)] W (Wo.OfPost v k W)) :
    Calls Tryz.prog 126 #[.agg x.cells, .slice (some ⟨gr, 0, none⟩) 16 cr] w (ResPost v k w) := by
  have CC := Lib.hid C
  clear C
  obtain ⟨o, d, a, b, im⟩ := x
  simp only [In5.cells] at *
  have i0 : (0 : Int) ≤ (a : Int) := by omega
  have i1 : (a : Int) < 16 := by omega
  have i2 : (0 : Int) ≤ (b : Int) := by omega
  have i3 : (b : Int) < 16 := by omega
  have hlt := World.block_lt_of_cell? w _ ca
  simp only at hlt
  have t : ((o : Int) == 22) = true := by simp; omega
  clear ho
  clear ha hb
  go_enter Tryz.func126, Tryz.ntmps126
  go_wp2_with fail
  go_quiet (fail)
  go_wp2_with ((go_at_call 127; refine (CC.out _).mono ?_; rintro e w' ⟨rfl, rfl⟩))
  go_ret2
  exact ⟨rfl, below_drewN (below_new _ _) _⟩
set_option maxHeartbeats 400000 in
theorem result_pair (gr cr : Nat) (x : In5) (va vb v k : Int) (w : World) (h1 : 18 ≤ x.o) (h2 : x.o ≤ 21) (ha : x.a < 16) (hb : x.b < 16) (ca : w.cell? ⟨gr, x.a, none⟩ = some (.int .u32 va)) (cb : w.cell? ⟨gr, x.b, none⟩ = some (.int .u32 vb)) (C : ∀ W, Calls Tryz.prog 129 #[.int .i64 x.o, .int .u32 va, .int .u32 vb] W (Pa.OfPost v k W)) :
    Calls Tryz.prog 126 #[.agg x.cells, .slice (some ⟨gr, 0, none⟩) 16 cr] w (ResPost v k w) := by
  have CC := Lib.hid C
  clear C
  obtain ⟨o, d, a, b, im⟩ := x
  simp only [In5.cells] at *
  have i0 : (0 : Int) ≤ (a : Int) := by omega
  have i1 : (a : Int) < 16 := by omega
  have i2 : (0 : Int) ≤ (b : Int) := by omega
  have i3 : (b : Int) < 16 := by omega
  have hlt := World.block_lt_of_cell? w _ ca
  simp only at hlt
  have t : ((o : Int) == 22) = false := by simp; omega
  have HP := Lib.hid (fun W => Pa.has_yes (o : Int) W (by omega) (by omega))
  clear h1 h2
  clear ha hb
  go_enter Tryz.func126, Tryz.ntmps126
  go_wp2_with fail
  go_quiet (fail)
  go_wp2_with (first | (go_at_call 128; refine (HP.out _).mono ?_; rintro e w' ⟨rfl, rfl⟩) | (go_at_call 129; refine (CC.out _).mono ?_; rintro e w' ⟨rfl, rfl⟩))
  go_ret2
  exact ⟨rfl, below_drewN (below_new _ _) _⟩
set_option maxHeartbeats 400000 in
theorem result_word (gr cr : Nat) (x : In5) (va vb v k : Int) (w : World) (h2 : x.o ≤ 17) (ha : x.a < 16) (hb : x.b < 16) (ca : w.cell? ⟨gr, x.a, none⟩ = some (.int .u32 va)) (cb : w.cell? ⟨gr, x.b, none⟩ = some (.int .u32 vb)) (C : ∀ W, Calls Tryz.prog 127 #[.int .i64 x.o, .int .u32 va, .int .u32 vb] W (Wo.OfPost v k W)) :
    Calls Tryz.prog 126 #[.agg x.cells, .slice (some ⟨gr, 0, none⟩) 16 cr] w (ResPost v k w) := by
  have CC := Lib.hid C
  clear C
  obtain ⟨o, d, a, b, im⟩ := x
  simp only [In5.cells] at *
  have i0 : (0 : Int) ≤ (a : Int) := by omega
  have i1 : (a : Int) < 16 := by omega
  have i2 : (0 : Int) ≤ (b : Int) := by omega
  have i3 : (b : Int) < 16 := by omega
  have hlt := World.block_lt_of_cell? w _ ca
  simp only at hlt
  have t : ((o : Int) == 22) = false := by simp; omega
  have HP := Lib.hid (fun W => Pa.has_no (o : Int) W (by omega))
  clear h2
  clear ha hb
  go_enter Tryz.func126, Tryz.ntmps126
  go_wp2_with fail
  go_quiet (fail)
  go_wp2_with (first | (go_at_call 128; refine (HP.out _).mono ?_; rintro e w' ⟨rfl, rfl⟩) | (go_at_call 127; refine (CC.out _).mono ?_; rintro e w' ⟨rfl, rfl⟩))
  go_ret2
  exact ⟨rfl, below_drewN (below_new _ _) _⟩
theorem u_add (a m : Int) : (a + m % 4294967296) % 4294967296 = (a + m) % 4294967296 := by omega
section
variable {m : M} {x : In5}
theorem result_ok (gr cr : Nat) (w : World) (k : Ok m) (h1 : 1 ≤ x.o) (h2 : x.o ≤ 22) (ha : x.a < 16) (hb : x.b < 16) (hz : dz x m = false) (ca : w.cell? ⟨gr, x.a, none⟩ = some (.int .u32 (m.reg x.a))) (cb : w.cell? ⟨gr, x.b, none⟩ = some (.int .u32 (m.reg x.b))) :
    Calls Tryz.prog 126 #[.agg x.cells, .slice (some ⟨gr, 0, none⟩) 16 cr] w (ResPost (res x m) 0 w) := by
  have Ua := k.reg ha
  have Ub := k.reg hb
  unfold res
  by_cases h22 : x.o = 22
  · rw [if_pos h22]
    refine result_addi gr cr x _ _ _ _ w h22 ha hb ca cb fun W => ?_
    have h := Wo.of_good 1 (m.reg x.a) (x.m % 4294967296) W Ua (by constructor <;> omega) (by omega) (by omega) (by omega)
    rw [← u_add]
    exact h
  · rw [if_neg h22]
    by_cases h18 : 18 ≤ x.o
    · rw [if_pos h18]
      exact result_pair gr cr x _ _ _ _ w h18 (by omega) ha hb ca cb fun W => Pa.of_good _ _ _ W Ua Ub (by omega) (by omega)
    · rw [if_neg h18]
      refine result_word gr cr x _ _ _ _ w (by omega) ha hb ca cb fun W => Wo.of_good _ _ _ W Ua Ub (by omega) (by omega) ?_
      rintro ⟨h3, h4⟩
      simp [dz, h4] at hz
      omega
theorem result_dz (gr cr : Nat) (w : World) (k : Ok m) (ha : x.a < 16) (hb : x.b < 16) (hz : dz x m = true) (ca : w.cell? ⟨gr, x.a, none⟩ = some (.int .u32 (m.reg x.a))) (cb : w.cell? ⟨gr, x.b, none⟩ = some (.int .u32 (m.reg x.b))) :
    Calls Tryz.prog 126 #[.agg x.cells, .slice (some ⟨gr, 0, none⟩) 16 cr] w (ResPost 0 7 w) := by
  simp only [dz, Bool.and_eq_true, decide_eq_true_eq] at hz
  obtain ⟨⟨h1, h2⟩, h3⟩ := hz
  rw [h3] at cb
  exact result_word gr cr x _ _ _ _ w h2 ha hb ca cb fun W => Wo.of_zero _ _ W (k.reg ha) (by omega) (by omega)
end
end Go.Proofs.YtbgmdikcbglpiaaGreatDoor
