/-
  Contracts of package pipe's calls jump and do: what a slot does is what the Lean function slot tells. Conditions: the state lies behind the pointer, and may be; the instruction may be.
-/
import Derived.Test.YtbgmdikcbglpiaaGreatDoorPp4
namespace Go.Proofs.YtbgmdikcbglpiaaGreatDoor
open Go.RowKit

/-- Whether it jumps, why it stops, and the state behind. -/
def DoP (B p : Nat) (m' : M) (j : Bool) (k : Int) (w : World) (e : Ending) (w' : World) : Prop := e = .returned (.tuple #[.bool j, .int .i64 k]) ∧ Goes B w p m' w'
section
variable {B p : Nat} {w W : World} {m : M} {V : Vs}
theorem SA.setJmp (h : SA B W p m V) {y : Int} {n : Nat} (e : y = (n : Int)) : SA B ((W.setCell ⟨p, 9, none⟩ (.int .i64 y)).setCell ⟨p, 10, none⟩ (.int .i64 2)) p (jmp m n) V := by
  subst e
  exact (h.setJp n).setDl 2
theorem bel2 (hb : Below B w W) (hp : B ≤ p) (a b : Nat) (x y : Value) : Below B w ((W.setCell ⟨p, a, none⟩ x).setCell ⟨p, b, none⟩ y) := (hb.setCell (by exact hp) _).setCell (by exact hp) _
end
set_option maxRecDepth 20000 in
set_option maxHeartbeats 1000000 in
theorem jump_jmp (B p : Nat) (x : In5) (m : M) (V : Vs) (w : World) (h : SA B w p m V) (n : Nat) (ht : x.m = (n : Int)) (ho : x.o = 28) : Calls Tryz.prog 105 #[.agg x.cells, .pointer (some ⟨p, 0, none⟩)] w (DoP B p (jmp m n) true 0 w) := by
  have t29 : ((x.o : Int) == 29) = false := by simp; omega
  have t30 : ((x.o : Int) == 30) = false := by simp; omega
  have t31 : ((x.o : Int) == 31) = false := by simp; omega
  have t32 : ((x.o : Int) == 32) = false := by simp; omega
  clear ho
  have H0 := Lib.hid h
  have H := Lib.hid (h.alloc (.cells x.cells 55))
  have HB := Lib.hid ((below_new w (.cells x.cells 55)).mono h.B_le)
  have HP := Lib.hid h.hp
  have f9 := h.frozen 9
  have f10 := h.frozen 10
  have g9 : w.cell? ⟨p, 9, none⟩ = some (.int .i64 m.jp) := h.cell 9
  have g10 : w.cell? ⟨p, 10, none⟩ = some (.int .i64 m.dl) := h.cell 10
  have hpl := h.lt
  have HT := Lib.hid ht
  clear h ht
  obtain ⟨o, d, a, b, im⟩ := x
  simp only [In5.cells] at *
  go_enter Tryz.func105, Tryz.ntmps105
  go_wp2
  go_ret2
  exact ⟨rfl, ⟨_, (H0.out.setJmp HT.out).alloc _⟩, (bel2 (Below.refl B w) HP.out _ _ _ _).alloc (by simpa using H0.out.B_le) _⟩
set_option maxRecDepth 20000 in
set_option maxHeartbeats 1000000 in
theorem jump_bz_yes (B p : Nat) (x : In5) (m : M) (V : Vs) (w : World) (h : SA B w p m V) (k : Ok m) (ha : x.a < 16) (n : Nat) (ht : x.m = (n : Int)) (hr : m.reg x.a = 0) (ho : x.o = 29) : Calls Tryz.prog 105 #[.agg x.cells, .pointer (some ⟨p, 0, none⟩)] w (DoP B p (jmp m n) true 0 w) := by
  have t29 : ((x.o : Int) == 29) = true := by simp; omega
  have t30 : ((x.o : Int) == 30) = false := by simp; omega
  have t31 : ((x.o : Int) == 31) = false := by simp; omega
  have t32 : ((x.o : Int) == 32) = false := by simp; omega
  clear ho
  have H0 := Lib.hid h
  have H := Lib.hid (h.alloc (.cells x.cells 55))
  have HB := Lib.hid ((below_new w (.cells x.cells 55)).mono h.B_le)
  have HP := Lib.hid h.hp
  have f9 := h.frozen 9
  have f10 := h.frozen 10
  have g9 : w.cell? ⟨p, 9, none⟩ = some (.int .i64 m.jp) := h.cell 9
  have g10 : w.cell? ⟨p, 10, none⟩ = some (.int .i64 m.dl) := h.cell 10
  have hpl := h.lt
  have d0 : w.cell? ⟨p, 0, none⟩ = some (.slice (some ⟨V.gr, 0, none⟩) 16 V.cr) := h.cell 0
  have ra := h.reg k ha
  have hgl := h.gr_lt.2
  have i0 : (0 : Int) ≤ (x.a : Int) := by omega
  have i1 : (x.a : Int) < 16 := by omega
  have hd : (m.reg x.a == 0) = true := by simp; exact hr
  have HT := Lib.hid ht
  clear ht
  generalize m.reg x.a = v at *
  clear h k ha hr
  obtain ⟨o, d, a, b, im⟩ := x
  simp only [In5.cells] at *
  go_enter Tryz.func105, Tryz.ntmps105
  go_wp2_with fail
  go_quiet (fail)
  go_wp2
  go_ret2
  exact ⟨rfl, ⟨_, (H.out.drewN _).setJmp HT.out⟩, bel2 (below_drewN HB.out _) HP.out _ _ _ _⟩
set_option maxRecDepth 20000 in
set_option maxHeartbeats 1000000 in
theorem jump_bz_no (B p : Nat) (x : In5) (m : M) (V : Vs) (w : World) (h : SA B w p m V) (k : Ok m) (ha : x.a < 16) (hr : ¬ m.reg x.a = 0) (ho : x.o = 29) : Calls Tryz.prog 105 #[.agg x.cells, .pointer (some ⟨p, 0, none⟩)] w (DoP B p m false 0 w) := by
  have t29 : ((x.o : Int) == 29) = true := by simp; omega
  have t30 : ((x.o : Int) == 30) = false := by simp; omega
  have t31 : ((x.o : Int) == 31) = false := by simp; omega
  have t32 : ((x.o : Int) == 32) = false := by simp; omega
  clear ho
  have H0 := Lib.hid h
  have H := Lib.hid (h.alloc (.cells x.cells 55))
  have HB := Lib.hid ((below_new w (.cells x.cells 55)).mono h.B_le)
  have HP := Lib.hid h.hp
  have hpl := h.lt
  have d0 : w.cell? ⟨p, 0, none⟩ = some (.slice (some ⟨V.gr, 0, none⟩) 16 V.cr) := h.cell 0
  have ra := h.reg k ha
  have hgl := h.gr_lt.2
  have i0 : (0 : Int) ≤ (x.a : Int) := by omega
  have i1 : (x.a : Int) < 16 := by omega
  have hd : (m.reg x.a == 0) = false := by simp; exact hr
  generalize m.reg x.a = v at *
  clear h k ha hr
  obtain ⟨o, d, a, b, im⟩ := x
  simp only [In5.cells] at *
  go_enter Tryz.func105, Tryz.ntmps105
  go_wp2_with fail
  go_quiet (fail)
  go_wp2
  go_ret2
  exact ⟨rfl, ⟨_, H.out.drewN _⟩, below_drewN HB.out _⟩
set_option maxRecDepth 20000 in
set_option maxHeartbeats 1000000 in
theorem jump_bnz_yes (B p : Nat) (x : In5) (m : M) (V : Vs) (w : World) (h : SA B w p m V) (k : Ok m) (ha : x.a < 16) (n : Nat) (ht : x.m = (n : Int)) (hr : ¬ m.reg x.a = 0) (ho : x.o = 30) : Calls Tryz.prog 105 #[.agg x.cells, .pointer (some ⟨p, 0, none⟩)] w (DoP B p (jmp m n) true 0 w) := by
  have t29 : ((x.o : Int) == 29) = false := by simp; omega
  have t30 : ((x.o : Int) == 30) = true := by simp; omega
  have t31 : ((x.o : Int) == 31) = false := by simp; omega
  have t32 : ((x.o : Int) == 32) = false := by simp; omega
  clear ho
  have H0 := Lib.hid h
  have H := Lib.hid (h.alloc (.cells x.cells 55))
  have HB := Lib.hid ((below_new w (.cells x.cells 55)).mono h.B_le)
  have HP := Lib.hid h.hp
  have f9 := h.frozen 9
  have f10 := h.frozen 10
  have g9 : w.cell? ⟨p, 9, none⟩ = some (.int .i64 m.jp) := h.cell 9
  have g10 : w.cell? ⟨p, 10, none⟩ = some (.int .i64 m.dl) := h.cell 10
  have hpl := h.lt
  have d0 : w.cell? ⟨p, 0, none⟩ = some (.slice (some ⟨V.gr, 0, none⟩) 16 V.cr) := h.cell 0
  have ra := h.reg k ha
  have hgl := h.gr_lt.2
  have i0 : (0 : Int) ≤ (x.a : Int) := by omega
  have i1 : (x.a : Int) < 16 := by omega
  have hd : (m.reg x.a != 0) = true := by simp; exact hr
  have HT := Lib.hid ht
  clear ht
  generalize m.reg x.a = v at *
  clear h k ha hr
  obtain ⟨o, d, a, b, im⟩ := x
  simp only [In5.cells] at *
  go_enter Tryz.func105, Tryz.ntmps105
  go_wp2_with fail
  go_quiet (fail)
  go_wp2
  go_ret2
  exact ⟨rfl, ⟨_, (H.out.drewN _).setJmp HT.out⟩, bel2 (below_drewN HB.out _) HP.out _ _ _ _⟩
set_option maxRecDepth 20000 in
set_option maxHeartbeats 1000000 in
theorem jump_bnz_no (B p : Nat) (x : In5) (m : M) (V : Vs) (w : World) (h : SA B w p m V) (k : Ok m) (ha : x.a < 16) (hr : m.reg x.a = 0) (ho : x.o = 30) : Calls Tryz.prog 105 #[.agg x.cells, .pointer (some ⟨p, 0, none⟩)] w (DoP B p m false 0 w) := by
  have t29 : ((x.o : Int) == 29) = false := by simp; omega
  have t30 : ((x.o : Int) == 30) = true := by simp; omega
  have t31 : ((x.o : Int) == 31) = false := by simp; omega
  have t32 : ((x.o : Int) == 32) = false := by simp; omega
  clear ho
  have H0 := Lib.hid h
  have H := Lib.hid (h.alloc (.cells x.cells 55))
  have HB := Lib.hid ((below_new w (.cells x.cells 55)).mono h.B_le)
  have HP := Lib.hid h.hp
  have hpl := h.lt
  have d0 : w.cell? ⟨p, 0, none⟩ = some (.slice (some ⟨V.gr, 0, none⟩) 16 V.cr) := h.cell 0
  have ra := h.reg k ha
  have hgl := h.gr_lt.2
  have i0 : (0 : Int) ≤ (x.a : Int) := by omega
  have i1 : (x.a : Int) < 16 := by omega
  have hd : (m.reg x.a != 0) = false := by simp; exact hr
  generalize m.reg x.a = v at *
  clear h k ha hr
  obtain ⟨o, d, a, b, im⟩ := x
  simp only [In5.cells] at *
  go_enter Tryz.func105, Tryz.ntmps105
  go_wp2_with fail
  go_quiet (fail)
  go_wp2
  go_ret2
  exact ⟨rfl, ⟨_, H.out.drewN _⟩, below_drewN HB.out _⟩
set_option maxRecDepth 20000 in
set_option maxHeartbeats 1000000 in
theorem jump_call_go (B p : Nat) (x : In5) (m : M) (V : Vs) (w : World) (h : SA B w p m V) (m2 : M) (C : ∀ W, SA B W p m V → Calls Tryz.prog 118 #[.pointer (some ⟨p, 0, none⟩)] W (StopPost B p 0 m2 W)) (n : Nat) (ht : x.m = (n : Int)) (ho : x.o = 31) : Calls Tryz.prog 105 #[.agg x.cells, .pointer (some ⟨p, 0, none⟩)] w (DoP B p (jmp m2 n) true 0 w) := by
  have t29 : ((x.o : Int) == 29) = false := by simp; omega
  have t30 : ((x.o : Int) == 30) = false := by simp; omega
  have t31 : ((x.o : Int) == 31) = true := by simp; omega
  have t32 : ((x.o : Int) == 32) = false := by simp; omega
  clear ho
  have H0 := Lib.hid h
  have H := Lib.hid (h.alloc (.cells x.cells 55))
  have HB := Lib.hid ((below_new w (.cells x.cells 55)).mono h.B_le)
  have HP := Lib.hid h.hp
  have CC := Lib.hid (C _ H.out)
  have HT := Lib.hid ht
  clear h C ht
  obtain ⟨o, d, a, b, im⟩ := x
  simp only [In5.cells] at *
  go_enter Tryz.func105, Tryz.ntmps105
  go_wp2_with fail
  refine CC.out.mono ?_
  rintro e W3 ⟨rfl, ⟨V3, S3⟩, hb3⟩
  have SS := Lib.hid S3
  have BB := Lib.hid (HB.out.trans hb3)
  have f9 := S3.frozen 9
  have f10 := S3.frozen 10
  have g9 : W3.cell? ⟨p, 9, none⟩ = some (.int .i64 m2.jp) := S3.cell 9
  have g10 : W3.cell? ⟨p, 10, none⟩ = some (.int .i64 m2.dl) := S3.cell 10
  have hpl := S3.lt
  clear S3 hb3
  go_wp2
  go_ret2
  exact ⟨rfl, ⟨_, SS.out.setJmp HT.out⟩, bel2 BB.out HP.out _ _ _ _⟩
set_option maxRecDepth 20000 in
set_option maxHeartbeats 1000000 in
theorem jump_call_stop (B p : Nat) (x : In5) (m : M) (V : Vs) (w : World) (h : SA B w p m V) (m2 : M) (st : Int) (hst : (st != 0) = true) (C : ∀ W, SA B W p m V → Calls Tryz.prog 118 #[.pointer (some ⟨p, 0, none⟩)] W (StopPost B p st m2 W)) (ho : x.o = 31) : Calls Tryz.prog 105 #[.agg x.cells, .pointer (some ⟨p, 0, none⟩)] w (DoP B p m2 false st w) := by
  have t29 : ((x.o : Int) == 29) = false := by simp; omega
  have t30 : ((x.o : Int) == 30) = false := by simp; omega
  have t31 : ((x.o : Int) == 31) = true := by simp; omega
  have t32 : ((x.o : Int) == 32) = false := by simp; omega
  clear ho
  have H0 := Lib.hid h
  have H := Lib.hid (h.alloc (.cells x.cells 55))
  have HB := Lib.hid ((below_new w (.cells x.cells 55)).mono h.B_le)
  have HP := Lib.hid h.hp
  have CC := Lib.hid (C _ H.out)
  clear h C
  obtain ⟨o, d, a, b, im⟩ := x
  simp only [In5.cells] at *
  go_enter Tryz.func105, Tryz.ntmps105
  go_wp2_with fail
  refine CC.out.mono ?_
  rintro e W3 ⟨rfl, ⟨V3, S3⟩, hb3⟩
  have SS := Lib.hid S3
  have BB := Lib.hid (HB.out.trans hb3)
  have f9 := S3.frozen 9
  have f10 := S3.frozen 10
  have g9 : W3.cell? ⟨p, 9, none⟩ = some (.int .i64 m2.jp) := S3.cell 9
  have g10 : W3.cell? ⟨p, 10, none⟩ = some (.int .i64 m2.dl) := S3.cell 10
  have hpl := S3.lt
  clear S3 hb3
  go_wp2
  go_ret2
  exact ⟨rfl, ⟨_, SS.out⟩, BB.out⟩
set_option maxRecDepth 20000 in
set_option maxHeartbeats 1000000 in
theorem jump_ret_go (B p : Nat) (x : In5) (m : M) (V : Vs) (w : World) (h : SA B w p m V) (m2 : M) (n : Nat) (C : ∀ W, SA B W p m V → Calls Tryz.prog 119 #[.pointer (some ⟨p, 0, none⟩)] W (RetPost B p n 0 m2 W)) (ho : x.o = 32) : Calls Tryz.prog 105 #[.agg x.cells, .pointer (some ⟨p, 0, none⟩)] w (DoP B p (jmp m2 n) true 0 w) := by
  have t29 : ((x.o : Int) == 29) = false := by simp; omega
  have t30 : ((x.o : Int) == 30) = false := by simp; omega
  have t31 : ((x.o : Int) == 31) = false := by simp; omega
  have t32 : ((x.o : Int) == 32) = true := by simp; omega
  clear ho
  have H0 := Lib.hid h
  have H := Lib.hid (h.alloc (.cells x.cells 55))
  have HB := Lib.hid ((below_new w (.cells x.cells 55)).mono h.B_le)
  have HP := Lib.hid h.hp
  have CC := Lib.hid (C _ H.out)
  clear h C
  obtain ⟨o, d, a, b, im⟩ := x
  simp only [In5.cells] at *
  go_enter Tryz.func105, Tryz.ntmps105
  go_wp2_with fail
  refine CC.out.mono ?_
  rintro e W3 ⟨rfl, ⟨V3, S3⟩, hb3⟩
  have SS := Lib.hid S3
  have BB := Lib.hid (HB.out.trans hb3)
  have f9 := S3.frozen 9
  have f10 := S3.frozen 10
  have g9 : W3.cell? ⟨p, 9, none⟩ = some (.int .i64 m2.jp) := S3.cell 9
  have g10 : W3.cell? ⟨p, 10, none⟩ = some (.int .i64 m2.dl) := S3.cell 10
  have hpl := S3.lt
  clear S3 hb3
  go_wp2
  go_ret2
  exact ⟨rfl, ⟨_, SS.out.setJmp rfl⟩, bel2 BB.out HP.out _ _ _ _⟩
set_option maxRecDepth 20000 in
set_option maxHeartbeats 1000000 in
theorem jump_ret_stop (B p : Nat) (x : In5) (m : M) (V : Vs) (w : World) (h : SA B w p m V) (m2 : M) (st : Int) (hst : (st != 0) = true) (C : ∀ W, SA B W p m V → Calls Tryz.prog 119 #[.pointer (some ⟨p, 0, none⟩)] W (RetPost B p 0 st m2 W)) (ho : x.o = 32) : Calls Tryz.prog 105 #[.agg x.cells, .pointer (some ⟨p, 0, none⟩)] w (DoP B p m2 false st w) := by
  have t29 : ((x.o : Int) == 29) = false := by simp; omega
  have t30 : ((x.o : Int) == 30) = false := by simp; omega
  have t31 : ((x.o : Int) == 31) = false := by simp; omega
  have t32 : ((x.o : Int) == 32) = true := by simp; omega
  clear ho
  have H0 := Lib.hid h
  have H := Lib.hid (h.alloc (.cells x.cells 55))
  have HB := Lib.hid ((below_new w (.cells x.cells 55)).mono h.B_le)
  have HP := Lib.hid h.hp
  have CC := Lib.hid (C _ H.out)
  clear h C
  obtain ⟨o, d, a, b, im⟩ := x
  simp only [In5.cells] at *
  go_enter Tryz.func105, Tryz.ntmps105
  go_wp2_with fail
  refine CC.out.mono ?_
  rintro e W3 ⟨rfl, ⟨V3, S3⟩, hb3⟩
  have SS := Lib.hid S3
  have BB := Lib.hid (HB.out.trans hb3)
  have f9 := S3.frozen 9
  have f10 := S3.frozen 10
  have g9 : W3.cell? ⟨p, 9, none⟩ = some (.int .i64 m2.jp) := S3.cell 9
  have g10 : W3.cell? ⟨p, 10, none⟩ = some (.int .i64 m2.dl) := S3.cell 10
  have hpl := S3.lt
  clear S3 hb3
  go_wp2
  go_ret2
  exact ⟨rfl, ⟨_, SS.out⟩, BB.out⟩
end Go.Proofs.YtbgmdikcbglpiaaGreatDoor
