/-
  Contracts of package seq's call step: of a program whose instructions may be, at a state that may be, the state behind it is the one that the Lean function stepP tells. Conditions: the program lies in old memory; the state lies behind the pointer, and may be.
-/
import Derived.Test.YtpnmlednningkaaDoorPrg
import Derived.Deep.RegionHeld3
namespace Go.Proofs.YtpnmlednningkaaDoor
open Go.RowKit

set_option maxRecDepth 20000 in
set_option maxHeartbeats 2000000 in
theorem step_end (B p : Nat) (A : Option Addr) (n c : Nat) (m : M) (V : Vs) (w : World) (h : SA B w p m V) (hpc : n ≤ m.pc) : Calls Tryd.prog 46 #[.slice A n c, .pointer (some ⟨p, 0, none⟩)] w (StepPost B p (stop m 5) w) := by
  have dpc : decide ((n : Int) ≤ (m.pc : Int)) = true := by simp; omega
  have c5 : w.cell? ⟨p, 5, none⟩ = some (.int .i64 m.pc) := h.cell 5
  have H := Lib.hid h
  have c7 : w.cell? ⟨p, 7, none⟩ = some (.int .i64 m.stop) := h.cell 7
  have f7 := h.frozen 7
  have hpw := h.lt
  clear h
  go_enter Tryd.func46, Tryd.ntmps46
  go_wp2
  go_end0
  exact ⟨rfl, fin_stop H.out 5, fin_b1 (Below.refl _ _) H.out.hp _⟩
set_option maxRecDepth 20000 in
set_option maxHeartbeats 2000000 in
theorem step_nop (B p : Nat) (ad : Addr) (n c : Nat) (x : In5) (m : M) (V : Vs) (w : World) (hx : InAt w ad m.pc x) (hbl : ad.block < B) (h : SA B w p m V) (_k : Ok m) (hs : m.stop = 0) (hpc : m.pc < n) (hn : n ≤ 1024) (ho : x.o = 0) : Calls Tryd.prog 46 #[.slice (some ad) n c, .pointer (some ⟨p, 0, none⟩)] w (StepPost B p (goto m (m.pc + 1)) w) := by
  have t0 : ((x.o : Int) == 0) = true := by simp; omega
  have t23 : ((x.o : Int) == 23) = false := by simp; omega
  have t24 : ((x.o : Int) == 24) = false := by simp; omega
  have t25 : ((x.o : Int) == 25) = false := by simp; omega
  have t26 : ((x.o : Int) == 26) = false := by simp; omega
  have t27 : ((x.o : Int) == 27) = false := by simp; omega
  have t28 : ((x.o : Int) == 28) = false := by simp; omega
  have t29 : ((x.o : Int) == 29) = false := by simp; omega
  have t30 : ((x.o : Int) == 30) = false := by simp; omega
  have t31 : ((x.o : Int) == 31) = false := by simp; omega
  have t32 : ((x.o : Int) == 32) = false := by simp; omega
  have t33 : ((x.o : Int) == 33) = false := by simp; omega
  clear ho
  obtain ⟨k0, k1, k2, k3, k4, k5⟩ := hx.k
  have HS := Lib.hid hs
  have dpc : decide ((n : Int) ≤ (m.pc : Int)) = false := by simp; omega
  have p0 : (0 : Int) ≤ (m.pc : Int) := by omega
  have p1 : (m.pc : Int) < (n : Int) := by omega
  have c5 : w.cell? ⟨p, 5, none⟩ = some (.int .i64 m.pc) := h.cell 5
  have hpw := h.lt
  have hadw : (ad.add (m.pc * 6)).block < w.heap.size := by rw [block_add]; have := h.B_le; omega
  have f7 := h.frozen 7
  have f5 := h.frozen 5
  have e7 : w.cell? ⟨p, 7, none⟩ = some (.int .i64 m.stop) := h.cell 7
  have e5 : w.cell? ⟨p, 5, none⟩ = some (.int .i64 m.pc) := h.cell 5
  have H := Lib.hid h
  clear hx hs h
  go_enter Tryd.func46, Tryd.ntmps46
  go_wp2_with fail
  go_end0
  obtain ⟨V2, h2⟩ := fin_go H.out HS.out (show (m.pc : Int) + 1 = ((m.pc + 1 : Nat) : Int) by omega)
  exact ⟨rfl, ⟨V2, h2.alloc _⟩, (fin_b2 (Below.refl _ _) H.out.hp _ _).alloc (by simp; exact H.out.B_le) _⟩
set_option maxRecDepth 20000 in
set_option maxHeartbeats 2000000 in
theorem step_li (B p : Nat) (ad : Addr) (n c : Nat) (x : In5) (m : M) (V : Vs) (w : World) (hx : InAt w ad m.pc x) (hbl : ad.block < B) (h : SA B w p m V) (k : Ok m) (hs : m.stop = 0) (hpc : m.pc < n) (hn : n ≤ 1024) (ho : x.o = 23) (hd : x.d < 16) : Calls Tryd.prog 46 #[.slice (some ad) n c, .pointer (some ⟨p, 0, none⟩)] w (StepPost B p (put m x.d (x.m % 4294967296)) w) := by
  have t0 : ((x.o : Int) == 0) = false := by simp; omega
  have t23 : ((x.o : Int) == 23) = true := by simp; omega
  have t24 : ((x.o : Int) == 24) = false := by simp; omega
  have t25 : ((x.o : Int) == 25) = false := by simp; omega
  have t26 : ((x.o : Int) == 26) = false := by simp; omega
  have t27 : ((x.o : Int) == 27) = false := by simp; omega
  have t28 : ((x.o : Int) == 28) = false := by simp; omega
  have t29 : ((x.o : Int) == 29) = false := by simp; omega
  have t30 : ((x.o : Int) == 30) = false := by simp; omega
  have t31 : ((x.o : Int) == 31) = false := by simp; omega
  have t32 : ((x.o : Int) == 32) = false := by simp; omega
  have t33 : ((x.o : Int) == 33) = false := by simp; omega
  clear ho
  obtain ⟨k0, k1, k2, k3, k4, k5⟩ := hx.k
  have HS := Lib.hid hs
  have dpc : decide ((n : Int) ≤ (m.pc : Int)) = false := by simp; omega
  have p0 : (0 : Int) ≤ (m.pc : Int) := by omega
  have p1 : (m.pc : Int) < (n : Int) := by omega
  have c5 : w.cell? ⟨p, 5, none⟩ = some (.int .i64 m.pc) := h.cell 5
  have hpw := h.lt
  have hadw : (ad.add (m.pc * 6)).block < w.heap.size := by rw [block_add]; have := h.B_le; omega
  clear hx hs
  go_enter Tryd.func46, Tryd.ntmps46
  go_wp2_with fail
  generalize hW : w.alloc (.cells #[.int .i64 x.o, .int .i64 x.d, .int .i64 x.a, .int .i64 x.b, .int .i64 x.m, .string ByteArray.empty] 54) = W
  have BX := Lib.hid (show Bx W w.heap.size x by rw [← hW]; exact bx_new w x)
  have SW := Lib.hid (show SA B W p m V by rw [← hW]; exact h.alloc _)
  have HB := Lib.hid (show Below B w W by rw [← hW]; exact (below_new w _).mono h.B_le)
  have hzz : w.heap.size < W.heap.size := BX.out.lt
  have hpl : p < W.heap.size := SW.out.lt
  have hpz : p ≠ w.heap.size := Nat.ne_of_lt h.lt
  have hrz : V.gr ≠ w.heap.size := Nat.ne_of_lt h.gr_lt.2
  clear hW k0 k1 k2 k3 k4 k5 c5 hpw hadw p0 p1 dpc
  have q0 : W.cell? ⟨w.heap.size, 0, none⟩ = some (.int .i64 x.o) := BX.out.c 0
  have q1 : W.cell? ⟨w.heap.size, 1, none⟩ = some (.int .i64 x.d) := BX.out.c 1
  have q2 : W.cell? ⟨w.heap.size, 2, none⟩ = some (.int .i64 x.a) := BX.out.c 2
  have q3 : W.cell? ⟨w.heap.size, 3, none⟩ = some (.int .i64 x.b) := BX.out.c 3
  have q4 : W.cell? ⟨w.heap.size, 4, none⟩ = some (.int .i64 x.m) := BX.out.c 4
  have q5 : W.cell? ⟨w.heap.size, 5, none⟩ = some (.string ByteArray.empty) := BX.out.c 5
  have d0 : W.cell? ⟨p, 0, none⟩ = some (.slice (some ⟨V.gr, 0, none⟩) 16 V.cr) := SW.out.cell 0
  have i2 : (0 : Int) ≤ (x.d : Int) := by omega
  have i3 : (x.d : Int) < 16 := by omega
  have rd := SW.out.reg k hd
  have rf := SW.out.regF x.d
  have f7 := SW.out.frozen 7
  have f5 := SW.out.frozen 5
  have e7 : W.cell? ⟨p, 7, none⟩ = some (.int .i64 m.stop) := SW.out.cell 7
  have e5 : W.cell? ⟨p, 5, none⟩ = some (.int .i64 m.pc) := SW.out.cell 5
  have hgp : V.gr ≠ p := SW.out.pr
  go_still_tail 10, (by kernel_rfl)
  change wpList _ _ _ _ _ W.drew
  have S2 := Lib.hid (SW.out.drew.setR x.d (x.m % 4294967296))
  go_wp2
  go_end0
  exact ⟨rfl, fin_go S2.out HS.out (by omega), fin_b2 (HB.out.drew.setCell (by exact SW.out.gr_lt.1) _) SW.out.hp _ _⟩
set_option maxRecDepth 20000 in
set_option maxHeartbeats 2000000 in
theorem step_ld (B p : Nat) (ad : Addr) (n c : Nat) (x : In5) (m : M) (V : Vs) (w : World) (hx : InAt w ad m.pc x) (hbl : ad.block < B) (h : SA B w p m V) (k : Ok m) (hs : m.stop = 0) (hpc : m.pc < n) (hn : n ≤ 1024) (ho : x.o = 24) (ha : x.a < 16) (hd : x.d < 16) (hb : x.b < 16) (hin : adr m x < 256) : Calls Tryd.prog 46 #[.slice (some ad) n c, .pointer (some ⟨p, 0, none⟩)] w (StepPost B p (put m x.d (m.word (adr m x))) w) := by
  have t0 : ((x.o : Int) == 0) = false := by simp; omega
  have t23 : ((x.o : Int) == 23) = false := by simp; omega
  have t24 : ((x.o : Int) == 24) = true := by simp; omega
  have t25 : ((x.o : Int) == 25) = false := by simp; omega
  have t26 : ((x.o : Int) == 26) = false := by simp; omega
  have t27 : ((x.o : Int) == 27) = false := by simp; omega
  have t28 : ((x.o : Int) == 28) = false := by simp; omega
  have t29 : ((x.o : Int) == 29) = false := by simp; omega
  have t30 : ((x.o : Int) == 30) = false := by simp; omega
  have t31 : ((x.o : Int) == 31) = false := by simp; omega
  have t32 : ((x.o : Int) == 32) = false := by simp; omega
  have t33 : ((x.o : Int) == 33) = false := by simp; omega
  clear ho
  obtain ⟨k0, k1, k2, k3, k4, k5⟩ := hx.k
  have HS := Lib.hid hs
  have dpc : decide ((n : Int) ≤ (m.pc : Int)) = false := by simp; omega
  have p0 : (0 : Int) ≤ (m.pc : Int) := by omega
  have p1 : (m.pc : Int) < (n : Int) := by omega
  have c5 : w.cell? ⟨p, 5, none⟩ = some (.int .i64 m.pc) := h.cell 5
  have hpw := h.lt
  have hadw : (ad.add (m.pc * 6)).block < w.heap.size := by rw [block_add]; have := h.B_le; omega
  clear hx hs
  go_enter Tryd.func46, Tryd.ntmps46
  go_wp2_with fail
  generalize hW : w.alloc (.cells #[.int .i64 x.o, .int .i64 x.d, .int .i64 x.a, .int .i64 x.b, .int .i64 x.m, .string ByteArray.empty] 54) = W
  have BX := Lib.hid (show Bx W w.heap.size x by rw [← hW]; exact bx_new w x)
  have SW := Lib.hid (show SA B W p m V by rw [← hW]; exact h.alloc _)
  have HB := Lib.hid (show Below B w W by rw [← hW]; exact (below_new w _).mono h.B_le)
  have hzz : w.heap.size < W.heap.size := BX.out.lt
  have hpl : p < W.heap.size := SW.out.lt
  have hpz : p ≠ w.heap.size := Nat.ne_of_lt h.lt
  have hrz : V.gr ≠ w.heap.size := Nat.ne_of_lt h.gr_lt.2
  clear hW k0 k1 k2 k3 k4 k5 c5 hpw hadw p0 p1 dpc
  have q0 : W.cell? ⟨w.heap.size, 0, none⟩ = some (.int .i64 x.o) := BX.out.c 0
  have q1 : W.cell? ⟨w.heap.size, 1, none⟩ = some (.int .i64 x.d) := BX.out.c 1
  have q2 : W.cell? ⟨w.heap.size, 2, none⟩ = some (.int .i64 x.a) := BX.out.c 2
  have q3 : W.cell? ⟨w.heap.size, 3, none⟩ = some (.int .i64 x.b) := BX.out.c 3
  have q4 : W.cell? ⟨w.heap.size, 4, none⟩ = some (.int .i64 x.m) := BX.out.c 4
  have q5 : W.cell? ⟨w.heap.size, 5, none⟩ = some (.string ByteArray.empty) := BX.out.c 5
  refine (load_ok B p x m V W SW.out k ha hd hb hin).mono ?_
  rintro e W3 ⟨rfl, ⟨V3, S3⟩, hb3⟩
  have SS := Lib.hid S3
  have BB := Lib.hid (HB.out.trans hb3)
  have hp3 : p < W3.heap.size := S3.lt
  clear q0 q1 q2 q3 q4 q5 S3 hb3
  have f7 := SS.out.frozen 7
  have f5 := SS.out.frozen 5
  have e7 : W3.cell? ⟨p, 7, none⟩ = some (.int .i64 m.stop) := SS.out.cell 7
  have e5 : W3.cell? ⟨p, 5, none⟩ = some (.int .i64 m.pc) := SS.out.cell 5
  go_wp2
  go_end0
  exact ⟨rfl, fin_go SS.out HS.out (by omega), fin_b2 BB.out SS.out.hp _ _⟩
set_option maxRecDepth 20000 in
set_option maxHeartbeats 2000000 in
theorem step_ldbad (B p : Nat) (ad : Addr) (n c : Nat) (x : In5) (m : M) (V : Vs) (w : World) (hx : InAt w ad m.pc x) (hbl : ad.block < B) (h : SA B w p m V) (k : Ok m) (hs : m.stop = 0) (hpc : m.pc < n) (hn : n ≤ 1024) (ho : x.o = 24) (ha : x.a < 16) (hin : 256 ≤ adr m x) : Calls Tryd.prog 46 #[.slice (some ad) n c, .pointer (some ⟨p, 0, none⟩)] w (StepPost B p (stop m 2) w) := by
  have t0 : ((x.o : Int) == 0) = false := by simp; omega
  have t23 : ((x.o : Int) == 23) = false := by simp; omega
  have t24 : ((x.o : Int) == 24) = true := by simp; omega
  have t25 : ((x.o : Int) == 25) = false := by simp; omega
  have t26 : ((x.o : Int) == 26) = false := by simp; omega
  have t27 : ((x.o : Int) == 27) = false := by simp; omega
  have t28 : ((x.o : Int) == 28) = false := by simp; omega
  have t29 : ((x.o : Int) == 29) = false := by simp; omega
  have t30 : ((x.o : Int) == 30) = false := by simp; omega
  have t31 : ((x.o : Int) == 31) = false := by simp; omega
  have t32 : ((x.o : Int) == 32) = false := by simp; omega
  have t33 : ((x.o : Int) == 33) = false := by simp; omega
  clear ho
  obtain ⟨k0, k1, k2, k3, k4, k5⟩ := hx.k
  have HS := Lib.hid hs
  have dpc : decide ((n : Int) ≤ (m.pc : Int)) = false := by simp; omega
  have p0 : (0 : Int) ≤ (m.pc : Int) := by omega
  have p1 : (m.pc : Int) < (n : Int) := by omega
  have c5 : w.cell? ⟨p, 5, none⟩ = some (.int .i64 m.pc) := h.cell 5
  have hpw := h.lt
  have hadw : (ad.add (m.pc * 6)).block < w.heap.size := by rw [block_add]; have := h.B_le; omega
  clear hx hs
  go_enter Tryd.func46, Tryd.ntmps46
  go_wp2_with fail
  generalize hW : w.alloc (.cells #[.int .i64 x.o, .int .i64 x.d, .int .i64 x.a, .int .i64 x.b, .int .i64 x.m, .string ByteArray.empty] 54) = W
  have BX := Lib.hid (show Bx W w.heap.size x by rw [← hW]; exact bx_new w x)
  have SW := Lib.hid (show SA B W p m V by rw [← hW]; exact h.alloc _)
  have HB := Lib.hid (show Below B w W by rw [← hW]; exact (below_new w _).mono h.B_le)
  have hzz : w.heap.size < W.heap.size := BX.out.lt
  have hpl : p < W.heap.size := SW.out.lt
  have hpz : p ≠ w.heap.size := Nat.ne_of_lt h.lt
  have hrz : V.gr ≠ w.heap.size := Nat.ne_of_lt h.gr_lt.2
  clear hW k0 k1 k2 k3 k4 k5 c5 hpw hadw p0 p1 dpc
  have q0 : W.cell? ⟨w.heap.size, 0, none⟩ = some (.int .i64 x.o) := BX.out.c 0
  have q1 : W.cell? ⟨w.heap.size, 1, none⟩ = some (.int .i64 x.d) := BX.out.c 1
  have q2 : W.cell? ⟨w.heap.size, 2, none⟩ = some (.int .i64 x.a) := BX.out.c 2
  have q3 : W.cell? ⟨w.heap.size, 3, none⟩ = some (.int .i64 x.b) := BX.out.c 3
  have q4 : W.cell? ⟨w.heap.size, 4, none⟩ = some (.int .i64 x.m) := BX.out.c 4
  have q5 : W.cell? ⟨w.heap.size, 5, none⟩ = some (.string ByteArray.empty) := BX.out.c 5
  refine (load_bad B p x m V W SW.out k ha hin).mono ?_
  rintro e W3 ⟨rfl, ⟨V3, S3⟩, hb3⟩
  have SS := Lib.hid S3
  have BB := Lib.hid (HB.out.trans hb3)
  have hp3 : p < W3.heap.size := S3.lt
  clear q0 q1 q2 q3 q4 q5 S3 hb3
  have f7 := SS.out.frozen 7
  have f5 := SS.out.frozen 5
  have e7 : W3.cell? ⟨p, 7, none⟩ = some (.int .i64 m.stop) := SS.out.cell 7
  have e5 : W3.cell? ⟨p, 5, none⟩ = some (.int .i64 m.pc) := SS.out.cell 5
  go_wp2
  go_end0
  exact ⟨rfl, fin_stop SS.out _, fin_b1 BB.out SS.out.hp _⟩
set_option maxRecDepth 20000 in
set_option maxHeartbeats 2000000 in
theorem step_st (B p : Nat) (ad : Addr) (n c : Nat) (x : In5) (m : M) (V : Vs) (w : World) (hx : InAt w ad m.pc x) (hbl : ad.block < B) (h : SA B w p m V) (k : Ok m) (hs : m.stop = 0) (hpc : m.pc < n) (hn : n ≤ 1024) (ho : x.o = 25) (ha : x.a < 16) (hd : x.d < 16) (hb : x.b < 16) (hin : adr m x < 256) : Calls Tryd.prog 46 #[.slice (some ad) n c, .pointer (some ⟨p, 0, none⟩)] w (StepPost B p (goto { m with mem := m.mem.set (adr m x) (m.reg x.b) } (m.pc + 1)) w) := by
  have t0 : ((x.o : Int) == 0) = false := by simp; omega
  have t23 : ((x.o : Int) == 23) = false := by simp; omega
  have t24 : ((x.o : Int) == 24) = false := by simp; omega
  have t25 : ((x.o : Int) == 25) = true := by simp; omega
  have t26 : ((x.o : Int) == 26) = false := by simp; omega
  have t27 : ((x.o : Int) == 27) = false := by simp; omega
  have t28 : ((x.o : Int) == 28) = false := by simp; omega
  have t29 : ((x.o : Int) == 29) = false := by simp; omega
  have t30 : ((x.o : Int) == 30) = false := by simp; omega
  have t31 : ((x.o : Int) == 31) = false := by simp; omega
  have t32 : ((x.o : Int) == 32) = false := by simp; omega
  have t33 : ((x.o : Int) == 33) = false := by simp; omega
  clear ho
  obtain ⟨k0, k1, k2, k3, k4, k5⟩ := hx.k
  have HS := Lib.hid hs
  have dpc : decide ((n : Int) ≤ (m.pc : Int)) = false := by simp; omega
  have p0 : (0 : Int) ≤ (m.pc : Int) := by omega
  have p1 : (m.pc : Int) < (n : Int) := by omega
  have c5 : w.cell? ⟨p, 5, none⟩ = some (.int .i64 m.pc) := h.cell 5
  have hpw := h.lt
  have hadw : (ad.add (m.pc * 6)).block < w.heap.size := by rw [block_add]; have := h.B_le; omega
  clear hx hs
  go_enter Tryd.func46, Tryd.ntmps46
  go_wp2_with fail
  generalize hW : w.alloc (.cells #[.int .i64 x.o, .int .i64 x.d, .int .i64 x.a, .int .i64 x.b, .int .i64 x.m, .string ByteArray.empty] 54) = W
  have BX := Lib.hid (show Bx W w.heap.size x by rw [← hW]; exact bx_new w x)
  have SW := Lib.hid (show SA B W p m V by rw [← hW]; exact h.alloc _)
  have HB := Lib.hid (show Below B w W by rw [← hW]; exact (below_new w _).mono h.B_le)
  have hzz : w.heap.size < W.heap.size := BX.out.lt
  have hpl : p < W.heap.size := SW.out.lt
  have hpz : p ≠ w.heap.size := Nat.ne_of_lt h.lt
  have hrz : V.gr ≠ w.heap.size := Nat.ne_of_lt h.gr_lt.2
  clear hW k0 k1 k2 k3 k4 k5 c5 hpw hadw p0 p1 dpc
  have q0 : W.cell? ⟨w.heap.size, 0, none⟩ = some (.int .i64 x.o) := BX.out.c 0
  have q1 : W.cell? ⟨w.heap.size, 1, none⟩ = some (.int .i64 x.d) := BX.out.c 1
  have q2 : W.cell? ⟨w.heap.size, 2, none⟩ = some (.int .i64 x.a) := BX.out.c 2
  have q3 : W.cell? ⟨w.heap.size, 3, none⟩ = some (.int .i64 x.b) := BX.out.c 3
  have q4 : W.cell? ⟨w.heap.size, 4, none⟩ = some (.int .i64 x.m) := BX.out.c 4
  have q5 : W.cell? ⟨w.heap.size, 5, none⟩ = some (.string ByteArray.empty) := BX.out.c 5
  refine (store_ok B p x m V W SW.out k ha hd hb hin).mono ?_
  rintro e W3 ⟨rfl, ⟨V3, S3⟩, hb3⟩
  have SS := Lib.hid S3
  have BB := Lib.hid (HB.out.trans hb3)
  have hp3 : p < W3.heap.size := S3.lt
  clear q0 q1 q2 q3 q4 q5 S3 hb3
  have f7 := SS.out.frozen 7
  have f5 := SS.out.frozen 5
  have e7 : W3.cell? ⟨p, 7, none⟩ = some (.int .i64 m.stop) := SS.out.cell 7
  have e5 : W3.cell? ⟨p, 5, none⟩ = some (.int .i64 m.pc) := SS.out.cell 5
  go_wp2
  go_end0
  exact ⟨rfl, fin_go SS.out HS.out (by omega), fin_b2 BB.out SS.out.hp _ _⟩
set_option maxRecDepth 20000 in
set_option maxHeartbeats 2000000 in
theorem step_stbad (B p : Nat) (ad : Addr) (n c : Nat) (x : In5) (m : M) (V : Vs) (w : World) (hx : InAt w ad m.pc x) (hbl : ad.block < B) (h : SA B w p m V) (k : Ok m) (hs : m.stop = 0) (hpc : m.pc < n) (hn : n ≤ 1024) (ho : x.o = 25) (ha : x.a < 16) (hin : 256 ≤ adr m x) : Calls Tryd.prog 46 #[.slice (some ad) n c, .pointer (some ⟨p, 0, none⟩)] w (StepPost B p (stop m 2) w) := by
  have t0 : ((x.o : Int) == 0) = false := by simp; omega
  have t23 : ((x.o : Int) == 23) = false := by simp; omega
  have t24 : ((x.o : Int) == 24) = false := by simp; omega
  have t25 : ((x.o : Int) == 25) = true := by simp; omega
  have t26 : ((x.o : Int) == 26) = false := by simp; omega
  have t27 : ((x.o : Int) == 27) = false := by simp; omega
  have t28 : ((x.o : Int) == 28) = false := by simp; omega
  have t29 : ((x.o : Int) == 29) = false := by simp; omega
  have t30 : ((x.o : Int) == 30) = false := by simp; omega
  have t31 : ((x.o : Int) == 31) = false := by simp; omega
  have t32 : ((x.o : Int) == 32) = false := by simp; omega
  have t33 : ((x.o : Int) == 33) = false := by simp; omega
  clear ho
  obtain ⟨k0, k1, k2, k3, k4, k5⟩ := hx.k
  have HS := Lib.hid hs
  have dpc : decide ((n : Int) ≤ (m.pc : Int)) = false := by simp; omega
  have p0 : (0 : Int) ≤ (m.pc : Int) := by omega
  have p1 : (m.pc : Int) < (n : Int) := by omega
  have c5 : w.cell? ⟨p, 5, none⟩ = some (.int .i64 m.pc) := h.cell 5
  have hpw := h.lt
  have hadw : (ad.add (m.pc * 6)).block < w.heap.size := by rw [block_add]; have := h.B_le; omega
  clear hx hs
  go_enter Tryd.func46, Tryd.ntmps46
  go_wp2_with fail
  generalize hW : w.alloc (.cells #[.int .i64 x.o, .int .i64 x.d, .int .i64 x.a, .int .i64 x.b, .int .i64 x.m, .string ByteArray.empty] 54) = W
  have BX := Lib.hid (show Bx W w.heap.size x by rw [← hW]; exact bx_new w x)
  have SW := Lib.hid (show SA B W p m V by rw [← hW]; exact h.alloc _)
  have HB := Lib.hid (show Below B w W by rw [← hW]; exact (below_new w _).mono h.B_le)
  have hzz : w.heap.size < W.heap.size := BX.out.lt
  have hpl : p < W.heap.size := SW.out.lt
  have hpz : p ≠ w.heap.size := Nat.ne_of_lt h.lt
  have hrz : V.gr ≠ w.heap.size := Nat.ne_of_lt h.gr_lt.2
  clear hW k0 k1 k2 k3 k4 k5 c5 hpw hadw p0 p1 dpc
  have q0 : W.cell? ⟨w.heap.size, 0, none⟩ = some (.int .i64 x.o) := BX.out.c 0
  have q1 : W.cell? ⟨w.heap.size, 1, none⟩ = some (.int .i64 x.d) := BX.out.c 1
  have q2 : W.cell? ⟨w.heap.size, 2, none⟩ = some (.int .i64 x.a) := BX.out.c 2
  have q3 : W.cell? ⟨w.heap.size, 3, none⟩ = some (.int .i64 x.b) := BX.out.c 3
  have q4 : W.cell? ⟨w.heap.size, 4, none⟩ = some (.int .i64 x.m) := BX.out.c 4
  have q5 : W.cell? ⟨w.heap.size, 5, none⟩ = some (.string ByteArray.empty) := BX.out.c 5
  refine (store_bad B p x m V W SW.out k ha hin).mono ?_
  rintro e W3 ⟨rfl, ⟨V3, S3⟩, hb3⟩
  have SS := Lib.hid S3
  have BB := Lib.hid (HB.out.trans hb3)
  have hp3 : p < W3.heap.size := S3.lt
  clear q0 q1 q2 q3 q4 q5 S3 hb3
  have f7 := SS.out.frozen 7
  have f5 := SS.out.frozen 5
  have e7 : W3.cell? ⟨p, 7, none⟩ = some (.int .i64 m.stop) := SS.out.cell 7
  have e5 : W3.cell? ⟨p, 5, none⟩ = some (.int .i64 m.pc) := SS.out.cell 5
  go_wp2
  go_end0
  exact ⟨rfl, fin_stop SS.out _, fin_b1 BB.out SS.out.hp _⟩
set_option maxRecDepth 20000 in
set_option maxHeartbeats 2000000 in
theorem step_alu (B p : Nat) (ad : Addr) (n c : Nat) (x : In5) (m : M) (V : Vs) (w : World) (hx : InAt w ad m.pc x) (hbl : ad.block < B) (h : SA B w p m V) (k : Ok m) (hs : m.stop = 0) (hpc : m.pc < n) (hn : n ≤ 1024) (ho : 1 ≤ x.o ∧ x.o ≤ 22) (ha : x.a < 16) (hd : x.d < 16) (hb : x.b < 16) (hz : dz x m = false) : Calls Tryd.prog 46 #[.slice (some ad) n c, .pointer (some ⟨p, 0, none⟩)] w (StepPost B p (put m x.d (res x m)) w) := by
  have t0 : ((x.o : Int) == 0) = false := by simp; omega
  have t23 : ((x.o : Int) == 23) = false := by simp; omega
  have t24 : ((x.o : Int) == 24) = false := by simp; omega
  have t25 : ((x.o : Int) == 25) = false := by simp; omega
  have t26 : ((x.o : Int) == 26) = false := by simp; omega
  have t27 : ((x.o : Int) == 27) = false := by simp; omega
  have t28 : ((x.o : Int) == 28) = false := by simp; omega
  have t29 : ((x.o : Int) == 29) = false := by simp; omega
  have t30 : ((x.o : Int) == 30) = false := by simp; omega
  have t31 : ((x.o : Int) == 31) = false := by simp; omega
  have t32 : ((x.o : Int) == 32) = false := by simp; omega
  have t33 : ((x.o : Int) == 33) = false := by simp; omega
  have HO := Lib.hid ho
  clear ho
  obtain ⟨k0, k1, k2, k3, k4, k5⟩ := hx.k
  have HS := Lib.hid hs
  have dpc : decide ((n : Int) ≤ (m.pc : Int)) = false := by simp; omega
  have p0 : (0 : Int) ≤ (m.pc : Int) := by omega
  have p1 : (m.pc : Int) < (n : Int) := by omega
  have c5 : w.cell? ⟨p, 5, none⟩ = some (.int .i64 m.pc) := h.cell 5
  have hpw := h.lt
  have hadw : (ad.add (m.pc * 6)).block < w.heap.size := by rw [block_add]; have := h.B_le; omega
  clear hx hs
  go_enter Tryd.func46, Tryd.ntmps46
  go_wp2_with fail
  generalize hW : w.alloc (.cells #[.int .i64 x.o, .int .i64 x.d, .int .i64 x.a, .int .i64 x.b, .int .i64 x.m, .string ByteArray.empty] 54) = W
  have BX := Lib.hid (show Bx W w.heap.size x by rw [← hW]; exact bx_new w x)
  have SW := Lib.hid (show SA B W p m V by rw [← hW]; exact h.alloc _)
  have HB := Lib.hid (show Below B w W by rw [← hW]; exact (below_new w _).mono h.B_le)
  have hzz : w.heap.size < W.heap.size := BX.out.lt
  have hpl : p < W.heap.size := SW.out.lt
  have hpz : p ≠ w.heap.size := Nat.ne_of_lt h.lt
  have hrz : V.gr ≠ w.heap.size := Nat.ne_of_lt h.gr_lt.2
  clear hW k0 k1 k2 k3 k4 k5 c5 hpw hadw p0 p1 dpc
  have q0 : W.cell? ⟨w.heap.size, 0, none⟩ = some (.int .i64 x.o) := BX.out.c 0
  have q1 : W.cell? ⟨w.heap.size, 1, none⟩ = some (.int .i64 x.d) := BX.out.c 1
  have q2 : W.cell? ⟨w.heap.size, 2, none⟩ = some (.int .i64 x.a) := BX.out.c 2
  have q3 : W.cell? ⟨w.heap.size, 3, none⟩ = some (.int .i64 x.b) := BX.out.c 3
  have q4 : W.cell? ⟨w.heap.size, 4, none⟩ = some (.int .i64 x.m) := BX.out.c 4
  have q5 : W.cell? ⟨w.heap.size, 5, none⟩ = some (.string ByteArray.empty) := BX.out.c 5
  refine (compute_ok B p x m V W SW.out k ha hb hd HO.out.1 HO.out.2 hz).mono ?_
  rintro e W3 ⟨rfl, ⟨V3, S3⟩, hb3⟩
  have SS := Lib.hid S3
  have BB := Lib.hid (HB.out.trans hb3)
  have hp3 : p < W3.heap.size := S3.lt
  clear q0 q1 q2 q3 q4 q5 S3 hb3
  have f7 := SS.out.frozen 7
  have f5 := SS.out.frozen 5
  have e7 : W3.cell? ⟨p, 7, none⟩ = some (.int .i64 m.stop) := SS.out.cell 7
  have e5 : W3.cell? ⟨p, 5, none⟩ = some (.int .i64 m.pc) := SS.out.cell 5
  go_wp2
  go_end0
  exact ⟨rfl, fin_go SS.out HS.out (by omega), fin_b2 BB.out SS.out.hp _ _⟩
set_option maxRecDepth 20000 in
set_option maxHeartbeats 2000000 in
theorem step_dz (B p : Nat) (ad : Addr) (n c : Nat) (x : In5) (m : M) (V : Vs) (w : World) (hx : InAt w ad m.pc x) (hbl : ad.block < B) (h : SA B w p m V) (k : Ok m) (hs : m.stop = 0) (hpc : m.pc < n) (hn : n ≤ 1024) (ho : 1 ≤ x.o ∧ x.o ≤ 22) (ha : x.a < 16) (hb : x.b < 16) (hz : dz x m = true) : Calls Tryd.prog 46 #[.slice (some ad) n c, .pointer (some ⟨p, 0, none⟩)] w (StepPost B p (stop m 3) w) := by
  have t0 : ((x.o : Int) == 0) = false := by simp; omega
  have t23 : ((x.o : Int) == 23) = false := by simp; omega
  have t24 : ((x.o : Int) == 24) = false := by simp; omega
  have t25 : ((x.o : Int) == 25) = false := by simp; omega
  have t26 : ((x.o : Int) == 26) = false := by simp; omega
  have t27 : ((x.o : Int) == 27) = false := by simp; omega
  have t28 : ((x.o : Int) == 28) = false := by simp; omega
  have t29 : ((x.o : Int) == 29) = false := by simp; omega
  have t30 : ((x.o : Int) == 30) = false := by simp; omega
  have t31 : ((x.o : Int) == 31) = false := by simp; omega
  have t32 : ((x.o : Int) == 32) = false := by simp; omega
  have t33 : ((x.o : Int) == 33) = false := by simp; omega
  clear ho
  obtain ⟨k0, k1, k2, k3, k4, k5⟩ := hx.k
  have HS := Lib.hid hs
  have dpc : decide ((n : Int) ≤ (m.pc : Int)) = false := by simp; omega
  have p0 : (0 : Int) ≤ (m.pc : Int) := by omega
  have p1 : (m.pc : Int) < (n : Int) := by omega
  have c5 : w.cell? ⟨p, 5, none⟩ = some (.int .i64 m.pc) := h.cell 5
  have hpw := h.lt
  have hadw : (ad.add (m.pc * 6)).block < w.heap.size := by rw [block_add]; have := h.B_le; omega
  clear hx hs
  go_enter Tryd.func46, Tryd.ntmps46
  go_wp2_with fail
  generalize hW : w.alloc (.cells #[.int .i64 x.o, .int .i64 x.d, .int .i64 x.a, .int .i64 x.b, .int .i64 x.m, .string ByteArray.empty] 54) = W
  have BX := Lib.hid (show Bx W w.heap.size x by rw [← hW]; exact bx_new w x)
  have SW := Lib.hid (show SA B W p m V by rw [← hW]; exact h.alloc _)
  have HB := Lib.hid (show Below B w W by rw [← hW]; exact (below_new w _).mono h.B_le)
  have hzz : w.heap.size < W.heap.size := BX.out.lt
  have hpl : p < W.heap.size := SW.out.lt
  have hpz : p ≠ w.heap.size := Nat.ne_of_lt h.lt
  have hrz : V.gr ≠ w.heap.size := Nat.ne_of_lt h.gr_lt.2
  clear hW k0 k1 k2 k3 k4 k5 c5 hpw hadw p0 p1 dpc
  have q0 : W.cell? ⟨w.heap.size, 0, none⟩ = some (.int .i64 x.o) := BX.out.c 0
  have q1 : W.cell? ⟨w.heap.size, 1, none⟩ = some (.int .i64 x.d) := BX.out.c 1
  have q2 : W.cell? ⟨w.heap.size, 2, none⟩ = some (.int .i64 x.a) := BX.out.c 2
  have q3 : W.cell? ⟨w.heap.size, 3, none⟩ = some (.int .i64 x.b) := BX.out.c 3
  have q4 : W.cell? ⟨w.heap.size, 4, none⟩ = some (.int .i64 x.m) := BX.out.c 4
  have q5 : W.cell? ⟨w.heap.size, 5, none⟩ = some (.string ByteArray.empty) := BX.out.c 5
  refine (compute_dz B p x m V W SW.out k ha hb hz).mono ?_
  rintro e W3 ⟨rfl, ⟨V3, S3⟩, hb3⟩
  have SS := Lib.hid S3
  have BB := Lib.hid (HB.out.trans hb3)
  have hp3 : p < W3.heap.size := S3.lt
  clear q0 q1 q2 q3 q4 q5 S3 hb3
  have f7 := SS.out.frozen 7
  have f5 := SS.out.frozen 5
  have e7 : W3.cell? ⟨p, 7, none⟩ = some (.int .i64 m.stop) := SS.out.cell 7
  have e5 : W3.cell? ⟨p, 5, none⟩ = some (.int .i64 m.pc) := SS.out.cell 5
  go_wp2
  go_end0
  exact ⟨rfl, fin_stop SS.out _, fin_b1 BB.out SS.out.hp _⟩
set_option maxRecDepth 20000 in
set_option maxHeartbeats 2000000 in
theorem step_go28 (B p : Nat) (ad : Addr) (n c : Nat) (x : In5) (m : M) (V : Vs) (w : World) (hx : InAt w ad m.pc x) (hbl : ad.block < B) (h : SA B w p m V) (_k : Ok m) (hs : m.stop = 0) (hpc : m.pc < n) (hn : n ≤ 1024) (ho : x.o = 28) (m' : M) (nx : Nat) (hs' : m'.stop = 0) (C : ∀ W, SA B W p m V → Calls Tryd.prog 60 #[.agg x.cells, .pointer (some ⟨p, 0, none⟩)] W (RetPost B p nx 0 m' W)) : Calls Tryd.prog 46 #[.slice (some ad) n c, .pointer (some ⟨p, 0, none⟩)] w (StepPost B p (goto m' nx) w) := by
  have t0 : ((x.o : Int) == 0) = false := by simp; omega
  have t23 : ((x.o : Int) == 23) = false := by simp; omega
  have t24 : ((x.o : Int) == 24) = false := by simp; omega
  have t25 : ((x.o : Int) == 25) = false := by simp; omega
  have t26 : ((x.o : Int) == 26) = false := by simp; omega
  have t27 : ((x.o : Int) == 27) = false := by simp; omega
  have t28 : ((x.o : Int) == 28) = true := by simp; omega
  have t29 : ((x.o : Int) == 29) = false := by simp; omega
  have t30 : ((x.o : Int) == 30) = false := by simp; omega
  have t31 : ((x.o : Int) == 31) = false := by simp; omega
  have t32 : ((x.o : Int) == 32) = false := by simp; omega
  have t33 : ((x.o : Int) == 33) = false := by simp; omega
  have CC := Lib.hid C
  have HS2 := Lib.hid hs'
  clear ho C hs'
  obtain ⟨k0, k1, k2, k3, k4, k5⟩ := hx.k
  have HS := Lib.hid hs
  have dpc : decide ((n : Int) ≤ (m.pc : Int)) = false := by simp; omega
  have p0 : (0 : Int) ≤ (m.pc : Int) := by omega
  have p1 : (m.pc : Int) < (n : Int) := by omega
  have c5 : w.cell? ⟨p, 5, none⟩ = some (.int .i64 m.pc) := h.cell 5
  have hpw := h.lt
  have hadw : (ad.add (m.pc * 6)).block < w.heap.size := by rw [block_add]; have := h.B_le; omega
  clear hx hs
  go_enter Tryd.func46, Tryd.ntmps46
  go_wp2_with fail
  generalize hW : w.alloc (.cells #[.int .i64 x.o, .int .i64 x.d, .int .i64 x.a, .int .i64 x.b, .int .i64 x.m, .string ByteArray.empty] 54) = W
  have BX := Lib.hid (show Bx W w.heap.size x by rw [← hW]; exact bx_new w x)
  have SW := Lib.hid (show SA B W p m V by rw [← hW]; exact h.alloc _)
  have HB := Lib.hid (show Below B w W by rw [← hW]; exact (below_new w _).mono h.B_le)
  have hzz : w.heap.size < W.heap.size := BX.out.lt
  have hpl : p < W.heap.size := SW.out.lt
  have hpz : p ≠ w.heap.size := Nat.ne_of_lt h.lt
  have hrz : V.gr ≠ w.heap.size := Nat.ne_of_lt h.gr_lt.2
  clear hW k0 k1 k2 k3 k4 k5 c5 hpw hadw p0 p1 dpc
  have q0 : W.cell? ⟨w.heap.size, 0, none⟩ = some (.int .i64 x.o) := BX.out.c 0
  have q1 : W.cell? ⟨w.heap.size, 1, none⟩ = some (.int .i64 x.d) := BX.out.c 1
  have q2 : W.cell? ⟨w.heap.size, 2, none⟩ = some (.int .i64 x.a) := BX.out.c 2
  have q3 : W.cell? ⟨w.heap.size, 3, none⟩ = some (.int .i64 x.b) := BX.out.c 3
  have q4 : W.cell? ⟨w.heap.size, 4, none⟩ = some (.int .i64 x.m) := BX.out.c 4
  have q5 : W.cell? ⟨w.heap.size, 5, none⟩ = some (.string ByteArray.empty) := BX.out.c 5
  refine (CC.out W SW.out).mono ?_
  rintro e W3 ⟨rfl, ⟨V3, S3⟩, hb3⟩
  have SS := Lib.hid S3
  have BB := Lib.hid (HB.out.trans hb3)
  have hp3 : p < W3.heap.size := S3.lt
  clear q0 q1 q2 q3 q4 q5 S3 hb3
  have f7 := SS.out.frozen 7
  have f5 := SS.out.frozen 5
  have e7 : W3.cell? ⟨p, 7, none⟩ = some (.int .i64 m'.stop) := SS.out.cell 7
  have e5 : W3.cell? ⟨p, 5, none⟩ = some (.int .i64 m'.pc) := SS.out.cell 5
  go_wp2
  go_end0
  exact ⟨rfl, fin_go SS.out HS2.out rfl, fin_b2 BB.out SS.out.hp _ _⟩
set_option maxRecDepth 20000 in
set_option maxHeartbeats 2000000 in
theorem step_go29 (B p : Nat) (ad : Addr) (n c : Nat) (x : In5) (m : M) (V : Vs) (w : World) (hx : InAt w ad m.pc x) (hbl : ad.block < B) (h : SA B w p m V) (_k : Ok m) (hs : m.stop = 0) (hpc : m.pc < n) (hn : n ≤ 1024) (ho : x.o = 29) (m' : M) (nx : Nat) (hs' : m'.stop = 0) (C : ∀ W, SA B W p m V → Calls Tryd.prog 60 #[.agg x.cells, .pointer (some ⟨p, 0, none⟩)] W (RetPost B p nx 0 m' W)) : Calls Tryd.prog 46 #[.slice (some ad) n c, .pointer (some ⟨p, 0, none⟩)] w (StepPost B p (goto m' nx) w) := by
  have t0 : ((x.o : Int) == 0) = false := by simp; omega
  have t23 : ((x.o : Int) == 23) = false := by simp; omega
  have t24 : ((x.o : Int) == 24) = false := by simp; omega
  have t25 : ((x.o : Int) == 25) = false := by simp; omega
  have t26 : ((x.o : Int) == 26) = false := by simp; omega
  have t27 : ((x.o : Int) == 27) = false := by simp; omega
  have t28 : ((x.o : Int) == 28) = false := by simp; omega
  have t29 : ((x.o : Int) == 29) = true := by simp; omega
  have t30 : ((x.o : Int) == 30) = false := by simp; omega
  have t31 : ((x.o : Int) == 31) = false := by simp; omega
  have t32 : ((x.o : Int) == 32) = false := by simp; omega
  have t33 : ((x.o : Int) == 33) = false := by simp; omega
  have CC := Lib.hid C
  have HS2 := Lib.hid hs'
  clear ho C hs'
  obtain ⟨k0, k1, k2, k3, k4, k5⟩ := hx.k
  have HS := Lib.hid hs
  have dpc : decide ((n : Int) ≤ (m.pc : Int)) = false := by simp; omega
  have p0 : (0 : Int) ≤ (m.pc : Int) := by omega
  have p1 : (m.pc : Int) < (n : Int) := by omega
  have c5 : w.cell? ⟨p, 5, none⟩ = some (.int .i64 m.pc) := h.cell 5
  have hpw := h.lt
  have hadw : (ad.add (m.pc * 6)).block < w.heap.size := by rw [block_add]; have := h.B_le; omega
  clear hx hs
  go_enter Tryd.func46, Tryd.ntmps46
  go_wp2_with fail
  generalize hW : w.alloc (.cells #[.int .i64 x.o, .int .i64 x.d, .int .i64 x.a, .int .i64 x.b, .int .i64 x.m, .string ByteArray.empty] 54) = W
  have BX := Lib.hid (show Bx W w.heap.size x by rw [← hW]; exact bx_new w x)
  have SW := Lib.hid (show SA B W p m V by rw [← hW]; exact h.alloc _)
  have HB := Lib.hid (show Below B w W by rw [← hW]; exact (below_new w _).mono h.B_le)
  have hzz : w.heap.size < W.heap.size := BX.out.lt
  have hpl : p < W.heap.size := SW.out.lt
  have hpz : p ≠ w.heap.size := Nat.ne_of_lt h.lt
  have hrz : V.gr ≠ w.heap.size := Nat.ne_of_lt h.gr_lt.2
  clear hW k0 k1 k2 k3 k4 k5 c5 hpw hadw p0 p1 dpc
  have q0 : W.cell? ⟨w.heap.size, 0, none⟩ = some (.int .i64 x.o) := BX.out.c 0
  have q1 : W.cell? ⟨w.heap.size, 1, none⟩ = some (.int .i64 x.d) := BX.out.c 1
  have q2 : W.cell? ⟨w.heap.size, 2, none⟩ = some (.int .i64 x.a) := BX.out.c 2
  have q3 : W.cell? ⟨w.heap.size, 3, none⟩ = some (.int .i64 x.b) := BX.out.c 3
  have q4 : W.cell? ⟨w.heap.size, 4, none⟩ = some (.int .i64 x.m) := BX.out.c 4
  have q5 : W.cell? ⟨w.heap.size, 5, none⟩ = some (.string ByteArray.empty) := BX.out.c 5
  refine (CC.out W SW.out).mono ?_
  rintro e W3 ⟨rfl, ⟨V3, S3⟩, hb3⟩
  have SS := Lib.hid S3
  have BB := Lib.hid (HB.out.trans hb3)
  have hp3 : p < W3.heap.size := S3.lt
  clear q0 q1 q2 q3 q4 q5 S3 hb3
  have f7 := SS.out.frozen 7
  have f5 := SS.out.frozen 5
  have e7 : W3.cell? ⟨p, 7, none⟩ = some (.int .i64 m'.stop) := SS.out.cell 7
  have e5 : W3.cell? ⟨p, 5, none⟩ = some (.int .i64 m'.pc) := SS.out.cell 5
  go_wp2
  go_end0
  exact ⟨rfl, fin_go SS.out HS2.out rfl, fin_b2 BB.out SS.out.hp _ _⟩
set_option maxRecDepth 20000 in
set_option maxHeartbeats 2000000 in
theorem step_go30 (B p : Nat) (ad : Addr) (n c : Nat) (x : In5) (m : M) (V : Vs) (w : World) (hx : InAt w ad m.pc x) (hbl : ad.block < B) (h : SA B w p m V) (_k : Ok m) (hs : m.stop = 0) (hpc : m.pc < n) (hn : n ≤ 1024) (ho : x.o = 30) (m' : M) (nx : Nat) (hs' : m'.stop = 0) (C : ∀ W, SA B W p m V → Calls Tryd.prog 60 #[.agg x.cells, .pointer (some ⟨p, 0, none⟩)] W (RetPost B p nx 0 m' W)) : Calls Tryd.prog 46 #[.slice (some ad) n c, .pointer (some ⟨p, 0, none⟩)] w (StepPost B p (goto m' nx) w) := by
  have t0 : ((x.o : Int) == 0) = false := by simp; omega
  have t23 : ((x.o : Int) == 23) = false := by simp; omega
  have t24 : ((x.o : Int) == 24) = false := by simp; omega
  have t25 : ((x.o : Int) == 25) = false := by simp; omega
  have t26 : ((x.o : Int) == 26) = false := by simp; omega
  have t27 : ((x.o : Int) == 27) = false := by simp; omega
  have t28 : ((x.o : Int) == 28) = false := by simp; omega
  have t29 : ((x.o : Int) == 29) = false := by simp; omega
  have t30 : ((x.o : Int) == 30) = true := by simp; omega
  have t31 : ((x.o : Int) == 31) = false := by simp; omega
  have t32 : ((x.o : Int) == 32) = false := by simp; omega
  have t33 : ((x.o : Int) == 33) = false := by simp; omega
  have CC := Lib.hid C
  have HS2 := Lib.hid hs'
  clear ho C hs'
  obtain ⟨k0, k1, k2, k3, k4, k5⟩ := hx.k
  have HS := Lib.hid hs
  have dpc : decide ((n : Int) ≤ (m.pc : Int)) = false := by simp; omega
  have p0 : (0 : Int) ≤ (m.pc : Int) := by omega
  have p1 : (m.pc : Int) < (n : Int) := by omega
  have c5 : w.cell? ⟨p, 5, none⟩ = some (.int .i64 m.pc) := h.cell 5
  have hpw := h.lt
  have hadw : (ad.add (m.pc * 6)).block < w.heap.size := by rw [block_add]; have := h.B_le; omega
  clear hx hs
  go_enter Tryd.func46, Tryd.ntmps46
  go_wp2_with fail
  generalize hW : w.alloc (.cells #[.int .i64 x.o, .int .i64 x.d, .int .i64 x.a, .int .i64 x.b, .int .i64 x.m, .string ByteArray.empty] 54) = W
  have BX := Lib.hid (show Bx W w.heap.size x by rw [← hW]; exact bx_new w x)
  have SW := Lib.hid (show SA B W p m V by rw [← hW]; exact h.alloc _)
  have HB := Lib.hid (show Below B w W by rw [← hW]; exact (below_new w _).mono h.B_le)
  have hzz : w.heap.size < W.heap.size := BX.out.lt
  have hpl : p < W.heap.size := SW.out.lt
  have hpz : p ≠ w.heap.size := Nat.ne_of_lt h.lt
  have hrz : V.gr ≠ w.heap.size := Nat.ne_of_lt h.gr_lt.2
  clear hW k0 k1 k2 k3 k4 k5 c5 hpw hadw p0 p1 dpc
  have q0 : W.cell? ⟨w.heap.size, 0, none⟩ = some (.int .i64 x.o) := BX.out.c 0
  have q1 : W.cell? ⟨w.heap.size, 1, none⟩ = some (.int .i64 x.d) := BX.out.c 1
  have q2 : W.cell? ⟨w.heap.size, 2, none⟩ = some (.int .i64 x.a) := BX.out.c 2
  have q3 : W.cell? ⟨w.heap.size, 3, none⟩ = some (.int .i64 x.b) := BX.out.c 3
  have q4 : W.cell? ⟨w.heap.size, 4, none⟩ = some (.int .i64 x.m) := BX.out.c 4
  have q5 : W.cell? ⟨w.heap.size, 5, none⟩ = some (.string ByteArray.empty) := BX.out.c 5
  refine (CC.out W SW.out).mono ?_
  rintro e W3 ⟨rfl, ⟨V3, S3⟩, hb3⟩
  have SS := Lib.hid S3
  have BB := Lib.hid (HB.out.trans hb3)
  have hp3 : p < W3.heap.size := S3.lt
  clear q0 q1 q2 q3 q4 q5 S3 hb3
  have f7 := SS.out.frozen 7
  have f5 := SS.out.frozen 5
  have e7 : W3.cell? ⟨p, 7, none⟩ = some (.int .i64 m'.stop) := SS.out.cell 7
  have e5 : W3.cell? ⟨p, 5, none⟩ = some (.int .i64 m'.pc) := SS.out.cell 5
  go_wp2
  go_end0
  exact ⟨rfl, fin_go SS.out HS2.out rfl, fin_b2 BB.out SS.out.hp _ _⟩
set_option maxRecDepth 20000 in
set_option maxHeartbeats 2000000 in
theorem step_go31 (B p : Nat) (ad : Addr) (n c : Nat) (x : In5) (m : M) (V : Vs) (w : World) (hx : InAt w ad m.pc x) (hbl : ad.block < B) (h : SA B w p m V) (_k : Ok m) (hs : m.stop = 0) (hpc : m.pc < n) (hn : n ≤ 1024) (ho : x.o = 31) (m' : M) (nx : Nat) (hs' : m'.stop = 0) (C : ∀ W, SA B W p m V → Calls Tryd.prog 60 #[.agg x.cells, .pointer (some ⟨p, 0, none⟩)] W (RetPost B p nx 0 m' W)) : Calls Tryd.prog 46 #[.slice (some ad) n c, .pointer (some ⟨p, 0, none⟩)] w (StepPost B p (goto m' nx) w) := by
  have t0 : ((x.o : Int) == 0) = false := by simp; omega
  have t23 : ((x.o : Int) == 23) = false := by simp; omega
  have t24 : ((x.o : Int) == 24) = false := by simp; omega
  have t25 : ((x.o : Int) == 25) = false := by simp; omega
  have t26 : ((x.o : Int) == 26) = false := by simp; omega
  have t27 : ((x.o : Int) == 27) = false := by simp; omega
  have t28 : ((x.o : Int) == 28) = false := by simp; omega
  have t29 : ((x.o : Int) == 29) = false := by simp; omega
  have t30 : ((x.o : Int) == 30) = false := by simp; omega
  have t31 : ((x.o : Int) == 31) = true := by simp; omega
  have t32 : ((x.o : Int) == 32) = false := by simp; omega
  have t33 : ((x.o : Int) == 33) = false := by simp; omega
  have CC := Lib.hid C
  have HS2 := Lib.hid hs'
  clear ho C hs'
  obtain ⟨k0, k1, k2, k3, k4, k5⟩ := hx.k
  have HS := Lib.hid hs
  have dpc : decide ((n : Int) ≤ (m.pc : Int)) = false := by simp; omega
  have p0 : (0 : Int) ≤ (m.pc : Int) := by omega
  have p1 : (m.pc : Int) < (n : Int) := by omega
  have c5 : w.cell? ⟨p, 5, none⟩ = some (.int .i64 m.pc) := h.cell 5
  have hpw := h.lt
  have hadw : (ad.add (m.pc * 6)).block < w.heap.size := by rw [block_add]; have := h.B_le; omega
  clear hx hs
  go_enter Tryd.func46, Tryd.ntmps46
  go_wp2_with fail
  generalize hW : w.alloc (.cells #[.int .i64 x.o, .int .i64 x.d, .int .i64 x.a, .int .i64 x.b, .int .i64 x.m, .string ByteArray.empty] 54) = W
  have BX := Lib.hid (show Bx W w.heap.size x by rw [← hW]; exact bx_new w x)
  have SW := Lib.hid (show SA B W p m V by rw [← hW]; exact h.alloc _)
  have HB := Lib.hid (show Below B w W by rw [← hW]; exact (below_new w _).mono h.B_le)
  have hzz : w.heap.size < W.heap.size := BX.out.lt
  have hpl : p < W.heap.size := SW.out.lt
  have hpz : p ≠ w.heap.size := Nat.ne_of_lt h.lt
  have hrz : V.gr ≠ w.heap.size := Nat.ne_of_lt h.gr_lt.2
  clear hW k0 k1 k2 k3 k4 k5 c5 hpw hadw p0 p1 dpc
  have q0 : W.cell? ⟨w.heap.size, 0, none⟩ = some (.int .i64 x.o) := BX.out.c 0
  have q1 : W.cell? ⟨w.heap.size, 1, none⟩ = some (.int .i64 x.d) := BX.out.c 1
  have q2 : W.cell? ⟨w.heap.size, 2, none⟩ = some (.int .i64 x.a) := BX.out.c 2
  have q3 : W.cell? ⟨w.heap.size, 3, none⟩ = some (.int .i64 x.b) := BX.out.c 3
  have q4 : W.cell? ⟨w.heap.size, 4, none⟩ = some (.int .i64 x.m) := BX.out.c 4
  have q5 : W.cell? ⟨w.heap.size, 5, none⟩ = some (.string ByteArray.empty) := BX.out.c 5
  refine (CC.out W SW.out).mono ?_
  rintro e W3 ⟨rfl, ⟨V3, S3⟩, hb3⟩
  have SS := Lib.hid S3
  have BB := Lib.hid (HB.out.trans hb3)
  have hp3 : p < W3.heap.size := S3.lt
  clear q0 q1 q2 q3 q4 q5 S3 hb3
  have f7 := SS.out.frozen 7
  have f5 := SS.out.frozen 5
  have e7 : W3.cell? ⟨p, 7, none⟩ = some (.int .i64 m'.stop) := SS.out.cell 7
  have e5 : W3.cell? ⟨p, 5, none⟩ = some (.int .i64 m'.pc) := SS.out.cell 5
  go_wp2
  go_end0
  exact ⟨rfl, fin_go SS.out HS2.out rfl, fin_b2 BB.out SS.out.hp _ _⟩
set_option maxRecDepth 20000 in
set_option maxHeartbeats 2000000 in
theorem step_go32 (B p : Nat) (ad : Addr) (n c : Nat) (x : In5) (m : M) (V : Vs) (w : World) (hx : InAt w ad m.pc x) (hbl : ad.block < B) (h : SA B w p m V) (_k : Ok m) (hs : m.stop = 0) (hpc : m.pc < n) (hn : n ≤ 1024) (ho : x.o = 32) (m' : M) (nx : Nat) (hs' : m'.stop = 0) (C : ∀ W, SA B W p m V → Calls Tryd.prog 60 #[.agg x.cells, .pointer (some ⟨p, 0, none⟩)] W (RetPost B p nx 0 m' W)) : Calls Tryd.prog 46 #[.slice (some ad) n c, .pointer (some ⟨p, 0, none⟩)] w (StepPost B p (goto m' nx) w) := by
  have t0 : ((x.o : Int) == 0) = false := by simp; omega
  have t23 : ((x.o : Int) == 23) = false := by simp; omega
  have t24 : ((x.o : Int) == 24) = false := by simp; omega
  have t25 : ((x.o : Int) == 25) = false := by simp; omega
  have t26 : ((x.o : Int) == 26) = false := by simp; omega
  have t27 : ((x.o : Int) == 27) = false := by simp; omega
  have t28 : ((x.o : Int) == 28) = false := by simp; omega
  have t29 : ((x.o : Int) == 29) = false := by simp; omega
  have t30 : ((x.o : Int) == 30) = false := by simp; omega
  have t31 : ((x.o : Int) == 31) = false := by simp; omega
  have t32 : ((x.o : Int) == 32) = true := by simp; omega
  have t33 : ((x.o : Int) == 33) = false := by simp; omega
  have CC := Lib.hid C
  have HS2 := Lib.hid hs'
  clear ho C hs'
  obtain ⟨k0, k1, k2, k3, k4, k5⟩ := hx.k
  have HS := Lib.hid hs
  have dpc : decide ((n : Int) ≤ (m.pc : Int)) = false := by simp; omega
  have p0 : (0 : Int) ≤ (m.pc : Int) := by omega
  have p1 : (m.pc : Int) < (n : Int) := by omega
  have c5 : w.cell? ⟨p, 5, none⟩ = some (.int .i64 m.pc) := h.cell 5
  have hpw := h.lt
  have hadw : (ad.add (m.pc * 6)).block < w.heap.size := by rw [block_add]; have := h.B_le; omega
  clear hx hs
  go_enter Tryd.func46, Tryd.ntmps46
  go_wp2_with fail
  generalize hW : w.alloc (.cells #[.int .i64 x.o, .int .i64 x.d, .int .i64 x.a, .int .i64 x.b, .int .i64 x.m, .string ByteArray.empty] 54) = W
  have BX := Lib.hid (show Bx W w.heap.size x by rw [← hW]; exact bx_new w x)
  have SW := Lib.hid (show SA B W p m V by rw [← hW]; exact h.alloc _)
  have HB := Lib.hid (show Below B w W by rw [← hW]; exact (below_new w _).mono h.B_le)
  have hzz : w.heap.size < W.heap.size := BX.out.lt
  have hpl : p < W.heap.size := SW.out.lt
  have hpz : p ≠ w.heap.size := Nat.ne_of_lt h.lt
  have hrz : V.gr ≠ w.heap.size := Nat.ne_of_lt h.gr_lt.2
  clear hW k0 k1 k2 k3 k4 k5 c5 hpw hadw p0 p1 dpc
  have q0 : W.cell? ⟨w.heap.size, 0, none⟩ = some (.int .i64 x.o) := BX.out.c 0
  have q1 : W.cell? ⟨w.heap.size, 1, none⟩ = some (.int .i64 x.d) := BX.out.c 1
  have q2 : W.cell? ⟨w.heap.size, 2, none⟩ = some (.int .i64 x.a) := BX.out.c 2
  have q3 : W.cell? ⟨w.heap.size, 3, none⟩ = some (.int .i64 x.b) := BX.out.c 3
  have q4 : W.cell? ⟨w.heap.size, 4, none⟩ = some (.int .i64 x.m) := BX.out.c 4
  have q5 : W.cell? ⟨w.heap.size, 5, none⟩ = some (.string ByteArray.empty) := BX.out.c 5
  refine (CC.out W SW.out).mono ?_
  rintro e W3 ⟨rfl, ⟨V3, S3⟩, hb3⟩
  have SS := Lib.hid S3
  have BB := Lib.hid (HB.out.trans hb3)
  have hp3 : p < W3.heap.size := S3.lt
  clear q0 q1 q2 q3 q4 q5 S3 hb3
  have f7 := SS.out.frozen 7
  have f5 := SS.out.frozen 5
  have e7 : W3.cell? ⟨p, 7, none⟩ = some (.int .i64 m'.stop) := SS.out.cell 7
  have e5 : W3.cell? ⟨p, 5, none⟩ = some (.int .i64 m'.pc) := SS.out.cell 5
  go_wp2
  go_end0
  exact ⟨rfl, fin_go SS.out HS2.out rfl, fin_b2 BB.out SS.out.hp _ _⟩
set_option maxRecDepth 20000 in
set_option maxHeartbeats 2000000 in
theorem step_stop31 (B p : Nat) (ad : Addr) (n c : Nat) (x : In5) (m : M) (V : Vs) (w : World) (hx : InAt w ad m.pc x) (hbl : ad.block < B) (h : SA B w p m V) (_k : Ok m) (hs : m.stop = 0) (hpc : m.pc < n) (hn : n ≤ 1024) (ho : x.o = 31) (C : ∀ W, SA B W p m V → Calls Tryd.prog 60 #[.agg x.cells, .pointer (some ⟨p, 0, none⟩)] W (RetPost B p 0 4 m W)) : Calls Tryd.prog 46 #[.slice (some ad) n c, .pointer (some ⟨p, 0, none⟩)] w (StepPost B p (stop m 4) w) := by
  have t0 : ((x.o : Int) == 0) = false := by simp; omega
  have t23 : ((x.o : Int) == 23) = false := by simp; omega
  have t24 : ((x.o : Int) == 24) = false := by simp; omega
  have t25 : ((x.o : Int) == 25) = false := by simp; omega
  have t26 : ((x.o : Int) == 26) = false := by simp; omega
  have t27 : ((x.o : Int) == 27) = false := by simp; omega
  have t28 : ((x.o : Int) == 28) = false := by simp; omega
  have t29 : ((x.o : Int) == 29) = false := by simp; omega
  have t30 : ((x.o : Int) == 30) = false := by simp; omega
  have t31 : ((x.o : Int) == 31) = true := by simp; omega
  have t32 : ((x.o : Int) == 32) = false := by simp; omega
  have t33 : ((x.o : Int) == 33) = false := by simp; omega
  have CC := Lib.hid C
  clear ho C
  obtain ⟨k0, k1, k2, k3, k4, k5⟩ := hx.k
  have HS := Lib.hid hs
  have dpc : decide ((n : Int) ≤ (m.pc : Int)) = false := by simp; omega
  have p0 : (0 : Int) ≤ (m.pc : Int) := by omega
  have p1 : (m.pc : Int) < (n : Int) := by omega
  have c5 : w.cell? ⟨p, 5, none⟩ = some (.int .i64 m.pc) := h.cell 5
  have hpw := h.lt
  have hadw : (ad.add (m.pc * 6)).block < w.heap.size := by rw [block_add]; have := h.B_le; omega
  clear hx hs
  go_enter Tryd.func46, Tryd.ntmps46
  go_wp2_with fail
  generalize hW : w.alloc (.cells #[.int .i64 x.o, .int .i64 x.d, .int .i64 x.a, .int .i64 x.b, .int .i64 x.m, .string ByteArray.empty] 54) = W
  have BX := Lib.hid (show Bx W w.heap.size x by rw [← hW]; exact bx_new w x)
  have SW := Lib.hid (show SA B W p m V by rw [← hW]; exact h.alloc _)
  have HB := Lib.hid (show Below B w W by rw [← hW]; exact (below_new w _).mono h.B_le)
  have hzz : w.heap.size < W.heap.size := BX.out.lt
  have hpl : p < W.heap.size := SW.out.lt
  have hpz : p ≠ w.heap.size := Nat.ne_of_lt h.lt
  have hrz : V.gr ≠ w.heap.size := Nat.ne_of_lt h.gr_lt.2
  clear hW k0 k1 k2 k3 k4 k5 c5 hpw hadw p0 p1 dpc
  have q0 : W.cell? ⟨w.heap.size, 0, none⟩ = some (.int .i64 x.o) := BX.out.c 0
  have q1 : W.cell? ⟨w.heap.size, 1, none⟩ = some (.int .i64 x.d) := BX.out.c 1
  have q2 : W.cell? ⟨w.heap.size, 2, none⟩ = some (.int .i64 x.a) := BX.out.c 2
  have q3 : W.cell? ⟨w.heap.size, 3, none⟩ = some (.int .i64 x.b) := BX.out.c 3
  have q4 : W.cell? ⟨w.heap.size, 4, none⟩ = some (.int .i64 x.m) := BX.out.c 4
  have q5 : W.cell? ⟨w.heap.size, 5, none⟩ = some (.string ByteArray.empty) := BX.out.c 5
  refine (CC.out W SW.out).mono ?_
  rintro e W3 ⟨rfl, ⟨V3, S3⟩, hb3⟩
  have SS := Lib.hid S3
  have BB := Lib.hid (HB.out.trans hb3)
  have hp3 : p < W3.heap.size := S3.lt
  clear q0 q1 q2 q3 q4 q5 S3 hb3
  have f7 := SS.out.frozen 7
  have f5 := SS.out.frozen 5
  have e7 : W3.cell? ⟨p, 7, none⟩ = some (.int .i64 m.stop) := SS.out.cell 7
  have e5 : W3.cell? ⟨p, 5, none⟩ = some (.int .i64 m.pc) := SS.out.cell 5
  go_wp2
  go_end0
  exact ⟨rfl, fin_stop SS.out _, fin_b1 BB.out SS.out.hp _⟩
set_option maxRecDepth 20000 in
set_option maxHeartbeats 2000000 in
theorem step_stop32 (B p : Nat) (ad : Addr) (n c : Nat) (x : In5) (m : M) (V : Vs) (w : World) (hx : InAt w ad m.pc x) (hbl : ad.block < B) (h : SA B w p m V) (_k : Ok m) (hs : m.stop = 0) (hpc : m.pc < n) (hn : n ≤ 1024) (ho : x.o = 32) (C : ∀ W, SA B W p m V → Calls Tryd.prog 60 #[.agg x.cells, .pointer (some ⟨p, 0, none⟩)] W (RetPost B p 0 4 m W)) : Calls Tryd.prog 46 #[.slice (some ad) n c, .pointer (some ⟨p, 0, none⟩)] w (StepPost B p (stop m 4) w) := by
  have t0 : ((x.o : Int) == 0) = false := by simp; omega
  have t23 : ((x.o : Int) == 23) = false := by simp; omega
  have t24 : ((x.o : Int) == 24) = false := by simp; omega
  have t25 : ((x.o : Int) == 25) = false := by simp; omega
  have t26 : ((x.o : Int) == 26) = false := by simp; omega
  have t27 : ((x.o : Int) == 27) = false := by simp; omega
  have t28 : ((x.o : Int) == 28) = false := by simp; omega
  have t29 : ((x.o : Int) == 29) = false := by simp; omega
  have t30 : ((x.o : Int) == 30) = false := by simp; omega
  have t31 : ((x.o : Int) == 31) = false := by simp; omega
  have t32 : ((x.o : Int) == 32) = true := by simp; omega
  have t33 : ((x.o : Int) == 33) = false := by simp; omega
  have CC := Lib.hid C
  clear ho C
  obtain ⟨k0, k1, k2, k3, k4, k5⟩ := hx.k
  have HS := Lib.hid hs
  have dpc : decide ((n : Int) ≤ (m.pc : Int)) = false := by simp; omega
  have p0 : (0 : Int) ≤ (m.pc : Int) := by omega
  have p1 : (m.pc : Int) < (n : Int) := by omega
  have c5 : w.cell? ⟨p, 5, none⟩ = some (.int .i64 m.pc) := h.cell 5
  have hpw := h.lt
  have hadw : (ad.add (m.pc * 6)).block < w.heap.size := by rw [block_add]; have := h.B_le; omega
  clear hx hs
  go_enter Tryd.func46, Tryd.ntmps46
  go_wp2_with fail
  generalize hW : w.alloc (.cells #[.int .i64 x.o, .int .i64 x.d, .int .i64 x.a, .int .i64 x.b, .int .i64 x.m, .string ByteArray.empty] 54) = W
  have BX := Lib.hid (show Bx W w.heap.size x by rw [← hW]; exact bx_new w x)
  have SW := Lib.hid (show SA B W p m V by rw [← hW]; exact h.alloc _)
  have HB := Lib.hid (show Below B w W by rw [← hW]; exact (below_new w _).mono h.B_le)
  have hzz : w.heap.size < W.heap.size := BX.out.lt
  have hpl : p < W.heap.size := SW.out.lt
  have hpz : p ≠ w.heap.size := Nat.ne_of_lt h.lt
  have hrz : V.gr ≠ w.heap.size := Nat.ne_of_lt h.gr_lt.2
  clear hW k0 k1 k2 k3 k4 k5 c5 hpw hadw p0 p1 dpc
  have q0 : W.cell? ⟨w.heap.size, 0, none⟩ = some (.int .i64 x.o) := BX.out.c 0
  have q1 : W.cell? ⟨w.heap.size, 1, none⟩ = some (.int .i64 x.d) := BX.out.c 1
  have q2 : W.cell? ⟨w.heap.size, 2, none⟩ = some (.int .i64 x.a) := BX.out.c 2
  have q3 : W.cell? ⟨w.heap.size, 3, none⟩ = some (.int .i64 x.b) := BX.out.c 3
  have q4 : W.cell? ⟨w.heap.size, 4, none⟩ = some (.int .i64 x.m) := BX.out.c 4
  have q5 : W.cell? ⟨w.heap.size, 5, none⟩ = some (.string ByteArray.empty) := BX.out.c 5
  refine (CC.out W SW.out).mono ?_
  rintro e W3 ⟨rfl, ⟨V3, S3⟩, hb3⟩
  have SS := Lib.hid S3
  have BB := Lib.hid (HB.out.trans hb3)
  have hp3 : p < W3.heap.size := S3.lt
  clear q0 q1 q2 q3 q4 q5 S3 hb3
  have f7 := SS.out.frozen 7
  have f5 := SS.out.frozen 5
  have e7 : W3.cell? ⟨p, 7, none⟩ = some (.int .i64 m.stop) := SS.out.cell 7
  have e5 : W3.cell? ⟨p, 5, none⟩ = some (.int .i64 m.pc) := SS.out.cell 5
  go_wp2
  go_end0
  exact ⟨rfl, fin_stop SS.out _, fin_b1 BB.out SS.out.hp _⟩
set_option maxRecDepth 20000 in
set_option maxHeartbeats 2000000 in
theorem step_stop33 (B p : Nat) (ad : Addr) (n c : Nat) (x : In5) (m : M) (V : Vs) (w : World) (hx : InAt w ad m.pc x) (hbl : ad.block < B) (h : SA B w p m V) (_k : Ok m) (hs : m.stop = 0) (hpc : m.pc < n) (hn : n ≤ 1024) (ho : x.o = 33) (C : ∀ W, SA B W p m V → Calls Tryd.prog 60 #[.agg x.cells, .pointer (some ⟨p, 0, none⟩)] W (RetPost B p 0 1 m W)) : Calls Tryd.prog 46 #[.slice (some ad) n c, .pointer (some ⟨p, 0, none⟩)] w (StepPost B p (stop m 1) w) := by
  have t0 : ((x.o : Int) == 0) = false := by simp; omega
  have t23 : ((x.o : Int) == 23) = false := by simp; omega
  have t24 : ((x.o : Int) == 24) = false := by simp; omega
  have t25 : ((x.o : Int) == 25) = false := by simp; omega
  have t26 : ((x.o : Int) == 26) = false := by simp; omega
  have t27 : ((x.o : Int) == 27) = false := by simp; omega
  have t28 : ((x.o : Int) == 28) = false := by simp; omega
  have t29 : ((x.o : Int) == 29) = false := by simp; omega
  have t30 : ((x.o : Int) == 30) = false := by simp; omega
  have t31 : ((x.o : Int) == 31) = false := by simp; omega
  have t32 : ((x.o : Int) == 32) = false := by simp; omega
  have t33 : ((x.o : Int) == 33) = true := by simp; omega
  have CC := Lib.hid C
  clear ho C
  obtain ⟨k0, k1, k2, k3, k4, k5⟩ := hx.k
  have HS := Lib.hid hs
  have dpc : decide ((n : Int) ≤ (m.pc : Int)) = false := by simp; omega
  have p0 : (0 : Int) ≤ (m.pc : Int) := by omega
  have p1 : (m.pc : Int) < (n : Int) := by omega
  have c5 : w.cell? ⟨p, 5, none⟩ = some (.int .i64 m.pc) := h.cell 5
  have hpw := h.lt
  have hadw : (ad.add (m.pc * 6)).block < w.heap.size := by rw [block_add]; have := h.B_le; omega
  clear hx hs
  go_enter Tryd.func46, Tryd.ntmps46
  go_wp2_with fail
  generalize hW : w.alloc (.cells #[.int .i64 x.o, .int .i64 x.d, .int .i64 x.a, .int .i64 x.b, .int .i64 x.m, .string ByteArray.empty] 54) = W
  have BX := Lib.hid (show Bx W w.heap.size x by rw [← hW]; exact bx_new w x)
  have SW := Lib.hid (show SA B W p m V by rw [← hW]; exact h.alloc _)
  have HB := Lib.hid (show Below B w W by rw [← hW]; exact (below_new w _).mono h.B_le)
  have hzz : w.heap.size < W.heap.size := BX.out.lt
  have hpl : p < W.heap.size := SW.out.lt
  have hpz : p ≠ w.heap.size := Nat.ne_of_lt h.lt
  have hrz : V.gr ≠ w.heap.size := Nat.ne_of_lt h.gr_lt.2
  clear hW k0 k1 k2 k3 k4 k5 c5 hpw hadw p0 p1 dpc
  have q0 : W.cell? ⟨w.heap.size, 0, none⟩ = some (.int .i64 x.o) := BX.out.c 0
  have q1 : W.cell? ⟨w.heap.size, 1, none⟩ = some (.int .i64 x.d) := BX.out.c 1
  have q2 : W.cell? ⟨w.heap.size, 2, none⟩ = some (.int .i64 x.a) := BX.out.c 2
  have q3 : W.cell? ⟨w.heap.size, 3, none⟩ = some (.int .i64 x.b) := BX.out.c 3
  have q4 : W.cell? ⟨w.heap.size, 4, none⟩ = some (.int .i64 x.m) := BX.out.c 4
  have q5 : W.cell? ⟨w.heap.size, 5, none⟩ = some (.string ByteArray.empty) := BX.out.c 5
  refine (CC.out W SW.out).mono ?_
  rintro e W3 ⟨rfl, ⟨V3, S3⟩, hb3⟩
  have SS := Lib.hid S3
  have BB := Lib.hid (HB.out.trans hb3)
  have hp3 : p < W3.heap.size := S3.lt
  clear q0 q1 q2 q3 q4 q5 S3 hb3
  have f7 := SS.out.frozen 7
  have f5 := SS.out.frozen 5
  have e7 : W3.cell? ⟨p, 7, none⟩ = some (.int .i64 m.stop) := SS.out.cell 7
  have e5 : W3.cell? ⟨p, 5, none⟩ = some (.int .i64 m.pc) := SS.out.cell 5
  go_wp2
  go_end0
  exact ⟨rfl, fin_stop SS.out _, fin_b1 BB.out SS.out.hp _⟩
end Go.Proofs.YtpnmlednningkaaDoor
