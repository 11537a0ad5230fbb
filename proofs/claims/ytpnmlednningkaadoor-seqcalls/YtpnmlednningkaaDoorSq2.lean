/-
  Contracts of package seq's calls: load, store, call. Conditions: the state lies behind the pointer, and may be; the instruction's registers are below 16.
-/
import Derived.Test.YtpnmlednningkaaDoorSq1
import Derived.StillTailTactics
namespace Go.Proofs.YtpnmlednningkaaDoor
open Go.RowKit

/-- An instruction lies in a block of its own. -/
structure Bx (w : World) (z : Nat) (x : In5) : Prop where
  blk : ∃ T, w.heap[z]? = some (.cells x.cells T (0, 0))
theorem Bx.c {w : World} {z : Nat} {x : In5} (h : Bx w z x) (j : Nat) : w.cell? ⟨z, j, none⟩ = x.cells[j]? := by obtain ⟨T, hb⟩ := h.blk; exact cell_of_row w z j _ T (0, 0) hb
theorem Bx.lt {w : World} {z : Nat} {x : In5} (h : Bx w z x) : z < w.heap.size := by obtain ⟨T, hb⟩ := h.blk; exact lt_of_heap hb
theorem bx_new (w : World) (x : In5) : Bx (w.alloc (.cells x.cells 54)) w.heap.size x := ⟨54, heap_alloc_new w _⟩
theorem Bx.below {w w' : World} {z : Nat} {x : In5} (h : Bx w z x) (hb : Below w.heap.size w w') : Bx w' z x := by obtain ⟨T, hz⟩ := h.blk; exact ⟨T, (hb.block z (lt_of_heap hz)).trans hz⟩
theorem Bx.drew {w : World} {z : Nat} {x : In5} (h : Bx w z x) : Bx w.drew z x := ⟨h.blk⟩
theorem SA.drew {B p : Nat} {w : World} {m : M} {V : Vs} (h : SA B w p m V) : SA B w.drew p m V := h.drewN 1
def StopPost (B p : Nat) (x : Int) (m' : M) (w : World) (e : Ending) (w' : World) : Prop := e = .returned (.int .i64 x) ∧ Goes B w p m' w'

set_option maxRecDepth 20000 in
set_option maxHeartbeats 1000000 in
theorem load_bad (B p : Nat) (x : In5) (m : M) (V : Vs) (w : World) (h : SA B w p m V) (k : Ok m) (ha : x.a < 16) (hin : 256 ≤ adr m x) : Calls Tryd.prog 57 #[.agg x.cells, .pointer (some ⟨p, 0, none⟩)] w (StopPost B p 2 m w) := by
  have hdec : decide ((256 : Int) ≤ (adr m x : Nat)) = true := by simp; omega
  go_enter Tryd.func57, Tryd.ntmps57
  simp only [In5.cells]
  go_wp2_with fail
  generalize hW : w.alloc (.cells #[.int .i64 x.o, .int .i64 x.d, .int .i64 x.a, .int .i64 x.b, .int .i64 x.m, .string ByteArray.empty] 54) = W
  have BX := Lib.hid (show Bx W w.heap.size x by rw [← hW]; exact bx_new w x)
  have SW := Lib.hid (show SA B W p m V by rw [← hW]; exact h.alloc _)
  have HB := Lib.hid (show Below B w W by rw [← hW]; exact (below_new w _).mono h.B_le)
  have hz : w.heap.size < W.heap.size := BX.out.lt
  have hpl : p < W.heap.size := SW.out.lt
  have hpz : p ≠ w.heap.size := Nat.ne_of_lt h.lt
  have hrz : V.gr ≠ w.heap.size := Nat.ne_of_lt h.gr_lt.2
  clear hW
  have q0 : W.cell? ⟨w.heap.size, 0, none⟩ = some (.int .i64 x.o) := BX.out.c 0
  have q1 : W.cell? ⟨w.heap.size, 1, none⟩ = some (.int .i64 x.d) := BX.out.c 1
  have q2 : W.cell? ⟨w.heap.size, 2, none⟩ = some (.int .i64 x.a) := BX.out.c 2
  have q3 : W.cell? ⟨w.heap.size, 3, none⟩ = some (.int .i64 x.b) := BX.out.c 3
  have q4 : W.cell? ⟨w.heap.size, 4, none⟩ = some (.int .i64 x.m) := BX.out.c 4
  have q5 : W.cell? ⟨w.heap.size, 5, none⟩ = some (.string ByteArray.empty) := BX.out.c 5
  have d0 : W.cell? ⟨p, 0, none⟩ = some (.slice (some ⟨V.gr, 0, none⟩) 16 V.cr) := SW.out.cell 0
  have d1 : W.cell? ⟨p, 1, none⟩ = some (.slice (some ⟨V.gm, 0, none⟩) 256 V.cm) := SW.out.cell 1
  have ra := SW.out.reg k ha
  go_still_tail 5, (by kernel_rfl)
  change wpList _ _ _ _ _ W.drew
  go_wp2_with (go_at_call 77; refine (addr_any V.gr V.cr x m W.drew ha ra).mono ?_; rintro e W3 ⟨rfl, hb3⟩)
  go_ret
  exact ⟨rfl, ⟨_, SW.out.drew.below hb3⟩, HB.out.drew.trans (hb3.mono (show B ≤ W.heap.size from SW.out.B_le))⟩
set_option maxRecDepth 20000 in
set_option maxHeartbeats 1000000 in
theorem load_ok (B p : Nat) (x : In5) (m : M) (V : Vs) (w : World) (h : SA B w p m V) (k : Ok m) (ha : x.a < 16) (hd : x.d < 16) (hb : x.b < 16) (hin : adr m x < 256) : Calls Tryd.prog 57 #[.agg x.cells, .pointer (some ⟨p, 0, none⟩)] w (StopPost B p 0 { m with R := m.R.set x.d (m.word (adr m x)) } w) := by
  have hdec : decide ((256 : Int) ≤ (adr m x : Nat)) = false := by simp; omega
  go_enter Tryd.func57, Tryd.ntmps57
  simp only [In5.cells]
  go_wp2_with fail
  generalize hW : w.alloc (.cells #[.int .i64 x.o, .int .i64 x.d, .int .i64 x.a, .int .i64 x.b, .int .i64 x.m, .string ByteArray.empty] 54) = W
  have BX := Lib.hid (show Bx W w.heap.size x by rw [← hW]; exact bx_new w x)
  have SW := Lib.hid (show SA B W p m V by rw [← hW]; exact h.alloc _)
  have HB := Lib.hid (show Below B w W by rw [← hW]; exact (below_new w _).mono h.B_le)
  have hz : w.heap.size < W.heap.size := BX.out.lt
  have hpl : p < W.heap.size := SW.out.lt
  have hpz : p ≠ w.heap.size := Nat.ne_of_lt h.lt
  have hrz : V.gr ≠ w.heap.size := Nat.ne_of_lt h.gr_lt.2
  clear hW
  have q0 : W.cell? ⟨w.heap.size, 0, none⟩ = some (.int .i64 x.o) := BX.out.c 0
  have q1 : W.cell? ⟨w.heap.size, 1, none⟩ = some (.int .i64 x.d) := BX.out.c 1
  have q2 : W.cell? ⟨w.heap.size, 2, none⟩ = some (.int .i64 x.a) := BX.out.c 2
  have q3 : W.cell? ⟨w.heap.size, 3, none⟩ = some (.int .i64 x.b) := BX.out.c 3
  have q4 : W.cell? ⟨w.heap.size, 4, none⟩ = some (.int .i64 x.m) := BX.out.c 4
  have q5 : W.cell? ⟨w.heap.size, 5, none⟩ = some (.string ByteArray.empty) := BX.out.c 5
  have d0 : W.cell? ⟨p, 0, none⟩ = some (.slice (some ⟨V.gr, 0, none⟩) 16 V.cr) := SW.out.cell 0
  have d1 : W.cell? ⟨p, 1, none⟩ = some (.slice (some ⟨V.gm, 0, none⟩) 256 V.cm) := SW.out.cell 1
  have ra := SW.out.reg k ha
  go_still_tail 5, (by kernel_rfl)
  change wpList _ _ _ _ _ W.drew
  go_wp2_with (go_at_call 77; refine (addr_any V.gr V.cr x m W.drew ha ra).mono ?_; rintro e W3 ⟨rfl, hb3⟩)
  have S3 := Lib.hid (SW.out.drew.below hb3)
  have X3 := Lib.hid (BX.out.drew.below hb3)
  have B3 := Lib.hid (HB.out.drew.trans (hb3.mono (show B ≤ W.heap.size from SW.out.B_le)))
  clear ra q0 q1 q2 q3 q4 q5 d0 d1 hb3
  have q0 : W3.cell? ⟨w.heap.size, 0, none⟩ = some (.int .i64 x.o) := X3.out.c 0
  have q1 : W3.cell? ⟨w.heap.size, 1, none⟩ = some (.int .i64 x.d) := X3.out.c 1
  have q2 : W3.cell? ⟨w.heap.size, 2, none⟩ = some (.int .i64 x.a) := X3.out.c 2
  have q3 : W3.cell? ⟨w.heap.size, 3, none⟩ = some (.int .i64 x.b) := X3.out.c 3
  have q4 : W3.cell? ⟨w.heap.size, 4, none⟩ = some (.int .i64 x.m) := X3.out.c 4
  have q5 : W3.cell? ⟨w.heap.size, 5, none⟩ = some (.string ByteArray.empty) := X3.out.c 5
  have d0 : W3.cell? ⟨p, 0, none⟩ = some (.slice (some ⟨V.gr, 0, none⟩) 16 V.cr) := S3.out.cell 0
  have d1 : W3.cell? ⟨p, 1, none⟩ = some (.slice (some ⟨V.gm, 0, none⟩) 256 V.cm) := S3.out.cell 1
  have i0 : (0 : Int) ≤ (adr m x : Nat) := by omega
  have i1 : ((adr m x : Nat) : Int) < 256 := by omega
  have i2 : (0 : Int) ≤ (x.d : Int) := by omega
  have i3 : (x.d : Int) < 16 := by omega
  have i4 : (0 : Int) ≤ (x.b : Int) := by omega
  have i5 : (x.b : Int) < 16 := by omega
  have rm := S3.out.word k hin
  have rd := S3.out.reg k hd
  have rf := S3.out.regF x.d
  clear hz hpl
  go_still_tail 14, (by kernel_rfl)
  change wpList _ _ _ _ _ W3.drew
  go_wp2
  go_ret
  exact ⟨rfl, ⟨_, S3.out.drew.setR _ _⟩, B3.out.drew.setCell (by exact S3.out.gr_lt.1) _⟩
set_option maxRecDepth 20000 in
set_option maxHeartbeats 1000000 in
theorem store_bad (B p : Nat) (x : In5) (m : M) (V : Vs) (w : World) (h : SA B w p m V) (k : Ok m) (ha : x.a < 16) (hin : 256 ≤ adr m x) : Calls Tryd.prog 58 #[.agg x.cells, .pointer (some ⟨p, 0, none⟩)] w (StopPost B p 2 m w) := by
  have hdec : decide ((256 : Int) ≤ (adr m x : Nat)) = true := by simp; omega
  go_enter Tryd.func58, Tryd.ntmps58
  simp only [In5.cells]
  go_wp2_with fail
  generalize hW : w.alloc (.cells #[.int .i64 x.o, .int .i64 x.d, .int .i64 x.a, .int .i64 x.b, .int .i64 x.m, .string ByteArray.empty] 54) = W
  have BX := Lib.hid (show Bx W w.heap.size x by rw [← hW]; exact bx_new w x)
  have SW := Lib.hid (show SA B W p m V by rw [← hW]; exact h.alloc _)
  have HB := Lib.hid (show Below B w W by rw [← hW]; exact (below_new w _).mono h.B_le)
  have hz : w.heap.size < W.heap.size := BX.out.lt
  have hpl : p < W.heap.size := SW.out.lt
  have hpz : p ≠ w.heap.size := Nat.ne_of_lt h.lt
  have hrz : V.gr ≠ w.heap.size := Nat.ne_of_lt h.gr_lt.2
  clear hW
  have q0 : W.cell? ⟨w.heap.size, 0, none⟩ = some (.int .i64 x.o) := BX.out.c 0
  have q1 : W.cell? ⟨w.heap.size, 1, none⟩ = some (.int .i64 x.d) := BX.out.c 1
  have q2 : W.cell? ⟨w.heap.size, 2, none⟩ = some (.int .i64 x.a) := BX.out.c 2
  have q3 : W.cell? ⟨w.heap.size, 3, none⟩ = some (.int .i64 x.b) := BX.out.c 3
  have q4 : W.cell? ⟨w.heap.size, 4, none⟩ = some (.int .i64 x.m) := BX.out.c 4
  have q5 : W.cell? ⟨w.heap.size, 5, none⟩ = some (.string ByteArray.empty) := BX.out.c 5
  have d0 : W.cell? ⟨p, 0, none⟩ = some (.slice (some ⟨V.gr, 0, none⟩) 16 V.cr) := SW.out.cell 0
  have d1 : W.cell? ⟨p, 1, none⟩ = some (.slice (some ⟨V.gm, 0, none⟩) 256 V.cm) := SW.out.cell 1
  have ra := SW.out.reg k ha
  go_still_tail 5, (by kernel_rfl)
  change wpList _ _ _ _ _ W.drew
  go_wp2_with (go_at_call 77; refine (addr_any V.gr V.cr x m W.drew ha ra).mono ?_; rintro e W3 ⟨rfl, hb3⟩)
  go_ret
  exact ⟨rfl, ⟨_, SW.out.drew.below hb3⟩, HB.out.drew.trans (hb3.mono (show B ≤ W.heap.size from SW.out.B_le))⟩
set_option maxRecDepth 20000 in
set_option maxHeartbeats 1000000 in
theorem store_ok (B p : Nat) (x : In5) (m : M) (V : Vs) (w : World) (h : SA B w p m V) (k : Ok m) (ha : x.a < 16) (hd : x.d < 16) (hb : x.b < 16) (hin : adr m x < 256) : Calls Tryd.prog 58 #[.agg x.cells, .pointer (some ⟨p, 0, none⟩)] w (StopPost B p 0 { m with mem := m.mem.set (adr m x) (m.reg x.b) } w) := by
  have hdec : decide ((256 : Int) ≤ (adr m x : Nat)) = false := by simp; omega
  go_enter Tryd.func58, Tryd.ntmps58
  simp only [In5.cells]
  go_wp2_with fail
  generalize hW : w.alloc (.cells #[.int .i64 x.o, .int .i64 x.d, .int .i64 x.a, .int .i64 x.b, .int .i64 x.m, .string ByteArray.empty] 54) = W
  have BX := Lib.hid (show Bx W w.heap.size x by rw [← hW]; exact bx_new w x)
  have SW := Lib.hid (show SA B W p m V by rw [← hW]; exact h.alloc _)
  have HB := Lib.hid (show Below B w W by rw [← hW]; exact (below_new w _).mono h.B_le)
  have hz : w.heap.size < W.heap.size := BX.out.lt
  have hpl : p < W.heap.size := SW.out.lt
  have hpz : p ≠ w.heap.size := Nat.ne_of_lt h.lt
  have hrz : V.gr ≠ w.heap.size := Nat.ne_of_lt h.gr_lt.2
  clear hW
  have q0 : W.cell? ⟨w.heap.size, 0, none⟩ = some (.int .i64 x.o) := BX.out.c 0
  have q1 : W.cell? ⟨w.heap.size, 1, none⟩ = some (.int .i64 x.d) := BX.out.c 1
  have q2 : W.cell? ⟨w.heap.size, 2, none⟩ = some (.int .i64 x.a) := BX.out.c 2
  have q3 : W.cell? ⟨w.heap.size, 3, none⟩ = some (.int .i64 x.b) := BX.out.c 3
  have q4 : W.cell? ⟨w.heap.size, 4, none⟩ = some (.int .i64 x.m) := BX.out.c 4
  have q5 : W.cell? ⟨w.heap.size, 5, none⟩ = some (.string ByteArray.empty) := BX.out.c 5
  have d0 : W.cell? ⟨p, 0, none⟩ = some (.slice (some ⟨V.gr, 0, none⟩) 16 V.cr) := SW.out.cell 0
  have d1 : W.cell? ⟨p, 1, none⟩ = some (.slice (some ⟨V.gm, 0, none⟩) 256 V.cm) := SW.out.cell 1
  have ra := SW.out.reg k ha
  go_still_tail 5, (by kernel_rfl)
  change wpList _ _ _ _ _ W.drew
  go_wp2_with (go_at_call 77; refine (addr_any V.gr V.cr x m W.drew ha ra).mono ?_; rintro e W3 ⟨rfl, hb3⟩)
  have S3 := Lib.hid (SW.out.drew.below hb3)
  have X3 := Lib.hid (BX.out.drew.below hb3)
  have B3 := Lib.hid (HB.out.drew.trans (hb3.mono (show B ≤ W.heap.size from SW.out.B_le)))
  clear ra q0 q1 q2 q3 q4 q5 d0 d1 hb3
  have q0 : W3.cell? ⟨w.heap.size, 0, none⟩ = some (.int .i64 x.o) := X3.out.c 0
  have q1 : W3.cell? ⟨w.heap.size, 1, none⟩ = some (.int .i64 x.d) := X3.out.c 1
  have q2 : W3.cell? ⟨w.heap.size, 2, none⟩ = some (.int .i64 x.a) := X3.out.c 2
  have q3 : W3.cell? ⟨w.heap.size, 3, none⟩ = some (.int .i64 x.b) := X3.out.c 3
  have q4 : W3.cell? ⟨w.heap.size, 4, none⟩ = some (.int .i64 x.m) := X3.out.c 4
  have q5 : W3.cell? ⟨w.heap.size, 5, none⟩ = some (.string ByteArray.empty) := X3.out.c 5
  have d0 : W3.cell? ⟨p, 0, none⟩ = some (.slice (some ⟨V.gr, 0, none⟩) 16 V.cr) := S3.out.cell 0
  have d1 : W3.cell? ⟨p, 1, none⟩ = some (.slice (some ⟨V.gm, 0, none⟩) 256 V.cm) := S3.out.cell 1
  have i0 : (0 : Int) ≤ (adr m x : Nat) := by omega
  have i1 : ((adr m x : Nat) : Int) < 256 := by omega
  have i2 : (0 : Int) ≤ (x.d : Int) := by omega
  have i3 : (x.d : Int) < 16 := by omega
  have i4 : (0 : Int) ≤ (x.b : Int) := by omega
  have i5 : (x.b : Int) < 16 := by omega
  have rm := S3.out.word k hin
  have rd := S3.out.reg k hb
  have rf := S3.out.wordF (adr m x)
  clear hz hpl
  go_still_tail 14, (by kernel_rfl)
  change wpList _ _ _ _ _ W3.drew
  go_wp2
  go_ret
  exact ⟨rfl, ⟨_, S3.out.drew.setM _ _⟩, B3.out.drew.setCell (by exact S3.out.gm_lt.1) _⟩
end Go.Proofs.YtpnmlednningkaaDoor
