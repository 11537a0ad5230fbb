/-
  Contracts of package pipe's calls: load, call, resultOf, launch, and of isa's Latency. Conditions: the state lies behind the pointer, and may be; the instruction's registers are below 16.
-/
import Derived.Test.YtbgmdikcbglpiaaGreatDoorPp1
import Derived.Test.YtbgmdikcbglpiaaGreatDoorCyc
namespace Go.Proofs.YtbgmdikcbglpiaaGreatDoor
open Go.RowKit

theorem lat_yes (n : Nat) (w : World) (h : n < 34) (H : Tab w) : Calls Tryz.prog 121 #[.int .i64 n] w fun e w' => e = .returned (.tuple #[.int .i64 (lt n), .int .i64 0]) ∧ w = w' := by
  obtain ⟨h1, h2, h3, h4⟩ := H.ops n h
  have b1 := H.big
  have b0 : 0 < w.heap.size := by omega
  have c1 : (0 : Int) ≤ (n : Int) := by omega
  have c2 : (n : Int) < 34 := by omega
  clear H
  go_enter Tryz.func121, Tryz.ntmps121
  go_wp2_with (go_at_call 101; refine (isOp_yes _ _ h).mono ?_; rintro e w' ⟨rfl, rfl⟩)
  go_ret2
  exact ⟨rfl, rfl⟩
/-- A word and why it stops, and the state behind. -/
def RPost (B p : Nat) (v k : Int) (m' : M) (w : World) (e : Ending) (w' : World) : Prop := e = .returned (.tuple #[.int .u32 v, .int .i64 k]) ∧ (∃ V', SA B w' p m' V') ∧ w.grownBy w' (some p)
theorem gb_trans {w w1 w2 : World} {r : Option Nat} (h1 : w.grownBy w1 r) (h2 : w1.grownBy w2 r) : w.grownBy w2 r :=
  ⟨h2.os.trans h1.os, h2.tape.trans h1.tape, h2.output.trans h1.output, Nat.le_trans h1.size h2.size, fun k hk hne => (h2.block k (Nat.lt_of_lt_of_le hk h1.size) hne).trans (h1.block k hk hne)⟩
theorem gb_weak {w w1 : World} (r : Option Nat) (h : w.grownBy w1 none) : w.grownBy w1 r := ⟨h.os, h.tape, h.output, h.size, fun k hk _ => h.block k hk (by simp)⟩
theorem gb_below {w w1 : World} {B : Nat} {g : Nat} (h : w.grownBy w1 (some g)) (hg : B ≤ g) (hB : B ≤ w.heap.size) : Below B w w1 := (Below.refl _ w).grown h hB (by intro k hk; cases hk; exact hg)
theorem gb_drew (w : World) (r : Option Nat) : w.grownBy w.drew r := ⟨rfl, rfl, rfl, Nat.le_refl _, fun _ _ _ => rfl⟩
theorem gb_bel {w w1 : World} (r : Option Nat) (h : Below w.heap.size w w1) : w.grownBy w1 r := gb_weak r (grown_below h)
set_option maxRecDepth 20000 in
set_option maxHeartbeats 1000000 in
theorem pload_bad (B p : Nat) (x : In5) (m : M) (V : Vs) (w : World) (h : SA B w p m V) (k : Ok m) (ha : x.a < 16) (hin : 256 ≤ adr m x) : Calls Tryz.prog 125 #[.agg x.cells, .pointer (some ⟨p, 0, none⟩)] w (RPost B p 0 2 m w) := by
  have hdec : decide ((256 : Int) ≤ (adr m x : Nat)) = true := by simp; omega
  go_enter Tryz.func125, Tryz.ntmps125
  simp only [In5.cells]
  go_wp2_with fail
  generalize hW : w.alloc (.cells #[.int .i64 x.o, .int .i64 x.d, .int .i64 x.a, .int .i64 x.b, .int .i64 x.m, .string ByteArray.empty] 55) = W
  have BX := Lib.hid (show Bx W w.heap.size x by rw [← hW]; exact bx_new w x)
  have SW := Lib.hid (show SA B W p m V by rw [← hW]; exact h.alloc _)
  have HB := Lib.hid (show Below B w W by rw [← hW]; exact (below_new w _).mono h.B_le)
  have HG := Lib.hid (show w.grownBy W (some p) by rw [← hW]; exact World.grownBy_alloc w _ _)
  have hz : w.heap.size < W.heap.size := BX.out.lt
  have hpl : p < W.heap.size := SW.out.lt
  have hpz : p ≠ w.heap.size := Nat.ne_of_lt h.lt
  have hrz : V.gr ≠ w.heap.size := Nat.ne_of_lt h.gr_lt.2
  clear hW
  have q0 : W.cell? ⟨w.heap.size, 0, none⟩ = some (.int .i64 x.o) := BX.out.c 0
  have q1 : W.cell? ⟨w.heap.size, 1, none⟩ = some (.int .i64 x.d) := BX.out.c 1
  have q2 : W.cell? ⟨w.heap.size, 2, none⟩ = some (.int .i64 x.a) := BX.out.c 2
  have q3 : W.cell? ⟨w.heap.size, 3, none⟩ = some (.int .i64 x.b) := BX.out.c 3
  have q4 : W.cell? ⟨w.heap.size, 4, none⟩ = some (.int .i64 x.m) := BX.out.c 4
  have q5 : W.cell? ⟨w.heap.size, 5, none⟩ = some (.string ByteArray.empty) := BX.out.c 5
  have d0 : W.cell? ⟨p, 0, none⟩ = some (.slice (some ⟨V.gr, 0, none⟩) 16 V.cr) := SW.out.cell 0
  have d1 : W.cell? ⟨p, 1, none⟩ = some (.slice (some ⟨V.gm, 0, none⟩) 256 V.cm) := SW.out.cell 1
  have ra := SW.out.reg k ha
  go_still_tail 5, (by kernel_rfl)
  change wpList _ _ _ _ _ W.drew
  go_wp2_with (go_at_call 117; refine (addr_any V.gr V.cr x m W.drew ha ra).mono ?_; rintro e W3 ⟨rfl, hb3⟩)
  go_ret2
  exact ⟨rfl, ⟨_, SW.out.drew.below hb3⟩, gb_trans (gb_trans HG.out (gb_drew _ _)) (gb_bel _ hb3)⟩
set_option maxRecDepth 20000 in
set_option maxHeartbeats 1000000 in
theorem pload_ok (B p : Nat) (x : In5) (m : M) (V : Vs) (w : World) (h : SA B w p m V) (k : Ok m) (ha : x.a < 16) (hin : adr m x < 256) : Calls Tryz.prog 125 #[.agg x.cells, .pointer (some ⟨p, 0, none⟩)] w (RPost B p (m.word (adr m x)) 0 m w) := by
  have hdec : decide ((256 : Int) ≤ (adr m x : Nat)) = false := by simp; omega
  go_enter Tryz.func125, Tryz.ntmps125
  simp only [In5.cells]
  go_wp2_with fail
  generalize hW : w.alloc (.cells #[.int .i64 x.o, .int .i64 x.d, .int .i64 x.a, .int .i64 x.b, .int .i64 x.m, .string ByteArray.empty] 55) = W
  have BX := Lib.hid (show Bx W w.heap.size x by rw [← hW]; exact bx_new w x)
  have SW := Lib.hid (show SA B W p m V by rw [← hW]; exact h.alloc _)
  have HB := Lib.hid (show Below B w W by rw [← hW]; exact (below_new w _).mono h.B_le)
  have HG := Lib.hid (show w.grownBy W (some p) by rw [← hW]; exact World.grownBy_alloc w _ _)
  have hz : w.heap.size < W.heap.size := BX.out.lt
  have hpl : p < W.heap.size := SW.out.lt
  have hpz : p ≠ w.heap.size := Nat.ne_of_lt h.lt
  have hrz : V.gr ≠ w.heap.size := Nat.ne_of_lt h.gr_lt.2
  clear hW
  have q0 : W.cell? ⟨w.heap.size, 0, none⟩ = some (.int .i64 x.o) := BX.out.c 0
  have q1 : W.cell? ⟨w.heap.size, 1, none⟩ = some (.int .i64 x.d) := BX.out.c 1
  have q2 : W.cell? ⟨w.heap.size, 2, none⟩ = some (.int .i64 x.a) := BX.out.c 2
  have q3 : W.cell? ⟨w.heap.size, 3, none⟩ = some (.int .i64 x.b) := BX.out.c 3
  have q4 : W.cell? ⟨w.heap.size, 4, none⟩ = some (.int .i64 x.m) := BX.out.c 4
  have q5 : W.cell? ⟨w.heap.size, 5, none⟩ = some (.string ByteArray.empty) := BX.out.c 5
  have d0 : W.cell? ⟨p, 0, none⟩ = some (.slice (some ⟨V.gr, 0, none⟩) 16 V.cr) := SW.out.cell 0
  have d1 : W.cell? ⟨p, 1, none⟩ = some (.slice (some ⟨V.gm, 0, none⟩) 256 V.cm) := SW.out.cell 1
  have ra := SW.out.reg k ha
  go_still_tail 5, (by kernel_rfl)
  change wpList _ _ _ _ _ W.drew
  go_wp2_with fail
  refine (addr_any V.gr V.cr x m W.drew ha ra).mono ?_
  rintro e W3 ⟨rfl, hb3⟩
  have S3 := Lib.hid (SW.out.drew.below hb3)
  have B3 := Lib.hid (gb_trans (gb_trans HG.out (gb_drew W (some p))) (gb_bel (some p) hb3))
  clear ra q0 q1 q2 q3 q4 q5 d0 d1 hb3
  have d1 : W3.cell? ⟨p, 1, none⟩ = some (.slice (some ⟨V.gm, 0, none⟩) 256 V.cm) := S3.out.cell 1
  have i0 : (0 : Int) ≤ (adr m x : Nat) := by omega
  have i1 : ((adr m x : Nat) : Int) < 256 := by omega
  have rm := S3.out.word k hin
  clear hz hpl
  go_wp2
  go_ret2
  exact ⟨rfl, ⟨_, S3.out⟩, B3.out⟩
set_option maxRecDepth 20000 in
set_option maxHeartbeats 400000 in
theorem pcall_full (B p : Nat) (m : M) (V : Vs) (w : World) (h : SA B w p m V) (hf : m.st.length = 16) : Calls Tryz.prog 118 #[.pointer (some ⟨p, 0, none⟩)] w (StopPost B p 4 m w) := by
  have H := Lib.hid h
  have c6 : w.cell? ⟨p, 6, none⟩ = some (.slice V.az m.st.length V.cs) := h.cell 6
  rw [hf] at c6
  have hl := h.lt
  generalize V.az = az at c6
  generalize V.cs = cs at c6
  clear h hf
  go_enter Tryz.func118, Tryz.ntmps118
  go_wp2
  go_ret
  exact ⟨rfl, ⟨_, H.out⟩, Below.refl _ _⟩
set_option maxRecDepth 20000 in
set_option maxHeartbeats 1000000 in
theorem pcall_ok (B p : Nat) (m : M) (V : Vs) (w : World) (h : SA B w p m V) (k : Ok m) (hf : m.st.length < 16) : Calls Tryz.prog 118 #[.pointer (some ⟨p, 0, none⟩)] w (StopPost B p 0 { m with st := m.st ++ [min (m.pc + 3) 1024] } w) := by
  have hq : ((m.st.length : Int) == 16) = false := by simp; omega
  have hpc := k.pc
  have H := Lib.hid h
  have d5 : w.cell? ⟨p, 5, none⟩ = some (.int .i64 m.pc) := h.cell 5
  have d6 : w.cell? ⟨p, 6, none⟩ = some (.slice V.az m.st.length V.cs) := h.cell 6
  have f6 := h.frozen 6
  have hpl := h.lt
  have e2 : IntKind.i64.wrap ((m.pc : Int) + 1) = (m.pc : Int) + 1 := by rw [wrap_i64 _ (by omega) (by omega)]
  have e4 : IntKind.i64.wrap ((m.pc : Int) + 1 + 2) = (m.pc : Int) + 1 + 2 := by rw [wrap_i64 _ (by omega) (by omega)]
  have e3 := Lib.hid (show (if (1024 : Int) < (m.pc : Int) + 1 + 2 then 1024 else (m.pc : Int) + 1 + 2) = ((min (m.pc + 3) 1024 : Nat) : Int) by split <;> omega)
  go_enter Tryz.func118, Tryz.ntmps118
  go_wp2_with fail
  go_region_law ((with_reducible refine step_app 24 3 8 (.int .i64 0) Tryz.info3 rfl (by decide) Tryz.underlying24 (o := ⟨some 22, _, _, _, _, none⟩) (B := B) (n := m.st.length) (c := V.cs) (va := V.az) (xs := m.st.map ni) (u := .int .i64 (if (1024 : Int) < (m.pc : Int) + 1 + 2 then 1024 else (m.pc : Int) + 1 + 2)) rfl rfl _ _ rfl ?_ ?_ ?_ ?_ ?_ ?_ ?_ ?_); (· rfl); rotate_left; (· rfl); (· exact heap_alloc_new w _); (· exact (H.out.alloc _).drew.hs); (· omega); (· exact (H.out.alloc _).drew.B_le); intro g cap w7 hown7 hg7 hat7 hlt7; have F7 := Lib.hid (far7 (H.out.alloc _).drew hg7); have C7 : w7.cell? ⟨p, 6, none⟩ = some (.slice V.az m.st.length V.cs) := F7.out.1; have D7 := F7.out.2; have L7 : p < w7.heap.size := World.block_lt_of_cell? w7 _ C7; have P7 := Lib.hid (push7 (H.out.alloc _).drew e3.out hg7 hown7 hat7); have B7 := Lib.hid (below7 (Below.refl B w) H.out hg7); clear hown7 hg7 hat7)
  all_goals go_wp2
  all_goals go_ret
  all_goals exact ⟨rfl, ⟨_, P7.out⟩, B7.out.setCell (by exact H.out.hp) _⟩
end Go.Proofs.YtbgmdikcbglpiaaGreatDoor
