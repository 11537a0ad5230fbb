/-
  Contracts of the statements' calls at (a bundle with an instruction where its op may first stand) and adds (an instruction that adds to register 1). Condition: the op is one.
-/
import Derived.Test.YtnkadjejdppanaaGreatDoorRs
import Derived.Test.YtnkadjejdppanaaGreatDoorDrw
namespace Go.Proofs.YtnkadjejdppanaaGreatDoor
open Go.RowKit

/-- Where an op may first stand. -/
def fs (n : Nat) : Nat := ((slotsOf n).headD 0).toNat
theorem fs_head : ∀ n : Fin 34, (slotsOf n.1).head? = some ((fs n.1 : Nat) : Int) ∧ fs n.1 < 4 := by decide +kernel
def Z6 : Array Value := #[.int .i64 0, .int .i64 0, .int .i64 0, .int .i64 0, .int .i64 0, .string ⟨#[]⟩]
theorem cell_far (W : World) (p q : Addr) (v : Value) (h : q.block ≠ p.block) : (W.setCell p v).cell? q = W.cell? q := World.cell?_setCell_far W p q v (Ne.symm h)
def atB (x : In5) : List In5 := [zw, zw, zw, zw].set (fs x.o) x
def AtPost (x : In5) (w : World) (e : Ending) (w' : World) : Prop := e = .returned (.agg (bcs (bX (atB x)))) ∧ Below w.heap.size w w'
def setI (W : World) (g o : Nat) (x : In5) : World := (((((W.setCell ⟨g, o, none⟩ (.int .i64 x.o)).setCell ⟨g, o + 1, none⟩ (.int .i64 x.d)).setCell ⟨g, o + 2, none⟩ (.int .i64 x.a)).setCell ⟨g, o + 3, none⟩ (.int .i64 x.b)).setCell ⟨g, o + 4, none⟩ (.int .i64 x.m)).setCell ⟨g, o + 5, none⟩ (.string ByteArray.empty)
theorem setI_bk {T : TypeId} {w : World} {g : Nat} {cs : Array Value} (h : BK T w g cs) (o : Nat) (x : In5) : BK T (setI w g o x) g ((((((cs.setIfInBounds o (.int .i64 x.o)).setIfInBounds (o + 1) (.int .i64 x.d)).setIfInBounds (o + 2) (.int .i64 x.a)).setIfInBounds (o + 3) (.int .i64 x.b)).setIfInBounds (o + 4) (.int .i64 x.m)).setIfInBounds (o + 5) (.string ByteArray.empty)) := (((((h.set o _).set (o + 1) _).set (o + 2) _).set (o + 3) _).set (o + 4) _).set (o + 5) _
theorem BKdrew {T : TypeId} {w : World} {g : Nat} {cs : Array Value} (h : BK T w g cs) : BK T w.drew g cs := h
theorem setI_gb (w : World) (g o : Nat) (x : In5) : w.grownBy (setI w g o x) (some g) :=
  gb_trans (gb_trans (gb_trans (gb_trans (gb_trans (grown_set _ g o _) (grown_set _ g (o + 1) _)) (grown_set _ g (o + 2) _)) (grown_set _ g (o + 3) _)) (grown_set _ g (o + 4) _)) (grown_set _ g (o + 5) _)
theorem atB_0 {x : In5} (h : fs x.o = 0) : atB x = [x, zw, zw, zw] := by unfold atB; rw [h]; rfl
theorem atB_1 {x : In5} (h : fs x.o = 1) : atB x = [zw, x, zw, zw] := by unfold atB; rw [h]; rfl
theorem atB_2 {x : In5} (h : fs x.o = 2) : atB x = [zw, zw, x, zw] := by unfold atB; rw [h]; rfl
theorem atB_3 {x : In5} (h : fs x.o = 3) : atB x = [zw, zw, zw, x] := by unfold atB; rw [h]; rfl
theorem Tryz.results28 : Tryz.f28.results = #[.cell 2 52] := by kernel_rfl
set_option maxRecDepth 20000 in
set_option maxHeartbeats 4000000 in
theorem at_any (x : In5) (w : World) (h : x.o < 34) : Calls Tryz.prog 28 #[.agg x.cells] w (AtPost x w) := by
  have SL := Lib.hid (fun W => rslots_any x.o W h)
  obtain ⟨hh, h4⟩ := fs_head ⟨x.o, h⟩
  simp only at hh h4
  have X0 := Lib.hid (show BK 49 (((w.alloc (.cells #[.int .i64 x.o, .int .i64 x.d, .int .i64 x.a, .int .i64 x.b, .int .i64 x.m, .string ByteArray.empty] 49)).alloc (.cells ZB 52)).alloc (.cells ZB 52)) w.heap.size #[.int .i64 x.o, .int .i64 x.d, .int .i64 x.a, .int .i64 x.b, .int .i64 x.m, .string ByteArray.empty] from BK.alloc (BK.alloc (heap_alloc_new w _) _) _)
  have R0 := Lib.hid (show BL (((w.alloc (.cells #[.int .i64 x.o, .int .i64 x.d, .int .i64 x.a, .int .i64 x.b, .int .i64 x.m, .string ByteArray.empty] 49)).alloc (.cells ZB 52)).alloc (.cells ZB 52)) (w.heap.size + 1) ZB from BL.alloc (BK.new (T := 52) (by simp)) _)
  have Z0 := Lib.hid (show BL (((w.alloc (.cells #[.int .i64 x.o, .int .i64 x.d, .int .i64 x.a, .int .i64 x.b, .int .i64 x.m, .string ByteArray.empty] 49)).alloc (.cells ZB 52)).alloc (.cells ZB 52)) (w.heap.size + 1 + 1) ZB from BK.new (T := 52) (by simp))
  have G0 := Lib.hid ((below_two w (.cells #[.int .i64 x.o, .int .i64 x.d, .int .i64 x.a, .int .i64 x.b, .int .i64 x.m, .string ByteArray.empty] 49) (.cells ZB 52)).alloc (by simp; omega) (.cells ZB 52))
  go_enter Tryz.func28, Tryz.ntmps28
  simp only [In5.cells]
  go_wp2_with fail
  refine (SL.out _).mono ?_
  rintro e w1 ⟨v, rfl, own, b1⟩
  have X1 := Lib.hid (X0.out.below b1)
  have R1 := Lib.hid (R0.out.below b1)
  have Z1 := Lib.hid (Z0.out.below b1)
  have G1 := Lib.hid (G0.out.trans (b1.mono (by simp; omega)))
  have rw0 := RowAt.of_own own
  obtain ⟨A, c, rfl, hr⟩ := rw0
  have hpos : 0 < (slotsOf x.o).length := by
    cases hs : slotsOf x.o with
    | nil => rw [hs] at hh; cases hh
    | cons a l => simp
  obtain ⟨g, rfl, hg, q⟩ := hr hpos
  have K1 := Lib.hid (q 0 ((fs x.o : Nat) : Int) (by rw [← List.head?_eq_getElem?]; exact hh))
  have n0 : (0 : Int) < ((slotsOf x.o).length : Int) := by omega
  have gl := (own.lt g rfl).1
  have gne : g ≠ w.heap.size + 1 + 1 := by simp at gl; omega
  have wne : w.heap.size ≠ w.heap.size + 1 + 1 := by omega
  have n1 : 0 < (slotsOf x.o).length := hpos
  clear q hh b1 own hpos hr gl
  generalize (slotsOf x.o).length = nn at *
  obtain ⟨q0, q1, q2, q3, q4, q5⟩ := show w1.cell? ⟨w.heap.size, 0, none⟩ = some (.int .i64 x.o) ∧ w1.cell? ⟨w.heap.size, 1, none⟩ = some (.int .i64 x.d) ∧ w1.cell? ⟨w.heap.size, 2, none⟩ = some (.int .i64 x.a) ∧ w1.cell? ⟨w.heap.size, 3, none⟩ = some (.int .i64 x.b) ∧ w1.cell? ⟨w.heap.size, 4, none⟩ = some (.int .i64 x.m) ∧ w1.cell? ⟨w.heap.size, 5, none⟩ = some (.string ByteArray.empty) from ⟨X1.out.cell 0, X1.out.cell 1, X1.out.cell 2, X1.out.cell 3, X1.out.cell 4, X1.out.cell 5⟩
  have hzl := Z1.out.lt
  clear X0 R0 Z0 G0
  have zp : w.heap.size + 1 + 1 ≠ w.heap.size := by omega
  have zr : w.heap.size + 1 + 1 ≠ w.heap.size + 1 := by omega
  have zg : w.heap.size + 1 + 1 ≠ g := Ne.symm gne
  have zw1 : w.heap.size ≤ w.heap.size + 1 + 1 := by omega
  have wl1 : w.heap.size ≤ w1.heap.size := G1.out.size
  clear gne wne
  generalize hz2 : w.heap.size + 1 + 1 = z at *
  clear hz2
  generalize hf : fs x.o = f at *
  have HF := Lib.hid hf
  clear hf
  obtain rfl | rfl | rfl | rfl : f = 0 ∨ f = 1 ∨ f = 2 ∨ f = 3 := by omega
  · clear h4
    have c0 : w1.cell? ⟨g, 0, none⟩ = some (.int .i64 0) := K1.out
    have Z2 := Lib.hid (show BK 52 ((((((w1.setCell ⟨z, 0, none⟩ (.int .i64 x.o)).setCell ⟨z, 1, none⟩ (.int .i64 x.d)).setCell ⟨z, 2, none⟩ (.int .i64 x.a)).setCell ⟨z, 3, none⟩ (.int .i64 x.b)).setCell ⟨z, 4, none⟩ (.int .i64 x.m)).setCell ⟨z, 5, none⟩ (.string ByteArray.empty)).drew z #[.int .i64 x.o, .int .i64 x.d, .int .i64 x.a, .int .i64 x.b, .int .i64 x.m, .string ByteArray.empty, .int .i64 0, .int .i64 0, .int .i64 0, .int .i64 0, .int .i64 0, .string ⟨#[]⟩, .int .i64 0, .int .i64 0, .int .i64 0, .int .i64 0, .int .i64 0, .string ⟨#[]⟩, .int .i64 0, .int .i64 0, .int .i64 0, .int .i64 0, .int .i64 0, .string ⟨#[]⟩] from BKdrew (setI_bk Z1.out 0 x))
    have GB := Lib.hid (show w1.grownBy ((((((w1.setCell ⟨z, 0, none⟩ (.int .i64 x.o)).setCell ⟨z, 1, none⟩ (.int .i64 x.d)).setCell ⟨z, 2, none⟩ (.int .i64 x.a)).setCell ⟨z, 3, none⟩ (.int .i64 x.b)).setCell ⟨z, 4, none⟩ (.int .i64 x.m)).setCell ⟨z, 5, none⟩ (.string ByteArray.empty)).drew (some z) from gb_trans (setI_gb w1 z 0 x) (gb_drew _ _))
    have z0 : w1.cell? ⟨z, 0, none⟩ = some (.int .i64 0) := Z1.out.cell 0
    have f0 : w1.frozen? ⟨z, 0, none⟩ = false := Z1.out.frozen 0
    have z1 : w1.cell? ⟨z, 1, none⟩ = some (.int .i64 0) := Z1.out.cell 1
    have f1 : w1.frozen? ⟨z, 1, none⟩ = false := Z1.out.frozen 1
    have z2 : w1.cell? ⟨z, 2, none⟩ = some (.int .i64 0) := Z1.out.cell 2
    have f2 : w1.frozen? ⟨z, 2, none⟩ = false := Z1.out.frozen 2
    have z3 : w1.cell? ⟨z, 3, none⟩ = some (.int .i64 0) := Z1.out.cell 3
    have f3 : w1.frozen? ⟨z, 3, none⟩ = false := Z1.out.frozen 3
    have z4 : w1.cell? ⟨z, 4, none⟩ = some (.int .i64 0) := Z1.out.cell 4
    have f4 : w1.frozen? ⟨z, 4, none⟩ = false := Z1.out.frozen 4
    have z5 : w1.cell? ⟨z, 5, none⟩ = some (.string ⟨#[]⟩) := Z1.out.cell 5
    have f5 : w1.frozen? ⟨z, 5, none⟩ = false := Z1.out.frozen 5
    go_wp2_with fail
    go_region_held3 (fun wq => wq.cell? ⟨w.heap.size, 0, none⟩ = some (.int .i64 x.o) ∧ wq.cell? ⟨w.heap.size, 1, none⟩ = some (.int .i64 x.d) ∧ wq.cell? ⟨w.heap.size, 2, none⟩ = some (.int .i64 x.a) ∧ wq.cell? ⟨w.heap.size, 3, none⟩ = some (.int .i64 x.b) ∧ wq.cell? ⟨w.heap.size, 4, none⟩ = some (.int .i64 x.m) ∧ wq.cell? ⟨w.heap.size, 5, none⟩ = some (.string ByteArray.empty) ∧ wq.cell? ⟨g, 0, none⟩ = some (.int .i64 0)) (go_keep) (fail)
    generalize ((((((w1.setCell ⟨z, 0, none⟩ (.int .i64 x.o)).setCell ⟨z, 1, none⟩ (.int .i64 x.d)).setCell ⟨z, 2, none⟩ (.int .i64 x.a)).setCell ⟨z, 3, none⟩ (.int .i64 x.b)).setCell ⟨z, 4, none⟩ (.int .i64 x.m)).setCell ⟨z, 5, none⟩ (.string ByteArray.empty)).drew = W2 at Z2 GB ⊢
    have R2 := Lib.hid (R1.out.grown GB.out (by intro h; injection h with h; exact zr h.symm))
    have G2 := Lib.hid (G1.out.trans (gb_below (B := w.heap.size) GB.out zw1 (by omega)))
    clear ‹_ ∧ _›
    clear GB Z1 X1 R1 G1 c0 q0 q1 q2 q3 q4 q5 K1 z0 z1 z2 z3 z4 z5 f0 f1 f2 f3 f4 f5
    go_wp2_with (first | ((with_reducible refine wpList_load_bl (op := ⟨some 13, .load 52 _, _, _, _, none⟩) rfl _ rfl z #[.int .i64 x.o, .int .i64 x.d, .int .i64 x.a, .int .i64 x.b, .int .i64 x.m, .string ByteArray.empty, .int .i64 0, .int .i64 0, .int .i64 0, .int .i64 0, .int .i64 0, .string ⟨#[]⟩, .int .i64 0, .int .i64 0, .int .i64 0, .int .i64 0, .int .i64 0, .string ⟨#[]⟩, .int .i64 0, .int .i64 0, .int .i64 0, .int .i64 0, .int .i64 0, .string ⟨#[]⟩] ?lx ?lb rfl ?_); (case lx => rfl); (case lb => exact Z2.out)) | ((with_reducible refine wpList_store_bl (op := ⟨none, .store 52 _ _, _, _, _, none⟩) rfl _ _ rfl (w.heap.size + 1) ZB #[.int .i64 x.o, .int .i64 x.d, .int .i64 x.a, .int .i64 x.b, .int .i64 x.m, .string ByteArray.empty, .int .i64 0, .int .i64 0, .int .i64 0, .int .i64 0, .int .i64 0, .string ⟨#[]⟩, .int .i64 0, .int .i64 0, .int .i64 0, .int .i64 0, .int .i64 0, .string ⟨#[]⟩, .int .i64 0, .int .i64 0, .int .i64 0, .int .i64 0, .int .i64 0, .string ⟨#[]⟩] ?sx ?sy ?sb ?s1 ?s2 ?s3 ?_); (case sx => rfl); (case sy => rfl); (case sb => exact R2.out); (case s1 => rfl); (case s2 => rfl); (case s3 => kernel_rfl)))
    intro W3 hbl hg3 hsz
    have LD := Lib.hid (hbl.load rfl)
    have BF := Lib.hid (G2.out.trans (gb_below (B := w.heap.size) hg3 (by omega) (by have := G2.out.size; omega)))
    clear hbl hg3 hsz
    go_wp2_with fail
    refine bodyPost_ret (v := .agg #[.int .i64 x.o, .int .i64 x.d, .int .i64 x.a, .int .i64 x.b, .int .i64 x.m, .string ByteArray.empty, .int .i64 0, .int .i64 0, .int .i64 0, .int .i64 0, .int .i64 0, .string ⟨#[]⟩, .int .i64 0, .int .i64 0, .int .i64 0, .int .i64 0, .int .i64 0, .string ⟨#[]⟩, .int .i64 0, .int .i64 0, .int .i64 0, .int .i64 0, .int .i64 0, .string ⟨#[]⟩]) ?_ rfl ⟨by rw [atB_0 HF.out]; rfl, BF.out⟩
    rw [results_cell_one Tryz.results28]
    simp [asAddr, Result.andThen, LD.out]
  · clear h4
    have c0 : w1.cell? ⟨g, 0, none⟩ = some (.int .i64 1) := K1.out
    have Z2 := Lib.hid (show BK 52 ((((((w1.setCell ⟨z, 6, none⟩ (.int .i64 x.o)).setCell ⟨z, 7, none⟩ (.int .i64 x.d)).setCell ⟨z, 8, none⟩ (.int .i64 x.a)).setCell ⟨z, 9, none⟩ (.int .i64 x.b)).setCell ⟨z, 10, none⟩ (.int .i64 x.m)).setCell ⟨z, 11, none⟩ (.string ByteArray.empty)).drew z #[.int .i64 0, .int .i64 0, .int .i64 0, .int .i64 0, .int .i64 0, .string ⟨#[]⟩, .int .i64 x.o, .int .i64 x.d, .int .i64 x.a, .int .i64 x.b, .int .i64 x.m, .string ByteArray.empty, .int .i64 0, .int .i64 0, .int .i64 0, .int .i64 0, .int .i64 0, .string ⟨#[]⟩, .int .i64 0, .int .i64 0, .int .i64 0, .int .i64 0, .int .i64 0, .string ⟨#[]⟩] from BKdrew (setI_bk Z1.out 6 x))
    have GB := Lib.hid (show w1.grownBy ((((((w1.setCell ⟨z, 6, none⟩ (.int .i64 x.o)).setCell ⟨z, 7, none⟩ (.int .i64 x.d)).setCell ⟨z, 8, none⟩ (.int .i64 x.a)).setCell ⟨z, 9, none⟩ (.int .i64 x.b)).setCell ⟨z, 10, none⟩ (.int .i64 x.m)).setCell ⟨z, 11, none⟩ (.string ByteArray.empty)).drew (some z) from gb_trans (setI_gb w1 z 6 x) (gb_drew _ _))
    have z0 : w1.cell? ⟨z, 6, none⟩ = some (.int .i64 0) := Z1.out.cell 6
    have f0 : w1.frozen? ⟨z, 6, none⟩ = false := Z1.out.frozen 6
    have z1 : w1.cell? ⟨z, 7, none⟩ = some (.int .i64 0) := Z1.out.cell 7
    have f1 : w1.frozen? ⟨z, 7, none⟩ = false := Z1.out.frozen 7
    have z2 : w1.cell? ⟨z, 8, none⟩ = some (.int .i64 0) := Z1.out.cell 8
    have f2 : w1.frozen? ⟨z, 8, none⟩ = false := Z1.out.frozen 8
    have z3 : w1.cell? ⟨z, 9, none⟩ = some (.int .i64 0) := Z1.out.cell 9
    have f3 : w1.frozen? ⟨z, 9, none⟩ = false := Z1.out.frozen 9
    have z4 : w1.cell? ⟨z, 10, none⟩ = some (.int .i64 0) := Z1.out.cell 10
    have f4 : w1.frozen? ⟨z, 10, none⟩ = false := Z1.out.frozen 10
    have z5 : w1.cell? ⟨z, 11, none⟩ = some (.string ⟨#[]⟩) := Z1.out.cell 11
    have f5 : w1.frozen? ⟨z, 11, none⟩ = false := Z1.out.frozen 11
    go_wp2_with fail
    go_region_held3 (fun wq => wq.cell? ⟨w.heap.size, 0, none⟩ = some (.int .i64 x.o) ∧ wq.cell? ⟨w.heap.size, 1, none⟩ = some (.int .i64 x.d) ∧ wq.cell? ⟨w.heap.size, 2, none⟩ = some (.int .i64 x.a) ∧ wq.cell? ⟨w.heap.size, 3, none⟩ = some (.int .i64 x.b) ∧ wq.cell? ⟨w.heap.size, 4, none⟩ = some (.int .i64 x.m) ∧ wq.cell? ⟨w.heap.size, 5, none⟩ = some (.string ByteArray.empty) ∧ wq.cell? ⟨g, 0, none⟩ = some (.int .i64 1)) (go_keep) (fail)
    generalize ((((((w1.setCell ⟨z, 6, none⟩ (.int .i64 x.o)).setCell ⟨z, 7, none⟩ (.int .i64 x.d)).setCell ⟨z, 8, none⟩ (.int .i64 x.a)).setCell ⟨z, 9, none⟩ (.int .i64 x.b)).setCell ⟨z, 10, none⟩ (.int .i64 x.m)).setCell ⟨z, 11, none⟩ (.string ByteArray.empty)).drew = W2 at Z2 GB ⊢
    have R2 := Lib.hid (R1.out.grown GB.out (by intro h; injection h with h; exact zr h.symm))
    have G2 := Lib.hid (G1.out.trans (gb_below (B := w.heap.size) GB.out zw1 (by omega)))
    clear ‹_ ∧ _›
    clear GB Z1 X1 R1 G1 c0 q0 q1 q2 q3 q4 q5 K1 z0 z1 z2 z3 z4 z5 f0 f1 f2 f3 f4 f5
    go_wp2_with (first | ((with_reducible refine wpList_load_bl (op := ⟨some 13, .load 52 _, _, _, _, none⟩) rfl _ rfl z #[.int .i64 0, .int .i64 0, .int .i64 0, .int .i64 0, .int .i64 0, .string ⟨#[]⟩, .int .i64 x.o, .int .i64 x.d, .int .i64 x.a, .int .i64 x.b, .int .i64 x.m, .string ByteArray.empty, .int .i64 0, .int .i64 0, .int .i64 0, .int .i64 0, .int .i64 0, .string ⟨#[]⟩, .int .i64 0, .int .i64 0, .int .i64 0, .int .i64 0, .int .i64 0, .string ⟨#[]⟩] ?lx ?lb rfl ?_); (case lx => rfl); (case lb => exact Z2.out)) | ((with_reducible refine wpList_store_bl (op := ⟨none, .store 52 _ _, _, _, _, none⟩) rfl _ _ rfl (w.heap.size + 1) ZB #[.int .i64 0, .int .i64 0, .int .i64 0, .int .i64 0, .int .i64 0, .string ⟨#[]⟩, .int .i64 x.o, .int .i64 x.d, .int .i64 x.a, .int .i64 x.b, .int .i64 x.m, .string ByteArray.empty, .int .i64 0, .int .i64 0, .int .i64 0, .int .i64 0, .int .i64 0, .string ⟨#[]⟩, .int .i64 0, .int .i64 0, .int .i64 0, .int .i64 0, .int .i64 0, .string ⟨#[]⟩] ?sx ?sy ?sb ?s1 ?s2 ?s3 ?_); (case sx => rfl); (case sy => rfl); (case sb => exact R2.out); (case s1 => rfl); (case s2 => rfl); (case s3 => kernel_rfl)))
    intro W3 hbl hg3 hsz
    have LD := Lib.hid (hbl.load rfl)
    have BF := Lib.hid (G2.out.trans (gb_below (B := w.heap.size) hg3 (by omega) (by have := G2.out.size; omega)))
    clear hbl hg3 hsz
    go_wp2_with fail
    refine bodyPost_ret (v := .agg #[.int .i64 0, .int .i64 0, .int .i64 0, .int .i64 0, .int .i64 0, .string ⟨#[]⟩, .int .i64 x.o, .int .i64 x.d, .int .i64 x.a, .int .i64 x.b, .int .i64 x.m, .string ByteArray.empty, .int .i64 0, .int .i64 0, .int .i64 0, .int .i64 0, .int .i64 0, .string ⟨#[]⟩, .int .i64 0, .int .i64 0, .int .i64 0, .int .i64 0, .int .i64 0, .string ⟨#[]⟩]) ?_ rfl ⟨by rw [atB_1 HF.out]; rfl, BF.out⟩
    rw [results_cell_one Tryz.results28]
    simp [asAddr, Result.andThen, LD.out]
  · clear h4
    have c0 : w1.cell? ⟨g, 0, none⟩ = some (.int .i64 2) := K1.out
    have Z2 := Lib.hid (show BK 52 ((((((w1.setCell ⟨z, 12, none⟩ (.int .i64 x.o)).setCell ⟨z, 13, none⟩ (.int .i64 x.d)).setCell ⟨z, 14, none⟩ (.int .i64 x.a)).setCell ⟨z, 15, none⟩ (.int .i64 x.b)).setCell ⟨z, 16, none⟩ (.int .i64 x.m)).setCell ⟨z, 17, none⟩ (.string ByteArray.empty)).drew z #[.int .i64 0, .int .i64 0, .int .i64 0, .int .i64 0, .int .i64 0, .string ⟨#[]⟩, .int .i64 0, .int .i64 0, .int .i64 0, .int .i64 0, .int .i64 0, .string ⟨#[]⟩, .int .i64 x.o, .int .i64 x.d, .int .i64 x.a, .int .i64 x.b, .int .i64 x.m, .string ByteArray.empty, .int .i64 0, .int .i64 0, .int .i64 0, .int .i64 0, .int .i64 0, .string ⟨#[]⟩] from BKdrew (setI_bk Z1.out 12 x))
    have GB := Lib.hid (show w1.grownBy ((((((w1.setCell ⟨z, 12, none⟩ (.int .i64 x.o)).setCell ⟨z, 13, none⟩ (.int .i64 x.d)).setCell ⟨z, 14, none⟩ (.int .i64 x.a)).setCell ⟨z, 15, none⟩ (.int .i64 x.b)).setCell ⟨z, 16, none⟩ (.int .i64 x.m)).setCell ⟨z, 17, none⟩ (.string ByteArray.empty)).drew (some z) from gb_trans (setI_gb w1 z 12 x) (gb_drew _ _))
    have z0 : w1.cell? ⟨z, 12, none⟩ = some (.int .i64 0) := Z1.out.cell 12
    have f0 : w1.frozen? ⟨z, 12, none⟩ = false := Z1.out.frozen 12
    have z1 : w1.cell? ⟨z, 13, none⟩ = some (.int .i64 0) := Z1.out.cell 13
    have f1 : w1.frozen? ⟨z, 13, none⟩ = false := Z1.out.frozen 13
    have z2 : w1.cell? ⟨z, 14, none⟩ = some (.int .i64 0) := Z1.out.cell 14
    have f2 : w1.frozen? ⟨z, 14, none⟩ = false := Z1.out.frozen 14
    have z3 : w1.cell? ⟨z, 15, none⟩ = some (.int .i64 0) := Z1.out.cell 15
    have f3 : w1.frozen? ⟨z, 15, none⟩ = false := Z1.out.frozen 15
    have z4 : w1.cell? ⟨z, 16, none⟩ = some (.int .i64 0) := Z1.out.cell 16
    have f4 : w1.frozen? ⟨z, 16, none⟩ = false := Z1.out.frozen 16
    have z5 : w1.cell? ⟨z, 17, none⟩ = some (.string ⟨#[]⟩) := Z1.out.cell 17
    have f5 : w1.frozen? ⟨z, 17, none⟩ = false := Z1.out.frozen 17
    go_wp2_with fail
    go_region_held3 (fun wq => wq.cell? ⟨w.heap.size, 0, none⟩ = some (.int .i64 x.o) ∧ wq.cell? ⟨w.heap.size, 1, none⟩ = some (.int .i64 x.d) ∧ wq.cell? ⟨w.heap.size, 2, none⟩ = some (.int .i64 x.a) ∧ wq.cell? ⟨w.heap.size, 3, none⟩ = some (.int .i64 x.b) ∧ wq.cell? ⟨w.heap.size, 4, none⟩ = some (.int .i64 x.m) ∧ wq.cell? ⟨w.heap.size, 5, none⟩ = some (.string ByteArray.empty) ∧ wq.cell? ⟨g, 0, none⟩ = some (.int .i64 2)) (go_keep) (fail)
    generalize ((((((w1.setCell ⟨z, 12, none⟩ (.int .i64 x.o)).setCell ⟨z, 13, none⟩ (.int .i64 x.d)).setCell ⟨z, 14, none⟩ (.int .i64 x.a)).setCell ⟨z, 15, none⟩ (.int .i64 x.b)).setCell ⟨z, 16, none⟩ (.int .i64 x.m)).setCell ⟨z, 17, none⟩ (.string ByteArray.empty)).drew = W2 at Z2 GB ⊢
    have R2 := Lib.hid (R1.out.grown GB.out (by intro h; injection h with h; exact zr h.symm))
    have G2 := Lib.hid (G1.out.trans (gb_below (B := w.heap.size) GB.out zw1 (by omega)))
    clear ‹_ ∧ _›
    clear GB Z1 X1 R1 G1 c0 q0 q1 q2 q3 q4 q5 K1 z0 z1 z2 z3 z4 z5 f0 f1 f2 f3 f4 f5
    go_wp2_with (first | ((with_reducible refine wpList_load_bl (op := ⟨some 13, .load 52 _, _, _, _, none⟩) rfl _ rfl z #[.int .i64 0, .int .i64 0, .int .i64 0, .int .i64 0, .int .i64 0, .string ⟨#[]⟩, .int .i64 0, .int .i64 0, .int .i64 0, .int .i64 0, .int .i64 0, .string ⟨#[]⟩, .int .i64 x.o, .int .i64 x.d, .int .i64 x.a, .int .i64 x.b, .int .i64 x.m, .string ByteArray.empty, .int .i64 0, .int .i64 0, .int .i64 0, .int .i64 0, .int .i64 0, .string ⟨#[]⟩] ?lx ?lb rfl ?_); (case lx => rfl); (case lb => exact Z2.out)) | ((with_reducible refine wpList_store_bl (op := ⟨none, .store 52 _ _, _, _, _, none⟩) rfl _ _ rfl (w.heap.size + 1) ZB #[.int .i64 0, .int .i64 0, .int .i64 0, .int .i64 0, .int .i64 0, .string ⟨#[]⟩, .int .i64 0, .int .i64 0, .int .i64 0, .int .i64 0, .int .i64 0, .string ⟨#[]⟩, .int .i64 x.o, .int .i64 x.d, .int .i64 x.a, .int .i64 x.b, .int .i64 x.m, .string ByteArray.empty, .int .i64 0, .int .i64 0, .int .i64 0, .int .i64 0, .int .i64 0, .string ⟨#[]⟩] ?sx ?sy ?sb ?s1 ?s2 ?s3 ?_); (case sx => rfl); (case sy => rfl); (case sb => exact R2.out); (case s1 => rfl); (case s2 => rfl); (case s3 => kernel_rfl)))
    intro W3 hbl hg3 hsz
    have LD := Lib.hid (hbl.load rfl)
    have BF := Lib.hid (G2.out.trans (gb_below (B := w.heap.size) hg3 (by omega) (by have := G2.out.size; omega)))
    clear hbl hg3 hsz
    go_wp2_with fail
    refine bodyPost_ret (v := .agg #[.int .i64 0, .int .i64 0, .int .i64 0, .int .i64 0, .int .i64 0, .string ⟨#[]⟩, .int .i64 0, .int .i64 0, .int .i64 0, .int .i64 0, .int .i64 0, .string ⟨#[]⟩, .int .i64 x.o, .int .i64 x.d, .int .i64 x.a, .int .i64 x.b, .int .i64 x.m, .string ByteArray.empty, .int .i64 0, .int .i64 0, .int .i64 0, .int .i64 0, .int .i64 0, .string ⟨#[]⟩]) ?_ rfl ⟨by rw [atB_2 HF.out]; rfl, BF.out⟩
    rw [results_cell_one Tryz.results28]
    simp [asAddr, Result.andThen, LD.out]
  · clear h4
    have c0 : w1.cell? ⟨g, 0, none⟩ = some (.int .i64 3) := K1.out
    have Z2 := Lib.hid (show BK 52 ((((((w1.setCell ⟨z, 18, none⟩ (.int .i64 x.o)).setCell ⟨z, 19, none⟩ (.int .i64 x.d)).setCell ⟨z, 20, none⟩ (.int .i64 x.a)).setCell ⟨z, 21, none⟩ (.int .i64 x.b)).setCell ⟨z, 22, none⟩ (.int .i64 x.m)).setCell ⟨z, 23, none⟩ (.string ByteArray.empty)).drew z #[.int .i64 0, .int .i64 0, .int .i64 0, .int .i64 0, .int .i64 0, .string ⟨#[]⟩, .int .i64 0, .int .i64 0, .int .i64 0, .int .i64 0, .int .i64 0, .string ⟨#[]⟩, .int .i64 0, .int .i64 0, .int .i64 0, .int .i64 0, .int .i64 0, .string ⟨#[]⟩, .int .i64 x.o, .int .i64 x.d, .int .i64 x.a, .int .i64 x.b, .int .i64 x.m, .string ByteArray.empty] from BKdrew (setI_bk Z1.out 18 x))
    have GB := Lib.hid (show w1.grownBy ((((((w1.setCell ⟨z, 18, none⟩ (.int .i64 x.o)).setCell ⟨z, 19, none⟩ (.int .i64 x.d)).setCell ⟨z, 20, none⟩ (.int .i64 x.a)).setCell ⟨z, 21, none⟩ (.int .i64 x.b)).setCell ⟨z, 22, none⟩ (.int .i64 x.m)).setCell ⟨z, 23, none⟩ (.string ByteArray.empty)).drew (some z) from gb_trans (setI_gb w1 z 18 x) (gb_drew _ _))
    have z0 : w1.cell? ⟨z, 18, none⟩ = some (.int .i64 0) := Z1.out.cell 18
    have f0 : w1.frozen? ⟨z, 18, none⟩ = false := Z1.out.frozen 18
    have z1 : w1.cell? ⟨z, 19, none⟩ = some (.int .i64 0) := Z1.out.cell 19
    have f1 : w1.frozen? ⟨z, 19, none⟩ = false := Z1.out.frozen 19
    have z2 : w1.cell? ⟨z, 20, none⟩ = some (.int .i64 0) := Z1.out.cell 20
    have f2 : w1.frozen? ⟨z, 20, none⟩ = false := Z1.out.frozen 20
    have z3 : w1.cell? ⟨z, 21, none⟩ = some (.int .i64 0) := Z1.out.cell 21
    have f3 : w1.frozen? ⟨z, 21, none⟩ = false := Z1.out.frozen 21
    have z4 : w1.cell? ⟨z, 22, none⟩ = some (.int .i64 0) := Z1.out.cell 22
    have f4 : w1.frozen? ⟨z, 22, none⟩ = false := Z1.out.frozen 22
    have z5 : w1.cell? ⟨z, 23, none⟩ = some (.string ⟨#[]⟩) := Z1.out.cell 23
    have f5 : w1.frozen? ⟨z, 23, none⟩ = false := Z1.out.frozen 23
    go_wp2_with fail
    go_region_held3 (fun wq => wq.cell? ⟨w.heap.size, 0, none⟩ = some (.int .i64 x.o) ∧ wq.cell? ⟨w.heap.size, 1, none⟩ = some (.int .i64 x.d) ∧ wq.cell? ⟨w.heap.size, 2, none⟩ = some (.int .i64 x.a) ∧ wq.cell? ⟨w.heap.size, 3, none⟩ = some (.int .i64 x.b) ∧ wq.cell? ⟨w.heap.size, 4, none⟩ = some (.int .i64 x.m) ∧ wq.cell? ⟨w.heap.size, 5, none⟩ = some (.string ByteArray.empty) ∧ wq.cell? ⟨g, 0, none⟩ = some (.int .i64 3)) (go_keep) (fail)
    generalize ((((((w1.setCell ⟨z, 18, none⟩ (.int .i64 x.o)).setCell ⟨z, 19, none⟩ (.int .i64 x.d)).setCell ⟨z, 20, none⟩ (.int .i64 x.a)).setCell ⟨z, 21, none⟩ (.int .i64 x.b)).setCell ⟨z, 22, none⟩ (.int .i64 x.m)).setCell ⟨z, 23, none⟩ (.string ByteArray.empty)).drew = W2 at Z2 GB ⊢
    have R2 := Lib.hid (R1.out.grown GB.out (by intro h; injection h with h; exact zr h.symm))
    have G2 := Lib.hid (G1.out.trans (gb_below (B := w.heap.size) GB.out zw1 (by omega)))
    clear ‹_ ∧ _›
    clear GB Z1 X1 R1 G1 c0 q0 q1 q2 q3 q4 q5 K1 z0 z1 z2 z3 z4 z5 f0 f1 f2 f3 f4 f5
    go_wp2_with (first | ((with_reducible refine wpList_load_bl (op := ⟨some 13, .load 52 _, _, _, _, none⟩) rfl _ rfl z #[.int .i64 0, .int .i64 0, .int .i64 0, .int .i64 0, .int .i64 0, .string ⟨#[]⟩, .int .i64 0, .int .i64 0, .int .i64 0, .int .i64 0, .int .i64 0, .string ⟨#[]⟩, .int .i64 0, .int .i64 0, .int .i64 0, .int .i64 0, .int .i64 0, .string ⟨#[]⟩, .int .i64 x.o, .int .i64 x.d, .int .i64 x.a, .int .i64 x.b, .int .i64 x.m, .string ByteArray.empty] ?lx ?lb rfl ?_); (case lx => rfl); (case lb => exact Z2.out)) | ((with_reducible refine wpList_store_bl (op := ⟨none, .store 52 _ _, _, _, _, none⟩) rfl _ _ rfl (w.heap.size + 1) ZB #[.int .i64 0, .int .i64 0, .int .i64 0, .int .i64 0, .int .i64 0, .string ⟨#[]⟩, .int .i64 0, .int .i64 0, .int .i64 0, .int .i64 0, .int .i64 0, .string ⟨#[]⟩, .int .i64 0, .int .i64 0, .int .i64 0, .int .i64 0, .int .i64 0, .string ⟨#[]⟩, .int .i64 x.o, .int .i64 x.d, .int .i64 x.a, .int .i64 x.b, .int .i64 x.m, .string ByteArray.empty] ?sx ?sy ?sb ?s1 ?s2 ?s3 ?_); (case sx => rfl); (case sy => rfl); (case sb => exact R2.out); (case s1 => rfl); (case s2 => rfl); (case s3 => kernel_rfl)))
    intro W3 hbl hg3 hsz
    have LD := Lib.hid (hbl.load rfl)
    have BF := Lib.hid (G2.out.trans (gb_below (B := w.heap.size) hg3 (by omega) (by have := G2.out.size; omega)))
    clear hbl hg3 hsz
    go_wp2_with fail
    refine bodyPost_ret (v := .agg #[.int .i64 0, .int .i64 0, .int .i64 0, .int .i64 0, .int .i64 0, .string ⟨#[]⟩, .int .i64 0, .int .i64 0, .int .i64 0, .int .i64 0, .int .i64 0, .string ⟨#[]⟩, .int .i64 0, .int .i64 0, .int .i64 0, .int .i64 0, .int .i64 0, .string ⟨#[]⟩, .int .i64 x.o, .int .i64 x.d, .int .i64 x.a, .int .i64 x.b, .int .i64 x.m, .string ByteArray.empty]) ?_ rfl ⟨by rw [atB_3 HF.out]; rfl, BF.out⟩
    rw [results_cell_one Tryz.results28]
    simp [asAddr, Result.andThen, LD.out]

def AddsPost (op m : Int) (w : World) (e : Ending) (w' : World) : Prop := e = .returned (.agg #[.int .i64 op, .int .i64 1, .int .i64 1, .int .i64 0, .int .i64 m, .string ⟨#[]⟩]) ∧ Below w.heap.size w w'
theorem Tryz.size49 : (Tryz.prog.info? 49).map (·.size) = some 6 := by kernel_rfl
theorem Tryz.results27 : Tryz.f27.results = #[.cell 4 49] := by kernel_rfl
theorem adds_any (op m : Int) (w : World) : Calls Tryz.prog 27 #[.int .i64 op, .int .i64 m] w (AddsPost op m w) := by
  go_enter Tryz.func27, Tryz.ntmps27
  go_wp2_with fail
  have LD := Lib.hid ((show BK 49 (w.alloc (.cells #[.int .i64 op, .int .i64 1, .int .i64 1, .int .i64 0, .int .i64 m, .string ⟨#[]⟩] 49)) w.heap.size _ from heap_alloc_new w _).load Tryz.underlying49 Tryz.size49 rfl)
  refine bodyPost_ret (v := .agg #[.int .i64 op, .int .i64 1, .int .i64 1, .int .i64 0, .int .i64 m, .string ⟨#[]⟩]) ?_ rfl ⟨rfl, below_new w _⟩
  rw [results_cell_one Tryz.results27]
  simp [asAddr, Result.andThen, LD.out]
end Go.Proofs.YtnkadjejdppanaaGreatDoor
