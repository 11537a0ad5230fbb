/-
  PipeStops: the walk: where a slot stops, the ones ahead of it have done theirs, in the program and on the page the same. Conditions: the tables lie in the world; the argument reads as a script.
-/
import Derived.Test.YtnkadjejdppanaaGreatDoorAt
import Derived.Test.YtnkadjejdppanaaGreatDoorShell
import Derived.Deep.LoopGhost
namespace Go.Proofs.YtnkadjejdppanaaGreatDoor
open Go.RowKit

theorem addro (g o j : Nat) : (⟨g, o, none⟩ : Addr).add j = ⟨g, o + j, none⟩ := by unfold Addr.add; split <;> simp_all
/-- Code in a row, from a place on. -/
theorem rdc_from {w : World} {g n c o : Nat} {cs : Array Value} {C : List (List In5)} (hb : w.heap[g]? = some (.cells cs 52 (0, 0))) (hn : C.length = n) (pre : List Value) (h : cs.toList = pre ++ flatB C) (ho : pre.length = o) : RdC w (.slice (some ⟨g, o, none⟩) n c) C := by
  refine ⟨_, c, by rw [hn], fun i hi => ⟨_, rfl, lt_of_heap hb, fun j u hu => ?_⟩⟩
  have hj : j < 24 := (Array.getElem?_eq_some_iff.1 hu).1
  rw [addro, addro, cell_of_row w g _ cs _ (0, 0) hb, ← Array.getElem?_toList, h, ← ho, List.getElem?_append_right (by omega), show pre.length + i * 24 + j - pre.length = i * 24 + j by omega, flatB_at C i j hi hj]
  exact hu
def cOk (C : List (List In5)) : Bool := (decide (C.length ≤ 1024) && C.all fun b => decide (b.length = 4) && b.all viB) && cdB (C.map bX)
theorem cok_vcc {C : List (List In5)} (h : cOk C = true) : Vcc C := by
  unfold cOk at h
  rw [Bool.and_eq_true] at h
  exact vcc_of h.1 h.2
/-- The bundle that stops. -/
def sB : Nat → List In5
  | 0 => [⟨32, 0, 0, 0, 0⟩, ⟨23, 6, 0, 0, 8⟩, ⟨27, 0, 1, 0, 0⟩, ⟨14, 7, 1, 1, 0⟩]
  | 1 => [⟨23, 5, 0, 0, 9⟩, ⟨23, 6, 0, 0, 8⟩, ⟨24, 8, 9, 0, -1⟩, ⟨14, 7, 1, 1, 0⟩]
  | 2 => [⟨23, 5, 0, 0, 9⟩, ⟨23, 6, 0, 0, 8⟩, ⟨27, 0, 1, 0, 0⟩, ⟨16, 8, 1, 9, 0⟩]
  | 3 => [⟨33, 0, 0, 0, 0⟩, ⟨23, 6, 0, 0, 8⟩, ⟨27, 0, 1, 0, 0⟩, ⟨14, 7, 1, 1, 0⟩]
  | 4 => [⟨28, 0, 0, 0, 0⟩, ⟨23, 6, 0, 0, 8⟩, ⟨25, 0, 9, 1, -1⟩, ⟨14, 7, 1, 1, 0⟩]
  | 5 => [⟨31, 0, 0, 0, 0⟩, ⟨23, 6, 0, 0, 8⟩, ⟨27, 0, 1, 0, 0⟩, ⟨17, 8, 1, 9, 0⟩]
  | _ => [⟨23, 5, 0, 0, 9⟩, ⟨23, 6, 0, 0, 8⟩, ⟨27, 0, 1, 0, 0⟩, ⟨14, 7, 1, 1, 0⟩]
/-- The code. -/
def sC (k : Nat) (e : Int) : List (List In5) := [[⟨23, 1, 0, 0, 4 + e⟩, zw, zw, ⟨14, 2, 0, 0, 0⟩], sB k, [⟨23, 5, 0, 0, 9⟩, zw, zw, zw]]
theorem s_ok : ∀ e : Fin 100, ∀ k : Fin 8, cOk (sC k.1 e.1) = true := by decide +kernel
theorem s_vcc {k : Nat} {e : Int} (hk : k < 8) (h0 : 0 ≤ e) (h1 : e < 100) : Vcc (sC k e) := by
  have h := s_ok ⟨e.toNat, by omega⟩ ⟨k, hk⟩
  simp only [show ((e.toNat : Nat) : Int) = e by omega] at h
  exact cok_vcc h
set_option maxRecDepth 40000 in
set_option maxHeartbeats 8000000 in
theorem pipeStops_walk (v : Value) (w : World) (T : Tab w) (H : Asked v) : Calls Tryz.prog 6 #[v] w (BoolBelow true w) := by
  obtain ⟨A0, A1, A2, A3, A4, A5, A6, A8, n0, c0, n1, c1, n2, c2, n3, c3, n4, c4, n5, c5, n6, c6, n8, c8, tk, pc, stop, j, d, rfl, b8⟩ := H
  have TT := Lib.hid T
  have n80 : (0 : Int) ≤ (n8 : Int) := by omega
  have n81 : (n8 : Int) ≤ 1125899906842624 := by omega
  clear T b8
  have X0 := Lib.hid (show BK 29 ((w.alloc (.cells #[.slice A0 n0 c0, .slice A1 n1 c1, .slice A2 n2 c2, .slice A3 n3 c3, .int .i64 tk, .slice A4 n4 c4, .int .i64 pc, .slice A5 n5 c5, .int .i64 stop, .slice A6 n6 c6, .int .i64 j, .int .i64 d, .slice A8 n8 c8] 29)).alloc (.cells #[.int .i64 23, .int .i64 5, .int .i64 0, .int .i64 0, .int .i64 9, .string ⟨#[]⟩] 49)) w.heap.size #[.slice A0 n0 c0, .slice A1 n1 c1, .slice A2 n2 c2, .slice A3 n3 c3, .int .i64 tk, .slice A4 n4 c4, .int .i64 pc, .slice A5 n5 c5, .int .i64 stop, .slice A6 n6 c6, .int .i64 j, .int .i64 d, .slice A8 n8 c8] from BK.alloc (heap_alloc_new w _) _)
  have L0 := Lib.hid (show BK 49 ((w.alloc (.cells #[.slice A0 n0 c0, .slice A1 n1 c1, .slice A2 n2 c2, .slice A3 n3 c3, .int .i64 tk, .slice A4 n4 c4, .int .i64 pc, .slice A5 n5 c5, .int .i64 stop, .slice A6 n6 c6, .int .i64 j, .int .i64 d, .slice A8 n8 c8] 29)).alloc (.cells #[.int .i64 23, .int .i64 5, .int .i64 0, .int .i64 0, .int .i64 9, .string ⟨#[]⟩] 49)) (w.heap.size + 1) #[.int .i64 23, .int .i64 5, .int .i64 0, .int .i64 0, .int .i64 9, .string ⟨#[]⟩] from BK.new (by simp))
  have G0 := Lib.hid (below_two w (.cells #[.slice A0 n0 c0, .slice A1 n1 c1, .slice A2 n2 c2, .slice A3 n3 c3, .int .i64 tk, .slice A4 n4 c4, .int .i64 pc, .slice A5 n5 c5, .int .i64 stop, .slice A6 n6 c6, .int .i64 j, .int .i64 d, .slice A8 n8 c8] 29) (.cells #[.int .i64 23, .int .i64 5, .int .i64 0, .int .i64 0, .int .i64 9, .string ⟨#[]⟩] 49))
  go_enter Tryz.func6, Tryz.ntmps6
  go_wp2_with fail
  go_loopg [4] 8 (fun gk o wr2 => ∃ i : Nat, i ≤ 8 ∧ gk = 8 - i ∧ o = .int .i64 i ∧ Below w.heap.size w wr2 ∧ BK 29 wr2 w.heap.size #[.slice A0 n0 c0, .slice A1 n1 c1, .slice A2 n2 c2, .slice A3 n3 c3, .int .i64 tk, .slice A4 n4 c4, .int .i64 pc, .slice A5 n5 c5, .int .i64 stop, .slice A6 n6 c6, .int .i64 j, .int .i64 d, .slice A8 n8 c8] ∧ BK 49 wr2 (w.heap.size + 1) #[.int .i64 23, .int .i64 5, .int .i64 0, .int .i64 0, .int .i64 9, .string ⟨#[]⟩])
  case atStart => exact ⟨0, by omega, rfl, rfl, G0.out, X0.out, L0.out⟩
  case round =>
    obtain ⟨i, hi, rfl, rfl, hb, hk, hl⟩ := hrel
    have HB := Lib.hid hb
    have XX := Lib.hid hk
    have LL := Lib.hid hl
    clear hb hk hl X0 L0 G0
    by_cases hlt : i < 8
    · clear hi
      obtain rfl | rfl | rfl | rfl | rfl | rfl | rfl | rfl : i = 0 ∨ i = 1 ∨ i = 2 ∨ i = 3 ∨ i = 4 ∨ i = 5 ∨ i = 6 ∨ i = 7 := by omega
      all_goals clear hlt
      · skip
        have m0 : wr.cell? ⟨w.heap.size + 1, 0, none⟩ = some (.int .i64 23) := LL.out.cell 0
        have m1 : wr.cell? ⟨w.heap.size + 1, 1, none⟩ = some (.int .i64 5) := LL.out.cell 1
        have m2 : wr.cell? ⟨w.heap.size + 1, 2, none⟩ = some (.int .i64 0) := LL.out.cell 2
        have m3 : wr.cell? ⟨w.heap.size + 1, 3, none⟩ = some (.int .i64 0) := LL.out.cell 3
        have m4 : wr.cell? ⟨w.heap.size + 1, 4, none⟩ = some (.int .i64 9) := LL.out.cell 4
        have m5 : wr.cell? ⟨w.heap.size + 1, 5, none⟩ = some (.string ⟨#[]⟩) := LL.out.cell 5
        go_wp2_with (first | ((with_reducible refine wpList_buildTo (o := ⟨some 15, .build 52 _, _, _, _, none⟩) rfl 52 _ rfl (some 15) rfl #[.int .i64 23, .int .i64 5, .int .i64 0, .int .i64 0, .int .i64 9, .string ⟨#[]⟩, .int .i64 23, .int .i64 6, .int .i64 0, .int .i64 0, .int .i64 8, .string ⟨#[]⟩, .int .i64 27, .int .i64 0, .int .i64 1, .int .i64 0, .int .i64 0, .string ⟨#[]⟩, .int .i64 14, .int .i64 7, .int .i64 1, .int .i64 1, .int .i64 0, .string ⟨#[]⟩] ?bf ?_); (case bf => kernel_rfl)) | ((with_reducible refine wpList_store_bl (op := ⟨none, .store 52 _ _, _, _, _, none⟩) rfl _ _ rfl wr.heap.size ZB #[.int .i64 23, .int .i64 5, .int .i64 0, .int .i64 0, .int .i64 9, .string ⟨#[]⟩, .int .i64 23, .int .i64 6, .int .i64 0, .int .i64 0, .int .i64 8, .string ⟨#[]⟩, .int .i64 27, .int .i64 0, .int .i64 1, .int .i64 0, .int .i64 0, .string ⟨#[]⟩, .int .i64 14, .int .i64 7, .int .i64 1, .int .i64 1, .int .i64 0, .string ⟨#[]⟩] ?sx ?sy ?sb ?s1 ?s2 ?s3 ?_); (case sx => rfl); (case sy => rfl); (case sb => exact heap_alloc_new _ _); (case s1 => rfl); (case s2 => rfl); (case s3 => kernel_rfl)))
        intro w2 hbl hg hsz
        have Y0 := Lib.hid (show BK 52 w2 wr.heap.size #[.int .i64 23, .int .i64 5, .int .i64 0, .int .i64 0, .int .i64 9, .string ⟨#[]⟩, .int .i64 23, .int .i64 6, .int .i64 0, .int .i64 0, .int .i64 8, .string ⟨#[]⟩, .int .i64 27, .int .i64 0, .int .i64 1, .int .i64 0, .int .i64 0, .string ⟨#[]⟩, .int .i64 14, .int .i64 7, .int .i64 1, .int .i64 1, .int .i64 0, .string ⟨#[]⟩] from hbl)
        have M0 := Lib.hid ((below_new wr (.cells ZB 52)).grown hg (by simp) (by intro k hk; cases hk; omega))
        have zw0 : w.heap.size + 1 < wr.heap.size := LL.out.lt
        clear hbl hg hsz m0 m1 m2 m3 m4 m5
        generalize hzz : wr.heap.size = z at Y0 ⊢
        have ZZ := Lib.hid hzz
        clear hzz
        have p00 : w2.cell? ⟨z, 0, none⟩ = some (.int .i64 23) := Y0.out.cell 0
        have r00 := Y0.out.frozen 0
        have p01 : w2.cell? ⟨z, 1, none⟩ = some (.int .i64 5) := Y0.out.cell 1
        have r01 := Y0.out.frozen 1
        have p02 : w2.cell? ⟨z, 2, none⟩ = some (.int .i64 0) := Y0.out.cell 2
        have r02 := Y0.out.frozen 2
        have p03 : w2.cell? ⟨z, 3, none⟩ = some (.int .i64 0) := Y0.out.cell 3
        have r03 := Y0.out.frozen 3
        have p04 : w2.cell? ⟨z, 4, none⟩ = some (.int .i64 9) := Y0.out.cell 4
        have r04 := Y0.out.frozen 4
        have p05 : w2.cell? ⟨z, 5, none⟩ = some (.string ⟨#[]⟩) := Y0.out.cell 5
        have r05 := Y0.out.frozen 5
        have Y1 := Lib.hid (show BK 52 ((((((w2.setCell ⟨z, 0, none⟩ (.int .i64 32)).setCell ⟨z, 1, none⟩ (.int .i64 0)).setCell ⟨z, 2, none⟩ (.int .i64 0)).setCell ⟨z, 3, none⟩ (.int .i64 0)).setCell ⟨z, 4, none⟩ (.int .i64 0)).setCell ⟨z, 5, none⟩ (.string ⟨#[]⟩)) z #[.int .i64 32, .int .i64 0, .int .i64 0, .int .i64 0, .int .i64 0, .string ⟨#[]⟩, .int .i64 23, .int .i64 6, .int .i64 0, .int .i64 0, .int .i64 8, .string ⟨#[]⟩, .int .i64 27, .int .i64 0, .int .i64 1, .int .i64 0, .int .i64 0, .string ⟨#[]⟩, .int .i64 14, .int .i64 7, .int .i64 1, .int .i64 1, .int .i64 0, .string ⟨#[]⟩] from (setI_bk Y0.out 0 ⟨32, 0, 0, 0, 0⟩))
        have GB := Lib.hid (show w2.grownBy ((((((w2.setCell ⟨z, 0, none⟩ (.int .i64 32)).setCell ⟨z, 1, none⟩ (.int .i64 0)).setCell ⟨z, 2, none⟩ (.int .i64 0)).setCell ⟨z, 3, none⟩ (.int .i64 0)).setCell ⟨z, 4, none⟩ (.int .i64 0)).setCell ⟨z, 5, none⟩ (.string ⟨#[]⟩)) (some z) from (setI_gb w2 z 0 ⟨32, 0, 0, 0, 0⟩))
        go_upto_region 19 with (fail)
        generalize ((((((w2.setCell ⟨z, 0, none⟩ (.int .i64 32)).setCell ⟨z, 1, none⟩ (.int .i64 0)).setCell ⟨z, 2, none⟩ (.int .i64 0)).setCell ⟨z, 3, none⟩ (.int .i64 0)).setCell ⟨z, 4, none⟩ (.int .i64 0)).setCell ⟨z, 5, none⟩ (.string ⟨#[]⟩)) = W4 at Y1 GB ⊢
        have M1 := Lib.hid (show Below wr.heap.size wr W4 from M0.out.trans (gb_below GB.out (by have := ZZ.out; omega) M0.out.size))
        clear p00 r00 p01 r01 p02 r02 p03 r03 p04 r04 p05 r05
        have x12 : W4.cell? ⟨w.heap.size, 12, none⟩ = some (.slice A8 n8 c8) := (M1.out.cell (p := ⟨w.heap.size, 12, none⟩) XX.out.lt).trans (XX.out.cell 12)
        have l0 : W4.cell? ⟨w.heap.size + 1, 0, none⟩ = some (.int .i64 23) := (M1.out.cell (p := ⟨w.heap.size + 1, 0, none⟩) LL.out.lt).trans (LL.out.cell 0)
        have l1 : W4.cell? ⟨w.heap.size + 1, 1, none⟩ = some (.int .i64 5) := (M1.out.cell (p := ⟨w.heap.size + 1, 1, none⟩) LL.out.lt).trans (LL.out.cell 1)
        have l2 : W4.cell? ⟨w.heap.size + 1, 2, none⟩ = some (.int .i64 0) := (M1.out.cell (p := ⟨w.heap.size + 1, 2, none⟩) LL.out.lt).trans (LL.out.cell 2)
        have l3 : W4.cell? ⟨w.heap.size + 1, 3, none⟩ = some (.int .i64 0) := (M1.out.cell (p := ⟨w.heap.size + 1, 3, none⟩) LL.out.lt).trans (LL.out.cell 3)
        have l4 : W4.cell? ⟨w.heap.size + 1, 4, none⟩ = some (.int .i64 9) := (M1.out.cell (p := ⟨w.heap.size + 1, 4, none⟩) LL.out.lt).trans (LL.out.cell 4)
        have l5 : W4.cell? ⟨w.heap.size + 1, 5, none⟩ = some (.string ⟨#[]⟩) := (M1.out.cell (p := ⟨w.heap.size + 1, 5, none⟩) LL.out.lt).trans (LL.out.cell 5)
        go_wp2_with ((with_reducible refine wpList_load_bl (op := ⟨some 55, .load 52 _, _, _, _, none⟩) rfl _ rfl z #[.int .i64 32, .int .i64 0, .int .i64 0, .int .i64 0, .int .i64 0, .string ⟨#[]⟩, .int .i64 23, .int .i64 6, .int .i64 0, .int .i64 0, .int .i64 8, .string ⟨#[]⟩, .int .i64 27, .int .i64 0, .int .i64 1, .int .i64 0, .int .i64 0, .string ⟨#[]⟩, .int .i64 14, .int .i64 7, .int .i64 1, .int .i64 1, .int .i64 0, .string ⟨#[]⟩] ?lx ?lb rfl ?_); (case lx => rfl); (case lb => exact Y1.out))
        refine (runs_any _ _ (sC 0 ((n8 : Int) % 100)) [] _ (rdc_from (heap_alloc_new _ _) rfl [] rfl rfl) (s_vcc (by omega) (by omega) (by omega)) (rd_nil _) (by decide) (by simp) ((TT.out.below (HB.out.trans (M1.out.mono HB.out.size))).alloc _)).mono ?_
        rintro en w4 ⟨rfl, b4⟩
        have M4 := Lib.hid (M1.out.trans (((below_new _ _).trans (b4.mono (by simp))).mono M1.out.size))
        clear b4
        go_wp2_with fail
        go_roundg (8 - (0 + 1))
        case measure => omega
        case rel => exact ⟨0 + 1, by omega, rfl, by go_num, HB.out.trans (M4.out.mono HB.out.size), XX.out.below M4.out, LL.out.below M4.out⟩
      · skip
        have m0 : wr.cell? ⟨w.heap.size + 1, 0, none⟩ = some (.int .i64 23) := LL.out.cell 0
        have m1 : wr.cell? ⟨w.heap.size + 1, 1, none⟩ = some (.int .i64 5) := LL.out.cell 1
        have m2 : wr.cell? ⟨w.heap.size + 1, 2, none⟩ = some (.int .i64 0) := LL.out.cell 2
        have m3 : wr.cell? ⟨w.heap.size + 1, 3, none⟩ = some (.int .i64 0) := LL.out.cell 3
        have m4 : wr.cell? ⟨w.heap.size + 1, 4, none⟩ = some (.int .i64 9) := LL.out.cell 4
        have m5 : wr.cell? ⟨w.heap.size + 1, 5, none⟩ = some (.string ⟨#[]⟩) := LL.out.cell 5
        go_wp2_with (first | ((with_reducible refine wpList_buildTo (o := ⟨some 15, .build 52 _, _, _, _, none⟩) rfl 52 _ rfl (some 15) rfl #[.int .i64 23, .int .i64 5, .int .i64 0, .int .i64 0, .int .i64 9, .string ⟨#[]⟩, .int .i64 23, .int .i64 6, .int .i64 0, .int .i64 0, .int .i64 8, .string ⟨#[]⟩, .int .i64 27, .int .i64 0, .int .i64 1, .int .i64 0, .int .i64 0, .string ⟨#[]⟩, .int .i64 14, .int .i64 7, .int .i64 1, .int .i64 1, .int .i64 0, .string ⟨#[]⟩] ?bf ?_); (case bf => kernel_rfl)) | ((with_reducible refine wpList_store_bl (op := ⟨none, .store 52 _ _, _, _, _, none⟩) rfl _ _ rfl wr.heap.size ZB #[.int .i64 23, .int .i64 5, .int .i64 0, .int .i64 0, .int .i64 9, .string ⟨#[]⟩, .int .i64 23, .int .i64 6, .int .i64 0, .int .i64 0, .int .i64 8, .string ⟨#[]⟩, .int .i64 27, .int .i64 0, .int .i64 1, .int .i64 0, .int .i64 0, .string ⟨#[]⟩, .int .i64 14, .int .i64 7, .int .i64 1, .int .i64 1, .int .i64 0, .string ⟨#[]⟩] ?sx ?sy ?sb ?s1 ?s2 ?s3 ?_); (case sx => rfl); (case sy => rfl); (case sb => exact heap_alloc_new _ _); (case s1 => rfl); (case s2 => rfl); (case s3 => kernel_rfl)))
        intro w2 hbl hg hsz
        have Y0 := Lib.hid (show BK 52 w2 wr.heap.size #[.int .i64 23, .int .i64 5, .int .i64 0, .int .i64 0, .int .i64 9, .string ⟨#[]⟩, .int .i64 23, .int .i64 6, .int .i64 0, .int .i64 0, .int .i64 8, .string ⟨#[]⟩, .int .i64 27, .int .i64 0, .int .i64 1, .int .i64 0, .int .i64 0, .string ⟨#[]⟩, .int .i64 14, .int .i64 7, .int .i64 1, .int .i64 1, .int .i64 0, .string ⟨#[]⟩] from hbl)
        have M0 := Lib.hid ((below_new wr (.cells ZB 52)).grown hg (by simp) (by intro k hk; cases hk; omega))
        have zw0 : w.heap.size + 1 < wr.heap.size := LL.out.lt
        clear hbl hg hsz m0 m1 m2 m3 m4 m5
        generalize hzz : wr.heap.size = z at Y0 ⊢
        have ZZ := Lib.hid hzz
        clear hzz
        have p00 : w2.cell? ⟨z, 12, none⟩ = some (.int .i64 27) := Y0.out.cell 12
        have r00 := Y0.out.frozen 12
        have p01 : w2.cell? ⟨z, 13, none⟩ = some (.int .i64 0) := Y0.out.cell 13
        have r01 := Y0.out.frozen 13
        have p02 : w2.cell? ⟨z, 14, none⟩ = some (.int .i64 1) := Y0.out.cell 14
        have r02 := Y0.out.frozen 14
        have p03 : w2.cell? ⟨z, 15, none⟩ = some (.int .i64 0) := Y0.out.cell 15
        have r03 := Y0.out.frozen 15
        have p04 : w2.cell? ⟨z, 16, none⟩ = some (.int .i64 0) := Y0.out.cell 16
        have r04 := Y0.out.frozen 16
        have p05 : w2.cell? ⟨z, 17, none⟩ = some (.string ⟨#[]⟩) := Y0.out.cell 17
        have r05 := Y0.out.frozen 17
        have Y1 := Lib.hid (show BK 52 ((((((w2.setCell ⟨z, 12, none⟩ (.int .i64 24)).setCell ⟨z, 13, none⟩ (.int .i64 8)).setCell ⟨z, 14, none⟩ (.int .i64 9)).setCell ⟨z, 15, none⟩ (.int .i64 0)).setCell ⟨z, 16, none⟩ (.int .i64 (-1))).setCell ⟨z, 17, none⟩ (.string ⟨#[]⟩)) z #[.int .i64 23, .int .i64 5, .int .i64 0, .int .i64 0, .int .i64 9, .string ⟨#[]⟩, .int .i64 23, .int .i64 6, .int .i64 0, .int .i64 0, .int .i64 8, .string ⟨#[]⟩, .int .i64 24, .int .i64 8, .int .i64 9, .int .i64 0, .int .i64 (-1), .string ⟨#[]⟩, .int .i64 14, .int .i64 7, .int .i64 1, .int .i64 1, .int .i64 0, .string ⟨#[]⟩] from (setI_bk Y0.out 12 ⟨24, 8, 9, 0, -1⟩))
        have GB := Lib.hid (show w2.grownBy ((((((w2.setCell ⟨z, 12, none⟩ (.int .i64 24)).setCell ⟨z, 13, none⟩ (.int .i64 8)).setCell ⟨z, 14, none⟩ (.int .i64 9)).setCell ⟨z, 15, none⟩ (.int .i64 0)).setCell ⟨z, 16, none⟩ (.int .i64 (-1))).setCell ⟨z, 17, none⟩ (.string ⟨#[]⟩)) (some z) from (setI_gb w2 z 12 ⟨24, 8, 9, 0, -1⟩))
        go_upto_region 19 with (fail)
        generalize ((((((w2.setCell ⟨z, 12, none⟩ (.int .i64 24)).setCell ⟨z, 13, none⟩ (.int .i64 8)).setCell ⟨z, 14, none⟩ (.int .i64 9)).setCell ⟨z, 15, none⟩ (.int .i64 0)).setCell ⟨z, 16, none⟩ (.int .i64 (-1))).setCell ⟨z, 17, none⟩ (.string ⟨#[]⟩)) = W4 at Y1 GB ⊢
        have M1 := Lib.hid (show Below wr.heap.size wr W4 from M0.out.trans (gb_below GB.out (by have := ZZ.out; omega) M0.out.size))
        clear p00 r00 p01 r01 p02 r02 p03 r03 p04 r04 p05 r05
        have x12 : W4.cell? ⟨w.heap.size, 12, none⟩ = some (.slice A8 n8 c8) := (M1.out.cell (p := ⟨w.heap.size, 12, none⟩) XX.out.lt).trans (XX.out.cell 12)
        have l0 : W4.cell? ⟨w.heap.size + 1, 0, none⟩ = some (.int .i64 23) := (M1.out.cell (p := ⟨w.heap.size + 1, 0, none⟩) LL.out.lt).trans (LL.out.cell 0)
        have l1 : W4.cell? ⟨w.heap.size + 1, 1, none⟩ = some (.int .i64 5) := (M1.out.cell (p := ⟨w.heap.size + 1, 1, none⟩) LL.out.lt).trans (LL.out.cell 1)
        have l2 : W4.cell? ⟨w.heap.size + 1, 2, none⟩ = some (.int .i64 0) := (M1.out.cell (p := ⟨w.heap.size + 1, 2, none⟩) LL.out.lt).trans (LL.out.cell 2)
        have l3 : W4.cell? ⟨w.heap.size + 1, 3, none⟩ = some (.int .i64 0) := (M1.out.cell (p := ⟨w.heap.size + 1, 3, none⟩) LL.out.lt).trans (LL.out.cell 3)
        have l4 : W4.cell? ⟨w.heap.size + 1, 4, none⟩ = some (.int .i64 9) := (M1.out.cell (p := ⟨w.heap.size + 1, 4, none⟩) LL.out.lt).trans (LL.out.cell 4)
        have l5 : W4.cell? ⟨w.heap.size + 1, 5, none⟩ = some (.string ⟨#[]⟩) := (M1.out.cell (p := ⟨w.heap.size + 1, 5, none⟩) LL.out.lt).trans (LL.out.cell 5)
        go_wp2_with ((with_reducible refine wpList_load_bl (op := ⟨some 55, .load 52 _, _, _, _, none⟩) rfl _ rfl z #[.int .i64 23, .int .i64 5, .int .i64 0, .int .i64 0, .int .i64 9, .string ⟨#[]⟩, .int .i64 23, .int .i64 6, .int .i64 0, .int .i64 0, .int .i64 8, .string ⟨#[]⟩, .int .i64 24, .int .i64 8, .int .i64 9, .int .i64 0, .int .i64 (-1), .string ⟨#[]⟩, .int .i64 14, .int .i64 7, .int .i64 1, .int .i64 1, .int .i64 0, .string ⟨#[]⟩] ?lx ?lb rfl ?_); (case lx => rfl); (case lb => exact Y1.out))
        refine (runs_any _ _ (sC 1 ((n8 : Int) % 100)) [] _ (rdc_from (heap_alloc_new _ _) rfl [] rfl rfl) (s_vcc (by omega) (by omega) (by omega)) (rd_nil _) (by decide) (by simp) ((TT.out.below (HB.out.trans (M1.out.mono HB.out.size))).alloc _)).mono ?_
        rintro en w4 ⟨rfl, b4⟩
        have M4 := Lib.hid (M1.out.trans (((below_new _ _).trans (b4.mono (by simp))).mono M1.out.size))
        clear b4
        go_wp2_with fail
        go_roundg (8 - (1 + 1))
        case measure => omega
        case rel => exact ⟨1 + 1, by omega, rfl, by go_num, HB.out.trans (M4.out.mono HB.out.size), XX.out.below M4.out, LL.out.below M4.out⟩
      · skip
        have m0 : wr.cell? ⟨w.heap.size + 1, 0, none⟩ = some (.int .i64 23) := LL.out.cell 0
        have m1 : wr.cell? ⟨w.heap.size + 1, 1, none⟩ = some (.int .i64 5) := LL.out.cell 1
        have m2 : wr.cell? ⟨w.heap.size + 1, 2, none⟩ = some (.int .i64 0) := LL.out.cell 2
        have m3 : wr.cell? ⟨w.heap.size + 1, 3, none⟩ = some (.int .i64 0) := LL.out.cell 3
        have m4 : wr.cell? ⟨w.heap.size + 1, 4, none⟩ = some (.int .i64 9) := LL.out.cell 4
        have m5 : wr.cell? ⟨w.heap.size + 1, 5, none⟩ = some (.string ⟨#[]⟩) := LL.out.cell 5
        go_wp2_with (first | ((with_reducible refine wpList_buildTo (o := ⟨some 15, .build 52 _, _, _, _, none⟩) rfl 52 _ rfl (some 15) rfl #[.int .i64 23, .int .i64 5, .int .i64 0, .int .i64 0, .int .i64 9, .string ⟨#[]⟩, .int .i64 23, .int .i64 6, .int .i64 0, .int .i64 0, .int .i64 8, .string ⟨#[]⟩, .int .i64 27, .int .i64 0, .int .i64 1, .int .i64 0, .int .i64 0, .string ⟨#[]⟩, .int .i64 14, .int .i64 7, .int .i64 1, .int .i64 1, .int .i64 0, .string ⟨#[]⟩] ?bf ?_); (case bf => kernel_rfl)) | ((with_reducible refine wpList_store_bl (op := ⟨none, .store 52 _ _, _, _, _, none⟩) rfl _ _ rfl wr.heap.size ZB #[.int .i64 23, .int .i64 5, .int .i64 0, .int .i64 0, .int .i64 9, .string ⟨#[]⟩, .int .i64 23, .int .i64 6, .int .i64 0, .int .i64 0, .int .i64 8, .string ⟨#[]⟩, .int .i64 27, .int .i64 0, .int .i64 1, .int .i64 0, .int .i64 0, .string ⟨#[]⟩, .int .i64 14, .int .i64 7, .int .i64 1, .int .i64 1, .int .i64 0, .string ⟨#[]⟩] ?sx ?sy ?sb ?s1 ?s2 ?s3 ?_); (case sx => rfl); (case sy => rfl); (case sb => exact heap_alloc_new _ _); (case s1 => rfl); (case s2 => rfl); (case s3 => kernel_rfl)))
        intro w2 hbl hg hsz
        have Y0 := Lib.hid (show BK 52 w2 wr.heap.size #[.int .i64 23, .int .i64 5, .int .i64 0, .int .i64 0, .int .i64 9, .string ⟨#[]⟩, .int .i64 23, .int .i64 6, .int .i64 0, .int .i64 0, .int .i64 8, .string ⟨#[]⟩, .int .i64 27, .int .i64 0, .int .i64 1, .int .i64 0, .int .i64 0, .string ⟨#[]⟩, .int .i64 14, .int .i64 7, .int .i64 1, .int .i64 1, .int .i64 0, .string ⟨#[]⟩] from hbl)
        have M0 := Lib.hid ((below_new wr (.cells ZB 52)).grown hg (by simp) (by intro k hk; cases hk; omega))
        have zw0 : w.heap.size + 1 < wr.heap.size := LL.out.lt
        clear hbl hg hsz m0 m1 m2 m3 m4 m5
        generalize hzz : wr.heap.size = z at Y0 ⊢
        have ZZ := Lib.hid hzz
        clear hzz
        have p00 : w2.cell? ⟨z, 18, none⟩ = some (.int .i64 14) := Y0.out.cell 18
        have r00 := Y0.out.frozen 18
        have p01 : w2.cell? ⟨z, 19, none⟩ = some (.int .i64 7) := Y0.out.cell 19
        have r01 := Y0.out.frozen 19
        have p02 : w2.cell? ⟨z, 20, none⟩ = some (.int .i64 1) := Y0.out.cell 20
        have r02 := Y0.out.frozen 20
        have p03 : w2.cell? ⟨z, 21, none⟩ = some (.int .i64 1) := Y0.out.cell 21
        have r03 := Y0.out.frozen 21
        have p04 : w2.cell? ⟨z, 22, none⟩ = some (.int .i64 0) := Y0.out.cell 22
        have r04 := Y0.out.frozen 22
        have p05 : w2.cell? ⟨z, 23, none⟩ = some (.string ⟨#[]⟩) := Y0.out.cell 23
        have r05 := Y0.out.frozen 23
        have Y1 := Lib.hid (show BK 52 ((((((w2.setCell ⟨z, 18, none⟩ (.int .i64 16)).setCell ⟨z, 19, none⟩ (.int .i64 8)).setCell ⟨z, 20, none⟩ (.int .i64 1)).setCell ⟨z, 21, none⟩ (.int .i64 9)).setCell ⟨z, 22, none⟩ (.int .i64 0)).setCell ⟨z, 23, none⟩ (.string ⟨#[]⟩)) z #[.int .i64 23, .int .i64 5, .int .i64 0, .int .i64 0, .int .i64 9, .string ⟨#[]⟩, .int .i64 23, .int .i64 6, .int .i64 0, .int .i64 0, .int .i64 8, .string ⟨#[]⟩, .int .i64 27, .int .i64 0, .int .i64 1, .int .i64 0, .int .i64 0, .string ⟨#[]⟩, .int .i64 16, .int .i64 8, .int .i64 1, .int .i64 9, .int .i64 0, .string ⟨#[]⟩] from (setI_bk Y0.out 18 ⟨16, 8, 1, 9, 0⟩))
        have GB := Lib.hid (show w2.grownBy ((((((w2.setCell ⟨z, 18, none⟩ (.int .i64 16)).setCell ⟨z, 19, none⟩ (.int .i64 8)).setCell ⟨z, 20, none⟩ (.int .i64 1)).setCell ⟨z, 21, none⟩ (.int .i64 9)).setCell ⟨z, 22, none⟩ (.int .i64 0)).setCell ⟨z, 23, none⟩ (.string ⟨#[]⟩)) (some z) from (setI_gb w2 z 18 ⟨16, 8, 1, 9, 0⟩))
        go_upto_region 19 with (fail)
        generalize ((((((w2.setCell ⟨z, 18, none⟩ (.int .i64 16)).setCell ⟨z, 19, none⟩ (.int .i64 8)).setCell ⟨z, 20, none⟩ (.int .i64 1)).setCell ⟨z, 21, none⟩ (.int .i64 9)).setCell ⟨z, 22, none⟩ (.int .i64 0)).setCell ⟨z, 23, none⟩ (.string ⟨#[]⟩)) = W4 at Y1 GB ⊢
        have M1 := Lib.hid (show Below wr.heap.size wr W4 from M0.out.trans (gb_below GB.out (by have := ZZ.out; omega) M0.out.size))
        clear p00 r00 p01 r01 p02 r02 p03 r03 p04 r04 p05 r05
        have x12 : W4.cell? ⟨w.heap.size, 12, none⟩ = some (.slice A8 n8 c8) := (M1.out.cell (p := ⟨w.heap.size, 12, none⟩) XX.out.lt).trans (XX.out.cell 12)
        have l0 : W4.cell? ⟨w.heap.size + 1, 0, none⟩ = some (.int .i64 23) := (M1.out.cell (p := ⟨w.heap.size + 1, 0, none⟩) LL.out.lt).trans (LL.out.cell 0)
        have l1 : W4.cell? ⟨w.heap.size + 1, 1, none⟩ = some (.int .i64 5) := (M1.out.cell (p := ⟨w.heap.size + 1, 1, none⟩) LL.out.lt).trans (LL.out.cell 1)
        have l2 : W4.cell? ⟨w.heap.size + 1, 2, none⟩ = some (.int .i64 0) := (M1.out.cell (p := ⟨w.heap.size + 1, 2, none⟩) LL.out.lt).trans (LL.out.cell 2)
        have l3 : W4.cell? ⟨w.heap.size + 1, 3, none⟩ = some (.int .i64 0) := (M1.out.cell (p := ⟨w.heap.size + 1, 3, none⟩) LL.out.lt).trans (LL.out.cell 3)
        have l4 : W4.cell? ⟨w.heap.size + 1, 4, none⟩ = some (.int .i64 9) := (M1.out.cell (p := ⟨w.heap.size + 1, 4, none⟩) LL.out.lt).trans (LL.out.cell 4)
        have l5 : W4.cell? ⟨w.heap.size + 1, 5, none⟩ = some (.string ⟨#[]⟩) := (M1.out.cell (p := ⟨w.heap.size + 1, 5, none⟩) LL.out.lt).trans (LL.out.cell 5)
        go_wp2_with ((with_reducible refine wpList_load_bl (op := ⟨some 55, .load 52 _, _, _, _, none⟩) rfl _ rfl z #[.int .i64 23, .int .i64 5, .int .i64 0, .int .i64 0, .int .i64 9, .string ⟨#[]⟩, .int .i64 23, .int .i64 6, .int .i64 0, .int .i64 0, .int .i64 8, .string ⟨#[]⟩, .int .i64 27, .int .i64 0, .int .i64 1, .int .i64 0, .int .i64 0, .string ⟨#[]⟩, .int .i64 16, .int .i64 8, .int .i64 1, .int .i64 9, .int .i64 0, .string ⟨#[]⟩] ?lx ?lb rfl ?_); (case lx => rfl); (case lb => exact Y1.out))
        refine (runs_any _ _ (sC 2 ((n8 : Int) % 100)) [] _ (rdc_from (heap_alloc_new _ _) rfl [] rfl rfl) (s_vcc (by omega) (by omega) (by omega)) (rd_nil _) (by decide) (by simp) ((TT.out.below (HB.out.trans (M1.out.mono HB.out.size))).alloc _)).mono ?_
        rintro en w4 ⟨rfl, b4⟩
        have M4 := Lib.hid (M1.out.trans (((below_new _ _).trans (b4.mono (by simp))).mono M1.out.size))
        clear b4
        go_wp2_with fail
        go_roundg (8 - (2 + 1))
        case measure => omega
        case rel => exact ⟨2 + 1, by omega, rfl, by go_num, HB.out.trans (M4.out.mono HB.out.size), XX.out.below M4.out, LL.out.below M4.out⟩
      · skip
        have m0 : wr.cell? ⟨w.heap.size + 1, 0, none⟩ = some (.int .i64 23) := LL.out.cell 0
        have m1 : wr.cell? ⟨w.heap.size + 1, 1, none⟩ = some (.int .i64 5) := LL.out.cell 1
        have m2 : wr.cell? ⟨w.heap.size + 1, 2, none⟩ = some (.int .i64 0) := LL.out.cell 2
        have m3 : wr.cell? ⟨w.heap.size + 1, 3, none⟩ = some (.int .i64 0) := LL.out.cell 3
        have m4 : wr.cell? ⟨w.heap.size + 1, 4, none⟩ = some (.int .i64 9) := LL.out.cell 4
        have m5 : wr.cell? ⟨w.heap.size + 1, 5, none⟩ = some (.string ⟨#[]⟩) := LL.out.cell 5
        go_wp2_with (first | ((with_reducible refine wpList_buildTo (o := ⟨some 15, .build 52 _, _, _, _, none⟩) rfl 52 _ rfl (some 15) rfl #[.int .i64 23, .int .i64 5, .int .i64 0, .int .i64 0, .int .i64 9, .string ⟨#[]⟩, .int .i64 23, .int .i64 6, .int .i64 0, .int .i64 0, .int .i64 8, .string ⟨#[]⟩, .int .i64 27, .int .i64 0, .int .i64 1, .int .i64 0, .int .i64 0, .string ⟨#[]⟩, .int .i64 14, .int .i64 7, .int .i64 1, .int .i64 1, .int .i64 0, .string ⟨#[]⟩] ?bf ?_); (case bf => kernel_rfl)) | ((with_reducible refine wpList_store_bl (op := ⟨none, .store 52 _ _, _, _, _, none⟩) rfl _ _ rfl wr.heap.size ZB #[.int .i64 23, .int .i64 5, .int .i64 0, .int .i64 0, .int .i64 9, .string ⟨#[]⟩, .int .i64 23, .int .i64 6, .int .i64 0, .int .i64 0, .int .i64 8, .string ⟨#[]⟩, .int .i64 27, .int .i64 0, .int .i64 1, .int .i64 0, .int .i64 0, .string ⟨#[]⟩, .int .i64 14, .int .i64 7, .int .i64 1, .int .i64 1, .int .i64 0, .string ⟨#[]⟩] ?sx ?sy ?sb ?s1 ?s2 ?s3 ?_); (case sx => rfl); (case sy => rfl); (case sb => exact heap_alloc_new _ _); (case s1 => rfl); (case s2 => rfl); (case s3 => kernel_rfl)))
        intro w2 hbl hg hsz
        have Y0 := Lib.hid (show BK 52 w2 wr.heap.size #[.int .i64 23, .int .i64 5, .int .i64 0, .int .i64 0, .int .i64 9, .string ⟨#[]⟩, .int .i64 23, .int .i64 6, .int .i64 0, .int .i64 0, .int .i64 8, .string ⟨#[]⟩, .int .i64 27, .int .i64 0, .int .i64 1, .int .i64 0, .int .i64 0, .string ⟨#[]⟩, .int .i64 14, .int .i64 7, .int .i64 1, .int .i64 1, .int .i64 0, .string ⟨#[]⟩] from hbl)
        have M0 := Lib.hid ((below_new wr (.cells ZB 52)).grown hg (by simp) (by intro k hk; cases hk; omega))
        have zw0 : w.heap.size + 1 < wr.heap.size := LL.out.lt
        clear hbl hg hsz m0 m1 m2 m3 m4 m5
        generalize hzz : wr.heap.size = z at Y0 ⊢
        have ZZ := Lib.hid hzz
        clear hzz
        have p00 : w2.cell? ⟨z, 0, none⟩ = some (.int .i64 23) := Y0.out.cell 0
        have r00 := Y0.out.frozen 0
        have p01 : w2.cell? ⟨z, 1, none⟩ = some (.int .i64 5) := Y0.out.cell 1
        have r01 := Y0.out.frozen 1
        have p02 : w2.cell? ⟨z, 2, none⟩ = some (.int .i64 0) := Y0.out.cell 2
        have r02 := Y0.out.frozen 2
        have p03 : w2.cell? ⟨z, 3, none⟩ = some (.int .i64 0) := Y0.out.cell 3
        have r03 := Y0.out.frozen 3
        have p04 : w2.cell? ⟨z, 4, none⟩ = some (.int .i64 9) := Y0.out.cell 4
        have r04 := Y0.out.frozen 4
        have p05 : w2.cell? ⟨z, 5, none⟩ = some (.string ⟨#[]⟩) := Y0.out.cell 5
        have r05 := Y0.out.frozen 5
        have Y1 := Lib.hid (show BK 52 ((((((w2.setCell ⟨z, 0, none⟩ (.int .i64 33)).setCell ⟨z, 1, none⟩ (.int .i64 0)).setCell ⟨z, 2, none⟩ (.int .i64 0)).setCell ⟨z, 3, none⟩ (.int .i64 0)).setCell ⟨z, 4, none⟩ (.int .i64 0)).setCell ⟨z, 5, none⟩ (.string ⟨#[]⟩)) z #[.int .i64 33, .int .i64 0, .int .i64 0, .int .i64 0, .int .i64 0, .string ⟨#[]⟩, .int .i64 23, .int .i64 6, .int .i64 0, .int .i64 0, .int .i64 8, .string ⟨#[]⟩, .int .i64 27, .int .i64 0, .int .i64 1, .int .i64 0, .int .i64 0, .string ⟨#[]⟩, .int .i64 14, .int .i64 7, .int .i64 1, .int .i64 1, .int .i64 0, .string ⟨#[]⟩] from (setI_bk Y0.out 0 ⟨33, 0, 0, 0, 0⟩))
        have GB := Lib.hid (show w2.grownBy ((((((w2.setCell ⟨z, 0, none⟩ (.int .i64 33)).setCell ⟨z, 1, none⟩ (.int .i64 0)).setCell ⟨z, 2, none⟩ (.int .i64 0)).setCell ⟨z, 3, none⟩ (.int .i64 0)).setCell ⟨z, 4, none⟩ (.int .i64 0)).setCell ⟨z, 5, none⟩ (.string ⟨#[]⟩)) (some z) from (setI_gb w2 z 0 ⟨33, 0, 0, 0, 0⟩))
        go_upto_region 19 with (fail)
        generalize ((((((w2.setCell ⟨z, 0, none⟩ (.int .i64 33)).setCell ⟨z, 1, none⟩ (.int .i64 0)).setCell ⟨z, 2, none⟩ (.int .i64 0)).setCell ⟨z, 3, none⟩ (.int .i64 0)).setCell ⟨z, 4, none⟩ (.int .i64 0)).setCell ⟨z, 5, none⟩ (.string ⟨#[]⟩)) = W4 at Y1 GB ⊢
        have M1 := Lib.hid (show Below wr.heap.size wr W4 from M0.out.trans (gb_below GB.out (by have := ZZ.out; omega) M0.out.size))
        clear p00 r00 p01 r01 p02 r02 p03 r03 p04 r04 p05 r05
        have x12 : W4.cell? ⟨w.heap.size, 12, none⟩ = some (.slice A8 n8 c8) := (M1.out.cell (p := ⟨w.heap.size, 12, none⟩) XX.out.lt).trans (XX.out.cell 12)
        have l0 : W4.cell? ⟨w.heap.size + 1, 0, none⟩ = some (.int .i64 23) := (M1.out.cell (p := ⟨w.heap.size + 1, 0, none⟩) LL.out.lt).trans (LL.out.cell 0)
        have l1 : W4.cell? ⟨w.heap.size + 1, 1, none⟩ = some (.int .i64 5) := (M1.out.cell (p := ⟨w.heap.size + 1, 1, none⟩) LL.out.lt).trans (LL.out.cell 1)
        have l2 : W4.cell? ⟨w.heap.size + 1, 2, none⟩ = some (.int .i64 0) := (M1.out.cell (p := ⟨w.heap.size + 1, 2, none⟩) LL.out.lt).trans (LL.out.cell 2)
        have l3 : W4.cell? ⟨w.heap.size + 1, 3, none⟩ = some (.int .i64 0) := (M1.out.cell (p := ⟨w.heap.size + 1, 3, none⟩) LL.out.lt).trans (LL.out.cell 3)
        have l4 : W4.cell? ⟨w.heap.size + 1, 4, none⟩ = some (.int .i64 9) := (M1.out.cell (p := ⟨w.heap.size + 1, 4, none⟩) LL.out.lt).trans (LL.out.cell 4)
        have l5 : W4.cell? ⟨w.heap.size + 1, 5, none⟩ = some (.string ⟨#[]⟩) := (M1.out.cell (p := ⟨w.heap.size + 1, 5, none⟩) LL.out.lt).trans (LL.out.cell 5)
        go_wp2_with ((with_reducible refine wpList_load_bl (op := ⟨some 55, .load 52 _, _, _, _, none⟩) rfl _ rfl z #[.int .i64 33, .int .i64 0, .int .i64 0, .int .i64 0, .int .i64 0, .string ⟨#[]⟩, .int .i64 23, .int .i64 6, .int .i64 0, .int .i64 0, .int .i64 8, .string ⟨#[]⟩, .int .i64 27, .int .i64 0, .int .i64 1, .int .i64 0, .int .i64 0, .string ⟨#[]⟩, .int .i64 14, .int .i64 7, .int .i64 1, .int .i64 1, .int .i64 0, .string ⟨#[]⟩] ?lx ?lb rfl ?_); (case lx => rfl); (case lb => exact Y1.out))
        refine (runs_any _ _ (sC 3 ((n8 : Int) % 100)) [] _ (rdc_from (heap_alloc_new _ _) rfl [] rfl rfl) (s_vcc (by omega) (by omega) (by omega)) (rd_nil _) (by decide) (by simp) ((TT.out.below (HB.out.trans (M1.out.mono HB.out.size))).alloc _)).mono ?_
        rintro en w4 ⟨rfl, b4⟩
        have M4 := Lib.hid (M1.out.trans (((below_new _ _).trans (b4.mono (by simp))).mono M1.out.size))
        clear b4
        go_wp2_with fail
        go_roundg (8 - (3 + 1))
        case measure => omega
        case rel => exact ⟨3 + 1, by omega, rfl, by go_num, HB.out.trans (M4.out.mono HB.out.size), XX.out.below M4.out, LL.out.below M4.out⟩
      · skip
        have m0 : wr.cell? ⟨w.heap.size + 1, 0, none⟩ = some (.int .i64 23) := LL.out.cell 0
        have m1 : wr.cell? ⟨w.heap.size + 1, 1, none⟩ = some (.int .i64 5) := LL.out.cell 1
        have m2 : wr.cell? ⟨w.heap.size + 1, 2, none⟩ = some (.int .i64 0) := LL.out.cell 2
        have m3 : wr.cell? ⟨w.heap.size + 1, 3, none⟩ = some (.int .i64 0) := LL.out.cell 3
        have m4 : wr.cell? ⟨w.heap.size + 1, 4, none⟩ = some (.int .i64 9) := LL.out.cell 4
        have m5 : wr.cell? ⟨w.heap.size + 1, 5, none⟩ = some (.string ⟨#[]⟩) := LL.out.cell 5
        go_wp2_with (first | ((with_reducible refine wpList_buildTo (o := ⟨some 15, .build 52 _, _, _, _, none⟩) rfl 52 _ rfl (some 15) rfl #[.int .i64 23, .int .i64 5, .int .i64 0, .int .i64 0, .int .i64 9, .string ⟨#[]⟩, .int .i64 23, .int .i64 6, .int .i64 0, .int .i64 0, .int .i64 8, .string ⟨#[]⟩, .int .i64 27, .int .i64 0, .int .i64 1, .int .i64 0, .int .i64 0, .string ⟨#[]⟩, .int .i64 14, .int .i64 7, .int .i64 1, .int .i64 1, .int .i64 0, .string ⟨#[]⟩] ?bf ?_); (case bf => kernel_rfl)) | ((with_reducible refine wpList_store_bl (op := ⟨none, .store 52 _ _, _, _, _, none⟩) rfl _ _ rfl wr.heap.size ZB #[.int .i64 23, .int .i64 5, .int .i64 0, .int .i64 0, .int .i64 9, .string ⟨#[]⟩, .int .i64 23, .int .i64 6, .int .i64 0, .int .i64 0, .int .i64 8, .string ⟨#[]⟩, .int .i64 27, .int .i64 0, .int .i64 1, .int .i64 0, .int .i64 0, .string ⟨#[]⟩, .int .i64 14, .int .i64 7, .int .i64 1, .int .i64 1, .int .i64 0, .string ⟨#[]⟩] ?sx ?sy ?sb ?s1 ?s2 ?s3 ?_); (case sx => rfl); (case sy => rfl); (case sb => exact heap_alloc_new _ _); (case s1 => rfl); (case s2 => rfl); (case s3 => kernel_rfl)))
        intro w2 hbl hg hsz
        have Y0 := Lib.hid (show BK 52 w2 wr.heap.size #[.int .i64 23, .int .i64 5, .int .i64 0, .int .i64 0, .int .i64 9, .string ⟨#[]⟩, .int .i64 23, .int .i64 6, .int .i64 0, .int .i64 0, .int .i64 8, .string ⟨#[]⟩, .int .i64 27, .int .i64 0, .int .i64 1, .int .i64 0, .int .i64 0, .string ⟨#[]⟩, .int .i64 14, .int .i64 7, .int .i64 1, .int .i64 1, .int .i64 0, .string ⟨#[]⟩] from hbl)
        have M0 := Lib.hid ((below_new wr (.cells ZB 52)).grown hg (by simp) (by intro k hk; cases hk; omega))
        have zw0 : w.heap.size + 1 < wr.heap.size := LL.out.lt
        clear hbl hg hsz m0 m1 m2 m3 m4 m5
        generalize hzz : wr.heap.size = z at Y0 ⊢
        have ZZ := Lib.hid hzz
        clear hzz
        have p00 : w2.cell? ⟨z, 0, none⟩ = some (.int .i64 23) := Y0.out.cell 0
        have r00 := Y0.out.frozen 0
        have p01 : w2.cell? ⟨z, 1, none⟩ = some (.int .i64 5) := Y0.out.cell 1
        have r01 := Y0.out.frozen 1
        have p02 : w2.cell? ⟨z, 2, none⟩ = some (.int .i64 0) := Y0.out.cell 2
        have r02 := Y0.out.frozen 2
        have p03 : w2.cell? ⟨z, 3, none⟩ = some (.int .i64 0) := Y0.out.cell 3
        have r03 := Y0.out.frozen 3
        have p04 : w2.cell? ⟨z, 4, none⟩ = some (.int .i64 9) := Y0.out.cell 4
        have r04 := Y0.out.frozen 4
        have p05 : w2.cell? ⟨z, 5, none⟩ = some (.string ⟨#[]⟩) := Y0.out.cell 5
        have r05 := Y0.out.frozen 5
        have p10 : w2.cell? ⟨z, 12, none⟩ = some (.int .i64 27) := Y0.out.cell 12
        have r10 := Y0.out.frozen 12
        have p11 : w2.cell? ⟨z, 13, none⟩ = some (.int .i64 0) := Y0.out.cell 13
        have r11 := Y0.out.frozen 13
        have p12 : w2.cell? ⟨z, 14, none⟩ = some (.int .i64 1) := Y0.out.cell 14
        have r12 := Y0.out.frozen 14
        have p13 : w2.cell? ⟨z, 15, none⟩ = some (.int .i64 0) := Y0.out.cell 15
        have r13 := Y0.out.frozen 15
        have p14 : w2.cell? ⟨z, 16, none⟩ = some (.int .i64 0) := Y0.out.cell 16
        have r14 := Y0.out.frozen 16
        have p15 : w2.cell? ⟨z, 17, none⟩ = some (.string ⟨#[]⟩) := Y0.out.cell 17
        have r15 := Y0.out.frozen 17
        have Y1 := Lib.hid (show BK 52 ((((((((((((w2.setCell ⟨z, 0, none⟩ (.int .i64 28)).setCell ⟨z, 1, none⟩ (.int .i64 0)).setCell ⟨z, 2, none⟩ (.int .i64 0)).setCell ⟨z, 3, none⟩ (.int .i64 0)).setCell ⟨z, 4, none⟩ (.int .i64 0)).setCell ⟨z, 5, none⟩ (.string ⟨#[]⟩)).setCell ⟨z, 12, none⟩ (.int .i64 25)).setCell ⟨z, 13, none⟩ (.int .i64 0)).setCell ⟨z, 14, none⟩ (.int .i64 9)).setCell ⟨z, 15, none⟩ (.int .i64 1)).setCell ⟨z, 16, none⟩ (.int .i64 (-1))).setCell ⟨z, 17, none⟩ (.string ⟨#[]⟩)) z #[.int .i64 28, .int .i64 0, .int .i64 0, .int .i64 0, .int .i64 0, .string ⟨#[]⟩, .int .i64 23, .int .i64 6, .int .i64 0, .int .i64 0, .int .i64 8, .string ⟨#[]⟩, .int .i64 25, .int .i64 0, .int .i64 9, .int .i64 1, .int .i64 (-1), .string ⟨#[]⟩, .int .i64 14, .int .i64 7, .int .i64 1, .int .i64 1, .int .i64 0, .string ⟨#[]⟩] from (setI_bk (setI_bk Y0.out 0 ⟨28, 0, 0, 0, 0⟩) 12 ⟨25, 0, 9, 1, -1⟩))
        have GB := Lib.hid (show w2.grownBy ((((((((((((w2.setCell ⟨z, 0, none⟩ (.int .i64 28)).setCell ⟨z, 1, none⟩ (.int .i64 0)).setCell ⟨z, 2, none⟩ (.int .i64 0)).setCell ⟨z, 3, none⟩ (.int .i64 0)).setCell ⟨z, 4, none⟩ (.int .i64 0)).setCell ⟨z, 5, none⟩ (.string ⟨#[]⟩)).setCell ⟨z, 12, none⟩ (.int .i64 25)).setCell ⟨z, 13, none⟩ (.int .i64 0)).setCell ⟨z, 14, none⟩ (.int .i64 9)).setCell ⟨z, 15, none⟩ (.int .i64 1)).setCell ⟨z, 16, none⟩ (.int .i64 (-1))).setCell ⟨z, 17, none⟩ (.string ⟨#[]⟩)) (some z) from (gb_trans (setI_gb w2 z 0 ⟨28, 0, 0, 0, 0⟩) (setI_gb ((((((w2.setCell ⟨z, 0, none⟩ (.int .i64 28)).setCell ⟨z, 1, none⟩ (.int .i64 0)).setCell ⟨z, 2, none⟩ (.int .i64 0)).setCell ⟨z, 3, none⟩ (.int .i64 0)).setCell ⟨z, 4, none⟩ (.int .i64 0)).setCell ⟨z, 5, none⟩ (.string ⟨#[]⟩)) z 12 ⟨25, 0, 9, 1, -1⟩)))
        go_upto_region 19 with (fail)
        generalize ((((((((((((w2.setCell ⟨z, 0, none⟩ (.int .i64 28)).setCell ⟨z, 1, none⟩ (.int .i64 0)).setCell ⟨z, 2, none⟩ (.int .i64 0)).setCell ⟨z, 3, none⟩ (.int .i64 0)).setCell ⟨z, 4, none⟩ (.int .i64 0)).setCell ⟨z, 5, none⟩ (.string ⟨#[]⟩)).setCell ⟨z, 12, none⟩ (.int .i64 25)).setCell ⟨z, 13, none⟩ (.int .i64 0)).setCell ⟨z, 14, none⟩ (.int .i64 9)).setCell ⟨z, 15, none⟩ (.int .i64 1)).setCell ⟨z, 16, none⟩ (.int .i64 (-1))).setCell ⟨z, 17, none⟩ (.string ⟨#[]⟩)) = W4 at Y1 GB ⊢
        have M1 := Lib.hid (show Below wr.heap.size wr W4 from M0.out.trans (gb_below GB.out (by have := ZZ.out; omega) M0.out.size))
        clear p00 r00 p01 r01 p02 r02 p03 r03 p04 r04 p05 r05 p10 r10 p11 r11 p12 r12 p13 r13 p14 r14 p15 r15
        have x12 : W4.cell? ⟨w.heap.size, 12, none⟩ = some (.slice A8 n8 c8) := (M1.out.cell (p := ⟨w.heap.size, 12, none⟩) XX.out.lt).trans (XX.out.cell 12)
        have l0 : W4.cell? ⟨w.heap.size + 1, 0, none⟩ = some (.int .i64 23) := (M1.out.cell (p := ⟨w.heap.size + 1, 0, none⟩) LL.out.lt).trans (LL.out.cell 0)
        have l1 : W4.cell? ⟨w.heap.size + 1, 1, none⟩ = some (.int .i64 5) := (M1.out.cell (p := ⟨w.heap.size + 1, 1, none⟩) LL.out.lt).trans (LL.out.cell 1)
        have l2 : W4.cell? ⟨w.heap.size + 1, 2, none⟩ = some (.int .i64 0) := (M1.out.cell (p := ⟨w.heap.size + 1, 2, none⟩) LL.out.lt).trans (LL.out.cell 2)
        have l3 : W4.cell? ⟨w.heap.size + 1, 3, none⟩ = some (.int .i64 0) := (M1.out.cell (p := ⟨w.heap.size + 1, 3, none⟩) LL.out.lt).trans (LL.out.cell 3)
        have l4 : W4.cell? ⟨w.heap.size + 1, 4, none⟩ = some (.int .i64 9) := (M1.out.cell (p := ⟨w.heap.size + 1, 4, none⟩) LL.out.lt).trans (LL.out.cell 4)
        have l5 : W4.cell? ⟨w.heap.size + 1, 5, none⟩ = some (.string ⟨#[]⟩) := (M1.out.cell (p := ⟨w.heap.size + 1, 5, none⟩) LL.out.lt).trans (LL.out.cell 5)
        go_wp2_with ((with_reducible refine wpList_load_bl (op := ⟨some 55, .load 52 _, _, _, _, none⟩) rfl _ rfl z #[.int .i64 28, .int .i64 0, .int .i64 0, .int .i64 0, .int .i64 0, .string ⟨#[]⟩, .int .i64 23, .int .i64 6, .int .i64 0, .int .i64 0, .int .i64 8, .string ⟨#[]⟩, .int .i64 25, .int .i64 0, .int .i64 9, .int .i64 1, .int .i64 (-1), .string ⟨#[]⟩, .int .i64 14, .int .i64 7, .int .i64 1, .int .i64 1, .int .i64 0, .string ⟨#[]⟩] ?lx ?lb rfl ?_); (case lx => rfl); (case lb => exact Y1.out))
        refine (runs_any _ _ (sC 4 ((n8 : Int) % 100)) [] _ (rdc_from (heap_alloc_new _ _) rfl [] rfl rfl) (s_vcc (by omega) (by omega) (by omega)) (rd_nil _) (by decide) (by simp) ((TT.out.below (HB.out.trans (M1.out.mono HB.out.size))).alloc _)).mono ?_
        rintro en w4 ⟨rfl, b4⟩
        have M4 := Lib.hid (M1.out.trans (((below_new _ _).trans (b4.mono (by simp))).mono M1.out.size))
        clear b4
        go_wp2_with fail
        go_roundg (8 - (4 + 1))
        case measure => omega
        case rel => exact ⟨4 + 1, by omega, rfl, by go_num, HB.out.trans (M4.out.mono HB.out.size), XX.out.below M4.out, LL.out.below M4.out⟩
      · skip
        have m0 : wr.cell? ⟨w.heap.size + 1, 0, none⟩ = some (.int .i64 23) := LL.out.cell 0
        have m1 : wr.cell? ⟨w.heap.size + 1, 1, none⟩ = some (.int .i64 5) := LL.out.cell 1
        have m2 : wr.cell? ⟨w.heap.size + 1, 2, none⟩ = some (.int .i64 0) := LL.out.cell 2
        have m3 : wr.cell? ⟨w.heap.size + 1, 3, none⟩ = some (.int .i64 0) := LL.out.cell 3
        have m4 : wr.cell? ⟨w.heap.size + 1, 4, none⟩ = some (.int .i64 9) := LL.out.cell 4
        have m5 : wr.cell? ⟨w.heap.size + 1, 5, none⟩ = some (.string ⟨#[]⟩) := LL.out.cell 5
        go_wp2_with (first | ((with_reducible refine wpList_buildTo (o := ⟨some 15, .build 52 _, _, _, _, none⟩) rfl 52 _ rfl (some 15) rfl #[.int .i64 23, .int .i64 5, .int .i64 0, .int .i64 0, .int .i64 9, .string ⟨#[]⟩, .int .i64 23, .int .i64 6, .int .i64 0, .int .i64 0, .int .i64 8, .string ⟨#[]⟩, .int .i64 27, .int .i64 0, .int .i64 1, .int .i64 0, .int .i64 0, .string ⟨#[]⟩, .int .i64 14, .int .i64 7, .int .i64 1, .int .i64 1, .int .i64 0, .string ⟨#[]⟩] ?bf ?_); (case bf => kernel_rfl)) | ((with_reducible refine wpList_store_bl (op := ⟨none, .store 52 _ _, _, _, _, none⟩) rfl _ _ rfl wr.heap.size ZB #[.int .i64 23, .int .i64 5, .int .i64 0, .int .i64 0, .int .i64 9, .string ⟨#[]⟩, .int .i64 23, .int .i64 6, .int .i64 0, .int .i64 0, .int .i64 8, .string ⟨#[]⟩, .int .i64 27, .int .i64 0, .int .i64 1, .int .i64 0, .int .i64 0, .string ⟨#[]⟩, .int .i64 14, .int .i64 7, .int .i64 1, .int .i64 1, .int .i64 0, .string ⟨#[]⟩] ?sx ?sy ?sb ?s1 ?s2 ?s3 ?_); (case sx => rfl); (case sy => rfl); (case sb => exact heap_alloc_new _ _); (case s1 => rfl); (case s2 => rfl); (case s3 => kernel_rfl)))
        intro w2 hbl hg hsz
        have Y0 := Lib.hid (show BK 52 w2 wr.heap.size #[.int .i64 23, .int .i64 5, .int .i64 0, .int .i64 0, .int .i64 9, .string ⟨#[]⟩, .int .i64 23, .int .i64 6, .int .i64 0, .int .i64 0, .int .i64 8, .string ⟨#[]⟩, .int .i64 27, .int .i64 0, .int .i64 1, .int .i64 0, .int .i64 0, .string ⟨#[]⟩, .int .i64 14, .int .i64 7, .int .i64 1, .int .i64 1, .int .i64 0, .string ⟨#[]⟩] from hbl)
        have M0 := Lib.hid ((below_new wr (.cells ZB 52)).grown hg (by simp) (by intro k hk; cases hk; omega))
        have zw0 : w.heap.size + 1 < wr.heap.size := LL.out.lt
        clear hbl hg hsz m0 m1 m2 m3 m4 m5
        generalize hzz : wr.heap.size = z at Y0 ⊢
        have ZZ := Lib.hid hzz
        clear hzz
        have p00 : w2.cell? ⟨z, 0, none⟩ = some (.int .i64 23) := Y0.out.cell 0
        have r00 := Y0.out.frozen 0
        have p01 : w2.cell? ⟨z, 1, none⟩ = some (.int .i64 5) := Y0.out.cell 1
        have r01 := Y0.out.frozen 1
        have p02 : w2.cell? ⟨z, 2, none⟩ = some (.int .i64 0) := Y0.out.cell 2
        have r02 := Y0.out.frozen 2
        have p03 : w2.cell? ⟨z, 3, none⟩ = some (.int .i64 0) := Y0.out.cell 3
        have r03 := Y0.out.frozen 3
        have p04 : w2.cell? ⟨z, 4, none⟩ = some (.int .i64 9) := Y0.out.cell 4
        have r04 := Y0.out.frozen 4
        have p05 : w2.cell? ⟨z, 5, none⟩ = some (.string ⟨#[]⟩) := Y0.out.cell 5
        have r05 := Y0.out.frozen 5
        have p10 : w2.cell? ⟨z, 18, none⟩ = some (.int .i64 14) := Y0.out.cell 18
        have r10 := Y0.out.frozen 18
        have p11 : w2.cell? ⟨z, 19, none⟩ = some (.int .i64 7) := Y0.out.cell 19
        have r11 := Y0.out.frozen 19
        have p12 : w2.cell? ⟨z, 20, none⟩ = some (.int .i64 1) := Y0.out.cell 20
        have r12 := Y0.out.frozen 20
        have p13 : w2.cell? ⟨z, 21, none⟩ = some (.int .i64 1) := Y0.out.cell 21
        have r13 := Y0.out.frozen 21
        have p14 : w2.cell? ⟨z, 22, none⟩ = some (.int .i64 0) := Y0.out.cell 22
        have r14 := Y0.out.frozen 22
        have p15 : w2.cell? ⟨z, 23, none⟩ = some (.string ⟨#[]⟩) := Y0.out.cell 23
        have r15 := Y0.out.frozen 23
        have Y1 := Lib.hid (show BK 52 ((((((((((((w2.setCell ⟨z, 0, none⟩ (.int .i64 31)).setCell ⟨z, 1, none⟩ (.int .i64 0)).setCell ⟨z, 2, none⟩ (.int .i64 0)).setCell ⟨z, 3, none⟩ (.int .i64 0)).setCell ⟨z, 4, none⟩ (.int .i64 0)).setCell ⟨z, 5, none⟩ (.string ⟨#[]⟩)).setCell ⟨z, 18, none⟩ (.int .i64 17)).setCell ⟨z, 19, none⟩ (.int .i64 8)).setCell ⟨z, 20, none⟩ (.int .i64 1)).setCell ⟨z, 21, none⟩ (.int .i64 9)).setCell ⟨z, 22, none⟩ (.int .i64 0)).setCell ⟨z, 23, none⟩ (.string ⟨#[]⟩)) z #[.int .i64 31, .int .i64 0, .int .i64 0, .int .i64 0, .int .i64 0, .string ⟨#[]⟩, .int .i64 23, .int .i64 6, .int .i64 0, .int .i64 0, .int .i64 8, .string ⟨#[]⟩, .int .i64 27, .int .i64 0, .int .i64 1, .int .i64 0, .int .i64 0, .string ⟨#[]⟩, .int .i64 17, .int .i64 8, .int .i64 1, .int .i64 9, .int .i64 0, .string ⟨#[]⟩] from (setI_bk (setI_bk Y0.out 0 ⟨31, 0, 0, 0, 0⟩) 18 ⟨17, 8, 1, 9, 0⟩))
        have GB := Lib.hid (show w2.grownBy ((((((((((((w2.setCell ⟨z, 0, none⟩ (.int .i64 31)).setCell ⟨z, 1, none⟩ (.int .i64 0)).setCell ⟨z, 2, none⟩ (.int .i64 0)).setCell ⟨z, 3, none⟩ (.int .i64 0)).setCell ⟨z, 4, none⟩ (.int .i64 0)).setCell ⟨z, 5, none⟩ (.string ⟨#[]⟩)).setCell ⟨z, 18, none⟩ (.int .i64 17)).setCell ⟨z, 19, none⟩ (.int .i64 8)).setCell ⟨z, 20, none⟩ (.int .i64 1)).setCell ⟨z, 21, none⟩ (.int .i64 9)).setCell ⟨z, 22, none⟩ (.int .i64 0)).setCell ⟨z, 23, none⟩ (.string ⟨#[]⟩)) (some z) from (gb_trans (setI_gb w2 z 0 ⟨31, 0, 0, 0, 0⟩) (setI_gb ((((((w2.setCell ⟨z, 0, none⟩ (.int .i64 31)).setCell ⟨z, 1, none⟩ (.int .i64 0)).setCell ⟨z, 2, none⟩ (.int .i64 0)).setCell ⟨z, 3, none⟩ (.int .i64 0)).setCell ⟨z, 4, none⟩ (.int .i64 0)).setCell ⟨z, 5, none⟩ (.string ⟨#[]⟩)) z 18 ⟨17, 8, 1, 9, 0⟩)))
        go_upto_region 19 with (fail)
        generalize ((((((((((((w2.setCell ⟨z, 0, none⟩ (.int .i64 31)).setCell ⟨z, 1, none⟩ (.int .i64 0)).setCell ⟨z, 2, none⟩ (.int .i64 0)).setCell ⟨z, 3, none⟩ (.int .i64 0)).setCell ⟨z, 4, none⟩ (.int .i64 0)).setCell ⟨z, 5, none⟩ (.string ⟨#[]⟩)).setCell ⟨z, 18, none⟩ (.int .i64 17)).setCell ⟨z, 19, none⟩ (.int .i64 8)).setCell ⟨z, 20, none⟩ (.int .i64 1)).setCell ⟨z, 21, none⟩ (.int .i64 9)).setCell ⟨z, 22, none⟩ (.int .i64 0)).setCell ⟨z, 23, none⟩ (.string ⟨#[]⟩)) = W4 at Y1 GB ⊢
        have M1 := Lib.hid (show Below wr.heap.size wr W4 from M0.out.trans (gb_below GB.out (by have := ZZ.out; omega) M0.out.size))
        clear p00 r00 p01 r01 p02 r02 p03 r03 p04 r04 p05 r05 p10 r10 p11 r11 p12 r12 p13 r13 p14 r14 p15 r15
        have x12 : W4.cell? ⟨w.heap.size, 12, none⟩ = some (.slice A8 n8 c8) := (M1.out.cell (p := ⟨w.heap.size, 12, none⟩) XX.out.lt).trans (XX.out.cell 12)
        have l0 : W4.cell? ⟨w.heap.size + 1, 0, none⟩ = some (.int .i64 23) := (M1.out.cell (p := ⟨w.heap.size + 1, 0, none⟩) LL.out.lt).trans (LL.out.cell 0)
        have l1 : W4.cell? ⟨w.heap.size + 1, 1, none⟩ = some (.int .i64 5) := (M1.out.cell (p := ⟨w.heap.size + 1, 1, none⟩) LL.out.lt).trans (LL.out.cell 1)
        have l2 : W4.cell? ⟨w.heap.size + 1, 2, none⟩ = some (.int .i64 0) := (M1.out.cell (p := ⟨w.heap.size + 1, 2, none⟩) LL.out.lt).trans (LL.out.cell 2)
        have l3 : W4.cell? ⟨w.heap.size + 1, 3, none⟩ = some (.int .i64 0) := (M1.out.cell (p := ⟨w.heap.size + 1, 3, none⟩) LL.out.lt).trans (LL.out.cell 3)
        have l4 : W4.cell? ⟨w.heap.size + 1, 4, none⟩ = some (.int .i64 9) := (M1.out.cell (p := ⟨w.heap.size + 1, 4, none⟩) LL.out.lt).trans (LL.out.cell 4)
        have l5 : W4.cell? ⟨w.heap.size + 1, 5, none⟩ = some (.string ⟨#[]⟩) := (M1.out.cell (p := ⟨w.heap.size + 1, 5, none⟩) LL.out.lt).trans (LL.out.cell 5)
        go_wp2_with ((with_reducible refine wpList_load_bl (op := ⟨some 55, .load 52 _, _, _, _, none⟩) rfl _ rfl z #[.int .i64 31, .int .i64 0, .int .i64 0, .int .i64 0, .int .i64 0, .string ⟨#[]⟩, .int .i64 23, .int .i64 6, .int .i64 0, .int .i64 0, .int .i64 8, .string ⟨#[]⟩, .int .i64 27, .int .i64 0, .int .i64 1, .int .i64 0, .int .i64 0, .string ⟨#[]⟩, .int .i64 17, .int .i64 8, .int .i64 1, .int .i64 9, .int .i64 0, .string ⟨#[]⟩] ?lx ?lb rfl ?_); (case lx => rfl); (case lb => exact Y1.out))
        refine (runs_any _ _ (sC 5 ((n8 : Int) % 100)) [] _ (rdc_from (heap_alloc_new _ _) rfl [] rfl rfl) (s_vcc (by omega) (by omega) (by omega)) (rd_nil _) (by decide) (by simp) ((TT.out.below (HB.out.trans (M1.out.mono HB.out.size))).alloc _)).mono ?_
        rintro en w4 ⟨rfl, b4⟩
        have M4 := Lib.hid (M1.out.trans (((below_new _ _).trans (b4.mono (by simp))).mono M1.out.size))
        clear b4
        go_wp2_with fail
        go_roundg (8 - (5 + 1))
        case measure => omega
        case rel => exact ⟨5 + 1, by omega, rfl, by go_num, HB.out.trans (M4.out.mono HB.out.size), XX.out.below M4.out, LL.out.below M4.out⟩
      · skip
        have m0 : wr.cell? ⟨w.heap.size + 1, 0, none⟩ = some (.int .i64 23) := LL.out.cell 0
        have m1 : wr.cell? ⟨w.heap.size + 1, 1, none⟩ = some (.int .i64 5) := LL.out.cell 1
        have m2 : wr.cell? ⟨w.heap.size + 1, 2, none⟩ = some (.int .i64 0) := LL.out.cell 2
        have m3 : wr.cell? ⟨w.heap.size + 1, 3, none⟩ = some (.int .i64 0) := LL.out.cell 3
        have m4 : wr.cell? ⟨w.heap.size + 1, 4, none⟩ = some (.int .i64 9) := LL.out.cell 4
        have m5 : wr.cell? ⟨w.heap.size + 1, 5, none⟩ = some (.string ⟨#[]⟩) := LL.out.cell 5
        go_wp2_with (first | ((with_reducible refine wpList_buildTo (o := ⟨some 15, .build 52 _, _, _, _, none⟩) rfl 52 _ rfl (some 15) rfl #[.int .i64 23, .int .i64 5, .int .i64 0, .int .i64 0, .int .i64 9, .string ⟨#[]⟩, .int .i64 23, .int .i64 6, .int .i64 0, .int .i64 0, .int .i64 8, .string ⟨#[]⟩, .int .i64 27, .int .i64 0, .int .i64 1, .int .i64 0, .int .i64 0, .string ⟨#[]⟩, .int .i64 14, .int .i64 7, .int .i64 1, .int .i64 1, .int .i64 0, .string ⟨#[]⟩] ?bf ?_); (case bf => kernel_rfl)) | ((with_reducible refine wpList_store_bl (op := ⟨none, .store 52 _ _, _, _, _, none⟩) rfl _ _ rfl wr.heap.size ZB #[.int .i64 23, .int .i64 5, .int .i64 0, .int .i64 0, .int .i64 9, .string ⟨#[]⟩, .int .i64 23, .int .i64 6, .int .i64 0, .int .i64 0, .int .i64 8, .string ⟨#[]⟩, .int .i64 27, .int .i64 0, .int .i64 1, .int .i64 0, .int .i64 0, .string ⟨#[]⟩, .int .i64 14, .int .i64 7, .int .i64 1, .int .i64 1, .int .i64 0, .string ⟨#[]⟩] ?sx ?sy ?sb ?s1 ?s2 ?s3 ?_); (case sx => rfl); (case sy => rfl); (case sb => exact heap_alloc_new _ _); (case s1 => rfl); (case s2 => rfl); (case s3 => kernel_rfl)))
        intro w2 hbl hg hsz
        have Y0 := Lib.hid (show BK 52 w2 wr.heap.size #[.int .i64 23, .int .i64 5, .int .i64 0, .int .i64 0, .int .i64 9, .string ⟨#[]⟩, .int .i64 23, .int .i64 6, .int .i64 0, .int .i64 0, .int .i64 8, .string ⟨#[]⟩, .int .i64 27, .int .i64 0, .int .i64 1, .int .i64 0, .int .i64 0, .string ⟨#[]⟩, .int .i64 14, .int .i64 7, .int .i64 1, .int .i64 1, .int .i64 0, .string ⟨#[]⟩] from hbl)
        have M0 := Lib.hid ((below_new wr (.cells ZB 52)).grown hg (by simp) (by intro k hk; cases hk; omega))
        have zw0 : w.heap.size + 1 < wr.heap.size := LL.out.lt
        clear hbl hg hsz m0 m1 m2 m3 m4 m5
        generalize hzz : wr.heap.size = z at Y0 ⊢
        have ZZ := Lib.hid hzz
        clear hzz
        have Y1 := Lib.hid (show BK 52 w2 z #[.int .i64 23, .int .i64 5, .int .i64 0, .int .i64 0, .int .i64 9, .string ⟨#[]⟩, .int .i64 23, .int .i64 6, .int .i64 0, .int .i64 0, .int .i64 8, .string ⟨#[]⟩, .int .i64 27, .int .i64 0, .int .i64 1, .int .i64 0, .int .i64 0, .string ⟨#[]⟩, .int .i64 14, .int .i64 7, .int .i64 1, .int .i64 1, .int .i64 0, .string ⟨#[]⟩] from Y0.out)
        have M1 := M0
        go_upto_region 19 with (fail)
        generalize w2 = W4 at Y1 M1 ⊢
        have x12 : W4.cell? ⟨w.heap.size, 12, none⟩ = some (.slice A8 n8 c8) := (M1.out.cell (p := ⟨w.heap.size, 12, none⟩) XX.out.lt).trans (XX.out.cell 12)
        have l0 : W4.cell? ⟨w.heap.size + 1, 0, none⟩ = some (.int .i64 23) := (M1.out.cell (p := ⟨w.heap.size + 1, 0, none⟩) LL.out.lt).trans (LL.out.cell 0)
        have l1 : W4.cell? ⟨w.heap.size + 1, 1, none⟩ = some (.int .i64 5) := (M1.out.cell (p := ⟨w.heap.size + 1, 1, none⟩) LL.out.lt).trans (LL.out.cell 1)
        have l2 : W4.cell? ⟨w.heap.size + 1, 2, none⟩ = some (.int .i64 0) := (M1.out.cell (p := ⟨w.heap.size + 1, 2, none⟩) LL.out.lt).trans (LL.out.cell 2)
        have l3 : W4.cell? ⟨w.heap.size + 1, 3, none⟩ = some (.int .i64 0) := (M1.out.cell (p := ⟨w.heap.size + 1, 3, none⟩) LL.out.lt).trans (LL.out.cell 3)
        have l4 : W4.cell? ⟨w.heap.size + 1, 4, none⟩ = some (.int .i64 9) := (M1.out.cell (p := ⟨w.heap.size + 1, 4, none⟩) LL.out.lt).trans (LL.out.cell 4)
        have l5 : W4.cell? ⟨w.heap.size + 1, 5, none⟩ = some (.string ⟨#[]⟩) := (M1.out.cell (p := ⟨w.heap.size + 1, 5, none⟩) LL.out.lt).trans (LL.out.cell 5)
        go_wp2_with ((with_reducible refine wpList_load_bl (op := ⟨some 55, .load 52 _, _, _, _, none⟩) rfl _ rfl z #[.int .i64 23, .int .i64 5, .int .i64 0, .int .i64 0, .int .i64 9, .string ⟨#[]⟩, .int .i64 23, .int .i64 6, .int .i64 0, .int .i64 0, .int .i64 8, .string ⟨#[]⟩, .int .i64 27, .int .i64 0, .int .i64 1, .int .i64 0, .int .i64 0, .string ⟨#[]⟩, .int .i64 14, .int .i64 7, .int .i64 1, .int .i64 1, .int .i64 0, .string ⟨#[]⟩] ?lx ?lb rfl ?_); (case lx => rfl); (case lb => exact Y1.out))
        refine (runs_any _ _ (sC 6 ((n8 : Int) % 100)) [] _ (rdc_from (heap_alloc_new _ _) rfl [] rfl rfl) (s_vcc (by omega) (by omega) (by omega)) (rd_nil _) (by decide) (by simp) ((TT.out.below (HB.out.trans (M1.out.mono HB.out.size))).alloc _)).mono ?_
        rintro en w4 ⟨rfl, b4⟩
        have M4 := Lib.hid (M1.out.trans (((below_new _ _).trans (b4.mono (by simp))).mono M1.out.size))
        clear b4
        go_wp2_with fail
        go_roundg (8 - (6 + 1))
        case measure => omega
        case rel => exact ⟨6 + 1, by omega, rfl, by go_num, HB.out.trans (M4.out.mono HB.out.size), XX.out.below M4.out, LL.out.below M4.out⟩
      · skip
        have m0 : wr.cell? ⟨w.heap.size + 1, 0, none⟩ = some (.int .i64 23) := LL.out.cell 0
        have m1 : wr.cell? ⟨w.heap.size + 1, 1, none⟩ = some (.int .i64 5) := LL.out.cell 1
        have m2 : wr.cell? ⟨w.heap.size + 1, 2, none⟩ = some (.int .i64 0) := LL.out.cell 2
        have m3 : wr.cell? ⟨w.heap.size + 1, 3, none⟩ = some (.int .i64 0) := LL.out.cell 3
        have m4 : wr.cell? ⟨w.heap.size + 1, 4, none⟩ = some (.int .i64 9) := LL.out.cell 4
        have m5 : wr.cell? ⟨w.heap.size + 1, 5, none⟩ = some (.string ⟨#[]⟩) := LL.out.cell 5
        go_wp2_with (first | ((with_reducible refine wpList_buildTo (o := ⟨some 15, .build 52 _, _, _, _, none⟩) rfl 52 _ rfl (some 15) rfl #[.int .i64 23, .int .i64 5, .int .i64 0, .int .i64 0, .int .i64 9, .string ⟨#[]⟩, .int .i64 23, .int .i64 6, .int .i64 0, .int .i64 0, .int .i64 8, .string ⟨#[]⟩, .int .i64 27, .int .i64 0, .int .i64 1, .int .i64 0, .int .i64 0, .string ⟨#[]⟩, .int .i64 14, .int .i64 7, .int .i64 1, .int .i64 1, .int .i64 0, .string ⟨#[]⟩] ?bf ?_); (case bf => kernel_rfl)) | ((with_reducible refine wpList_store_bl (op := ⟨none, .store 52 _ _, _, _, _, none⟩) rfl _ _ rfl wr.heap.size ZB #[.int .i64 23, .int .i64 5, .int .i64 0, .int .i64 0, .int .i64 9, .string ⟨#[]⟩, .int .i64 23, .int .i64 6, .int .i64 0, .int .i64 0, .int .i64 8, .string ⟨#[]⟩, .int .i64 27, .int .i64 0, .int .i64 1, .int .i64 0, .int .i64 0, .string ⟨#[]⟩, .int .i64 14, .int .i64 7, .int .i64 1, .int .i64 1, .int .i64 0, .string ⟨#[]⟩] ?sx ?sy ?sb ?s1 ?s2 ?s3 ?_); (case sx => rfl); (case sy => rfl); (case sb => exact heap_alloc_new _ _); (case s1 => rfl); (case s2 => rfl); (case s3 => kernel_rfl)))
        intro w2 hbl hg hsz
        have Y0 := Lib.hid (show BK 52 w2 wr.heap.size #[.int .i64 23, .int .i64 5, .int .i64 0, .int .i64 0, .int .i64 9, .string ⟨#[]⟩, .int .i64 23, .int .i64 6, .int .i64 0, .int .i64 0, .int .i64 8, .string ⟨#[]⟩, .int .i64 27, .int .i64 0, .int .i64 1, .int .i64 0, .int .i64 0, .string ⟨#[]⟩, .int .i64 14, .int .i64 7, .int .i64 1, .int .i64 1, .int .i64 0, .string ⟨#[]⟩] from hbl)
        have M0 := Lib.hid ((below_new wr (.cells ZB 52)).grown hg (by simp) (by intro k hk; cases hk; omega))
        have zw0 : w.heap.size + 1 < wr.heap.size := LL.out.lt
        clear hbl hg hsz m0 m1 m2 m3 m4 m5
        generalize hzz : wr.heap.size = z at Y0 ⊢
        have ZZ := Lib.hid hzz
        clear hzz
        have Y1 := Lib.hid (show BK 52 w2 z #[.int .i64 23, .int .i64 5, .int .i64 0, .int .i64 0, .int .i64 9, .string ⟨#[]⟩, .int .i64 23, .int .i64 6, .int .i64 0, .int .i64 0, .int .i64 8, .string ⟨#[]⟩, .int .i64 27, .int .i64 0, .int .i64 1, .int .i64 0, .int .i64 0, .string ⟨#[]⟩, .int .i64 14, .int .i64 7, .int .i64 1, .int .i64 1, .int .i64 0, .string ⟨#[]⟩] from Y0.out)
        have M1 := M0
        go_upto_region 19 with (fail)
        generalize w2 = W4 at Y1 M1 ⊢
        have x12 : W4.cell? ⟨w.heap.size, 12, none⟩ = some (.slice A8 n8 c8) := (M1.out.cell (p := ⟨w.heap.size, 12, none⟩) XX.out.lt).trans (XX.out.cell 12)
        have l0 : W4.cell? ⟨w.heap.size + 1, 0, none⟩ = some (.int .i64 23) := (M1.out.cell (p := ⟨w.heap.size + 1, 0, none⟩) LL.out.lt).trans (LL.out.cell 0)
        have l1 : W4.cell? ⟨w.heap.size + 1, 1, none⟩ = some (.int .i64 5) := (M1.out.cell (p := ⟨w.heap.size + 1, 1, none⟩) LL.out.lt).trans (LL.out.cell 1)
        have l2 : W4.cell? ⟨w.heap.size + 1, 2, none⟩ = some (.int .i64 0) := (M1.out.cell (p := ⟨w.heap.size + 1, 2, none⟩) LL.out.lt).trans (LL.out.cell 2)
        have l3 : W4.cell? ⟨w.heap.size + 1, 3, none⟩ = some (.int .i64 0) := (M1.out.cell (p := ⟨w.heap.size + 1, 3, none⟩) LL.out.lt).trans (LL.out.cell 3)
        have l4 : W4.cell? ⟨w.heap.size + 1, 4, none⟩ = some (.int .i64 9) := (M1.out.cell (p := ⟨w.heap.size + 1, 4, none⟩) LL.out.lt).trans (LL.out.cell 4)
        have l5 : W4.cell? ⟨w.heap.size + 1, 5, none⟩ = some (.string ⟨#[]⟩) := (M1.out.cell (p := ⟨w.heap.size + 1, 5, none⟩) LL.out.lt).trans (LL.out.cell 5)
        go_wp2_with ((with_reducible refine wpList_load_bl (op := ⟨some 55, .load 52 _, _, _, _, none⟩) rfl _ rfl z #[.int .i64 23, .int .i64 5, .int .i64 0, .int .i64 0, .int .i64 9, .string ⟨#[]⟩, .int .i64 23, .int .i64 6, .int .i64 0, .int .i64 0, .int .i64 8, .string ⟨#[]⟩, .int .i64 27, .int .i64 0, .int .i64 1, .int .i64 0, .int .i64 0, .string ⟨#[]⟩, .int .i64 14, .int .i64 7, .int .i64 1, .int .i64 1, .int .i64 0, .string ⟨#[]⟩] ?lx ?lb rfl ?_); (case lx => rfl); (case lb => exact Y1.out))
        refine (runs_any _ _ (sC 7 ((n8 : Int) % 100)) [] _ (rdc_from (heap_alloc_new _ _) rfl [] rfl rfl) (s_vcc (by omega) (by omega) (by omega)) (rd_nil _) (by decide) (by simp) ((TT.out.below (HB.out.trans (M1.out.mono HB.out.size))).alloc _)).mono ?_
        rintro en w4 ⟨rfl, b4⟩
        have M4 := Lib.hid (M1.out.trans (((below_new _ _).trans (b4.mono (by simp))).mono M1.out.size))
        clear b4
        go_wp2_with fail
        go_roundg (8 - (7 + 1))
        case measure => omega
        case rel => exact ⟨7 + 1, by omega, rfl, by go_num, HB.out.trans (M4.out.mono HB.out.size), XX.out.below M4.out, LL.out.below M4.out⟩
    · have hd : decide ((i : Int) < 8) = false := by simp; omega
      have WKE := Lib.hid (wakes_any wr (TT.out.below HB.out))
      go_wp2_with (go_at_call 25; refine WKE.out.mono ?_; rintro en w' ⟨rfl, bz⟩)
      go_ret
      exact ⟨rfl, HB.out.trans (bz.mono HB.out.size)⟩
end Go.Proofs.YtnkadjejdppanaaGreatDoor
