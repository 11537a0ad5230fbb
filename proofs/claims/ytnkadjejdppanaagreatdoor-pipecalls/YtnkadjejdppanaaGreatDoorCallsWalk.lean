/-
  PipeCalls: the walk: code that calls and comes back, too deep, and with no call, does in the program and on the page the same. Conditions: the tables lie in the world; the argument reads as a script.
-/
import Derived.Test.YtnkadjejdppanaaGreatDoorAt
import Derived.Test.YtnkadjejdppanaaGreatDoorShell
namespace Go.Proofs.YtnkadjejdppanaaGreatDoor
open Go.RowKit

theorem Tryz.info52z : ((Tryz.prog.info? 52).bind (·.zero)).map (·.cells) = some ZB := by kernel_rfl
theorem info52_parts : ∃ ie z, Tryz.prog.info? 52 = some ie ∧ ie.zero = some z ∧ ie.size = 24 ∧ z.cells = ZB := by
  have h1 := Tryz.info52z
  have h2 := Tryz.size52
  cases hi : Tryz.prog.info? 52 with
  | none => rw [hi] at h2; cases h2
  | some ie =>
    rw [hi] at h1 h2
    simp only [Option.map_some, Option.some.injEq, Option.bind_some] at h1 h2
    cases hz : ie.zero with
    | none => rw [hz] at h1; cases h1
    | some z => rw [hz] at h1; simp only [Option.map_some, Option.some.injEq] at h1; exact ⟨ie, z, rfl, hz, h2, h1⟩
def zB : List In5 := [zw, zw, zw, zw]
theorem addro (g o j : Nat) : (⟨g, o, none⟩ : Addr).add j = ⟨g, o + j, none⟩ := by unfold Addr.add; split <;> simp_all
/-- Code in a row, from a place on. -/
theorem rdc_from {w : World} {g n c o : Nat} {cs : Array Value} {C : List (List In5)} (hb : w.heap[g]? = some (.cells cs 52 (0, 0))) (hn : C.length = n) (pre : List Value) (h : cs.toList = pre ++ flatB C) (ho : pre.length = o) : RdC w (.slice (some ⟨g, o, none⟩) n c) C := by
  refine ⟨_, c, by rw [hn], fun i hi => ⟨_, rfl, lt_of_heap hb, fun j u hu => ?_⟩⟩
  have hj : j < 24 := (Array.getElem?_eq_some_iff.1 hu).1
  rw [addro, addro, cell_of_row w g _ cs _ (0, 0) hb, ← Array.getElem?_toList, h, ← ho, List.getElem?_append_right (by omega), show pre.length + i * 24 + j - pre.length = i * 24 + j by omega, flatB_at C i j hi hj]
  exact hu
def cOk (C : List (List In5)) : Bool := (decide (C.length ≤ 1024) && C.all fun b => decide (b.length = 4) && b.all viB) && cdB (C.map bX)
theorem cok_vcc {C : List (List In5)} (h : cOk C = true) : Vcc C := by
  unfold cOk at h
  rw [Bool.and_eq_true] at h
  exact vcc_of h.1 h.2
/-- The code. -/
def caC (e : Int) : List (List In5) := [(atB ⟨31, 0, 0, 0, 6⟩), (atB ⟨22, 1, 1, 0, 1 + e⟩), zB, (atB ⟨27, 0, 1, 0, 0⟩), (atB ⟨33, 0, 0, 0, 0⟩), zB, (atB ⟨22, 1, 1, 0, 1 + e⟩), (atB ⟨32, 0, 0, 0, 0⟩), zB, (atB ⟨22, 1, 1, 0, 1 + e⟩)]
def caR (e : Int) (B : Nat) : Nat → World → Value → Prop
  | 0, _, v => v = .agg (In5.cells ⟨31, 0, 0, 0, 6⟩)
  | 1, _, v => v = .agg (bcs (bX (atB ⟨31, 0, 0, 0, 6⟩)))
  | 2, _, v => v = .agg (In5.cells ⟨22, 1, 1, 0, 1 + e⟩)
  | 3, _, v => v = .agg (bcs (bX (atB ⟨22, 1, 1, 0, 1 + e⟩)))
  | 4, _, v => v = .agg ZB
  | 5, _, v => v = .agg (In5.cells ⟨27, 0, 1, 0, 0⟩)
  | 6, _, v => v = .agg (bcs (bX (atB ⟨27, 0, 1, 0, 0⟩)))
  | 7, _, v => v = .agg (In5.cells ⟨33, 0, 0, 0, 0⟩)
  | 8, _, v => v = .agg (bcs (bX (atB ⟨33, 0, 0, 0, 0⟩)))
  | 9, _, v => v = .agg ZB
  | 10, _, v => v = .agg (In5.cells ⟨22, 1, 1, 0, 1 + e⟩)
  | 11, _, v => v = .agg (bcs (bX (atB ⟨22, 1, 1, 0, 1 + e⟩)))
  | 12, _, v => v = .agg (In5.cells ⟨32, 0, 0, 0, 0⟩)
  | 13, _, v => v = .agg (bcs (bX (atB ⟨32, 0, 0, 0, 0⟩)))
  | 14, _, v => v = .agg ZB
  | 15, _, v => v = .agg (In5.cells ⟨22, 1, 1, 0, 1 + e⟩)
  | 16, _, v => v = .agg (bcs (bX (atB ⟨22, 1, 1, 0, 1 + e⟩)))
  | 17, w, v => ∃ g : Nat, v = .slice (some ⟨g, 0, none⟩) 10 10 ∧ B ≤ g ∧ BK 52 w g (flatB (caC e)).toArray
  | 18, w, v => ∃ g : Nat, v = .slice (some ⟨g, 0, none⟩) 10 10 ∧ B ≤ g ∧ BK 52 w g (flatB (caC e)).toArray
  | _, _, _ => True
theorem caR_st (e : Int) (B : Nat) : ∀ i w w' v, Below w.heap.size w w' → caR e B i w v → caR e B i w' v
  | 0, _, _, _, hb, h => h
  | 1, _, _, _, hb, h => h
  | 2, _, _, _, hb, h => h
  | 3, _, _, _, hb, h => h
  | 4, _, _, _, hb, h => h
  | 5, _, _, _, hb, h => h
  | 6, _, _, _, hb, h => h
  | 7, _, _, _, hb, h => h
  | 8, _, _, _, hb, h => h
  | 9, _, _, _, hb, h => h
  | 10, _, _, _, hb, h => h
  | 11, _, _, _, hb, h => h
  | 12, _, _, _, hb, h => h
  | 13, _, _, _, hb, h => h
  | 14, _, _, _, hb, h => h
  | 15, _, _, _, hb, h => h
  | 16, _, _, _, hb, h => h
  | 17, _, _, _, hb, h => by obtain ⟨g, h1, h2, h3⟩ := h; exact ⟨g, h1, h2, h3.below hb⟩
  | 18, _, _, _, hb, h => by obtain ⟨g, h1, h2, h3⟩ := h; exact ⟨g, h1, h2, h3.below hb⟩
  | _ + 19, _, _, _, _, _ => trivial
def caD (e : Int) : List (List In5) := [atB ⟨22, 1, 1, 0, 1 + e⟩, atB ⟨31, 0, 0, 0, 0⟩, zB, zB]
theorem ca_ok : ∀ e : Fin 3, (cOk (caC e.1) && cOk (caD e.1) && cOk ((caC e.1).drop 7)) = true := by decide +kernel
theorem ca_vcc {e : Int} (h0 : 0 ≤ e) (h1 : e < 3) : Vcc (caC e) ∧ Vcc (caD e) ∧ Vcc ((caC e).drop 7) := by
  have h := ca_ok ⟨e.toNat, by omega⟩
  simp only [show ((e.toNat : Nat) : Int) = e by omega, Bool.and_eq_true] at h
  exact ⟨cok_vcc h.1.1, cok_vcc h.1.2, cok_vcc h.2⟩
set_option maxRecDepth 40000 in
set_option maxHeartbeats 8000000 in
theorem pipeCalls_walk (v : Value) (w : World) (T : Tab w) (H : Asked v) : Calls Tryz.prog 5 #[v] w (BoolBelow true w) := by
  obtain ⟨A0, A1, A2, A3, A4, A5, A6, A8, n0, c0, n1, c1, n2, c2, n3, c3, n4, c4, n5, c5, n6, c6, n8, c8, tk, pc, stop, j, d, rfl, b8⟩ := H
  have TT := Lib.hid T
  have n80 : (0 : Int) ≤ (n8 : Int) := by omega
  have n81 : (n8 : Int) ≤ 1125899906842624 := by omega
  have e0 : (0 : Int) ≤ (n8 : Int) % 3 := by omega
  have e1 : (n8 : Int) % 3 < 3 := by omega
  have VV := Lib.hid (ca_vcc e0 e1)
  clear T b8
  have G0 := Lib.hid (below_new w (.cells #[.slice A0 n0 c0, .slice A1 n1 c1, .slice A2 n2 c2, .slice A3 n3 c3, .int .i64 tk, .slice A4 n4 c4, .int .i64 pc, .slice A5 n5 c5, .int .i64 stop, .slice A6 n6 c6, .int .i64 j, .int .i64 d, .slice A8 n8 c8] 29))
  go_enter Tryz.func5, Tryz.ntmps5
  go_wp2_with fail
  refine (adds_any _ _ _).mono ?_
  rintro e w1 ⟨rfl, b1⟩
  have G1 := Lib.hid (G0.out.trans (b1.mono (by simp)))
  clear b1
  go_wp2_with fail
  generalize hw2 : w1.alloc (.cells #[.int .i64 22, .int .i64 1, .int .i64 1, .int .i64 0, .int .i64 (1 + (n8 : Int) % 3), .string ⟨#[]⟩] 49) = w2
  have ONE := Lib.hid (show BK 49 w2 w1.heap.size #[.int .i64 22, .int .i64 1, .int .i64 1, .int .i64 0, .int .i64 (1 + (n8 : Int) % 3), .string ⟨#[]⟩] by rw [← hw2]; exact BK.new rfl)
  have OL := Lib.hid ONE.out.lt
  have G2 := Lib.hid (show Below w.heap.size w w2 by rw [← hw2]; exact G1.out.trans ((below_new w1 _).mono G1.out.size))
  clear hw2
  have TE := Lib.hid e0
  have TF := Lib.hid e1
  generalize (n8 : Int) % 3 = e at *
  refine wp_region_di (S := fun w' => Below w2.heap.size w2 w') (R := caR e w2.heap.size) (by kernel_rfl) (by kernel_rfl) (by kernel_rfl) (caR_st e _) (by exact below_drewN (Below.refl _ _) 1) ⟨?_, ?_, ?_, ?_, ?_, ?_, ?_, ?_, ?_, ?_, ?_, ?_, ?_, ?_, ?_, ?_, ?_, ?_, ?_, trivial⟩ ?_
  · show DStep _ _ _ _ _ _ _
    intro a w K Q hS hu hd hK
    exact dstep_value (by kernel_rfl) (hK _ _ hS (Below.refl _ _) rfl)
  · show DStep _ _ _ _ _ _ _
    intro a w K Q hS hu hd hK
    have hv : a.tmps.getD 12 undef = .agg (In5.cells ⟨31, 0, 0, 0, 6⟩) := hd 0 12 (by kernel_rfl)
    refine dstep_call1 28 12 (by kernel_rfl) hv (at_any ⟨31, 0, 0, 0, 6⟩ w (show (31 : Nat) < 34 by decide)) ?_
    rintro en w2 ⟨rfl, b2⟩
    exact ⟨_, rfl, hK _ _ (hS.trans (b2.mono hS.size)) b2 rfl⟩
  · show DStep _ _ _ _ _ _ _
    intro a w K Q hS hu hd hK
    have hv := hu 3 (by kernel_rfl)
    exact dstep_load rfl Tryz.underlying49 Tryz.size49 (hx := hv) (hb := ONE.out.belowB hS OL.out) rfl (hK _ _ hS (Below.refl _ _) rfl)
  · show DStep _ _ _ _ _ _ _
    intro a w K Q hS hu hd hK
    have hv : a.tmps.getD 14 undef = .agg (In5.cells ⟨22, 1, 1, 0, 1 + e⟩) := hd 2 14 (by kernel_rfl)
    refine dstep_call1 28 14 (by kernel_rfl) hv (at_any ⟨22, 1, 1, 0, 1 + e⟩ w (show (22 : Nat) < 34 by decide)) ?_
    rintro en w2 ⟨rfl, b2⟩
    exact ⟨_, rfl, hK _ _ (hS.trans (b2.mono hS.size)) b2 rfl⟩
  · show DStep _ _ _ _ _ _ _
    intro a w K Q hS hu hd hK
    exact dstep_value (by kernel_rfl) (hK _ _ hS (Below.refl _ _) rfl)
  · show DStep _ _ _ _ _ _ _
    intro a w K Q hS hu hd hK
    exact dstep_value (by kernel_rfl) (hK _ _ hS (Below.refl _ _) rfl)
  · show DStep _ _ _ _ _ _ _
    intro a w K Q hS hu hd hK
    have hv : a.tmps.getD 17 undef = .agg (In5.cells ⟨27, 0, 1, 0, 0⟩) := hd 5 17 (by kernel_rfl)
    refine dstep_call1 28 17 (by kernel_rfl) hv (at_any ⟨27, 0, 1, 0, 0⟩ w (show (27 : Nat) < 34 by decide)) ?_
    rintro en w2 ⟨rfl, b2⟩
    exact ⟨_, rfl, hK _ _ (hS.trans (b2.mono hS.size)) b2 rfl⟩
  · show DStep _ _ _ _ _ _ _
    intro a w K Q hS hu hd hK
    exact dstep_value (by kernel_rfl) (hK _ _ hS (Below.refl _ _) rfl)
  · show DStep _ _ _ _ _ _ _
    intro a w K Q hS hu hd hK
    have hv : a.tmps.getD 19 undef = .agg (In5.cells ⟨33, 0, 0, 0, 0⟩) := hd 7 19 (by kernel_rfl)
    refine dstep_call1 28 19 (by kernel_rfl) hv (at_any ⟨33, 0, 0, 0, 0⟩ w (show (33 : Nat) < 34 by decide)) ?_
    rintro en w2 ⟨rfl, b2⟩
    exact ⟨_, rfl, hK _ _ (hS.trans (b2.mono hS.size)) b2 rfl⟩
  · show DStep _ _ _ _ _ _ _
    intro a w K Q hS hu hd hK
    exact dstep_value (by kernel_rfl) (hK _ _ hS (Below.refl _ _) rfl)
  · show DStep _ _ _ _ _ _ _
    intro a w K Q hS hu hd hK
    have hv := hu 3 (by kernel_rfl)
    exact dstep_load rfl Tryz.underlying49 Tryz.size49 (hx := hv) (hb := ONE.out.belowB hS OL.out) rfl (hK _ _ hS (Below.refl _ _) rfl)
  · show DStep _ _ _ _ _ _ _
    intro a w K Q hS hu hd hK
    have hv : a.tmps.getD 22 undef = .agg (In5.cells ⟨22, 1, 1, 0, 1 + e⟩) := hd 10 22 (by kernel_rfl)
    refine dstep_call1 28 22 (by kernel_rfl) hv (at_any ⟨22, 1, 1, 0, 1 + e⟩ w (show (22 : Nat) < 34 by decide)) ?_
    rintro en w2 ⟨rfl, b2⟩
    exact ⟨_, rfl, hK _ _ (hS.trans (b2.mono hS.size)) b2 rfl⟩
  · show DStep _ _ _ _ _ _ _
    intro a w K Q hS hu hd hK
    exact dstep_value (by kernel_rfl) (hK _ _ hS (Below.refl _ _) rfl)
  · show DStep _ _ _ _ _ _ _
    intro a w K Q hS hu hd hK
    have hv : a.tmps.getD 24 undef = .agg (In5.cells ⟨32, 0, 0, 0, 0⟩) := hd 12 24 (by kernel_rfl)
    refine dstep_call1 28 24 (by kernel_rfl) hv (at_any ⟨32, 0, 0, 0, 0⟩ w (show (32 : Nat) < 34 by decide)) ?_
    rintro en w2 ⟨rfl, b2⟩
    exact ⟨_, rfl, hK _ _ (hS.trans (b2.mono hS.size)) b2 rfl⟩
  · show DStep _ _ _ _ _ _ _
    intro a w K Q hS hu hd hK
    exact dstep_value (by kernel_rfl) (hK _ _ hS (Below.refl _ _) rfl)
  · show DStep _ _ _ _ _ _ _
    intro a w K Q hS hu hd hK
    have hv := hu 3 (by kernel_rfl)
    exact dstep_load rfl Tryz.underlying49 Tryz.size49 (hx := hv) (hb := ONE.out.belowB hS OL.out) rfl (hK _ _ hS (Below.refl _ _) rfl)
  · show DStep _ _ _ _ _ _ _
    intro a w K Q hS hu hd hK
    have hv : a.tmps.getD 27 undef = .agg (In5.cells ⟨22, 1, 1, 0, 1 + e⟩) := hd 15 27 (by kernel_rfl)
    refine dstep_call1 28 27 (by kernel_rfl) hv (at_any ⟨22, 1, 1, 0, 1 + e⟩ w (show (22 : Nat) < 34 by decide)) ?_
    rintro en w2 ⟨rfl, b2⟩
    exact ⟨_, rfl, hK _ _ (hS.trans (b2.mono hS.size)) b2 rfl⟩
  · show DStep _ _ _ _ _ _ _
    intro a w K Q hS hu hd hK
    have e13 : a.tmps.getD 13 undef = .agg (bcs (bX (atB ⟨31, 0, 0, 0, 6⟩))) := hd 1 13 (by kernel_rfl)
    have e15 : a.tmps.getD 15 undef = .agg (bcs (bX (atB ⟨22, 1, 1, 0, 1 + e⟩))) := hd 3 15 (by kernel_rfl)
    have e16 : a.tmps.getD 16 undef = .agg ZB := hd 4 16 (by kernel_rfl)
    have e18 : a.tmps.getD 18 undef = .agg (bcs (bX (atB ⟨27, 0, 1, 0, 0⟩))) := hd 6 18 (by kernel_rfl)
    have e20 : a.tmps.getD 20 undef = .agg (bcs (bX (atB ⟨33, 0, 0, 0, 0⟩))) := hd 8 20 (by kernel_rfl)
    have e21 : a.tmps.getD 21 undef = .agg ZB := hd 9 21 (by kernel_rfl)
    have e23 : a.tmps.getD 23 undef = .agg (bcs (bX (atB ⟨22, 1, 1, 0, 1 + e⟩))) := hd 11 23 (by kernel_rfl)
    have e25 : a.tmps.getD 25 undef = .agg (bcs (bX (atB ⟨32, 0, 0, 0, 0⟩))) := hd 13 25 (by kernel_rfl)
    have e26 : a.tmps.getD 26 undef = .agg ZB := hd 14 26 (by kernel_rfl)
    have e28 : a.tmps.getD 28 undef = .agg (bcs (bX (atB ⟨22, 1, 1, 0, 1 + e⟩))) := hd 16 28 (by kernel_rfl)
    obtain ⟨ie, z, h1, h2, h3, h4⟩ := info52_parts
    refine wp_buildSlice 22 52 10 _ rfl (flatB (caC e)).toArray ie z Tryz.underlying22 h1 h2 (by rw [h3]; decide) (by rw [h3]; decide) ?_ (hK _ _ (hS.trans ((below_new w _).mono hS.size)) (below_new w _) ⟨_, rfl, hS.size, heap_alloc_new _ _⟩)
    rw [h3, h4, Array.toList_map]
    show Instr.fill _ _ [(0, a.tmps.getD 13 undef), (1, a.tmps.getD 15 undef), (2, a.tmps.getD 16 undef), (3, a.tmps.getD 18 undef), (4, a.tmps.getD 20 undef), (5, a.tmps.getD 21 undef), (6, a.tmps.getD 23 undef), (7, a.tmps.getD 25 undef), (8, a.tmps.getD 26 undef), (9, a.tmps.getD 28 undef)] = _
    rw [e13, e15, e16, e18, e20, e21, e23, e25, e26, e28]
    kernel_rfl
  · show DStep _ _ _ _ _ _ _
    intro a w K Q hS hu hd hK
    exact dstep_value (v := a.tmps.getD 29 undef) (by kernel_rfl) (hK _ _ hS (Below.refl _ _) (hd 17 29 (by kernel_rfl)))
  intro a w3 D
  have D3 := Lib.hid D.s
  obtain ⟨vs, hvs, rfl⟩ := D.form
  obtain ⟨g, hv, hgl, hgb⟩ := hvs 18 _ 4 rfl rfl
  have OL3 := Lib.hid (show w1.heap.size < w2.heap.size from OL.out)
  have O3 := Lib.hid (ONE.out.belowB D3.out OL.out)
  have RC := Lib.hid (show RdC w3 (.slice (some ⟨g, 0, none⟩) 10 10) (caC e) from rdc_from hgb rfl [] rfl rfl)
  have RT := Lib.hid (show RdC w3 (.slice (some ⟨g, 168, none⟩) 3 3) ((caC e).drop 7) from rdc_from hgb rfl (flatB ((caC e).take 7)) rfl rfl)
  have TW := Lib.hid (TT.out.below (G2.out.trans (D3.out.mono G2.out.size)))
  have G3 := Lib.hid (G2.out.trans (D3.out.mono G2.out.size))
  obtain ⟨ie, z, h1, h2, h3, h4⟩ := info52_parts
  have H1 := Lib.hid h1
  have H2 := Lib.hid h2
  have H3 := Lib.hid h3
  have H4 := Lib.hid h4
  clear h1 h2 h3 h4 hgb
  simp only [putAll, List.foldl_cons, List.foldl_nil, Option.getD_some, hv]
  clear hvs hv
  generalize vs 12 = u12, vs 13 = u13, vs 14 = u14, vs 15 = u15, vs 16 = u16, vs 17 = u17, vs 18 = u18, vs 19 = u19, vs 20 = u20, vs 21 = u21, vs 22 = u22, vs 23 = u23, vs 24 = u24, vs 25 = u25, vs 26 = u26, vs 27 = u27, vs 28 = u28, vs 29 = u29
  have o0 : w3.cell? ⟨w1.heap.size, 0, none⟩ = some (.int .i64 22) := O3.out.cell 0
  have o1 : w3.cell? ⟨w1.heap.size, 1, none⟩ = some (.int .i64 1) := O3.out.cell 1
  have o2 : w3.cell? ⟨w1.heap.size, 2, none⟩ = some (.int .i64 1) := O3.out.cell 2
  have o3 : w3.cell? ⟨w1.heap.size, 3, none⟩ = some (.int .i64 0) := O3.out.cell 3
  have o4 : w3.cell? ⟨w1.heap.size, 4, none⟩ = some (.int .i64 (1 + e)) := O3.out.cell 4
  have o5 : w3.cell? ⟨w1.heap.size, 5, none⟩ = some (.string ⟨#[]⟩) := O3.out.cell 5
  go_wp2_with fail
  refine (at_any ⟨22, 1, 1, 0, 1 + e⟩ _ (show (22 : Nat) < 34 by decide)).mono ?_
  rintro en w4 ⟨rfl, b4⟩
  clear o0 o1 o2 o3 o4 o5
  have B4 := Lib.hid b4
  clear b4
  go_wp2_with fail
  refine (at_any ⟨31, 0, 0, 0, 0⟩ _ (show (31 : Nat) < 34 by decide)).mono ?_
  rintro en w5 ⟨rfl, b5⟩
  have B5 := Lib.hid (B4.out.trans (b5.mono B4.out.size))
  clear b5 B4
  go_wp2_with ((with_reducible refine wpList_buildSlice (o := ⟨some 36, .buildSlice 22 4 _, _, _, _, none⟩) rfl 22 52 4 _ rfl (flatB (caD e)).toArray ie z Tryz.underlying22 H1.out H2.out ?k1 ?k2 ?k3 ?_); (case k1 => rw [H3.out]; decide); (case k2 => rw [H3.out]; decide); (case k3 => rw [H3.out, H4.out]; kernel_rfl))
  generalize hw6 : w5.alloc (.cells (flatB (caD e)).toArray 52) = w6
  have RD := Lib.hid (show RdC w6 (.slice (some ⟨w5.heap.size, 0, none⟩) 4 4) (caD e) by rw [← hw6]; exact rdc_from (heap_alloc_new w5 _) rfl [] rfl rfl)
  have B6 := Lib.hid (show Below w3.heap.size w3 w6 by rw [← hw6]; exact B5.out.trans ((below_new w5 _).mono B5.out.size))
  clear hw6 B5
  refine (runs_any _ _ (caC e) [] _ (RC.out.keep B6.out) VV.out.1 (rd_nil _) (by decide) (by simp) (TW.out.below B6.out)).mono ?_
  rintro en w7 ⟨rfl, b7⟩
  have R7 := Lib.hid (RD.out.keep b7)
  have B7 := Lib.hid (B6.out.trans (b7.mono B6.out.size))
  clear b7
  go_wp2_with fail
  refine (runs_any _ _ (caD e) [] _ R7.out VV.out.2.1 (rd_nil _) (by decide) (by simp) (TW.out.below B7.out)).mono ?_
  rintro en w8 ⟨rfl, b8⟩
  have B8 := Lib.hid (B7.out.trans (b8.mono B7.out.size))
  clear b8
  go_wp2_with fail
  refine (runs_any _ _ ((caC e).drop 7) [] _ (RT.out.keep B8.out) VV.out.2.2 (rd_nil _) (by decide) (by simp) (TW.out.below B8.out)).mono ?_
  rintro en w9 ⟨rfl, b9⟩
  have B9 := Lib.hid (B8.out.trans (b9.mono B8.out.size))
  clear b9
  go_wp2_with fail
  go_ret
  exact ⟨rfl, G3.out.trans (B9.out.mono G3.out.size)⟩
end Go.Proofs.YtnkadjejdppanaaGreatDoor
