/-
  PipeJumps: the walk: code with each kind of jump, also in the delay of another, does in the program and on the page the same. Conditions: the tables lie in the world; the argument reads as a script.
-/
import Derived.Test.YtnkadjejdppanaaGreatDoorAt
import Derived.Test.YtnkadjejdppanaaGreatDoorShell
import Derived.Deep.LoopGhost
namespace Go.Proofs.YtnkadjejdppanaaGreatDoor
open Go.RowKit

theorem Tryz.info52z : ((Tryz.prog.info? 52).bind (·.zero)).map (·.cells) = some ZB := by kernel_rfl
theorem info52_parts : ∃ ie z, Tryz.prog.info? 52 = some ie ∧ ie.zero = some z ∧ ie.size = 24 ∧ z.cells = ZB := by
  have h1 := Tryz.info52z
  have h2 := Tryz.size52
  cases hi : Tryz.prog.info? 52 with
  | none => rw [hi] at h2; cases h2
  | some ie =>
    rw [hi] at h1 h2
    simp only [Option.map_some, Option.some.injEq, Option.bind_some] at h1 h2
    cases hz : ie.zero with
    | none => rw [hz] at h1; cases h1
    | some z => rw [hz] at h1; simp only [Option.map_some, Option.some.injEq] at h1; exact ⟨ie, z, rfl, hz, h2, h1⟩
def zB : List In5 := [zw, zw, zw, zw]
theorem addro (g o j : Nat) : (⟨g, o, none⟩ : Addr).add j = ⟨g, o + j, none⟩ := by unfold Addr.add; split <;> simp_all
/-- Code in a row, from a place on. -/
theorem rdc_from {w : World} {g n c o : Nat} {cs : Array Value} {C : List (List In5)} (hb : w.heap[g]? = some (.cells cs 52 (0, 0))) (hn : C.length = n) (pre : List Value) (h : cs.toList = pre ++ flatB C) (ho : pre.length = o) : RdC w (.slice (some ⟨g, o, none⟩) n c) C := by
  refine ⟨_, c, by rw [hn], fun i hi => ⟨_, rfl, lt_of_heap hb, fun j u hu => ?_⟩⟩
  have hj : j < 24 := (Array.getElem?_eq_some_iff.1 hu).1
  rw [addro, addro, cell_of_row w g _ cs _ (0, 0) hb, ← Array.getElem?_toList, h, ← ho, List.getElem?_append_right (by omega), show pre.length + i * 24 + j - pre.length = i * 24 + j by omega, flatB_at C i j hi hj]
  exact hu
def cOk (C : List (List In5)) : Bool := (decide (C.length ≤ 1024) && C.all fun b => decide (b.length = 4) && b.all viB) && cdB (C.map bX)
theorem cok_vcc {C : List (List In5)} (h : cOk C = true) : Vcc C := by
  unfold cOk at h
  rw [Bool.and_eq_true] at h
  exact vcc_of h.1 h.2
/-- The code: the jump, four sums, and a jump in the place of one of them. -/
def juC (k : Nat) : List (List In5) := [(atB ⟨28 + k, 0, 0, 0, 5⟩), (atB ⟨22, 1, 1, 0, 1⟩), (atB ⟨22, 1, 1, 0, 1⟩), (atB ⟨22, 1, 1, 0, 1⟩), (atB ⟨22, 1, 1, 0, 1⟩), (atB ⟨27, 0, 1, 0, 0⟩), (atB ⟨33, 0, 0, 0, 0⟩)]
def juD (k e : Nat) : List (List In5) := (juC k).set (1 + e) (atB ⟨28, 0, 0, 0, 6⟩)
theorem ju_ok : ∀ k : Fin 3, (cOk (juC k.1) && cOk (juD k.1 0) && cOk (juD k.1 1)) = true := by decide +kernel
theorem ju_vcc {k : Nat} (hk : k < 3) : Vcc (juC k) ∧ Vcc (juD k 0) ∧ Vcc (juD k 1) := by
  have h := ju_ok ⟨k, hk⟩
  simp only [Bool.and_eq_true] at h
  exact ⟨cok_vcc h.1.1, cok_vcc h.1.2, cok_vcc h.2⟩
theorem dstep_load_int {Q : Exit → Act → World → Prop} {o : Oper} {a : Act} {w : World} {K : Act → World → Prop} {x : Operand} {p : Addr} {v : Value} (ho : o.op = .load 3 x) (hx : a.eval x = .pointer (some p)) (hc : w.cell? p = some v) (h : K (a.put o.dst v) w) : o.wp Tryz.prog a w K Q := by
  have hl : (loadVar 3 p).run Tryz.prog w = .ok v w := by simp [hc, go_sem]
  unfold Oper.wp execOp
  simp only [ho, hx, Instr.loadAt, Instr.sureAddr, Sem.run_bind, Sem.run_pure, Result.andThen_ok, hl]
  exact h
def juR (i : Nat) (B : Nat) : Nat → World → Value → Prop
  | 0, w, v => ∃ g : Nat, v = .slice (some ⟨g, 0, none⟩) 3 3 ∧ B ≤ g ∧ BK 3 w g #[.int .i64 28, .int .i64 29, .int .i64 30]
  | 1, _, v => v = .int .i64 (i : Nat)
  | 2, _, v => v = .int .i64 ((i % 3 : Nat) : Int)
  | 3, w, v => ∃ g : Nat, v = .pointer (some ⟨g, i % 3, none⟩) ∧ BK 3 w g #[.int .i64 28, .int .i64 29, .int .i64 30]
  | 4, _, v => v = .int .i64 ((28 + i % 3 : Nat) : Int)
  | 5, _, v => v = .agg (In5.cells ⟨28 + i % 3, 0, 0, 0, 5⟩)
  | 6, _, v => v = .agg (bcs (bX (atB ⟨28 + i % 3, 0, 0, 0, 5⟩)))
  | 7, _, v => v = .agg (In5.cells ⟨22, 1, 1, 0, 1⟩)
  | 8, _, v => v = .agg (bcs (bX (atB ⟨22, 1, 1, 0, 1⟩)))
  | 9, _, v => v = .agg (In5.cells ⟨22, 1, 1, 0, 1⟩)
  | 10, _, v => v = .agg (bcs (bX (atB ⟨22, 1, 1, 0, 1⟩)))
  | 11, _, v => v = .agg (In5.cells ⟨22, 1, 1, 0, 1⟩)
  | 12, _, v => v = .agg (bcs (bX (atB ⟨22, 1, 1, 0, 1⟩)))
  | 13, _, v => v = .agg (In5.cells ⟨22, 1, 1, 0, 1⟩)
  | 14, _, v => v = .agg (bcs (bX (atB ⟨22, 1, 1, 0, 1⟩)))
  | 15, _, v => v = .agg (In5.cells ⟨27, 0, 1, 0, 0⟩)
  | 16, _, v => v = .agg (bcs (bX (atB ⟨27, 0, 1, 0, 0⟩)))
  | 17, _, v => v = .agg (In5.cells ⟨33, 0, 0, 0, 0⟩)
  | 18, _, v => v = .agg (bcs (bX (atB ⟨33, 0, 0, 0, 0⟩)))
  | 19, w, v => ∃ g : Nat, v = .slice (some ⟨g, 0, none⟩) 7 7 ∧ B ≤ g ∧ BK 52 w g (flatB (juC (i % 3))).toArray
  | 20, w, v => ∃ g : Nat, v = .slice (some ⟨g, 0, none⟩) 7 7 ∧ B ≤ g ∧ BK 52 w g (flatB (juC (i % 3))).toArray
  | _, _, _ => True
theorem juR_st (i : Nat) (B : Nat) : ∀ q w w' v, Below w.heap.size w w' → juR i B q w v → juR i B q w' v
  | 0, _, _, _, hb, h => by obtain ⟨g, h1, h2, h3⟩ := h; exact ⟨g, h1, h2, h3.below hb⟩
  | 1, _, _, _, hb, h => h
  | 2, _, _, _, hb, h => h
  | 3, _, _, _, hb, h => by obtain ⟨g, h1, h3⟩ := h; exact ⟨g, h1, h3.below hb⟩
  | 4, _, _, _, hb, h => h
  | 5, _, _, _, hb, h => h
  | 6, _, _, _, hb, h => h
  | 7, _, _, _, hb, h => h
  | 8, _, _, _, hb, h => h
  | 9, _, _, _, hb, h => h
  | 10, _, _, _, hb, h => h
  | 11, _, _, _, hb, h => h
  | 12, _, _, _, hb, h => h
  | 13, _, _, _, hb, h => h
  | 14, _, _, _, hb, h => h
  | 15, _, _, _, hb, h => h
  | 16, _, _, _, hb, h => h
  | 17, _, _, _, hb, h => h
  | 18, _, _, _, hb, h => h
  | 19, _, _, _, hb, h => by obtain ⟨g, h1, h2, h3⟩ := h; exact ⟨g, h1, h2, h3.below hb⟩
  | 20, _, _, _, hb, h => by obtain ⟨g, h1, h2, h3⟩ := h; exact ⟨g, h1, h2, h3.below hb⟩
  | _ + 21, _, _, _, _, _ => trivial
set_option maxRecDepth 40000 in
set_option maxHeartbeats 8000000 in
theorem pipeJumps_walk (v : Value) (w : World) (T : Tab w) (H : Asked v) : Calls Tryz.prog 4 #[v] w (BoolBelow true w) := by
  obtain ⟨A0, A1, A2, A3, A4, A5, A6, A8, n0, c0, n1, c1, n2, c2, n3, c3, n4, c4, n5, c5, n6, c6, n8, c8, tk, pc, stop, j, d, rfl, b8⟩ := H
  have TT := Lib.hid T
  have n80 : (0 : Int) ≤ (n8 : Int) := by omega
  have n81 : (n8 : Int) ≤ 1125899906842624 := by omega
  clear T b8
  have G0 := Lib.hid (below_new w (.cells #[.slice A0 n0 c0, .slice A1 n1 c1, .slice A2 n2 c2, .slice A3 n3 c3, .int .i64 tk, .slice A4 n4 c4, .int .i64 pc, .slice A5 n5 c5, .int .i64 stop, .slice A6 n6 c6, .int .i64 j, .int .i64 d, .slice A8 n8 c8] 29))
  have X0 := Lib.hid (show BK 29 (w.alloc (.cells #[.slice A0 n0 c0, .slice A1 n1 c1, .slice A2 n2 c2, .slice A3 n3 c3, .int .i64 tk, .slice A4 n4 c4, .int .i64 pc, .slice A5 n5 c5, .int .i64 stop, .slice A6 n6 c6, .int .i64 j, .int .i64 d, .slice A8 n8 c8] 29)) w.heap.size #[.slice A0 n0 c0, .slice A1 n1 c1, .slice A2 n2 c2, .slice A3 n3 c3, .int .i64 tk, .slice A4 n4 c4, .int .i64 pc, .slice A5 n5 c5, .int .i64 stop, .slice A6 n6 c6, .int .i64 j, .int .i64 d, .slice A8 n8 c8] from heap_alloc_new w _)
  go_enter Tryz.func4, Tryz.ntmps4
  go_wp2_with fail
  refine (adds_any _ _ _).mono ?_
  rintro en w1 ⟨rfl, b1⟩
  have G1 := Lib.hid (G0.out.trans (b1.mono (by simp)))
  have X1 := Lib.hid (X0.out.below b1)
  have wl : w.heap.size < w1.heap.size := X1.out.lt
  clear b1 G0 X0
  go_wp2_with fail
  have O0 := Lib.hid (show BK 49 (w1.alloc (.cells #[.int .i64 22, .int .i64 1, .int .i64 1, .int .i64 0, .int .i64 1, .string ⟨#[]⟩] 49)) w1.heap.size #[.int .i64 22, .int .i64 1, .int .i64 1, .int .i64 0, .int .i64 1, .string ⟨#[]⟩] from BK.new rfl)
  have G0 := Lib.hid (G1.out.trans ((below_new w1 (.cells #[.int .i64 22, .int .i64 1, .int .i64 1, .int .i64 0, .int .i64 1, .string ⟨#[]⟩] 49)).mono G1.out.size))
  have X0 := Lib.hid (X1.out.alloc (.cells #[.int .i64 22, .int .i64 1, .int .i64 1, .int .i64 0, .int .i64 1, .string ⟨#[]⟩] 49))
  have N0 := Lib.hid (show w1.heap.size + 1 ≤ (w1.alloc (.cells #[.int .i64 22, .int .i64 1, .int .i64 1, .int .i64 0, .int .i64 1, .string ⟨#[]⟩] 49)).heap.size by simp)
  generalize w1.alloc (.cells #[.int .i64 22, .int .i64 1, .int .i64 1, .int .i64 0, .int .i64 1, .string ⟨#[]⟩] 49) = w0 at *
  generalize w1.heap.size = o1 at *
  go_loopg [4] 6 (fun gk o wr2 => ∃ i : Nat, i ≤ 6 ∧ gk = 6 - i ∧ o = .int .i64 i ∧ Below w.heap.size w wr2 ∧ o1 < wr2.heap.size ∧ BK 29 wr2 w.heap.size #[.slice A0 n0 c0, .slice A1 n1 c1, .slice A2 n2 c2, .slice A3 n3 c3, .int .i64 tk, .slice A4 n4 c4, .int .i64 pc, .slice A5 n5 c5, .int .i64 stop, .slice A6 n6 c6, .int .i64 j, .int .i64 d, .slice A8 n8 c8] ∧ BK 49 wr2 o1 #[.int .i64 22, .int .i64 1, .int .i64 1, .int .i64 0, .int .i64 1, .string ⟨#[]⟩])
  case atStart => exact ⟨0, by omega, rfl, rfl, G0.out, by have := N0.out; omega, X0.out, O0.out⟩
  case round =>
    obtain ⟨i, hi, rfl, rfl, hb, hz, hk, hl⟩ := hrel
    have HB := Lib.hid hb
    have XX := Lib.hid hk
    have ONE := Lib.hid hl
    have x12 : wr.cell? ⟨w.heap.size, 12, none⟩ = some (.slice A8 n8 c8) := hk.cell 12
    have OL := Lib.hid hz
    clear hb hk hl
    by_cases hlt : i < 6
    · have hd : decide ((i : Int) < 6) = true := by simp; omega
      have k3 : i % 3 < 3 := by omega
      have VV := Lib.hid (ju_vcc k3)
      generalize hwr : wr = w2 at *
      clear hwr
      go_upto_region 5 with (fail)
      refine wp_region_di (S := fun w' => Below w2.heap.size w2 w') (R := juR i w2.heap.size) (by kernel_rfl) (by kernel_rfl) (by kernel_rfl) (juR_st i _) (by exact below_drewN (Below.refl _ _) 1) ⟨?_, ?_, ?_, ?_, ?_, ?_, ?_, ?_, ?_, ?_, ?_, ?_, ?_, ?_, ?_, ?_, ?_, ?_, ?_, ?_, ?_, trivial⟩ ?_
      · show DStep _ _ _ _ _ _ _
        intro a w K Q hS hu hd hK
        exact dstep_value (v := .slice (some ⟨w.heap.size, 0, none⟩) 3 3) (w' := w.alloc (.cells #[.int .i64 28, .int .i64 29, .int .i64 30] 3)) (by kernel_rfl) (hK _ _ (hS.trans ((below_new w _).mono hS.size)) (below_new w _) ⟨_, rfl, hS.size, heap_alloc_new _ _⟩)
      · show DStep _ _ _ _ _ _ _
        intro a w K Q hS hu hd hK
        have hv := hu 4 (by kernel_rfl)
        exact dstep_value (v := a.tmps.getD 4 undef) (by kernel_rfl) (hK _ _ hS (Below.refl _ _) hv)
      · show DStep _ _ _ _ _ _ _
        intro a w K Q hS hu hd hK
        have hv : a.tmps.getD 12 undef = .int .i64 (i : Nat) := hd 1 12 (by kernel_rfl)
        refine dstep_value (v := .int .i64 ((i % 3 : Nat) : Int)) ?_ (hK _ _ hS (Below.refl _ _) rfl)
        simp only [execOp, Act.eval, hv]
        obtain rfl | rfl | rfl | rfl | rfl | rfl : i = 0 ∨ i = 1 ∨ i = 2 ∨ i = 3 ∨ i = 4 ∨ i = 5 := by omega
        all_goals kernel_rfl
      · show DStep _ _ _ _ _ _ _
        intro a w K Q hS hu hd hK
        obtain ⟨g, hv, hg, hb⟩ : ∃ g : Nat, a.tmps.getD 11 undef = .slice (some ⟨g, 0, none⟩) 3 3 ∧ w2.heap.size ≤ g ∧ BK 3 w g #[.int .i64 28, .int .i64 29, .int .i64 30] := hd 0 11 (by kernel_rfl)
        have hw : a.tmps.getD 13 undef = .int .i64 ((i % 3 : Nat) : Int) := hd 2 13 (by kernel_rfl)
        refine dstep_value (v := .pointer (some ⟨g, i % 3, none⟩)) ?_ (hK _ _ hS (Below.refl _ _) ⟨g, rfl, hb⟩)
        simp only [execOp, Act.eval, hv, hw]
        obtain rfl | rfl | rfl | rfl | rfl | rfl : i = 0 ∨ i = 1 ∨ i = 2 ∨ i = 3 ∨ i = 4 ∨ i = 5 := by omega
        all_goals kernel_rfl
      · show DStep _ _ _ _ _ _ _
        intro a w K Q hS hu hd hK
        obtain ⟨g, hv, hb⟩ : ∃ g : Nat, a.tmps.getD 14 undef = .pointer (some ⟨g, i % 3, none⟩) ∧ BK 3 w g #[.int .i64 28, .int .i64 29, .int .i64 30] := hd 3 14 (by kernel_rfl)
        have hc : w.cell? ⟨g, i % 3, none⟩ = some (.int .i64 ((28 + i % 3 : Nat) : Int)) := by
          rw [hb.cell]
          obtain rfl | rfl | rfl | rfl | rfl | rfl : i = 0 ∨ i = 1 ∨ i = 2 ∨ i = 3 ∨ i = 4 ∨ i = 5 := by omega
          all_goals rfl
        exact dstep_load_int rfl hv hc (hK _ _ hS (Below.refl _ _) rfl)
      · show DStep _ _ _ _ _ _ _
        intro a w K Q hS hu hd hK
        have hv : a.tmps.getD 15 undef = .int .i64 ((28 + i % 3 : Nat) : Int) := hd 4 15 (by kernel_rfl)
        refine dstep_value (v := .agg (In5.cells ⟨28 + i % 3, 0, 0, 0, 5⟩)) ?_ (hK _ _ hS (Below.refl _ _) rfl)
        simp only [execOp, Act.eval, List.map_toArray, List.map_cons, List.map_nil, hv]
        kernel_rfl
      · show DStep _ _ _ _ _ _ _
        intro a w K Q hS hu hd hK
        have hv : a.tmps.getD 16 undef = .agg (In5.cells ⟨28 + i % 3, 0, 0, 0, 5⟩) := hd 5 16 (by kernel_rfl)
        refine dstep_call1 28 16 (by kernel_rfl) hv (at_any ⟨28 + i % 3, 0, 0, 0, 5⟩ w (show (28 + i % 3 : Nat) < 34 by omega)) ?_
        rintro en w3 ⟨rfl, b3⟩
        exact ⟨_, rfl, hK _ _ (hS.trans (b3.mono hS.size)) b3 rfl⟩
      · show DStep _ _ _ _ _ _ _
        intro a w K Q hS hu hd hK
        have hv := hu 3 (by kernel_rfl)
        exact dstep_load rfl Tryz.underlying49 Tryz.size49 (hx := hv) (hb := ONE.out.belowB hS OL.out) rfl (hK _ _ hS (Below.refl _ _) rfl)
      · show DStep _ _ _ _ _ _ _
        intro a w K Q hS hu hd hK
        have hv : a.tmps.getD 18 undef = .agg (In5.cells ⟨22, 1, 1, 0, 1⟩) := hd 7 18 (by kernel_rfl)
        refine dstep_call1 28 18 (by kernel_rfl) hv (at_any ⟨22, 1, 1, 0, 1⟩ w (show (22 : Nat) < 34 by decide)) ?_
        rintro en w3 ⟨rfl, b3⟩
        exact ⟨_, rfl, hK _ _ (hS.trans (b3.mono hS.size)) b3 rfl⟩
      · show DStep _ _ _ _ _ _ _
        intro a w K Q hS hu hd hK
        have hv := hu 3 (by kernel_rfl)
        exact dstep_load rfl Tryz.underlying49 Tryz.size49 (hx := hv) (hb := ONE.out.belowB hS OL.out) rfl (hK _ _ hS (Below.refl _ _) rfl)
      · show DStep _ _ _ _ _ _ _
        intro a w K Q hS hu hd hK
        have hv : a.tmps.getD 20 undef = .agg (In5.cells ⟨22, 1, 1, 0, 1⟩) := hd 9 20 (by kernel_rfl)
        refine dstep_call1 28 20 (by kernel_rfl) hv (at_any ⟨22, 1, 1, 0, 1⟩ w (show (22 : Nat) < 34 by decide)) ?_
        rintro en w3 ⟨rfl, b3⟩
        exact ⟨_, rfl, hK _ _ (hS.trans (b3.mono hS.size)) b3 rfl⟩
      · show DStep _ _ _ _ _ _ _
        intro a w K Q hS hu hd hK
        have hv := hu 3 (by kernel_rfl)
        exact dstep_load rfl Tryz.underlying49 Tryz.size49 (hx := hv) (hb := ONE.out.belowB hS OL.out) rfl (hK _ _ hS (Below.refl _ _) rfl)
      · show DStep _ _ _ _ _ _ _
        intro a w K Q hS hu hd hK
        have hv : a.tmps.getD 22 undef = .agg (In5.cells ⟨22, 1, 1, 0, 1⟩) := hd 11 22 (by kernel_rfl)
        refine dstep_call1 28 22 (by kernel_rfl) hv (at_any ⟨22, 1, 1, 0, 1⟩ w (show (22 : Nat) < 34 by decide)) ?_
        rintro en w3 ⟨rfl, b3⟩
        exact ⟨_, rfl, hK _ _ (hS.trans (b3.mono hS.size)) b3 rfl⟩
      · show DStep _ _ _ _ _ _ _
        intro a w K Q hS hu hd hK
        have hv := hu 3 (by kernel_rfl)
        exact dstep_load rfl Tryz.underlying49 Tryz.size49 (hx := hv) (hb := ONE.out.belowB hS OL.out) rfl (hK _ _ hS (Below.refl _ _) rfl)
      · show DStep _ _ _ _ _ _ _
        intro a w K Q hS hu hd hK
        have hv : a.tmps.getD 24 undef = .agg (In5.cells ⟨22, 1, 1, 0, 1⟩) := hd 13 24 (by kernel_rfl)
        refine dstep_call1 28 24 (by kernel_rfl) hv (at_any ⟨22, 1, 1, 0, 1⟩ w (show (22 : Nat) < 34 by decide)) ?_
        rintro en w3 ⟨rfl, b3⟩
        exact ⟨_, rfl, hK _ _ (hS.trans (b3.mono hS.size)) b3 rfl⟩
      · show DStep _ _ _ _ _ _ _
        intro a w K Q hS hu hd hK
        exact dstep_value (by kernel_rfl) (hK _ _ hS (Below.refl _ _) rfl)
      · show DStep _ _ _ _ _ _ _
        intro a w K Q hS hu hd hK
        have hv : a.tmps.getD 26 undef = .agg (In5.cells ⟨27, 0, 1, 0, 0⟩) := hd 15 26 (by kernel_rfl)
        refine dstep_call1 28 26 (by kernel_rfl) hv (at_any ⟨27, 0, 1, 0, 0⟩ w (show (27 : Nat) < 34 by decide)) ?_
        rintro en w3 ⟨rfl, b3⟩
        exact ⟨_, rfl, hK _ _ (hS.trans (b3.mono hS.size)) b3 rfl⟩
      · show DStep _ _ _ _ _ _ _
        intro a w K Q hS hu hd hK
        exact dstep_value (by kernel_rfl) (hK _ _ hS (Below.refl _ _) rfl)
      · show DStep _ _ _ _ _ _ _
        intro a w K Q hS hu hd hK
        have hv : a.tmps.getD 28 undef = .agg (In5.cells ⟨33, 0, 0, 0, 0⟩) := hd 17 28 (by kernel_rfl)
        refine dstep_call1 28 28 (by kernel_rfl) hv (at_any ⟨33, 0, 0, 0, 0⟩ w (show (33 : Nat) < 34 by decide)) ?_
        rintro en w3 ⟨rfl, b3⟩
        exact ⟨_, rfl, hK _ _ (hS.trans (b3.mono hS.size)) b3 rfl⟩
      · show DStep _ _ _ _ _ _ _
        intro a w K Q hS hu hd hK
        have e17 : a.tmps.getD 17 undef = .agg (bcs (bX (atB ⟨28 + i % 3, 0, 0, 0, 5⟩))) := hd 6 17 (by kernel_rfl)
        have e19 : a.tmps.getD 19 undef = .agg (bcs (bX (atB ⟨22, 1, 1, 0, 1⟩))) := hd 8 19 (by kernel_rfl)
        have e21 : a.tmps.getD 21 undef = .agg (bcs (bX (atB ⟨22, 1, 1, 0, 1⟩))) := hd 10 21 (by kernel_rfl)
        have e23 : a.tmps.getD 23 undef = .agg (bcs (bX (atB ⟨22, 1, 1, 0, 1⟩))) := hd 12 23 (by kernel_rfl)
        have e25 : a.tmps.getD 25 undef = .agg (bcs (bX (atB ⟨22, 1, 1, 0, 1⟩))) := hd 14 25 (by kernel_rfl)
        have e27 : a.tmps.getD 27 undef = .agg (bcs (bX (atB ⟨27, 0, 1, 0, 0⟩))) := hd 16 27 (by kernel_rfl)
        have e29 : a.tmps.getD 29 undef = .agg (bcs (bX (atB ⟨33, 0, 0, 0, 0⟩))) := hd 18 29 (by kernel_rfl)
        obtain ⟨ie, z, h1, h2, h3, h4⟩ := info52_parts
        refine wp_buildSlice 22 52 7 _ rfl (flatB (juC (i % 3))).toArray ie z Tryz.underlying22 h1 h2 (by rw [h3]; decide) (by rw [h3]; decide) ?_ (hK _ _ (hS.trans ((below_new w _).mono hS.size)) (below_new w _) ⟨_, rfl, hS.size, heap_alloc_new _ _⟩)
        rw [h3, h4, Array.toList_map]
        show Instr.fill _ _ [(0, a.tmps.getD 17 undef), (1, a.tmps.getD 19 undef), (2, a.tmps.getD 21 undef), (3, a.tmps.getD 23 undef), (4, a.tmps.getD 25 undef), (5, a.tmps.getD 27 undef), (6, a.tmps.getD 29 undef)] = _
        rw [e17, e19, e21, e23, e25, e27, e29]
        kernel_rfl
      · show DStep _ _ _ _ _ _ _
        intro a w K Q hS hu hd hK
        exact dstep_value (v := a.tmps.getD 30 undef) (by kernel_rfl) (hK _ _ hS (Below.refl _ _) (hd 19 30 (by kernel_rfl)))
      intro a w3 D
      have D3 := Lib.hid D.s
      obtain ⟨vs, hvs, rfl⟩ := D.form
      obtain ⟨g, hv, hgl, hgb⟩ := hvs 20 _ 5 rfl rfl
      have Y0 := Lib.hid hgb
      have X3 := Lib.hid (XX.out.below D3.out)
      have O3 := Lib.hid (ONE.out.below D3.out)
      have H3 := Lib.hid (HB.out.trans (D3.out.mono HB.out.size))
      have z3 : o1 < w3.heap.size := by have := D3.out.size; have := OL.out; omega
      have gl := hgb.lt
      have bz := HB.out.size
      have y12 : w3.cell? ⟨w.heap.size, 12, none⟩ = some (.slice A8 n8 c8) := X3.out.cell 12
      have gw : g ≠ w.heap.size := by have := XX.out.lt; omega
      have go1 : g ≠ o1 := by have := OL.out; omega
      simp only [putAll, List.foldl_cons, List.foldl_nil, Option.getD_some, hv]
      clear hvs hv hgb x12 ONE OL XX HB
      generalize vs 11 = u11, vs 12 = u12, vs 13 = u13, vs 14 = u14, vs 15 = u15, vs 16 = u16, vs 17 = u17, vs 18 = u18, vs 19 = u19, vs 20 = u20, vs 21 = u21, vs 22 = u22, vs 23 = u23, vs 24 = u24, vs 25 = u25, vs 26 = u26, vs 27 = u27, vs 28 = u28, vs 29 = u29, vs 30 = u30
      by_cases hgt : 2 < i
      · have hd2 : decide ((2 : Int) < (i : Int)) = true := by simp; omega
        have hm : (n8 : Int) % 2 = 0 ∨ (n8 : Int) % 2 = 1 := by omega
        rcases hm with hm | hm
        · have p0 : w3.cell? ⟨g, 24, none⟩ = some (.int .i64 22) := (Y0.out.cell 24).trans rfl
          have r0 := Y0.out.frozen 24
          have p1 : w3.cell? ⟨g, 25, none⟩ = some (.int .i64 1) := (Y0.out.cell 25).trans rfl
          have r1 := Y0.out.frozen 25
          have p2 : w3.cell? ⟨g, 26, none⟩ = some (.int .i64 1) := (Y0.out.cell 26).trans rfl
          have r2 := Y0.out.frozen 26
          have p3 : w3.cell? ⟨g, 27, none⟩ = some (.int .i64 0) := (Y0.out.cell 27).trans rfl
          have r3 := Y0.out.frozen 27
          have p4 : w3.cell? ⟨g, 28, none⟩ = some (.int .i64 1) := (Y0.out.cell 28).trans rfl
          have r4 := Y0.out.frozen 28
          have p5 : w3.cell? ⟨g, 29, none⟩ = some (.string ⟨#[]⟩) := (Y0.out.cell 29).trans rfl
          have r5 := Y0.out.frozen 29
          have Y1 := Lib.hid (show BK 52 ((((((w3.setCell ⟨g, 24, none⟩ (.int .i64 28)).setCell ⟨g, 25, none⟩ (.int .i64 0)).setCell ⟨g, 26, none⟩ (.int .i64 0)).setCell ⟨g, 27, none⟩ (.int .i64 0)).setCell ⟨g, 28, none⟩ (.int .i64 6)).setCell ⟨g, 29, none⟩ (.string ⟨#[]⟩)) g _ from setI_bk Y0.out 24 ⟨28, 0, 0, 0, 6⟩)
          have GB := Lib.hid (show w3.grownBy ((((((w3.setCell ⟨g, 24, none⟩ (.int .i64 28)).setCell ⟨g, 25, none⟩ (.int .i64 0)).setCell ⟨g, 26, none⟩ (.int .i64 0)).setCell ⟨g, 27, none⟩ (.int .i64 0)).setCell ⟨g, 28, none⟩ (.int .i64 6)).setCell ⟨g, 29, none⟩ (.string ⟨#[]⟩)) (some g) from setI_gb w3 g 24 ⟨28, 0, 0, 0, 6⟩)
          go_wp2_with fail
          generalize ((((((w3.setCell ⟨g, 24, none⟩ (.int .i64 28)).setCell ⟨g, 25, none⟩ (.int .i64 0)).setCell ⟨g, 26, none⟩ (.int .i64 0)).setCell ⟨g, 27, none⟩ (.int .i64 0)).setCell ⟨g, 28, none⟩ (.int .i64 6)).setCell ⟨g, 29, none⟩ (.string ⟨#[]⟩)) = W4 at Y1 GB ⊢
          clear p0 p1 p2 p3 p4 p5 r0 r1 r2 r3 r4 r5
          have H4 := Lib.hid (H3.out.trans (gb_below (B := w.heap.size) GB.out (by omega) (by have := H3.out.size; omega)))
          have X4 := Lib.hid (X3.out.grown GB.out (by intro h; injection h with h; exact gw h.symm))
          have O4 := Lib.hid (O3.out.grown GB.out (by intro h; injection h with h; exact go1 h.symm))
          have z4 : o1 < W4.heap.size := by have := GB.out.size; omega
          refine (runs_any _ _ (juD (i % 3) 0) [] _ (rdc_from Y1.out rfl [] rfl rfl) VV.out.2.1 (rd_nil _) (by decide) (by simp) (TT.out.below H4.out)).mono ?_
          rintro en w5 ⟨rfl, b5⟩
          have M5 := Lib.hid b5
          clear b5
          go_wp2_with fail
          go_roundg (6 - (i + 1))
          case measure => omega
          case rel => exact ⟨i + 1, by omega, rfl, by go_num, H4.out.trans (M5.out.mono H4.out.size), by have := M5.out.size; omega, X4.out.below M5.out, O4.out.below M5.out⟩
        · have p0 : w3.cell? ⟨g, 48, none⟩ = some (.int .i64 22) := (Y0.out.cell 48).trans rfl
          have r0 := Y0.out.frozen 48
          have p1 : w3.cell? ⟨g, 49, none⟩ = some (.int .i64 1) := (Y0.out.cell 49).trans rfl
          have r1 := Y0.out.frozen 49
          have p2 : w3.cell? ⟨g, 50, none⟩ = some (.int .i64 1) := (Y0.out.cell 50).trans rfl
          have r2 := Y0.out.frozen 50
          have p3 : w3.cell? ⟨g, 51, none⟩ = some (.int .i64 0) := (Y0.out.cell 51).trans rfl
          have r3 := Y0.out.frozen 51
          have p4 : w3.cell? ⟨g, 52, none⟩ = some (.int .i64 1) := (Y0.out.cell 52).trans rfl
          have r4 := Y0.out.frozen 52
          have p5 : w3.cell? ⟨g, 53, none⟩ = some (.string ⟨#[]⟩) := (Y0.out.cell 53).trans rfl
          have r5 := Y0.out.frozen 53
          have Y1 := Lib.hid (show BK 52 ((((((w3.setCell ⟨g, 48, none⟩ (.int .i64 28)).setCell ⟨g, 49, none⟩ (.int .i64 0)).setCell ⟨g, 50, none⟩ (.int .i64 0)).setCell ⟨g, 51, none⟩ (.int .i64 0)).setCell ⟨g, 52, none⟩ (.int .i64 6)).setCell ⟨g, 53, none⟩ (.string ⟨#[]⟩)) g _ from setI_bk Y0.out 48 ⟨28, 0, 0, 0, 6⟩)
          have GB := Lib.hid (show w3.grownBy ((((((w3.setCell ⟨g, 48, none⟩ (.int .i64 28)).setCell ⟨g, 49, none⟩ (.int .i64 0)).setCell ⟨g, 50, none⟩ (.int .i64 0)).setCell ⟨g, 51, none⟩ (.int .i64 0)).setCell ⟨g, 52, none⟩ (.int .i64 6)).setCell ⟨g, 53, none⟩ (.string ⟨#[]⟩)) (some g) from setI_gb w3 g 48 ⟨28, 0, 0, 0, 6⟩)
          go_wp2_with fail
          generalize ((((((w3.setCell ⟨g, 48, none⟩ (.int .i64 28)).setCell ⟨g, 49, none⟩ (.int .i64 0)).setCell ⟨g, 50, none⟩ (.int .i64 0)).setCell ⟨g, 51, none⟩ (.int .i64 0)).setCell ⟨g, 52, none⟩ (.int .i64 6)).setCell ⟨g, 53, none⟩ (.string ⟨#[]⟩)) = W4 at Y1 GB ⊢
          clear p0 p1 p2 p3 p4 p5 r0 r1 r2 r3 r4 r5
          have H4 := Lib.hid (H3.out.trans (gb_below (B := w.heap.size) GB.out (by omega) (by have := H3.out.size; omega)))
          have X4 := Lib.hid (X3.out.grown GB.out (by intro h; injection h with h; exact gw h.symm))
          have O4 := Lib.hid (O3.out.grown GB.out (by intro h; injection h with h; exact go1 h.symm))
          have z4 : o1 < W4.heap.size := by have := GB.out.size; omega
          refine (runs_any _ _ (juD (i % 3) 1) [] _ (rdc_from Y1.out rfl [] rfl rfl) VV.out.2.2 (rd_nil _) (by decide) (by simp) (TT.out.below H4.out)).mono ?_
          rintro en w5 ⟨rfl, b5⟩
          have M5 := Lib.hid b5
          clear b5
          go_wp2_with fail
          go_roundg (6 - (i + 1))
          case measure => omega
          case rel => exact ⟨i + 1, by omega, rfl, by go_num, H4.out.trans (M5.out.mono H4.out.size), by have := M5.out.size; omega, X4.out.below M5.out, O4.out.below M5.out⟩
      · have hd2 : decide ((2 : Int) < (i : Int)) = false := by simp; omega
        go_wp2_with fail
        refine (runs_any _ _ (juC (i % 3)) [] _ (rdc_from Y0.out rfl [] rfl rfl) VV.out.1 (rd_nil _) (by decide) (by simp) (TT.out.below H3.out)).mono ?_
        rintro en w4 ⟨rfl, b4⟩
        have M4 := Lib.hid b4
        clear b4
        go_wp2_with fail
        go_roundg (6 - (i + 1))
        case measure => omega
        case rel => exact ⟨i + 1, by omega, rfl, by go_num, H3.out.trans (M4.out.mono H3.out.size), by have := M4.out.size; omega, X3.out.below M4.out, O3.out.below M4.out⟩
    · have hd : decide ((i : Int) < 6) = false := by simp; omega
      have WKE := Lib.hid (wakes_any wr (TT.out.below HB.out))
      go_wp2_with (go_at_call 25; refine WKE.out.mono ?_; rintro en w' ⟨rfl, bz⟩)
      go_ret
      exact ⟨rfl, HB.out.trans (bz.mono HB.out.size)⟩
end Go.Proofs.YtnkadjejdppanaaGreatDoor
