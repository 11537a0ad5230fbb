/-
  PipeHalts: the walk: what is on its way is there behind halt, in the program and on the page the same. Conditions: the tables lie in the world; the argument reads as a script.
-/
import Derived.Test.YtbkikibdnpffpaaGreatDoorShell
namespace Go.Proofs.YtbkikibdnpffpaaGreatDoor
open Go.RowKit

theorem addro (g o j : Nat) : (⟨g, o, none⟩ : Addr).add j = ⟨g, o + j, none⟩ := by unfold Addr.add; split <;> simp_all
/-- Code in a row, from a place on. -/
theorem rdc_from {w : World} {g n c o : Nat} {cs : Array Value} {C : List (List In5)} (hb : w.heap[g]? = some (.cells cs 52 (0, 0))) (hn : C.length = n) (pre : List Value) (h : cs.toList = pre ++ flatB C) (ho : pre.length = o) : RdC w (.slice (some ⟨g, o, none⟩) n c) C := by
  refine ⟨_, c, by rw [hn], fun i hi => ⟨_, rfl, lt_of_heap hb, fun j u hu => ?_⟩⟩
  have hj : j < 24 := (Array.getElem?_eq_some_iff.1 hu).1
  rw [addro, addro, cell_of_row w g _ cs _ (0, 0) hb, ← Array.getElem?_toList, h, ← ho, List.getElem?_append_right (by omega), show pre.length + i * 24 + j - pre.length = i * 24 + j by omega, flatB_at C i j hi hj]
  exact hu
/-- The code: a result of two cycles more, one of three, one at once, and halt. -/
def hC (b : Bool) (d : Nat) (e : Int) : List (List In5) :=
  let l : List (List In5) := [[zw, zw, ⟨24, d, 3, 0, 0⟩, zw], [⟨23, 1, 0, 0, 7 + e⟩, zw, zw, zw], [⟨33, 0, 0, 0, 0⟩, zw, zw, zw]]
  if b then [zw, zw, zw, ⟨14, 1, 2, 2, 0⟩] :: l else l
def hOk (b : Bool) (d : Nat) (e : Int) : Bool := (decide ((hC b d e).length ≤ 1024) && (hC b d e).all fun b => decide (b.length = 4) && b.all viB) && cdB ((hC b d e).map bX)
theorem h_ok : ∀ e : Fin 100, (hOk true 1 e.1 && hOk true 2 e.1 && hOk false 1 e.1 && hOk false 2 e.1) = true := by decide +kernel
theorem h_vcc {b : Bool} {d : Nat} {e : Int} (hd : d = 1 ∨ d = 2) (h0 : 0 ≤ e) (h1 : e < 100) : Vcc (hC b d e) := by
  have h := h_ok ⟨e.toNat, by omega⟩
  simp only [show ((e.toNat : Nat) : Int) = e by omega, Bool.and_eq_true] at h
  obtain ⟨⟨⟨a1, a2⟩, a3⟩, a4⟩ := h
  have key : hOk b d e = true := by
    cases b <;> rcases hd with rfl | rfl <;> assumption
  unfold hOk at key
  rw [Bool.and_eq_true] at key
  exact vcc_of key.1 key.2
set_option maxRecDepth 40000 in
set_option maxHeartbeats 8000000 in
theorem pipeHalts_walk (v : Value) (w : World) (T : Tab w) (H : Asked v) : Calls Tryz.prog 7 #[v] w (BoolBelow true w) := by
  obtain ⟨A0, A1, A2, A3, A4, A5, A6, A8, n0, c0, n1, c1, n2, c2, n3, c3, n4, c4, n5, c5, n6, c6, n8, c8, tk, pc, stop, j, d, rfl, b8⟩ := H
  have TT := Lib.hid T
  have n80 : (0 : Int) ≤ (n8 : Int) := by omega
  have n81 : (n8 : Int) ≤ 1125899906842624 := by omega
  clear T b8
  have X0 := Lib.hid (show BK 29 (w.alloc (.cells #[.slice A0 n0 c0, .slice A1 n1 c1, .slice A2 n2 c2, .slice A3 n3 c3, .int .i64 tk, .slice A4 n4 c4, .int .i64 pc, .slice A5 n5 c5, .int .i64 stop, .slice A6 n6 c6, .int .i64 j, .int .i64 d, .slice A8 n8 c8] 29)) w.heap.size #[.slice A0 n0 c0, .slice A1 n1 c1, .slice A2 n2 c2, .slice A3 n3 c3, .int .i64 tk, .slice A4 n4 c4, .int .i64 pc, .slice A5 n5 c5, .int .i64 stop, .slice A6 n6 c6, .int .i64 j, .int .i64 d, .slice A8 n8 c8] from heap_alloc_new w _)
  have G0 := Lib.hid (below_new w (.cells #[.slice A0 n0 c0, .slice A1 n1 c1, .slice A2 n2 c2, .slice A3 n3 c3, .int .i64 tk, .slice A4 n4 c4, .int .i64 pc, .slice A5 n5 c5, .int .i64 stop, .slice A6 n6 c6, .int .i64 j, .int .i64 d, .slice A8 n8 c8] 29))
  go_enter Tryz.func7, Tryz.ntmps7
  go_wp2_with fail
  go_loopg [3] 4 (fun gk o wr2 => ∃ i : Nat, i ≤ 4 ∧ gk = 4 - i ∧ o = .int .i64 i ∧ Below w.heap.size w wr2 ∧ BK 29 wr2 w.heap.size #[.slice A0 n0 c0, .slice A1 n1 c1, .slice A2 n2 c2, .slice A3 n3 c3, .int .i64 tk, .slice A4 n4 c4, .int .i64 pc, .slice A5 n5 c5, .int .i64 stop, .slice A6 n6 c6, .int .i64 j, .int .i64 d, .slice A8 n8 c8])
  case atStart => exact ⟨0, by omega, rfl, rfl, G0.out, X0.out⟩
  case round =>
    obtain ⟨i, hi, rfl, rfl, hb, hk⟩ := hrel
    have HB := Lib.hid hb
    have XX := Lib.hid hk
    have x12 : wr.cell? ⟨w.heap.size, 12, none⟩ = some (.slice A8 n8 c8) := hk.cell 12
    have xl := hk.lt
    clear hb hk
    by_cases hlt : i < 4
    · clear hi
      obtain rfl | rfl | rfl | rfl : i = 0 ∨ i = 1 ∨ i = 2 ∨ i = 3 := by omega
      all_goals clear hlt
      · go_wp2_with fail
        refine (runs_any _ _ (hC true 1 ((n8 : Int) % 100)) [] _ ?hp (h_vcc (by omega) (by omega) (by omega)) (rd_nil _) (by decide) (by simp) ?ht).mono ?_
        case hp => exact rdc_from (heap_alloc_new _ _) rfl [] rfl rfl
        case ht => exact (TT.out.below HB.out).alloc _
        rintro e w2 ⟨rfl, b2⟩
        have G2 := Lib.hid (HB.out.trans (((below_new wr _).trans (b2.mono (by simp))).mono HB.out.size))
        have X2 := Lib.hid ((XX.out.alloc _).below b2)
        clear b2
        go_wp2_with fail
        go_roundg (4 - (0 + 1))
        case measure => omega
        case rel => exact ⟨0 + 1, by omega, rfl, by go_num, G2.out, X2.out⟩
      · go_wp2_with fail
        refine (runs_any _ _ (hC true 2 ((n8 : Int) % 100)) [] _ ?hp (h_vcc (by omega) (by omega) (by omega)) (rd_nil _) (by decide) (by simp) ?ht).mono ?_
        case hp => exact rdc_from (heap_alloc_new _ _) rfl [] rfl rfl
        case ht => exact (TT.out.below HB.out).alloc _
        rintro e w2 ⟨rfl, b2⟩
        have G2 := Lib.hid (HB.out.trans (((below_new wr _).trans (b2.mono (by simp))).mono HB.out.size))
        have X2 := Lib.hid ((XX.out.alloc _).below b2)
        clear b2
        go_wp2_with fail
        go_roundg (4 - (1 + 1))
        case measure => omega
        case rel => exact ⟨1 + 1, by omega, rfl, by go_num, G2.out, X2.out⟩
      · go_wp2_with fail
        refine (runs_any _ _ (hC false 1 ((n8 : Int) % 100)) [] _ ?hp (h_vcc (by omega) (by omega) (by omega)) (rd_nil _) (by decide) (by simp) ?ht).mono ?_
        case hp => exact rdc_from (heap_alloc_new _ _) rfl (bcs (bX [zw, zw, zw, ⟨14, 1, 2, 2, 0⟩])).toList rfl rfl
        case ht => exact (TT.out.below HB.out).alloc _
        rintro e w2 ⟨rfl, b2⟩
        have G2 := Lib.hid (HB.out.trans (((below_new wr _).trans (b2.mono (by simp))).mono HB.out.size))
        have X2 := Lib.hid ((XX.out.alloc _).below b2)
        clear b2
        go_wp2_with fail
        go_roundg (4 - (2 + 1))
        case measure => omega
        case rel => exact ⟨2 + 1, by omega, rfl, by go_num, G2.out, X2.out⟩
      · go_wp2_with fail
        refine (runs_any _ _ (hC false 2 ((n8 : Int) % 100)) [] _ ?hp (h_vcc (by omega) (by omega) (by omega)) (rd_nil _) (by decide) (by simp) ?ht).mono ?_
        case hp => exact rdc_from (heap_alloc_new _ _) rfl (bcs (bX [zw, zw, zw, ⟨14, 1, 2, 2, 0⟩])).toList rfl rfl
        case ht => exact (TT.out.below HB.out).alloc _
        rintro e w2 ⟨rfl, b2⟩
        have G2 := Lib.hid (HB.out.trans (((below_new wr _).trans (b2.mono (by simp))).mono HB.out.size))
        have X2 := Lib.hid ((XX.out.alloc _).below b2)
        clear b2
        go_wp2_with fail
        go_roundg (4 - (3 + 1))
        case measure => omega
        case rel => exact ⟨3 + 1, by omega, rfl, by go_num, G2.out, X2.out⟩
    · have hd : decide ((i : Int) < 4) = false := by simp; omega
      have WKE := Lib.hid (wakes_any wr (TT.out.below HB.out))
      go_wp2_with (go_at_call 22; refine WKE.out.mono ?_; rintro e w' ⟨rfl, bz⟩)
      go_ret
      exact ⟨rfl, HB.out.trans (bz.mono HB.out.size)⟩
end Go.Proofs.YtbkikibdnpffpaaGreatDoor
