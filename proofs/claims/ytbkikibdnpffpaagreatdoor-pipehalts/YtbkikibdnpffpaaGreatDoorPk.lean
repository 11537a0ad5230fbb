/-
  Contract of package pipe's Check, where the state may be. Condition: the value reads as a state that may be.
-/
import Derived.Test.YtbkikibdnpffpaaGreatDoorFk
import Derived.Test.YtbkikibdnpffpaaGreatDoorCk2
namespace Go.Proofs.YtbkikibdnpffpaaGreatDoor
open Go.RowKit

theorem st_B0 {m : M} (k : Okc m) : stB m.R.length m.mem.length m.inp.length 0 m.tk m.pc 0 0 0 (m.st.map Int.ofNat) = true := by
  have h1 := k.ok.R
  have h2 := k.ok.mem
  have h3 := k.ok.inp
  have h4 := k.ok.tk
  have h5 := k.ok.pc
  have h6 := k.ok.st
  have h7 : allPl (m.st.map Int.ofNat) = true := by
    refine List.all_eq_true.2 fun x hx => ?_
    obtain ⟨y, hy, rfl⟩ := List.mem_map.1 hx
    have := k.ok.wS y hy
    unfold plB
    simp
    omega
  unfold stB szB plsB plB
  rw [h7, h1, h2]
  simp
  omega
set_option maxRecDepth 20000 in
set_option maxHeartbeats 4000000 in
theorem pcheck_ok (m : M) (v : Value) (w : World) (h : SV w v m) (k : Okc m) : Calls Tryz.prog 13 #[v] w (IntBelow 0 w) := by
  have SB := Lib.hid (st_B0 k)
  have KK := Lib.hid k
  obtain ⟨r, q, i, o, z, y, rfl, a1, a2, a3, a4, a5, a6⟩ := h
  have F := Lib.hid (fun W (hb : Below w.heap.size w W) => isFlight_good m.fl y W (a6.below hb) k.ok.fl k.fb)
  obtain ⟨A1, c1, rfl, _⟩ := a1
  obtain ⟨A2, c2, rfl, _⟩ := a2
  obtain ⟨A3, c3, rfl, _⟩ := a3
  obtain ⟨A5, c5, rfl, ha5⟩ := a5
  have CK := Lib.hid (fun W (hb : Below w.heap.size w W) => check_st A1 A2 A3 A5 none m.R.length c1 m.mem.length c2 m.inp.length c3 c5 0 0 m.tk m.pc 0 0 0 o (m.st.map Int.ofNat) W ((show Rd .i64 w _ _ from ⟨A5, c5, rfl, ha5⟩).below hb) (by have := k.ok.st; simp; omega) true SB.out)
  have t1 : decide (m.stop < 0) = false := by have := k.s0; simp; omega
  have t2 : decide (6 < m.stop) = false := by have := k.s6; simp; omega
  have t3 : decide (1024 < (m.jp : Int)) = false := by have := k.ok.jp; simp; omega
  have t4 : decide (2 < (m.dl : Int)) = false := by have := k.ok.dl; simp; omega
  clear ha5 a4 a6 k SB
  generalize hr : Value.slice A1 m.R.length c1 = r at *
  generalize hq : Value.slice A2 m.mem.length c2 = q at *
  generalize hi : Value.slice A3 m.inp.length c3 = i at *
  generalize hz : Value.slice A5 (m.st.map Int.ofNat).length c5 = z at *
  clear hr hq hi hz
  have X0 := Lib.hid (show BK 27 (w.alloc (.cells #[r, q, i, .int .i64 m.tk, o, .int .i64 m.pc, z, .int .i64 m.stop, y, .int .i64 m.jp, .int .i64 m.dl] 27)) w.heap.size #[r, q, i, .int .i64 m.tk, o, .int .i64 m.pc, z, .int .i64 m.stop, y, .int .i64 m.jp, .int .i64 m.dl] from heap_alloc_new w _)
  have G0 := Lib.hid (below_new w (.cells #[r, q, i, .int .i64 m.tk, o, .int .i64 m.pc, z, .int .i64 m.stop, y, .int .i64 m.jp, .int .i64 m.dl] 27))
  go_enter Tryz.func13, Tryz.ntmps13
  go_wp2_with fail
  refine (F.out _ G0.out).mono ?_
  rintro e w1 ⟨rfl, b1⟩
  have X1 := Lib.hid (X0.out.below b1)
  have G1 := Lib.hid (G0.out.trans (b1.mono (by simp)))
  obtain ⟨q0, q1, q2, q3, q4, q5, q6, q7, q8, q9, q10⟩ := X1.out.c11
  have f7 := X1.out.frozen 7
  have f8 := X1.out.frozen 8
  have f9 := X1.out.frozen 9
  have f10 := X1.out.frozen 10
  have hl1 := X1.out.lt
  clear b1
  have G2 := Lib.hid ((((G1.out.setCell (p := ⟨w.heap.size, 7, none⟩) (by simp) (.int .i64 0)).setCell (p := ⟨w.heap.size, 8, none⟩) (by simp) (.slice none 0 0)).setCell (p := ⟨w.heap.size, 9, none⟩) (by simp) (.int .i64 0)).setCell (p := ⟨w.heap.size, 10, none⟩) (by simp) (.int .i64 0))
  have X2 := Lib.hid (show BK 27 _ w.heap.size #[r, q, i, .int .i64 m.tk, o, .int .i64 m.pc, z, .int .i64 0, .slice none 0 0, .int .i64 0, .int .i64 0] from (((X1.out.set 7 (.int .i64 0)).set 8 (.slice none 0 0)).set 9 (.int .i64 0)).set 10 (.int .i64 0))
  go_wp2_with (first | ((with_reducible refine wpList_load_bk (T := 27) (op := ⟨some 39, .load 27 _, _, _, _, none⟩) rfl _ rfl Tryz.underlying27 Tryz.size27 w.heap.size _ ?lx ?lb ?l1 ?_); (case lx => rfl); (case lb => exact X2.out); (case l1 => rfl)) | (go_at_call 33; refine (CK.out _ G2.out).mono ?_; rintro e w2 ⟨rfl, b2⟩))
  go_ret
  exact ⟨rfl, G2.out.trans (b2.mono (by have := hl1; simp; omega))⟩
end Go.Proofs.YtbkikibdnpffpaaGreatDoor
