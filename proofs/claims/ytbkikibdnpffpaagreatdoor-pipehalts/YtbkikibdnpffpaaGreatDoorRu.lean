/-
  Contracts of package pipe's Run and Cycle, where they run: of code and a state that may be the state behind so many cycles, and how many they were. Conditions: the code and the state read so, and may be; the tables lie in the world; at most 20,000 cycles.
-/
import Derived.Test.YtbkikibdnpffpaaGreatDoorRc
import Derived.Deep.LoopGhost
namespace Go.Proofs.YtbkikibdnpffpaaGreatDoor
open Go.RowKit

set_option maxRecDepth 20000 in
set_option maxHeartbeats 4000000 in
theorem run_ok (C : List (List In5)) (m : M) (pv sv : Value) (n : Int) (w : World) (hp : RdC w pv C) (vc : Vcc C) (h : SV w sv m) (k : Okc m) (T : Tab w) (h0 : 0 ≤ n) (h1 : n ≤ 20000) (ho : m.out.length + 4 * n.toNat ≤ 1000000) :
    Calls Tryz.prog 15 #[pv, sv, .int .i64 n] w (RunPost (runC C n.toNat m) w) := by
  obtain ⟨N, rfl⟩ : ∃ N : Nat, n = N := ⟨n.toNat, by omega⟩
  rw [show ((N : Nat) : Int).toNat = N by omega] at ho ⊢
  have v := vc.v
  have CP := Lib.hid (fun W (hb : Below w.heap.size w W) => show Calls Tryz.prog 35 #[pv] W (BoolBelow true W) from by have := isCode_any (C.map bX) pv W (hp.keep hb).raw (szsB_raw C) (T.below hb); rw [vc.c] at this; exact this)
  have CC := Lib.hid (fun W (hb : Below w.heap.size w W) => copyOf_any m sv W (h.below hb) k.ok)
  have CK := Lib.hid (fun W (hb : Below w.heap.size w W) => pcheck_ok m sv W (h.below hb) k)
  obtain ⟨A, c, rfl, hprg⟩ := hp
  have hb1 := T.big
  have SP := Lib.hid (fun B p m V W (hb : Below w.heap.size w W) (hB : w.heap.size ≤ B) (h : SA B W p m V) (k : Okc m) (ho : m.out.length + 4 ≤ 1000000) (hs : m.stop = 0) => cycle_any B p A c C m V W h k v (T.below hb) (by omega) ((hprg.keep hb).mono hB) ho hs)
  have VP := Lib.hid v
  have KK := Lib.hid k
  have HO := Lib.hid ho
  obtain ⟨r, q, i, o, z, y, rfl, a1, a2, a3, a4, a5, a6⟩ := h
  have O1 := Lib.hid (one11 (a := m.tk) (b := m.pc) (s := m.stop) (j := m.jp) (d := m.dl) a1.one a2.one a3.one a4.one a5.one a6.one)
  have t1 : decide ((N : Int) < 0) = false := by simp
  have t2 : decide (20000 < (N : Int)) = false := by simp; omega
  clear a1 a2 a3 a4 a5 a6 hprg T k v vc ho hb1
  generalize hPl : C.length = pl at *
  clear hPl
  have X0 := Lib.hid (show BK 27 ((w.alloc (.cells #[r, q, i, .int .i64 m.tk, o, .int .i64 m.pc, z, .int .i64 m.stop, y, .int .i64 m.jp, .int .i64 m.dl] 27)).alloc (.cells ZS 27)) w.heap.size #[r, q, i, .int .i64 m.tk, o, .int .i64 m.pc, z, .int .i64 m.stop, y, .int .i64 m.jp, .int .i64 m.dl] from BK.alloc (heap_alloc_new w _) _)
  have Y0 := Lib.hid (show BK 27 ((w.alloc (.cells #[r, q, i, .int .i64 m.tk, o, .int .i64 m.pc, z, .int .i64 m.stop, y, .int .i64 m.jp, .int .i64 m.dl] 27)).alloc (.cells ZS 27)) (w.heap.size + 1) ZS from by have h := heap_alloc_new (w.alloc (.cells #[r, q, i, .int .i64 m.tk, o, .int .i64 m.pc, z, .int .i64 m.stop, y, .int .i64 m.jp, .int .i64 m.dl] 27)) (.cells ZS 27); simpa [BK] using h)
  have G0 := Lib.hid (below_two w (.cells #[r, q, i, .int .i64 m.tk, o, .int .i64 m.pc, z, .int .i64 m.stop, y, .int .i64 m.jp, .int .i64 m.dl] 27) (.cells ZS 27))
  go_enter Tryz.func15, Tryz.ntmps15
  go_wp2_with fail
  refine (CP.out _ G0.out).mono ?_
  rintro e w1 ⟨rfl, b1⟩
  have X1 := Lib.hid (X0.out.below b1)
  have Y1 := Lib.hid (Y0.out.below b1)
  have G1 := Lib.hid (G0.out.trans (b1.mono (by simp; omega)))
  have T1 := Lib.hid (show w.heap.size + 2 ≤ w1.heap.size by have := b1.size; simp at this; omega)
  obtain ⟨q0, q1, q2, q3, q4, q5, q6, q7, q8, q9, q10⟩ := X1.out.c11
  have hl1 := X1.out.lt
  clear b1
  go_wp2_with fail
  refine (CK.out _ G1.out).mono ?_
  rintro e w2 ⟨rfl, b2⟩
  have X2 := Lib.hid (X1.out.below b2)
  have Y2 := Lib.hid (Y1.out.below b2)
  have G2 := Lib.hid (G1.out.trans (b2.mono (by have := T1.out; omega)))
  have T2 := Lib.hid (show w.heap.size + 2 ≤ w2.heap.size by have := b2.size; have := T1.out; omega)
  clear b2 q0 q1 q2 q3 q4 q5 q6 q7 q8 q9 q10 hl1
  obtain ⟨q0, q1, q2, q3, q4, q5, q6, q7, q8, q9, q10⟩ := X2.out.c11
  have hl1 := X2.out.lt
  go_wp2_with fail
  refine (CC.out _ G2.out).mono ?_
  rintro e w3 ⟨V, rfl, s3, b3⟩
  have Y3 := Lib.hid (Y2.out.below b3)
  have G3 := Lib.hid (G2.out.trans (b3.mono (by have := T2.out; omega)))
  have S3 := Lib.hid s3
  have T3 := Lib.hid (show w.heap.size + 2 ≤ w3.heap.size by have := b3.size; have := T2.out; omega)
  clear b3 s3 q0 q1 q2 q3 q4 q5 q6 q7 q8 q9 q10 hl1
  go_wp2_with (((with_reducible refine wpList_store_bk (T := 27) (op := ⟨none, .store 27 _ _, _, _, _, none⟩) rfl _ _ rfl Tryz.size27 (w.heap.size + 1) ZS (stCells m V) ?sx ?sy ?sb ?s1 ?s2 ?s3 ?_); (case sx => rfl); (case sy => rfl); (case s1 => rfl); (case s2 => rfl); (case s3 => exact st_one m V)))
  case sb => exact Y3.out
  intro w4 hbl hg hsz
  have L4 := Lib.hid (show Lp (w.heap.size + 1) (w.heap.size + 1) C m N w 0 w4 from ⟨m, V, Atc.zero KK.out, (S3.out.grown hg (by intro k hk; cases hk; have := T2.out; omega)).sa hbl (by have := T2.out; omega) (Nat.le_refl _), gb_below (B := w.heap.size) hg (by omega) (by have := T3.out; omega) |> G3.out.trans⟩)
  clear hbl hg hsz
  go_wp2_with fail
  go_loopg [7] N (fun gk dn wr2 => ∃ i : Nat, i ≤ N ∧ gk = N - i ∧ dn = .int .i64 i ∧ Lp (w.heap.size + 1) (w.heap.size + 1) C m N w i wr2)
  case atStart => exact ⟨0, by omega, rfl, rfl, L4.out⟩
  case round =>
    clear L4
    obtain ⟨i, hi, rfl, rfl, hlp⟩ := hrel
    obtain ⟨m1, V1, at1, sa1, bl1⟩ := hlp
    have AT := Lib.hid at1
    have SA1 := Lib.hid sa1
    have BL := Lib.hid bl1
    have k7 : wr.cell? ⟨w.heap.size + 1, 7, none⟩ = some (.int .i64 m1.stop) := sa1.cell 7
    have hlw := sa1.lt
    clear at1 sa1 bl1
    by_cases hlt : i < N
    · have hd : decide ((i : Int) < (N : Int)) = true := by simpa using hlt
      by_cases hs : m1.stop = 0
      · have hz : (m1.stop == 0) = true := by simpa using hs
        have HS := Lib.hid hs
        clear hs
        go_wp2_with (go_at_call 37; refine (SP.out (w.heap.size + 1) (w.heap.size + 1) m1 V1 _ BL.out (by omega) SA1.out AT.out.ok (by have := AT.out.out; have := HO.out; omega) HS.out).mono ?_; rintro e w5 ⟨rfl, ⟨V2, sa2⟩, b5⟩; have SA2 := Lib.hid sa2; have B5 := Lib.hid (BL.out.trans (b5.mono (by omega))); clear sa2 b5)
        go_roundg (N - (i + 1))
        case measure => omega
        case rel => exact ⟨i + 1, by omega, rfl, by go_num, cyc C m1, V2, AT.out.step VP.out HO.out hlt HS.out, SA2.out, B5.out⟩
      · have hz : (m1.stop == 0) = false := by simpa using hs
        have DN := Lib.hid (AT.out.done (.inr hs))
        clear hs
        as_aux_lemma =>
        obtain ⟨TB, hbk⟩ := SA1.out.bk
        have BK1 := Lib.hid (show BK TB wr (w.heap.size + 1) (stCells m1 V1) from hbk)
        clear hbk
        go_wp2_with (first | ((with_reducible refine wpList_load_bk2 (T := 27) (T' := TB) (op := ⟨some 40, .load 27 _, _, _, _, none⟩) rfl _ rfl Tryz.underlying27 Tryz.size27 (w.heap.size + 1) (stCells m1 V1) ?lx ?lb ?l1 ?_); (case lx => rfl); (case l1 => rfl); (case lb => exact BK1.out)) | ((with_reducible refine wpList_store_bk2 (T := 27) (T' := TB) (op := ⟨none, .store 27 _ _, _, _, _, none⟩) rfl _ _ rfl Tryz.size27 (w.heap.size + 1) (stCells m1 V1) (stCells m1 V1) ?sx ?sy ?sb ?s1 ?s2 ?s3 ?_); (case sx => rfl); (case sy => rfl); (case s1 => rfl); (case s2 => rfl); (case s3 => exact st_one m1 V1); (case sb => exact BK1.out)))
        intro w9 hbl hg hsz
        have LD := Lib.hid (hbl.load2 Tryz.underlying27 Tryz.size27 rfl)
        have SVF := Lib.hid ((SA1.out.srp hg).svn AT.out.ok.ok.R AT.out.ok.ok.mem |>.mono (Nat.le_succ _))
        have BF := Lib.hid (BL.out.trans (gb_below (B := w.heap.size) hg (by omega) (by have := BL.out.size; omega)))
        clear hbl hg hsz
        go_wp2_with fail
        refine bodyPost_ret (v := .tuple #[.agg (stCells m1 V1), .int .i64 i, .int .i64 0]) ?_ rfl ⟨_, by rw [DN.out], by rw [DN.out]; exact SVF.out, BF.out⟩
        rw [results_cell_two Tryz.results15]
        simp [asAddr, Result.andThen, LD.out]
    · have hd : decide ((i : Int) < (N : Int)) = false := by simp; omega
      have DN := Lib.hid (AT.out.done (.inl (by omega)))
      as_aux_lemma =>
      obtain ⟨TB, hbk⟩ := SA1.out.bk
      have BK1 := Lib.hid (show BK TB wr (w.heap.size + 1) (stCells m1 V1) from hbk)
      clear hbk
      go_wp2_with (first | ((with_reducible refine wpList_load_bk2 (T := 27) (T' := TB) (op := ⟨some 40, .load 27 _, _, _, _, none⟩) rfl _ rfl Tryz.underlying27 Tryz.size27 (w.heap.size + 1) (stCells m1 V1) ?lx ?lb ?l1 ?_); (case lx => rfl); (case l1 => rfl); (case lb => exact BK1.out)) | ((with_reducible refine wpList_store_bk2 (T := 27) (T' := TB) (op := ⟨none, .store 27 _ _, _, _, _, none⟩) rfl _ _ rfl Tryz.size27 (w.heap.size + 1) (stCells m1 V1) (stCells m1 V1) ?sx ?sy ?sb ?s1 ?s2 ?s3 ?_); (case sx => rfl); (case sy => rfl); (case s1 => rfl); (case s2 => rfl); (case s3 => exact st_one m1 V1); (case sb => exact BK1.out)))
      intro w9 hbl hg hsz
      have LD := Lib.hid (hbl.load2 Tryz.underlying27 Tryz.size27 rfl)
      have SVF := Lib.hid ((SA1.out.srp hg).svn AT.out.ok.ok.R AT.out.ok.ok.mem |>.mono (Nat.le_succ _))
      have BF := Lib.hid (BL.out.trans (gb_below (B := w.heap.size) hg (by omega) (by have := BL.out.size; omega)))
      clear hbl hg hsz
      go_wp2_with fail
      refine bodyPost_ret (v := .tuple #[.agg (stCells m1 V1), .int .i64 i, .int .i64 0]) ?_ rfl ⟨_, by rw [DN.out], by rw [DN.out]; exact SVF.out, BF.out⟩
      rw [results_cell_two Tryz.results15]
      simp [asAddr, Result.andThen, LD.out]
set_option maxRecDepth 20000 in
set_option maxHeartbeats 4000000 in
theorem cycle_ok (C : List (List In5)) (m : M) (pv sv : Value) (w : World) (hp : RdC w pv C) (vc : Vcc C) (h : SV w sv m) (k : Okc m) (T : Tab w) (ho : m.out.length + 4 ≤ 1000000) :
    Calls Tryz.prog 21 #[pv, sv] w (StepPost2 (runC C 1 m).1 w) := by
  have RN := Lib.hid (fun W (hb : Below w.heap.size w W) => run_ok C m pv sv 1 W (hp.keep hb) vc (h.below hb) k (T.below hb) (by omega) (by omega) (by simpa using ho))
  obtain ⟨A, c, rfl, _⟩ := hp
  obtain ⟨r, q, i, o, z, y, rfl, a1, a2, a3, a4, a5, a6⟩ := h
  clear a1 a2 a3 a4 a5 a6 T k vc ho
  generalize C.length = pl at *
  have X0 := Lib.hid (show BK 27 ((w.alloc (.cells #[r, q, i, .int .i64 m.tk, o, .int .i64 m.pc, z, .int .i64 m.stop, y, .int .i64 m.jp, .int .i64 m.dl] 27)).alloc (.cells ZS 27)) w.heap.size #[r, q, i, .int .i64 m.tk, o, .int .i64 m.pc, z, .int .i64 m.stop, y, .int .i64 m.jp, .int .i64 m.dl] from BK.alloc (heap_alloc_new w _) _)
  have Y0 := Lib.hid (show BK 27 ((w.alloc (.cells #[r, q, i, .int .i64 m.tk, o, .int .i64 m.pc, z, .int .i64 m.stop, y, .int .i64 m.jp, .int .i64 m.dl] 27)).alloc (.cells ZS 27)) (w.heap.size + 1) ZS from by have h := heap_alloc_new (w.alloc (.cells #[r, q, i, .int .i64 m.tk, o, .int .i64 m.pc, z, .int .i64 m.stop, y, .int .i64 m.jp, .int .i64 m.dl] 27)) (.cells ZS 27); simpa [BK] using h)
  have G0 := Lib.hid (below_two w (.cells #[r, q, i, .int .i64 m.tk, o, .int .i64 m.pc, z, .int .i64 m.stop, y, .int .i64 m.jp, .int .i64 m.dl] 27) (.cells ZS 27))
  go_enter Tryz.func21, Tryz.ntmps21
  go_wp2_with fail
  refine (RN.out _ G0.out).mono ?_
  rintro e w1 ⟨v1, rfl, s1, b1⟩
  have Y1 := Lib.hid (Y0.out.below b1)
  have T1 := Lib.hid (show w.heap.size + 2 ≤ w1.heap.size by have := b1.size; simp at this; omega)
  have G1 := Lib.hid (G0.out.trans (b1.mono (by simp; omega)))
  have S1 := Lib.hid s1
  obtain ⟨cs, rfl, hcs, hone⟩ := s1.sv.form
  have CZ := Lib.hid hcs
  have CO := Lib.hid hone
  clear s1 hcs hone b1
  go_wp2_with (((with_reducible refine wpList_store_bk (T := 27) (op := ⟨none, .store 27 _ _, _, _, _, none⟩) rfl _ _ rfl Tryz.size27 w1.heap.size ZS cs ?sx ?sy ?sb ?s1 ?s2 ?s3 ?_); (case sx => rfl); (case sy => rfl); (case s1 => rfl); (case s2 => exact CZ.out); (case s3 => exact CO.out); (case sb => exact heap_alloc_new w1 _)))
  intro w2 hbl hg hsz
  have X2 := Lib.hid hbl
  have Y2 := Lib.hid ((Y1.out.alloc (.cells ZS 27)).grown hg (by intro h; injection h; have := T1.out; omega))
  have BL2 := (below_new w1 (.cells ZS 27)).grown hg (by simp) (by intro k hk; cases hk; omega)
  have S2 := Lib.hid (S1.out.below BL2)
  have G2 := Lib.hid (G1.out.trans (BL2.mono (by have := T1.out; omega)))
  have T2 := Lib.hid (show w1.heap.size + 1 = w2.heap.size by rw [hsz])
  clear hbl hg hsz BL2
  go_wp2_with (first | ((with_reducible refine wpList_load_bk (T := 27) (op := ⟨some 16, .load 27 _, _, _, _, none⟩) rfl _ rfl Tryz.underlying27 Tryz.size27 w1.heap.size cs ?lx ?lb ?l1 ?_); (case lx => rfl); (case l1 => exact CZ.out); (case lb => exact X2.out)) | ((with_reducible refine wpList_store_bk (T := 27) (op := ⟨none, .store 27 _ _, _, _, _, none⟩) rfl _ _ rfl Tryz.size27 (w.heap.size + 1) ZS cs ?tx ?ty ?tb ?t1 ?t2 ?t3 ?_); (case tx => rfl); (case ty => rfl); (case t1 => rfl); (case t2 => exact CZ.out); (case t3 => exact CO.out); (case tb => exact Y2.out)))
  intro w9 hbl hg hsz
  have LD := Lib.hid (hbl.load Tryz.underlying27 Tryz.size27 CZ.out)
  have BL9 := gb_below (B := w.heap.size) hg (by omega) (by have := T1.out; have := T2.out; omega)
  have SF := Lib.hid (show SVN w.heap.size w9 (.agg cs) _ from (S2.out.grown hg (by simp)).mono (by simp; omega))
  have BF := Lib.hid (G2.out.trans BL9)
  clear hbl hg hsz BL9
  go_wp2_with fail
  refine bodyPost_ret (v := .tuple #[.agg cs, .int .i64 0]) ?_ rfl ⟨_, rfl, SF.out, BF.out⟩
  rw [results_cell_t Tryz.results21]
  simp [asAddr, Result.andThen, LD.out]
end Go.Proofs.YtbkikibdnpffpaaGreatDoor
