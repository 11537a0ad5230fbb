/-
  Contracts of package seq's Step and of the page's Run, where they run. Conditions: the program and the state read so, and may be; the tables lie in the world.
-/
import Derived.Test.YtpnmlednningkaaDoorRun
namespace Go.Proofs.YtpnmlednningkaaDoor
open Go.RowKit

theorem SV.form {w : World} {v : Value} {m : M} (h : SV w v m) : ∃ cs : Array Value, v = .agg cs ∧ cs.size = 11 ∧ cs.all (·.oneCell') = true := by
  obtain ⟨r, q, i, o, z, A, c, rfl, a1, a2, a3, a4, a5⟩ := h
  exact ⟨_, rfl, rfl, one11 a1.one a2.one a3.one a4.one a5.one⟩
theorem results_cell_t {fn : Func} {p a : Tmp} {ty : TypeId} (h : fn.results = #[.cell p ty, .tmp a]) (tmps : Array Value) (P : Program) (w : World) :
    (results fn tmps).run P w = ((asAddr (tmps.getD p undef)).run P w).andThen fun x w₁ => ((loadVar ty x).run P w₁).andThen fun v w₂ => .ok (.tuple #[v, tmps.getD a undef]) w₂ := results_cell_tmp h tmps P w
set_option maxRecDepth 20000 in
set_option maxHeartbeats 4000000 in
theorem step_ok (P : List In5) (m : M) (pv sv : Value) (w : World) (hp : RdP w pv P) (v : Vp P) (h : SV w sv m) (k : Okk m) (T : Tab w) (ho : m.out.length + 1 ≤ 1000000) :
    Calls Tryd.prog 26 #[pv, sv] w (StepPost2 (runP P 1 m).1 w) := by
  have RN := Lib.hid (fun W (hb : Below w.heap.size w W) => run_ok P m pv sv 1 W (hp.keep hb) v (h.below hb) k (T.below hb) (by omega) (by omega) (by simpa using ho))
  obtain ⟨A, c, rfl, _⟩ := hp.form
  obtain ⟨r, q, i, o, z, A6, c6, rfl, a1, a2, a3, a4, a5⟩ := h
  clear a1 a2 a3 a4 a5 hp T k v ho
  generalize P.length = pl at *
  have X0 := Lib.hid (show BK 27 ((w.alloc (.cells #[r, q, i, .int .i64 m.tk, o, .int .i64 m.pc, z, .int .i64 m.stop, .slice A6 0 c6, .int .i64 0, .int .i64 0] 27)).alloc (.cells ZS 27)) w.heap.size #[r, q, i, .int .i64 m.tk, o, .int .i64 m.pc, z, .int .i64 m.stop, .slice A6 0 c6, .int .i64 0, .int .i64 0] from BK.alloc (heap_alloc_new w _) _)
  have Y0 := Lib.hid (show BK 27 ((w.alloc (.cells #[r, q, i, .int .i64 m.tk, o, .int .i64 m.pc, z, .int .i64 m.stop, .slice A6 0 c6, .int .i64 0, .int .i64 0] 27)).alloc (.cells ZS 27)) (w.heap.size + 1) ZS from by have h := heap_alloc_new (w.alloc (.cells #[r, q, i, .int .i64 m.tk, o, .int .i64 m.pc, z, .int .i64 m.stop, .slice A6 0 c6, .int .i64 0, .int .i64 0] 27)) (.cells ZS 27); simpa [BK] using h)
  have G0 := Lib.hid (below_two w (.cells #[r, q, i, .int .i64 m.tk, o, .int .i64 m.pc, z, .int .i64 m.stop, .slice A6 0 c6, .int .i64 0, .int .i64 0] 27) (.cells ZS 27))
  go_enter Tryd.func26, Tryd.ntmps26
  go_wp2_with fail
  refine (RN.out _ G0.out).mono ?_
  rintro e w1 ⟨v1, rfl, s1, b1⟩
  have Y1 := Lib.hid (Y0.out.below b1)
  have T1 := Lib.hid (show w.heap.size + 2 ≤ w1.heap.size by have := b1.size; simp at this; omega)
  have G1 := Lib.hid (G0.out.trans (b1.mono (by simp; omega)))
  have S1 := Lib.hid s1
  obtain ⟨cs, rfl, hcs, hone⟩ := s1.sv.form
  have CZ := Lib.hid hcs
  have CO := Lib.hid hone
  clear s1 hcs hone b1
  go_wp2_with (((with_reducible refine wpList_store_bk (T := 27) (op := ⟨none, .store 27 _ _, _, _, _, none⟩) rfl _ _ rfl Tryd.size27 w1.heap.size ZS cs ?sx ?sy ?sb ?s1 ?s2 ?s3 ?_); (case sx => rfl); (case sy => rfl); (case s1 => rfl); (case s2 => exact CZ.out); (case s3 => exact CO.out); (case sb => exact heap_alloc_new w1 _)))
  intro w2 hbl hg hsz
  have X2 := Lib.hid hbl
  have Y2 := Lib.hid ((Y1.out.alloc (.cells ZS 27)).grown hg (by intro h; injection h; have := T1.out; omega))
  have BL2 := (below_new w1 (.cells ZS 27)).grown hg (by simp) (by intro k hk; cases hk; omega)
  have S2 := Lib.hid (S1.out.below BL2)
  have G2 := Lib.hid (G1.out.trans (BL2.mono (by have := T1.out; omega)))
  have T2 := Lib.hid (show w1.heap.size + 1 = w2.heap.size by rw [hsz])
  clear hbl hg hsz BL2
  go_wp2_with (first | ((with_reducible refine wpList_load_bk (T := 27) (op := ⟨some 16, .load 27 _, _, _, _, none⟩) rfl _ rfl Tryd.underlying27 Tryd.size27 w1.heap.size cs ?lx ?lb ?l1 ?_); (case lx => rfl); (case l1 => exact CZ.out); (case lb => exact X2.out)) | ((with_reducible refine wpList_store_bk (T := 27) (op := ⟨none, .store 27 _ _, _, _, _, none⟩) rfl _ _ rfl Tryd.size27 (w.heap.size + 1) ZS cs ?tx ?ty ?tb ?t1 ?t2 ?t3 ?_); (case tx => rfl); (case ty => rfl); (case t1 => rfl); (case t2 => exact CZ.out); (case t3 => exact CO.out); (case tb => exact Y2.out)))
  intro w9 hbl hg hsz
  have LD := Lib.hid (hbl.load Tryd.underlying27 Tryd.size27 CZ.out)
  have BL9 := gb_below (B := w.heap.size) hg (by omega) (by have := T1.out; have := T2.out; omega)
  have SF := Lib.hid (show SVN w.heap.size w9 (.agg cs) _ from (S2.out.grown hg (by simp)).mono (by simp; omega))
  have BF := Lib.hid (G2.out.trans BL9)
  clear hbl hg hsz BL9
  go_wp2_with fail
  refine bodyPost_ret (v := .tuple #[.agg cs, .int .i64 0]) ?_ rfl ⟨_, rfl, SF.out, BF.out⟩
  rw [results_cell_t Tryd.results26]
  simp [asAddr, Result.andThen, LD.out]
theorem svz {B p g : Nat} {w w' : World} {m : M} {V : Vs} {cs : Array Value} (h : SA B w p m V) (hb : BK 27 w g cs) (hg : w.grownBy w' (some g)) (k : Ok m) : SVN B w' (.agg (stCells m V)) m := by
  have hr : SR B w' m V := { h with
    hr := keep_row h.hr hg (ap_some (row_ne27 h.hr hb (by decide))), hm := keep_row h.hm hg (ap_some (row_ne27 h.hm hb (by decide))), hi := keep_row h.hi hg (ap_some (row_ne27 h.hi hb (by decide))), ho := keep_row h.ho hg (ap_some (row_ne27 h.ho hb (by decide))), hs := keep_row h.hs hg (ap_some (row_ne27 h.hs hb (by decide))) }
  exact hr.svn k.R k.mem
set_option maxRecDepth 20000 in
set_option maxHeartbeats 4000000 in
theorem prun_ok (P : List In5) (m : M) (pv sv : Value) (n : Int) (w : World) (hp : RdP w pv P) (v : Vp P) (h : SV w sv m) (k : Okk m) (h0 : 0 ≤ n) (h1 : n ≤ 20000) (ho : m.out.length + n.toNat ≤ 1000000) :
    Calls Tryd.prog 24 #[pv, sv, .int .i64 n] w (Run2Post (runP P n.toNat m) w) := by
  obtain ⟨N, rfl⟩ : ∃ N : Nat, n = N := ⟨n.toNat, by omega⟩
  rw [show ((N : Nat) : Int).toNat = N by omega] at ho ⊢
  have CC := Lib.hid (fun W (hb : Below w.heap.size w W) => copyState_any m sv W (h.below hb) k.ok)
  obtain ⟨A, c, rfl, hprg⟩ := hp.form
  have SP := Lib.hid (fun B p m V W (hb : Below w.heap.size w W) (hB : w.heap.size ≤ B) (h : SA B W p m V) (k : Ok m) => pstep_any B p A c P m V W v ((hprg.keep hb).mono hB) h k)
  have VP := Lib.hid v
  have KK := Lib.hid k
  have HO := Lib.hid ho
  obtain ⟨r, q, i, o, z, A6, c6, rfl, a1, a2, a3, a4, a5⟩ := h
  clear a1 a2 a3 a4 a5 hprg hp v ho k
  generalize hPl : P.length = pl at *
  clear hPl
  have X0 := Lib.hid (show BK 27 ((w.alloc (.cells #[r, q, i, .int .i64 m.tk, o, .int .i64 m.pc, z, .int .i64 m.stop, .slice A6 0 c6, .int .i64 0, .int .i64 0] 27)).alloc (.cells ZS 27)) w.heap.size #[r, q, i, .int .i64 m.tk, o, .int .i64 m.pc, z, .int .i64 m.stop, .slice A6 0 c6, .int .i64 0, .int .i64 0] from BK.alloc (heap_alloc_new w _) _)
  have Y0 := Lib.hid (show BK 27 ((w.alloc (.cells #[r, q, i, .int .i64 m.tk, o, .int .i64 m.pc, z, .int .i64 m.stop, .slice A6 0 c6, .int .i64 0, .int .i64 0] 27)).alloc (.cells ZS 27)) (w.heap.size + 1) ZS from by have h := heap_alloc_new (w.alloc (.cells #[r, q, i, .int .i64 m.tk, o, .int .i64 m.pc, z, .int .i64 m.stop, .slice A6 0 c6, .int .i64 0, .int .i64 0] 27)) (.cells ZS 27); simpa [BK] using h)
  have G0 := Lib.hid (below_two w (.cells #[r, q, i, .int .i64 m.tk, o, .int .i64 m.pc, z, .int .i64 m.stop, .slice A6 0 c6, .int .i64 0, .int .i64 0] 27) (.cells ZS 27))
  go_enter Tryd.func24, Tryd.ntmps24
  go_wp2_with fail
  refine (CC.out _ G0.out).mono ?_
  rintro e w3 ⟨V, rfl, s3, b3⟩
  have X3 := Lib.hid (X0.out.below b3)
  have Y3 := Lib.hid (Y0.out.below b3)
  have G3 := Lib.hid (G0.out.trans (b3.mono (by simp; omega)))
  have S3 := Lib.hid (show SR (w.heap.size + 2) w3 m V by simpa using s3)
  have T3 := Lib.hid (show w.heap.size + 2 ≤ w3.heap.size by have := b3.size; simp at this; omega)
  clear b3 s3
  go_wp2_with (((with_reducible refine wpList_store_bk (T := 27) (op := ⟨none, .store 27 _ _, _, _, _, none⟩) rfl _ _ rfl Tryd.size27 w.heap.size #[r, q, i, .int .i64 m.tk, o, .int .i64 m.pc, z, .int .i64 m.stop, .slice A6 0 c6, .int .i64 0, .int .i64 0] (stCells m V) ?sx ?sy ?sb ?s1 ?s2 ?s3 ?_); (case sx => rfl); (case sy => rfl); (case s1 => rfl); (case s2 => rfl); (case s3 => exact st_one m V)))
  case sb => exact X3.out
  intro w4 hbl hg hsz
  have Y4 := Lib.hid (Y3.out.grown hg (by simp))
  have L4 := Lib.hid (show Lp w.heap.size w.heap.size P m N w 0 w4 ∧ BK 27 w4 (w.heap.size + 1) ZS from ⟨⟨m, V, At.zero KK.out, (S3.out.grown hg (by intro k hk; cases hk; omega)).sa hbl (by omega) (Nat.le_refl _), gb_below (B := w.heap.size) hg (by omega) (by have := T3.out; omega) |> G3.out.trans⟩, Y4.out⟩)
  clear hbl hg hsz
  go_wp2_with fail
  go_loopg [8] N (fun gk dn wr2 => ∃ i : Nat, i ≤ N ∧ gk = N - i ∧ dn = .int .i64 i ∧ Lp w.heap.size w.heap.size P m N w i wr2 ∧ BK 27 wr2 (w.heap.size + 1) ZS)
  case atStart => exact ⟨0, by omega, rfl, rfl, L4.out.1, L4.out.2⟩
  case round =>
    clear L4
    obtain ⟨i, hi, rfl, rfl, hlp, hbq⟩ := hrel
    have YQ := Lib.hid hbq
    clear hbq
    obtain ⟨m1, V1, at1, sa1, bl1⟩ := hlp
    have AT := Lib.hid at1
    have SA1 := Lib.hid sa1
    have BL := Lib.hid bl1
    have k7 : wr.cell? ⟨w.heap.size, 7, none⟩ = some (.int .i64 m1.stop) := sa1.cell 7
    have hlw := sa1.lt
    clear at1 sa1 bl1
    by_cases hlt : i < N
    · have hd : decide ((i : Int) < (N : Int)) = true := by simpa using hlt
      by_cases hs : m1.stop = 0
      · have hz : (m1.stop == 0) = true := by simpa using hs
        have HS := Lib.hid hs
        clear hs
        go_wp2_with (go_at_call 48; refine (SP.out w.heap.size w.heap.size m1 V1 _ BL.out (by omega) SA1.out AT.out.ok.ok).mono ?_; rintro e w5 ⟨rfl, ⟨⟨V2, sa2⟩, b5⟩, kq⟩; have SA2 := Lib.hid sa2; have B5 := Lib.hid (BL.out.trans b5); have Z5 := Lib.hid (show BK 27 w5 (w.heap.size + 1) ZS from kq _ _ (by omega) YQ.out); clear sa2 b5 kq)
        go_roundg (N - (i + 1))
        case measure => omega
        case rel => exact ⟨i + 1, by omega, rfl, by go_num, ⟨stepP P m1, V2, AT.out.step VP.out HO.out hlt HS.out, SA2.out, B5.out⟩, Z5.out⟩
      · have hz : (m1.stop == 0) = false := by simpa using hs
        have DN := Lib.hid (AT.out.done (.inr hs))
        clear hs
        as_aux_lemma =>
        obtain ⟨TB, hbk⟩ := SA1.out.bk
        have BK1 := Lib.hid (show BK TB wr w.heap.size (stCells m1 V1) from hbk)
        clear hbk
        go_wp2_with (first | ((with_reducible refine wpList_load_bk2 (T := 27) (T' := TB) (op := ⟨some 23, .load 27 _, _, _, _, none⟩) rfl _ rfl Tryd.underlying27 Tryd.size27 w.heap.size (stCells m1 V1) ?lx ?lb ?l1 ?_); (case lx => rfl); (case l1 => rfl); (case lb => exact BK1.out)) | ((with_reducible refine wpList_store_bk (T := 27) (op := ⟨none, .store 27 _ _, _, _, _, none⟩) rfl _ _ rfl Tryd.size27 (w.heap.size + 1) ZS (stCells m1 V1) ?sx ?sy ?sb ?s1 ?s2 ?s3 ?_); (case sx => rfl); (case sy => rfl); (case s1 => rfl); (case s2 => rfl); (case s3 => exact st_one m1 V1); (case sb => exact YQ.out)))
        intro w9 hbl hg hsz
        have LD := Lib.hid (hbl.load Tryd.underlying27 Tryd.size27 rfl)
        have SVF := Lib.hid (svz SA1.out YQ.out hg AT.out.ok.ok)
        have BF := Lib.hid (BL.out.trans (gb_below (B := w.heap.size) hg (by omega) (by have := BL.out.size; omega)))
        clear hbl hg hsz
        go_wp2_with fail
        refine bodyPost_ret (v := .tuple #[.agg (stCells m1 V1), .int .i64 i]) ?_ rfl ⟨_, by rw [DN.out], by rw [DN.out]; exact SVF.out, BF.out⟩
        rw [results_cell_t Tryd.results24]
        simp [asAddr, Result.andThen, LD.out]
    · have hd : decide ((i : Int) < (N : Int)) = false := by simp; omega
      have DN := Lib.hid (AT.out.done (.inl (by omega)))
      as_aux_lemma =>
      obtain ⟨TB, hbk⟩ := SA1.out.bk
      have BK1 := Lib.hid (show BK TB wr w.heap.size (stCells m1 V1) from hbk)
      clear hbk
      go_wp2_with (first | ((with_reducible refine wpList_load_bk2 (T := 27) (T' := TB) (op := ⟨some 23, .load 27 _, _, _, _, none⟩) rfl _ rfl Tryd.underlying27 Tryd.size27 w.heap.size (stCells m1 V1) ?lx ?lb ?l1 ?_); (case lx => rfl); (case l1 => rfl); (case lb => exact BK1.out)) | ((with_reducible refine wpList_store_bk (T := 27) (op := ⟨none, .store 27 _ _, _, _, _, none⟩) rfl _ _ rfl Tryd.size27 (w.heap.size + 1) ZS (stCells m1 V1) ?sx ?sy ?sb ?s1 ?s2 ?s3 ?_); (case sx => rfl); (case sy => rfl); (case s1 => rfl); (case s2 => rfl); (case s3 => exact st_one m1 V1); (case sb => exact YQ.out)))
      intro w9 hbl hg hsz
      have LD := Lib.hid (hbl.load Tryd.underlying27 Tryd.size27 rfl)
      have SVF := Lib.hid (svz SA1.out YQ.out hg AT.out.ok.ok)
      have BF := Lib.hid (BL.out.trans (gb_below (B := w.heap.size) hg (by omega) (by have := BL.out.size; omega)))
      clear hbl hg hsz
      go_wp2_with fail
      refine bodyPost_ret (v := .tuple #[.agg (stCells m1 V1), .int .i64 i]) ?_ rfl ⟨_, by rw [DN.out], by rw [DN.out]; exact SVF.out, BF.out⟩
      rw [results_cell_t Tryd.results24]
      simp [asAddr, Result.andThen, LD.out]
end Go.Proofs.YtpnmlednningkaaDoor
