/-
  Contract of the page's Cycles, without looking for hazards: of code and a state that may be the state behind so many cycles, and how many they were. Conditions: the code and the state read so, and may be; at most 20,000 cycles.
-/
import Derived.Test.YtbkikibdnpffpaaGreatDoorRu
namespace Go.Proofs.YtbkikibdnpffpaaGreatDoor
open Go.RowKit

theorem svz {B p g : Nat} {w w' : World} {m : M} {V : Vs} {cs : Array Value} (h : SA B w p m V) (hb : BK 27 w g cs) (hg : w.grownBy w' (some g)) (k : Ok m) : SVN B w' (.agg (stCells m V)) m := by
  have hr : SR B w' m V := { h with
    hr := keep_row h.hr hg (ap_some (row_ne27 h.hr hb (by decide))), hm := keep_row h.hm hg (ap_some (row_ne27 h.hm hb (by decide))), hi := keep_row h.hi hg (ap_some (row_ne27 h.hi hb (by decide))), ho := keep_row h.ho hg (ap_some (row_ne27 h.ho hb (by decide))), hs := keep_row h.hs hg (ap_some (row_ne27 h.hs hb (by decide))), hf := keep_row h.hf hg (ap_some (row_ne27 h.hf hb (by decide))) }
  exact hr.svn k.R k.mem
set_option maxRecDepth 20000 in
set_option maxHeartbeats 4000000 in
theorem cycles_ok (C : List (List In5)) (m : M) (pv sv : Value) (n : Int) (w : World) (hp : RdC w pv C) (v : Vc C) (h : SV w sv m) (k : Okc m) (h0 : 0 ≤ n) (h1 : n ≤ 20000) (ho : m.out.length + 4 * n.toNat ≤ 1000000) :
    Calls Tryz.prog 18 #[pv, sv, .int .i64 n, .bool false] w (Run2Post (runC C n.toNat m) w) := by
  obtain ⟨N, rfl⟩ : ∃ N : Nat, n = N := ⟨n.toNat, by omega⟩
  rw [show ((N : Nat) : Int).toNat = N by omega] at ho ⊢
  have CC := Lib.hid (fun W (hb : Below w.heap.size w W) => copyState_any m sv W (h.below hb) k.ok)
  obtain ⟨A, c, rfl, hprg⟩ := hp
  have LP := Lib.hid (fun B p m V W (h : SA B W p m V) (k : Okc m) => lands_pg B p m V W h k.ok)
  have SP := Lib.hid (fun B p m V W (hb : Below w.heap.size w W) (hB : w.heap.size ≤ B) (h : SA B W p (land m) V) (k : Okc m) (ho : m.out.length + 4 ≤ 1000000) (hs : m.stop = 0) => issue_pg B p A c C m V W h k v ((hprg.keep hb).mono hB) ho hs)
  have VP := Lib.hid v
  have KK := Lib.hid k
  have HO := Lib.hid ho
  obtain ⟨r, q, i, o, z, y, rfl, a1, a2, a3, a4, a5, a6⟩ := h
  clear a1 a2 a3 a4 a5 a6 hprg v ho k
  generalize hPl : C.length = pl at *
  clear hPl
  have X0 := Lib.hid (show BK 27 ((w.alloc (.cells #[r, q, i, .int .i64 m.tk, o, .int .i64 m.pc, z, .int .i64 m.stop, y, .int .i64 m.jp, .int .i64 m.dl] 27)).alloc (.cells ZS 27)) w.heap.size #[r, q, i, .int .i64 m.tk, o, .int .i64 m.pc, z, .int .i64 m.stop, y, .int .i64 m.jp, .int .i64 m.dl] from BK.alloc (heap_alloc_new w _) _)
  have Y0 := Lib.hid (show BK 27 ((w.alloc (.cells #[r, q, i, .int .i64 m.tk, o, .int .i64 m.pc, z, .int .i64 m.stop, y, .int .i64 m.jp, .int .i64 m.dl] 27)).alloc (.cells ZS 27)) (w.heap.size + 1) ZS from by have h := heap_alloc_new (w.alloc (.cells #[r, q, i, .int .i64 m.tk, o, .int .i64 m.pc, z, .int .i64 m.stop, y, .int .i64 m.jp, .int .i64 m.dl] 27)) (.cells ZS 27); simpa [BK] using h)
  have G0 := Lib.hid (below_two w (.cells #[r, q, i, .int .i64 m.tk, o, .int .i64 m.pc, z, .int .i64 m.stop, y, .int .i64 m.jp, .int .i64 m.dl] 27) (.cells ZS 27))
  go_enter Tryz.func18, Tryz.ntmps18
  go_wp2_with fail
  refine (CC.out _ G0.out).mono ?_
  rintro e w3 ⟨V, rfl, s3, b3⟩
  have X3 := Lib.hid (X0.out.below b3)
  have Y3 := Lib.hid (Y0.out.below b3)
  have G3 := Lib.hid (G0.out.trans (b3.mono (by simp; omega)))
  have S3 := Lib.hid (show SR (w.heap.size + 2) w3 m V by simpa using s3)
  have T3 := Lib.hid (show w.heap.size + 2 ≤ w3.heap.size by have := b3.size; simp at this; omega)
  clear b3 s3
  go_wp2_with (((with_reducible refine wpList_store_bk (T := 27) (op := ⟨none, .store 27 _ _, _, _, _, none⟩) rfl _ _ rfl Tryz.size27 w.heap.size #[r, q, i, .int .i64 m.tk, o, .int .i64 m.pc, z, .int .i64 m.stop, y, .int .i64 m.jp, .int .i64 m.dl] (stCells m V) ?sx ?sy ?sb ?s1 ?s2 ?s3 ?_); (case sx => rfl); (case sy => rfl); (case s1 => rfl); (case s2 => rfl); (case s3 => exact st_one m V)))
  case sb => exact X3.out
  intro w4 hbl hg hsz
  have Y4 := Lib.hid (Y3.out.grown hg (by simp))
  have L4 := Lib.hid (show Lp w.heap.size w.heap.size C m N w 0 w4 ∧ BK 27 w4 (w.heap.size + 1) ZS from ⟨⟨m, V, Atc.zero KK.out, (S3.out.grown hg (by intro k hk; cases hk; omega)).sa hbl (by omega) (Nat.le_refl _), gb_below (B := w.heap.size) hg (by omega) (by have := T3.out; omega) |> G3.out.trans⟩, Y4.out⟩)
  clear hbl hg hsz
  go_wp2_with fail
  go_loopg [10] N (fun gk dn wr2 => ∃ i : Nat, i ≤ N ∧ gk = N - i ∧ dn = .int .i64 i ∧ Lp w.heap.size w.heap.size C m N w i wr2 ∧ BK 27 wr2 (w.heap.size + 1) ZS)
  case atStart => exact ⟨0, by omega, rfl, rfl, L4.out.1, L4.out.2⟩
  case round =>
    clear L4
    obtain ⟨i, hi, rfl, rfl, hlp, hbq⟩ := hrel
    have YQ := Lib.hid hbq
    clear hbq
    obtain ⟨m1, V1, at1, sa1, bl1⟩ := hlp
    have AT := Lib.hid at1
    have SA1 := Lib.hid sa1
    have BL := Lib.hid bl1
    have k7 : wr.cell? ⟨w.heap.size, 7, none⟩ = some (.int .i64 m1.stop) := sa1.cell 7
    have hlw := sa1.lt
    clear at1 sa1 bl1
    by_cases hlt : i < N
    · have hd : decide ((i : Int) < (N : Int)) = true := by simpa using hlt
      by_cases hs : m1.stop = 0
      · have hz : (m1.stop == 0) = true := by simpa using hs
        have HS := Lib.hid hs
        clear hs
        go_wp2_with (go_at_call 39; refine (LP.out w.heap.size w.heap.size m1 V1 _ SA1.out AT.out.ok).mono ?_; rintro e w5 ⟨rfl, ⟨⟨V2, sa2⟩, b5⟩, kq⟩; have SA2 := Lib.hid sa2; have B5 := Lib.hid (BL.out.trans b5); have Z5 := Lib.hid (show BK 27 w5 (w.heap.size + 1) ZS from kq _ _ (by omega) YQ.out); clear sa2 b5 kq)
        refine (SP.out w.heap.size w.heap.size m1 V2 _ B5.out (by omega) SA2.out AT.out.ok (by have := AT.out.out; have := HO.out; omega) HS.out).mono ?_
        rintro e w6 ⟨rfl, ⟨⟨V3, sa3⟩, b6⟩, kq⟩
        have SA3 := Lib.hid sa3
        have B6 := Lib.hid (B5.out.trans b6)
        have Z6 := Lib.hid (show BK 27 w6 (w.heap.size + 1) ZS from kq _ _ (by omega) Z5.out)
        clear sa3 b6 kq
        go_wp2_with fail
        go_roundg (N - (i + 1))
        case measure => omega
        case rel => exact ⟨i + 1, by omega, rfl, by go_num, ⟨cyc C m1, V3, AT.out.step VP.out HO.out hlt HS.out, SA3.out, B6.out⟩, Z6.out⟩
      · have hz : (m1.stop == 0) = false := by simpa using hs
        have DN := Lib.hid (AT.out.done (.inr hs))
        clear hs
        as_aux_lemma =>
        obtain ⟨TB, hbk⟩ := SA1.out.bk
        have BK1 := Lib.hid (show BK TB wr w.heap.size (stCells m1 V1) from hbk)
        clear hbk
        go_wp2_with (first | ((with_reducible refine wpList_load_bk2 (T := 27) (T' := TB) (op := ⟨some 34, .load 27 _, _, _, _, none⟩) rfl _ rfl Tryz.underlying27 Tryz.size27 w.heap.size (stCells m1 V1) ?lx ?lb ?l1 ?_); (case lx => rfl); (case l1 => rfl); (case lb => exact BK1.out)) | ((with_reducible refine wpList_store_bk (T := 27) (op := ⟨none, .store 27 _ _, _, _, _, none⟩) rfl _ _ rfl Tryz.size27 (w.heap.size + 1) ZS (stCells m1 V1) ?sx ?sy ?sb ?s1 ?s2 ?s3 ?_); (case sx => rfl); (case sy => rfl); (case s1 => rfl); (case s2 => rfl); (case s3 => exact st_one m1 V1); (case sb => exact YQ.out)))
        intro w9 hbl hg hsz
        have LD := Lib.hid (hbl.load Tryz.underlying27 Tryz.size27 rfl)
        have SVF := Lib.hid (svz SA1.out YQ.out hg AT.out.ok.ok)
        have BF := Lib.hid (BL.out.trans (gb_below (B := w.heap.size) hg (by omega) (by have := BL.out.size; omega)))
        clear hbl hg hsz
        go_wp2_with fail
        refine bodyPost_ret (v := .tuple #[.agg (stCells m1 V1), .int .i64 i]) ?_ rfl ⟨_, by rw [DN.out], by rw [DN.out]; exact SVF.out, BF.out⟩
        rw [results_cell_t Tryz.results18]
        simp [asAddr, Result.andThen, LD.out]
    · have hd : decide ((i : Int) < (N : Int)) = false := by simp; omega
      have DN := Lib.hid (AT.out.done (.inl (by omega)))
      as_aux_lemma =>
      obtain ⟨TB, hbk⟩ := SA1.out.bk
      have BK1 := Lib.hid (show BK TB wr w.heap.size (stCells m1 V1) from hbk)
      clear hbk
      go_wp2_with (first | ((with_reducible refine wpList_load_bk2 (T := 27) (T' := TB) (op := ⟨some 34, .load 27 _, _, _, _, none⟩) rfl _ rfl Tryz.underlying27 Tryz.size27 w.heap.size (stCells m1 V1) ?lx ?lb ?l1 ?_); (case lx => rfl); (case l1 => rfl); (case lb => exact BK1.out)) | ((with_reducible refine wpList_store_bk (T := 27) (op := ⟨none, .store 27 _ _, _, _, _, none⟩) rfl _ _ rfl Tryz.size27 (w.heap.size + 1) ZS (stCells m1 V1) ?sx ?sy ?sb ?s1 ?s2 ?s3 ?_); (case sx => rfl); (case sy => rfl); (case s1 => rfl); (case s2 => rfl); (case s3 => exact st_one m1 V1); (case sb => exact YQ.out)))
      intro w9 hbl hg hsz
      have LD := Lib.hid (hbl.load Tryz.underlying27 Tryz.size27 rfl)
      have SVF := Lib.hid (svz SA1.out YQ.out hg AT.out.ok.ok)
      have BF := Lib.hid (BL.out.trans (gb_below (B := w.heap.size) hg (by omega) (by have := BL.out.size; omega)))
      clear hbl hg hsz
      go_wp2_with fail
      refine bodyPost_ret (v := .tuple #[.agg (stCells m1 V1), .int .i64 i]) ?_ rfl ⟨_, by rw [DN.out], by rw [DN.out]; exact SVF.out, BF.out⟩
      rw [results_cell_t Tryz.results18]
      simp [asAddr, Result.andThen, LD.out]
end Go.Proofs.YtbkikibdnpffpaaGreatDoor
