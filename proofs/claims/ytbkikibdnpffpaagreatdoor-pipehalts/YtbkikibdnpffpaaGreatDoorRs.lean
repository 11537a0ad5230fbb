/-
  Contract of the statements' call runs: what code does, with given inputs, is in the program and on the page the same, cycle by cycle. Conditions: the code may be, the inputs are words, at most 100; the tables lie in the world.
-/
import Derived.Test.YtbkikibdnpffpaaGreatDoorWk
namespace Go.Proofs.YtbkikibdnpffpaaGreatDoor
open Go.RowKit

theorem code_ok (C : List (List In5)) (pv : Value) (w : World) (hp : RdC w pv C) (vc : Vcc C) : Calls Tryz.prog 38 #[pv] w (BoolBelow true w) := by
  have := code_pg (C.map bX) pv w hp.raw (szsB_raw C)
  rw [vc.c] at this
  exact this
/-- What the loop keeps. -/
def Rl (g : Nat) (w : World) (i : Nat) (wr : World) : Prop := ∃ cs m, BK 27 wr g cs ∧ cs.size = 11 ∧ SV wr (.agg cs) m ∧ Okc m ∧ m.out.length ≤ 4 * i ∧ Below w.heap.size w wr
set_option maxRecDepth 40000 in
set_option maxHeartbeats 8000000 in
theorem runs_any (pv iv : Value) (C : List (List In5)) (ins : List Int) (w : World) (hp : RdC w pv C) (vc : Vcc C) (hi : Rd .u32 w iv ins) (hl : ins.length ≤ 100) (hw : ∀ x ∈ ins, 0 ≤ x ∧ x ≤ 4294967295) (T : Tab w) : Calls Tryz.prog 26 #[pv, iv] w (BoolBelow true w) := by
  have TT := Lib.hid T
  have PG := Lib.hid (fun W (hb : Below w.heap.size w W) => code_ok C pv W (hp.keep hb) vc)
  have NW := Lib.hid (fun W (hb : Below w.heap.size w W) => new_ok ins iv W (hi.below hb) hl)
  have ST := Lib.hid (fun m cs W (hb : Below w.heap.size w W) (sv : SV W (.agg cs) m) (k : Okc m) (ho : m.out.length + 4 ≤ 1000000) => cycle_ok C m pv (.agg cs) W (hp.keep hb) vc sv k (T.below hb) ho)
  have PR := Lib.hid (fun m cs W (hb : Below w.heap.size w W) (sv : SV W (.agg cs) m) (k : Okc m) (ho : m.out.length + 4 ≤ 1000000) => cycles_ok C m pv (.agg cs) 1 W (hp.keep hb) vc.v sv k (by decide) (by decide) ho)
  have VV := Lib.hid vc.v
  have K0 := Lib.hid (okc0 hl hw)
  obtain ⟨Ap', cp, hpv, _⟩ := hp
  subst hpv
  obtain ⟨Ai, ci, hiv, _⟩ := hi
  subst hiv
  generalize C.length = pl at *
  generalize ins.length = il at *
  clear vc T hw hl
  go_enter Tryz.func26, Tryz.ntmps26
  go_wp2_with fail
  refine (PG.out _ (Below.refl _ _)).mono ?_
  rintro e w3 ⟨rfl, b3⟩
  have G3 := Lib.hid b3
  clear b3
  go_wp2_with fail
  refine (NW.out _ G3.out).mono ?_
  rintro e w4 ⟨V, rfl, s4, b4⟩
  have G4 := Lib.hid (G3.out.trans (b4.mono G3.out.size))
  have S4 := Lib.hid (s4.sv K0.out.ok.R K0.out.ok.mem)
  clear s4 b4
  go_wp2_with ((with_reducible refine wpList_store_bk (T := 27) (op := ⟨none, .store 27 _ _, _, _, _, none⟩) rfl _ _ rfl Tryz.size27 w4.heap.size ZS (stCells (m0 ins) V) ?ax ?ay ?ab ?a1 ?a2 ?a3 ?_); (case ax => rfl); (case ay => rfl); (case a1 => exact rfl); (case a2 => exact rfl); (case a3 => exact st_one (m0 ins) V); (case ab => exact heap_alloc_new w4 _))
  intro w5 hbl hg hsz
  have BL5 := (below_new w4 (.cells ZS 27)).grown hg (by simp) (by intro k hk; cases hk; omega)
  have L5 := Lib.hid (show Rl w4.heap.size w 0 w5 from ⟨_, m0 ins, hbl, rfl, S4.out.below BL5, K0.out, Nat.le_refl _, G4.out.trans (BL5.mono G4.out.size)⟩)
  have Z4 := Lib.hid G4.out.size
  clear hbl hg hsz BL5
  go_wp2_with fail
  generalize hgg : w4.heap.size = g at *
  clear hgg
  go_loopg [6] 50 (fun gk o wr2 => ∃ i : Nat, i ≤ 50 ∧ gk = 50 - i ∧ o = .int .i64 i ∧ Rl g w i wr2)
  case atStart => exact ⟨0, by omega, rfl, rfl, L5.out⟩
  case round =>
    clear L5
    obtain ⟨i, hi, rfl, rfl, hrl⟩ := hrel
    obtain ⟨cs, m, bk, hsz, sv, okm, hout, bel⟩ := hrl
    have B5 := Lib.hid bk
    have CZ := Lib.hid hsz
    have SV0 := Lib.hid sv
    have OK := Lib.hid okm
    have OUT := Lib.hid hout
    have BE := Lib.hid bel
    have gl := bk.lt
    clear bk hsz sv okm hout bel
    by_cases hlt : i < 50
    · have hd : decide ((i : Int) < 50) = true := by simp; omega
      have KM := Lib.hid (runC_okc (n := 1) VV.out OK.out (by have := OUT.out; omega))
      go_wp2_with ((with_reducible refine wpList_load_bk (T := 27) (op := ⟨some 22, .load 27 _, _, _, _, none⟩) rfl _ rfl Tryz.underlying27 Tryz.size27 g cs ?bx ?bb ?bl ?_); (case bx => rfl); (case bl => exact CZ.out); (case bb => exact B5.out))
      refine (ST.out m cs _ BE.out SV0.out OK.out (by have := OUT.out; omega)).mono ?_
      rintro e w6 ⟨v6, rfl, s6, b6⟩
      have B6 := Lib.hid (B5.out.below b6)
      have SV6 := Lib.hid (SV0.out.below b6)
      have E6 := Lib.hid (BE.out.trans (b6.mono BE.out.size))
      clear b6
      generalize hmm : (runC C 1 m).1 = mm at *
      have HMM := Lib.hid hmm
      clear hmm
      have SN1 := Lib.hid s6
      obtain ⟨r1, q1, i1, o1, z1, y1, rfl, a1, a2, a3, a4, a5, a6⟩ := s6.sv
      have ON1 := Lib.hid (one11 (a := mm.tk) (b := mm.pc) (s := mm.stop) (j := mm.jp) (d := mm.dl) a1.one a2.one a3.one a4.one a5.one a6.one)
      clear a1 a2 a3 a4 a5 a6 s6
      go_wp2_with ((with_reducible refine wpList_store_bk (T := 27) (op := ⟨none, .store 27 _ _, _, _, _, none⟩) rfl _ _ rfl Tryz.size27 w6.heap.size ZS #[r1, q1, i1, .int .i64 mm.tk, o1, .int .i64 mm.pc, z1, .int .i64 mm.stop, y1, .int .i64 mm.jp, .int .i64 mm.dl] ?cx ?cy ?cb ?c1 ?c2 ?c3 ?_); (case cx => rfl); (case cy => rfl); (case c1 => exact rfl); (case c2 => exact rfl); (case c3 => exact ON1.out); (case cb => exact heap_alloc_new w6 _))
      intro w7 hbl hg hsz
      have BL7 := (below_new w6 (.cells ZS 27)).grown hg (by simp) (by intro k hk; cases hk; omega)
      have X7 := Lib.hid hbl
      have B7 := Lib.hid (B6.out.below BL7)
      have SV7 := Lib.hid (SV6.out.below BL7)
      have SM7 := Lib.hid (SN1.out.below BL7)
      have E7 := Lib.hid (E6.out.trans (BL7.mono E6.out.size))
      have Z7 := Lib.hid (show g < wr.heap.size from gl)
      clear hbl hg hsz BL7
      go_wp2_with ((with_reducible refine wpList_load_bk (T := 27) (op := ⟨some 28, .load 27 _, _, _, _, none⟩) rfl _ rfl Tryz.underlying27 Tryz.size27 g cs ?dx ?db ?dl ?_); (case dx => rfl); (case dl => exact CZ.out); (case db => exact B7.out))
      refine (PR.out m cs _ E7.out SV7.out OK.out (by have := OUT.out; omega)).mono ?_
      rintro e w8 ⟨v8, rfl, s8, b8⟩
      rw [show (1 : Int).toNat = 1 from rfl, HMM.out] at s8
      have B8 := Lib.hid (B7.out.below b8)
      have X8 := Lib.hid (X7.out.below b8)
      have SM8 := Lib.hid (SM7.out.below b8)
      have E8 := Lib.hid (E7.out.trans (b8.mono E7.out.size))
      clear b8
      have SN2 := Lib.hid s8
      obtain ⟨r2, q2, i2, o2, z2, y2, rfl, a1, a2, a3, a4, a5, a6⟩ := s8.sv
      have ON2 := Lib.hid (one11 (a := mm.tk) (b := mm.pc) (s := mm.stop) (j := mm.jp) (d := mm.dl) a1.one a2.one a3.one a4.one a5.one a6.one)
      clear a1 a2 a3 a4 a5 a6 s8
      go_wp2_with ((with_reducible refine wpList_store_bk (T := 27) (op := ⟨none, .store 27 _ _, _, _, _, none⟩) rfl _ _ rfl Tryz.size27 w8.heap.size ZS #[r2, q2, i2, .int .i64 mm.tk, o2, .int .i64 mm.pc, z2, .int .i64 mm.stop, y2, .int .i64 mm.jp, .int .i64 mm.dl] ?ex ?ey ?eb ?e1 ?e2 ?e3 ?_); (case ex => rfl); (case ey => rfl); (case e1 => exact rfl); (case e2 => exact rfl); (case e3 => exact ON2.out); (case eb => exact heap_alloc_new w8 _))
      intro w9 hbl hg hsz
      have BL9 := (below_new w8 (.cells ZS 27)).grown hg (by simp) (by intro k hk; cases hk; omega)
      have X9 := Lib.hid (X8.out.below BL9)
      have Y9 := Lib.hid hbl
      have B9 := Lib.hid (B8.out.below BL9)
      have SM9 := Lib.hid (SM8.out.below BL9)
      have SP9 := Lib.hid (SN2.out.below BL9)
      have E9 := Lib.hid (E8.out.trans (BL9.mono E8.out.size))
      clear hbl hg hsz BL9
      obtain ⟨x0, x1, x2, x3, x4, x5, x6, x7, x8, x9, x10⟩ := X9.out.c11
      obtain ⟨y0', y1', y2', y3', y4', y5', y6', y7', y8', y9', y10'⟩ := Y9.out.c11
      have xl := X9.out.lt
      have yl := Y9.out.lt
      go_wp2_with (go_at_call 12; refine (num_any _ _).mono ?_; rintro e w' ⟨rfl, rfl⟩)
      refine (eqst_same mm _ _ _ SM9.out.sv SP9.out.sv KM.out.1.ok).mono ?_
      rintro e wA ⟨rfl, bA⟩
      have XA := Lib.hid (X9.out.below bA)
      have BA := Lib.hid (B9.out.below bA)
      have SMA := Lib.hid (SM9.out.below bA)
      have EA := Lib.hid (E9.out.trans (bA.mono E9.out.size))
      clear bA xl yl
      clear x0 x1 x2 x3 x4 x5 x6 x7 x8 x9 x10
      clear y0' y1' y2' y3' y4' y5' y6' y7' y8' y9' y10'
      go_wp2_with (first | ((with_reducible refine wpList_load_bk (T := 27) (op := ⟨some 41, .load 27 _, _, _, _, none⟩) rfl _ rfl Tryz.underlying27 Tryz.size27 w6.heap.size #[r1, q1, i1, .int .i64 mm.tk, o1, .int .i64 mm.pc, z1, .int .i64 mm.stop, y1, .int .i64 mm.jp, .int .i64 mm.dl] ?fx ?fb ?fl ?_); (case fx => rfl); (case fl => exact rfl); (case fb => exact XA.out)) | ((with_reducible refine wpList_store_bk (T := 27) (op := ⟨none, .store 27 _ _, _, _, _, none⟩) rfl _ _ rfl Tryz.size27 g cs #[r1, q1, i1, .int .i64 mm.tk, o1, .int .i64 mm.pc, z1, .int .i64 mm.stop, y1, .int .i64 mm.jp, .int .i64 mm.dl] ?hx ?hy ?hb ?h1 ?h2 ?h3 ?_); (case hx => rfl); (case hy => rfl); (case h1 => exact CZ.out); (case h2 => exact rfl); (case h3 => exact ON1.out); (case hb => exact BA.out)))
      intro wB hbl hg hsz
      have SB := Lib.hid ((SMA.out.grown hg Z7.out).sv)
      have EB := Lib.hid (EA.out.trans (gb_below (B := w.heap.size) hg (by have := Z4.out; omega) (by have := EA.out.size; omega)))
      have XB := Lib.hid hbl
      clear hbl hg hsz
      go_wp2_with fail
      go_roundg (50 - (i + 1))
      case measure => omega
      case rel => exact ⟨i + 1, by omega, rfl, by go_num, _, mm, XB.out, rfl, SB.out, KM.out.1, by have h1 := KM.out.2.1; have := OUT.out; omega, EB.out⟩
    · have hd : decide ((i : Int) < 50) = false := by simp; omega
      have WKE := Lib.hid (wakes_any wr (TT.out.below BE.out))
      go_wp2_with (go_at_call 22; refine WKE.out.mono ?_; rintro e w' ⟨rfl, bz⟩)
      go_ret
      exact ⟨rfl, BE.out.trans (bz.mono BE.out.size)⟩
end Go.Proofs.YtbkikibdnpffpaaGreatDoor
