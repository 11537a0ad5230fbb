/-
  Contract of the statements' call runs: what a program does, with a script's inputs, is on both machines the same, step by step. Conditions: the script reads so; the program may be; the tables lie in the world.
-/
import Derived.Test.YtpnmlednningkaaDoorHv
namespace Go.Proofs.YtpnmlednningkaaDoor
open Go.RowKit

/-- A script's value, and what it holds, as far as the statements look at it. -/
structure ScI (w : World) (s : Value) (xs : List In6) (ins : List Int) : Prop where
  form : ∃ (A0 A1 A2 A3 A4 A5 A6 A7 A8 : Option Addr) (n0 c0 n1 c1 n2 c2 n3 c3 n4 c4 n5 c5 n6 c6 n7 c7 n8 c8 : Nat) (tk pc stop j d : Int), s = .agg #[.slice A0 n0 c0, .slice A1 n1 c1, .slice A2 n2 c2, .slice A3 n3 c3, .int .i64 tk, .slice A4 n4 c4, .int .i64 pc, .slice A5 n5 c5, .int .i64 stop, .slice A6 n6 c6, .int .i64 j, .int .i64 d, .slice A7 n7 c7, .slice A8 n8 c8] ∧ RdI w (.slice A0 n0 c0) xs ∧ xs.length = n0 ∧ Rd .u32 w (.slice A7 n7 c7) ins ∧ ins.length = n7 ∧ n0 ≤ 1125899906842624 ∧ n1 ≤ 1125899906842624 ∧ n2 ≤ 1125899906842624 ∧ n3 ≤ 1125899906842624 ∧ n4 ≤ 1125899906842624 ∧ n5 ≤ 1125899906842624 ∧ n6 ≤ 1125899906842624 ∧ n7 ≤ 1125899906842624 ∧ n8 ≤ 1125899906842624
  sz : szs xs
  wd : ∀ x ∈ ins, 0 ≤ x ∧ x ≤ 4294967295
/-- What the loop keeps. -/
def Rl (g : Nat) (w : World) (i : Nat) (wr : World) : Prop := ∃ cs m, BK 27 wr g cs ∧ cs.size = 11 ∧ SV wr (.agg cs) m ∧ Okk m ∧ m.out.length ≤ i ∧ Below w.heap.size w wr
set_option maxRecDepth 40000 in
set_option maxHeartbeats 8000000 in
theorem runs_any (s pv : Value) (xs : List In6) (ins : List Int) (P : List In5) (w : World) (H : ScI w s xs ins) (hp : RdP w pv P) (v : Vp P) (T : Tab w) : Calls Tryd.prog 31 #[s, pv] w (BoolBelow true w) := by
  obtain ⟨A0, A1, A2, A3, A4, A5, A6, A7, A8, n0, c0, n1, c1, n2, c2, n3, c3, n4, c4, n5, c5, n6, c6, n7, c7, n8, c8, tk, pc, stop, j, d, rfl, hx, hn, hi, hni, h0, h1, h2, h3, h4, h5, h6, h7, h8⟩ := H.form
  have HV := Lib.hid (fun W (hb : Below w.heap.size w W) => heavy_any A0 A1 A2 A3 A4 A5 A6 A7 A8 n0 c0 n1 c1 n2 c2 n3 c3 n4 c4 n5 c5 n6 c6 n7 c7 n8 c8 tk pc stop j d xs W (hx.keep hb) hn H.sz h0 h1 h2 h3 h4 h5 h6 h7 h8)
  have TT := Lib.hid T
  have PG := Lib.hid (fun W (hb : Below w.heap.size w W) => program_is (P.map In5.raw) pv true W (RdP.keep hp hb) (szs_raw P) v.raw)
  have NW := Lib.hid (fun W (hb : Below w.heap.size w W) (hl : n7 ≤ 100) => new_ok ins _ W (hi.below hb) (by rw [hni]; exact hl))
  have ST := Lib.hid (fun m cs W (hb : Below w.heap.size w W) (sv : SV W (.agg cs) m) (k : Okk m) (ho : m.out.length + 1 ≤ 1000000) => step_ok P m pv (.agg cs) W (hp.keep hb) v sv k (T.below hb) ho)
  have RN := Lib.hid (fun m cs W (hb : Below w.heap.size w W) (sv : SV W (.agg cs) m) (k : Okk m) (ho : m.out.length + 100 ≤ 1000000) => run_ok P m pv (.agg cs) 100 W (hp.keep hb) v sv k (T.below hb) (by decide) (by decide) ho)
  have PR1 := Lib.hid (fun m cs W (hb : Below w.heap.size w W) (sv : SV W (.agg cs) m) (k : Okk m) (ho : m.out.length + 1 ≤ 1000000) => prun_ok P m pv (.agg cs) 1 W (hp.keep hb) v sv k (by decide) (by decide) ho)
  have PR2 := Lib.hid (fun m cs W (hb : Below w.heap.size w W) (sv : SV W (.agg cs) m) (k : Okk m) (ho : m.out.length + 100 ≤ 1000000) => prun_ok P m pv (.agg cs) 100 W (hp.keep hb) v sv k (by decide) (by decide) ho)
  have VV := Lib.hid v
  have WD := Lib.hid H.wd
  have NI := Lib.hid hni
  obtain ⟨Ap', cp, hpv, _⟩ := hp.form
  subst hpv
  generalize P.length = pl at *
  clear hx hn hi hni h0 h1 h2 h3 h4 h5 h6 h7 h8 hp v T H
  have X0 := Lib.hid (show BK 29 (w.alloc (.cells #[.slice A0 n0 c0, .slice A1 n1 c1, .slice A2 n2 c2, .slice A3 n3 c3, .int .i64 tk, .slice A4 n4 c4, .int .i64 pc, .slice A5 n5 c5, .int .i64 stop, .slice A6 n6 c6, .int .i64 j, .int .i64 d, .slice A7 n7 c7, .slice A8 n8 c8] 29)) w.heap.size #[.slice A0 n0 c0, .slice A1 n1 c1, .slice A2 n2 c2, .slice A3 n3 c3, .int .i64 tk, .slice A4 n4 c4, .int .i64 pc, .slice A5 n5 c5, .int .i64 stop, .slice A6 n6 c6, .int .i64 j, .int .i64 d, .slice A7 n7 c7, .slice A8 n8 c8] from heap_alloc_new w _)
  have G0 := Lib.hid (below_new w (.cells #[.slice A0 n0 c0, .slice A1 n1 c1, .slice A2 n2 c2, .slice A3 n3 c3, .int .i64 tk, .slice A4 n4 c4, .int .i64 pc, .slice A5 n5 c5, .int .i64 stop, .slice A6 n6 c6, .int .i64 j, .int .i64 d, .slice A7 n7 c7, .slice A8 n8 c8] 29))
  go_enter Tryd.func31, Tryd.ntmps31
  go_wp2_with fail
  refine (HV.out _ G0.out).mono ?_
  rintro e w1 ⟨b, rfl, b1, hbd⟩
  have X1 := Lib.hid (X0.out.below b1)
  have G1 := Lib.hid (G0.out.trans (b1.mono (by simp)))
  clear b1
  obtain ⟨q0, q1, q2, q3, q4, q5, q6, q7, q8, q9, q10, q11, q12, q13⟩ := X1.out.c14
  have hl1 := X1.out.lt
  cases b
  rotate_left
  · clear hbd
    go_wp2
    go_ret
    exact ⟨rfl, G1.out⟩
  have HBD := Lib.hid (hbd rfl)
  clear hbd
  by_cases h100 : n7 ≤ 100
  rotate_left
  · have t0 : decide (100 < (n7 : Int)) = true := by simp; omega
    clear h100
    go_wp2
    go_ret
    exact ⟨rfl, G1.out⟩
  have t0 : decide (100 < (n7 : Int)) = false := by simp; omega
  have H100 := Lib.hid h100
  clear h100
  go_wp2_with fail
  refine (wakes_any _ (TT.out.below G1.out)).mono ?_
  rintro e w2 ⟨rfl, b2⟩
  have X2 := Lib.hid (X1.out.below b2)
  have G2 := Lib.hid (G1.out.trans (b2.mono G1.out.size))
  clear b2 q0 q1 q2 q3 q4 q5 q6 q7 q8 q9 q10 q11 q12 q13 hl1
  go_wp2_with fail
  refine (PG.out _ G2.out).mono ?_
  rintro e w3 ⟨rfl, b3⟩
  have X3 := Lib.hid (X2.out.below b3)
  have G3 := Lib.hid (G2.out.trans (b3.mono G2.out.size))
  clear b3
  have k12 : w3.cell? ⟨w.heap.size, 12, none⟩ = some (.slice A7 n7 c7) := X3.out.cell 12
  have hl3 := X3.out.lt
  go_wp2_with fail
  refine (NW.out _ G3.out H100.out).mono ?_
  rintro e w4 ⟨v4, rfl, s4, b4⟩
  have G4 := Lib.hid (G3.out.trans (b4.mono G3.out.size))
  have S4 := Lib.hid s4
  obtain ⟨cs, rfl, hcs, hone⟩ := s4.sv.form
  have CZ := Lib.hid hcs
  have CO := Lib.hid hone
  clear s4 hcs hone b4 k12 hl3
  go_wp2_with ((with_reducible refine wpList_store_bk (T := 27) (op := ⟨none, .store 27 _ _, _, _, _, none⟩) rfl _ _ rfl Tryd.size27 w4.heap.size ZS cs ?u0x ?u0y ?u0b ?u01 ?u02 ?u03 ?_); (case u0x => rfl); (case u0y => rfl); (case u01 => rfl); (case u02 => exact CZ.out); (case u03 => exact CO.out); (case u0b => exact heap_alloc_new w4 _))
  intro w5 hbl hg hsz
  have BL5 := (below_new w4 (.cells ZS 27)).grown hg (by simp) (by intro k hk; cases hk; omega)
  have K0 := Lib.hid (okk0 (xs := ins) (by rw [NI.out]; exact H100.out) WD.out)
  have L5 := Lib.hid (show Rl w4.heap.size w 0 w5 from ⟨cs, m0 ins, hbl, CZ.out, (S4.out.below BL5).sv, K0.out, Nat.le_refl _, G4.out.trans (BL5.mono G4.out.size)⟩)
  have Z4 := Lib.hid G4.out.size
  clear hbl hg hsz BL5 K0 S4
  go_wp2_with (go_at_call 15; refine (num_any _ _).mono ?_; rintro e w' ⟨rfl, rfl⟩)
  generalize hgg : w4.heap.size = g at *
  clear hgg
  clear CZ CO
  go_loopg [7] 60 (fun gk o wr2 => ∃ i : Nat, i ≤ 60 ∧ gk = 60 - i ∧ o = .int .i64 i ∧ Rl g w i wr2)
  case atStart => exact ⟨0, by omega, rfl, rfl, L5.out⟩
  case round =>
    clear L5
    obtain ⟨i, hi, rfl, rfl, hrl⟩ := hrel
    obtain ⟨cs, m, bk, hsz, sv, okm, hout, bel⟩ := hrl
    have B5 := Lib.hid bk
    have cs_sz := hsz
    have CZ := Lib.hid hsz
    have SV0 := Lib.hid sv
    have OK := Lib.hid okm
    have OUT := Lib.hid hout
    have BE := Lib.hid bel
    have gl := bk.lt
    clear bk hsz sv okm hout bel cs_sz
    by_cases hlt : i < 60
    · have hd : decide ((i : Int) < 60) = true := by simp; omega
      have KM := Lib.hid (run_okk (n := 1) VV.out OK.out (by have := OUT.out; omega))
      go_wp2_with ((with_reducible refine wpList_load_bk (T := 27) (op := ⟨some 47, .load 27 _, _, _, _, none⟩) rfl _ rfl Tryd.underlying27 Tryd.size27 g cs ?u1x ?u1b ?u1l ?_); (case u1x => rfl); (case u1l => exact CZ.out); (case u1b => exact B5.out))
      refine (ST.out m cs _ BE.out SV0.out OK.out (by have := OUT.out; omega)).mono ?_
      rintro e w6 ⟨v6, rfl, s6, b6⟩
      have B6 := Lib.hid (B5.out.below b6)
      have SV6 := Lib.hid (SV0.out.below b6)
      have E6 := Lib.hid (BE.out.trans (b6.mono BE.out.size))
      clear b6
      generalize hmm : (runP P 1 m).1 = mm at *
      have HMM := Lib.hid hmm
      clear hmm
      have SN1 := Lib.hid s6
      obtain ⟨r1, q1, i1, o1, z1, F1, d1, rfl, a1, a2, a3, a4, a5⟩ := s6.sv
      have ON1 := Lib.hid (one11 (a := mm.tk) (b := mm.pc) (s := mm.stop) (A := F1) (c := d1) a1.one a2.one a3.one a4.one a5.one)
      clear a1 a2 a3 a4 a5
      clear s6
      go_wp2_with ((with_reducible refine wpList_store_bk (T := 27) (op := ⟨none, .store 27 _ _, _, _, _, none⟩) rfl _ _ rfl Tryd.size27 w6.heap.size ZS #[r1, q1, i1, .int .i64 mm.tk, o1, .int .i64 mm.pc, z1, .int .i64 mm.stop, .slice F1 0 d1, .int .i64 0, .int .i64 0] ?u2x ?u2y ?u2b ?u21 ?u22 ?u23 ?_); (case u2x => rfl); (case u2y => rfl); (case u21 => rfl); (case u22 => exact rfl); (case u23 => exact ON1.out); (case u2b => exact heap_alloc_new w6 _))
      intro w7 hbl hg hsz
      have BL7 := (below_new w6 (.cells ZS 27)).grown hg (by simp) (by intro k hk; cases hk; omega)
      have X7 := Lib.hid hbl
      have B7 := Lib.hid (B6.out.below BL7)
      have SV7 := Lib.hid (SV6.out.below BL7)
      have SM7 := Lib.hid (SN1.out.below BL7)
      have E7 := Lib.hid (E6.out.trans (BL7.mono E6.out.size))
      have Z7 := Lib.hid (show g < wr.heap.size from gl)
      clear hbl hg hsz BL7
      go_wp2_with ((with_reducible refine wpList_load_bk (T := 27) (op := ⟨some 53, .load 27 _, _, _, _, none⟩) rfl _ rfl Tryd.underlying27 Tryd.size27 g cs ?u3x ?u3b ?u3l ?_); (case u3x => rfl); (case u3l => exact CZ.out); (case u3b => exact B7.out))
      refine (PR1.out m cs _ E7.out SV7.out OK.out (by have := OUT.out; omega)).mono ?_
      rintro e w8 ⟨v8, rfl, s8, b8⟩
      rw [show (1 : Int).toNat = 1 from rfl, HMM.out] at s8
      have B8 := Lib.hid (B7.out.below b8)
      have X8 := Lib.hid (X7.out.below b8)
      have SM8 := Lib.hid (SM7.out.below b8)
      have E8 := Lib.hid (E7.out.trans (b8.mono E7.out.size))
      clear b8
      have SN2 := Lib.hid s8
      obtain ⟨r2, q2, i2, o2, z2, F2, d2, rfl, a1, a2, a3, a4, a5⟩ := s8.sv
      have ON2 := Lib.hid (one11 (a := mm.tk) (b := mm.pc) (s := mm.stop) (A := F2) (c := d2) a1.one a2.one a3.one a4.one a5.one)
      clear a1 a2 a3 a4 a5
      clear s8
      go_wp2_with ((with_reducible refine wpList_store_bk (T := 27) (op := ⟨none, .store 27 _ _, _, _, _, none⟩) rfl _ _ rfl Tryd.size27 w8.heap.size ZS #[r2, q2, i2, .int .i64 mm.tk, o2, .int .i64 mm.pc, z2, .int .i64 mm.stop, .slice F2 0 d2, .int .i64 0, .int .i64 0] ?u4x ?u4y ?u4b ?u41 ?u42 ?u43 ?_); (case u4x => rfl); (case u4y => rfl); (case u41 => rfl); (case u42 => exact rfl); (case u43 => exact ON2.out); (case u4b => exact heap_alloc_new w8 _))
      intro w9 hbl hg hsz
      have BL9 := (below_new w8 (.cells ZS 27)).grown hg (by simp) (by intro k hk; cases hk; omega)
      have X9 := Lib.hid (X8.out.below BL9)
      have Y9 := Lib.hid hbl
      have B9 := Lib.hid (B8.out.below BL9)
      have SM9 := Lib.hid (SM8.out.below BL9)
      have SP9 := Lib.hid (SN2.out.below BL9)
      have E9 := Lib.hid (E8.out.trans (BL9.mono E8.out.size))
      clear hbl hg hsz BL9
      obtain ⟨x0, x1, x2, x3, x4, x5, x6, x7, x8, x9, x10⟩ := X9.out.c11
      obtain ⟨y0, y1, y2, y3, y4, y5, y6, y7, y8, y9, y10⟩ := Y9.out.c11
      have xl := X9.out.lt
      have yl := Y9.out.lt
      go_wp2_with (go_at_call 15; refine (num_any _ _).mono ?_; rintro e w' ⟨rfl, rfl⟩)
      refine (eqst_same mm _ _ _ SM9.out.sv SP9.out.sv KM.out.1.ok).mono ?_
      rintro e wA ⟨rfl, bA⟩
      have XA := Lib.hid (X9.out.below bA)
      have BA := Lib.hid (B9.out.below bA)
      have SMA := Lib.hid (SM9.out.below bA)
      have EA := Lib.hid (E9.out.trans (bA.mono E9.out.size))
      clear bA xl yl
      clear x0 x1 x2 x3 x4 x5 x6 x7 x8 x9 x10
      clear y0 y1 y2 y3 y4 y5 y6 y7 y8 y9 y10
      go_wp2_with (first | ((with_reducible refine wpList_load_bk (T := 27) (op := ⟨some 66, .load 27 _, _, _, _, none⟩) rfl _ rfl Tryd.underlying27 Tryd.size27 w6.heap.size #[r1, q1, i1, .int .i64 mm.tk, o1, .int .i64 mm.pc, z1, .int .i64 mm.stop, .slice F1 0 d1, .int .i64 0, .int .i64 0] ?u5x ?u5b ?u5l ?_); (case u5x => rfl); (case u5l => exact rfl); (case u5b => exact XA.out)) | ((with_reducible refine wpList_store_bk (T := 27) (op := ⟨none, .store 27 _ _, _, _, _, none⟩) rfl _ _ rfl Tryd.size27 g cs #[r1, q1, i1, .int .i64 mm.tk, o1, .int .i64 mm.pc, z1, .int .i64 mm.stop, .slice F1 0 d1, .int .i64 0, .int .i64 0] ?u6x ?u6y ?u6b ?u61 ?u62 ?u63 ?_); (case u6x => rfl); (case u6y => rfl); (case u61 => exact CZ.out); (case u62 => exact rfl); (case u63 => exact ON1.out); (case u6b => exact BA.out)))
      intro wB hbl hg hsz
      have SB := Lib.hid ((SMA.out.grown hg Z7.out).sv)
      have EB := Lib.hid (EA.out.trans (gb_below (B := w.heap.size) hg (by have := Z4.out; omega) (by have := EA.out.size; omega)))
      have XB := Lib.hid hbl
      clear hbl hg hsz
      go_wp2_with fail
      go_roundg (60 - (i + 1))
      case measure => omega
      case rel => exact ⟨i + 1, by omega, rfl, by go_num, _, mm, XB.out, rfl, SB.out, KM.out.1, by have h1 := KM.out.2.1; have := OUT.out; omega, EB.out⟩
    · have hd : decide ((i : Int) < 60) = false := by simp; omega
      have KM := Lib.hid (run_okk (n := 100) VV.out OK.out (by have := OUT.out; omega))
      go_wp2_with ((with_reducible refine wpList_load_bk (T := 27) (op := ⟨some 69, .load 27 _, _, _, _, none⟩) rfl _ rfl Tryd.underlying27 Tryd.size27 g cs ?u7x ?u7b ?u7l ?_); (case u7x => rfl); (case u7l => exact CZ.out); (case u7b => exact B5.out))
      refine (RN.out m cs _ BE.out SV0.out OK.out (by have := OUT.out; omega)).mono ?_
      rintro e w6 ⟨v6, rfl, s6, b6⟩
      rw [show (100 : Int).toNat = 100 from rfl] at s6 ⊢
      have B6 := Lib.hid (B5.out.below b6)
      have SV6 := Lib.hid (SV0.out.below b6)
      have E6 := Lib.hid (BE.out.trans (b6.mono BE.out.size))
      clear b6
      generalize hmm : (runP P 100 m).1 = mm at *
      generalize hnn : (runP P 100 m).2 = nn at *
      have HMM := Lib.hid hmm
      have HNN := Lib.hid hnn
      clear hmm hnn
      have SN1 := Lib.hid s6
      obtain ⟨r1, q1, i1, o1, z1, F1, d1, rfl, a1, a2, a3, a4, a5⟩ := s6.sv
      have ON1 := Lib.hid (one11 (a := mm.tk) (b := mm.pc) (s := mm.stop) (A := F1) (c := d1) a1.one a2.one a3.one a4.one a5.one)
      clear a1 a2 a3 a4 a5
      clear s6
      go_wp2_with ((with_reducible refine wpList_store_bk (T := 27) (op := ⟨none, .store 27 _ _, _, _, _, none⟩) rfl _ _ rfl Tryd.size27 w6.heap.size ZS #[r1, q1, i1, .int .i64 mm.tk, o1, .int .i64 mm.pc, z1, .int .i64 mm.stop, .slice F1 0 d1, .int .i64 0, .int .i64 0] ?u8x ?u8y ?u8b ?u81 ?u82 ?u83 ?_); (case u8x => rfl); (case u8y => rfl); (case u81 => rfl); (case u82 => exact rfl); (case u83 => exact ON1.out); (case u8b => exact heap_alloc_new w6 _))
      intro w7 hbl hg hsz
      have BL7 := (below_new w6 (.cells ZS 27)).grown hg (by simp) (by intro k hk; cases hk; omega)
      have X7 := Lib.hid hbl
      have B7 := Lib.hid (B6.out.below BL7)
      have SV7 := Lib.hid (SV6.out.below BL7)
      have SM7 := Lib.hid (SN1.out.below BL7)
      have E7 := Lib.hid (E6.out.trans (BL7.mono E6.out.size))
      clear hbl hg hsz BL7
      go_wp2_with ((with_reducible refine wpList_load_bk (T := 27) (op := ⟨some 76, .load 27 _, _, _, _, none⟩) rfl _ rfl Tryd.underlying27 Tryd.size27 g cs ?u9x ?u9b ?u9l ?_); (case u9x => rfl); (case u9l => exact CZ.out); (case u9b => exact B7.out))
      refine (PR2.out m cs _ E7.out SV7.out OK.out (by have := OUT.out; omega)).mono ?_
      rintro e w8 ⟨v8, rfl, s8, b8⟩
      rw [show (100 : Int).toNat = 100 from rfl, HMM.out] at s8
      rw [show (100 : Int).toNat = 100 from rfl, HNN.out]
      have X8 := Lib.hid (X7.out.below b8)
      have SM8 := Lib.hid (SM7.out.below b8)
      have E8 := Lib.hid (E7.out.trans (b8.mono E7.out.size))
      clear b8
      have SN2 := Lib.hid s8
      obtain ⟨r2, q2, i2, o2, z2, F2, d2, rfl, a1, a2, a3, a4, a5⟩ := s8.sv
      have ON2 := Lib.hid (one11 (a := mm.tk) (b := mm.pc) (s := mm.stop) (A := F2) (c := d2) a1.one a2.one a3.one a4.one a5.one)
      clear a1 a2 a3 a4 a5
      clear s8
      go_wp2_with ((with_reducible refine wpList_store_bk (T := 27) (op := ⟨none, .store 27 _ _, _, _, _, none⟩) rfl _ _ rfl Tryd.size27 w8.heap.size ZS #[r2, q2, i2, .int .i64 mm.tk, o2, .int .i64 mm.pc, z2, .int .i64 mm.stop, .slice F2 0 d2, .int .i64 0, .int .i64 0] ?u10x ?u10y ?u10b ?u101 ?u102 ?u103 ?_); (case u10x => rfl); (case u10y => rfl); (case u101 => rfl); (case u102 => exact rfl); (case u103 => exact ON2.out); (case u10b => exact heap_alloc_new w8 _))
      intro w9 hbl hg hsz
      have BL9 := (below_new w8 (.cells ZS 27)).grown hg (by simp) (by intro k hk; cases hk; omega)
      have X9 := Lib.hid (X8.out.below BL9)
      have Y9 := Lib.hid hbl
      have SM9 := Lib.hid (SM8.out.below BL9)
      have SP9 := Lib.hid (SN2.out.below BL9)
      have E9 := Lib.hid (E8.out.trans (BL9.mono E8.out.size))
      clear hbl hg hsz BL9
      obtain ⟨x0, x1, x2, x3, x4, x5, x6, x7, x8, x9, x10⟩ := X9.out.c11
      obtain ⟨y0, y1, y2, y3, y4, y5, y6, y7, y8, y9, y10⟩ := Y9.out.c11
      have xl := X9.out.lt
      have yl := Y9.out.lt
      have enn : ((nn : Int) == (nn : Int)) = true := by simp
      go_wp2_with (go_at_call 15; refine (num_any _ _).mono ?_; rintro e w' ⟨rfl, rfl⟩)
      refine (eqst_same mm _ _ _ SM9.out.sv SP9.out.sv KM.out.1.ok).mono ?_
      rintro e wA ⟨rfl, bA⟩
      have EA := Lib.hid (E9.out.trans (bA.mono E9.out.size))
      clear bA xl yl
      clear x0 x1 x2 x3 x4 x5 x6 x7 x8 x9 x10
      clear y0 y1 y2 y3 y4 y5 y6 y7 y8 y9 y10
      go_wp2
      go_ret
      exact ⟨rfl, EA.out⟩
end Go.Proofs.YtpnmlednningkaaDoor
