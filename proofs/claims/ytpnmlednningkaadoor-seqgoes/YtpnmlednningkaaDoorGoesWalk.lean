/-
  SeqGoes: the walk: so many steps, and then so many more, are all of them; outputs, and what was taken, only grow; what has stopped stays so. Conditions: the tables lie in the world; the argument reads as a script.
-/
import Derived.Test.YtpnmlednningkaaDoorGo
import Derived.Test.YtpnmlednningkaaDoorRunC
namespace Go.Proofs.YtpnmlednningkaaDoor
open Go.RowKit

theorem SVN.outRd {B : Nat} {w : World} {m : M} {V : Vs} (h : SVN B w (.agg (stCells m V)) m) : Rd .u32 w (V.o m) m.out := by
  obtain ⟨r, q, i, o, z, A, c, hv, _, _, _, h4, _⟩ := h
  simp only [stCells, Value.agg.injEq, Array.mk.injEq, List.cons.injEq] at hv
  rw [hv.2.2.2.2.1]
  exact h4.rd
theorem SVN.inRd {B : Nat} {w : World} {m : M} {V : Vs} (h : SVN B w (.agg (stCells m V)) m) : Rd .u32 w (V.i m) m.inp := by
  obtain ⟨r, q, i, o, z, A, c, hv, _, _, h3, _, _⟩ := h
  simp only [stCells, Value.agg.injEq, Array.mk.injEq, List.cons.injEq] at hv
  rw [hv.2.2.1]
  exact h3.rd
set_option maxRecDepth 100000 in
set_option maxHeartbeats 16000000 in
theorem seqGoes_walk (v : Value) (w : World) (T : Tab w) (H : Asked w v) : Calls Tryd.prog 4 #[v] w (BoolBelow true w) := by
  obtain ⟨xs', ins', SC⟩ := H.sc
  obtain ⟨A0, A1, A2, A3, A4, A5, A6, A7, A8, n0, c0, n1, c1, n2, c2, n3, c3, n4, c4, n5, c5, n6, c6, n7, c7, n8, c8, tk, pc, stop, j, d, rfl, ⟨xs, x1, rfl, x3, x4, x5⟩, ⟨R, r1, rfl, r3, r4⟩, ⟨Mm, m1, rfl, m3, m4⟩, ⟨I, i1, rfl, i3, i4⟩, ⟨O, o1, rfl, o3, o4⟩, ⟨Sl, s1, rfl, s3, s4⟩, ⟨_, f4⟩, ⟨_, _, _, _, p4⟩, ⟨_, _, _, _, q4⟩, _⟩ := H
  clear SC
  have TT := Lib.hid T
  have HV := Lib.hid (fun W (hb : Below w.heap.size w W) => heavy_any A0 A1 A2 A3 A4 A5 A6 A7 A8 xs.length c0 R.length c1 Mm.length c2 I.length c3 O.length c4 Sl.length c5 n6 c6 n7 c7 n8 c8 tk pc stop j d xs W (x1.keep hb) rfl x3 (by omega) (by omega) (by omega) (by omega) (by omega) (by omega) (by omega) (by omega) (by omega))
  have X0 := Lib.hid (show BK 29 (w.alloc (.cells #[.slice A0 xs.length c0, .slice A1 R.length c1, .slice A2 Mm.length c2, .slice A3 I.length c3, .int .i64 tk, .slice A4 O.length c4, .int .i64 pc, .slice A5 Sl.length c5, .int .i64 stop, .slice A6 n6 c6, .int .i64 j, .int .i64 d, .slice A7 n7 c7, .slice A8 n8 c8] 29)) w.heap.size #[.slice A0 xs.length c0, .slice A1 R.length c1, .slice A2 Mm.length c2, .slice A3 I.length c3, .int .i64 tk, .slice A4 O.length c4, .int .i64 pc, .slice A5 Sl.length c5, .int .i64 stop, .slice A6 n6 c6, .int .i64 j, .int .i64 d, .slice A7 n7 c7, .slice A8 n8 c8] from heap_alloc_new w _)
  have G0 := Lib.hid (below_new w (.cells #[.slice A0 xs.length c0, .slice A1 R.length c1, .slice A2 Mm.length c2, .slice A3 I.length c3, .int .i64 tk, .slice A4 O.length c4, .int .i64 pc, .slice A5 Sl.length c5, .int .i64 stop, .slice A6 n6 c6, .int .i64 j, .int .i64 d, .slice A7 n7 c7, .slice A8 n8 c8] 29))
  have XX := Lib.hid x1
  have XS := Lib.hid x3
  have RR := Lib.hid (And.intro r1 r3)
  have MM := Lib.hid (And.intro m1 m3)
  have II := Lib.hid (And.intro i1 i3)
  have OO := Lib.hid (And.intro o1 o3)
  have SS := Lib.hid s1
  clear x1 x3 x4 x5 r1 r3 r4 m1 m3 m4 i1 i3 i4 o1 o3 o4 s1 s3 s4 f4 p4 q4 T
  go_enter Tryd.func4, Tryd.ntmps4
  go_wp2_with fail
  refine (HV.out _ G0.out).mono ?_
  rintro e w1 ⟨b, rfl, b1, hbd⟩
  have X1 := Lib.hid (X0.out.below b1)
  have G1 := Lib.hid (G0.out.trans (b1.mono (by simp)))
  clear b1
  obtain ⟨q0, q1, q2, q3, q4, q5, q6, q7, q8, q9, q10, q11, q12, q13⟩ := X1.out.c14
  have hl1 := X1.out.lt
  cases b
  rotate_left
  · clear hbd
    go_wp2
    go_ret
    exact ⟨rfl, G1.out⟩
  have HBD := Lib.hid (hbd rfl)
  clear hbd
  go_wp2_with fail
  refine (may_sc A0 A1 A2 A3 A4 A5 A6 A7 A8 xs.length c0 R.length c1 Mm.length c2 I.length c3 O.length c4 c5 n6 c6 n7 c7 n8 c8 tk pc stop j d Sl xs _ (XX.out.keep G1.out) XS.out (SS.out.below G1.out) (by have := HBD.out; omega) _ _ rfl rfl).mono ?_
  rintro e w2 ⟨rfl, b2⟩
  have X2 := Lib.hid (X1.out.below b2)
  have G2 := Lib.hid (G1.out.trans (b2.mono G1.out.size))
  clear b2 q0 q1 q2 q3 q4 q5 q6 q7 q8 q9 q10 q11 q12 q13 hl1
  cases hmay : (pgB xs && stB R.length Mm.length I.length n6 tk pc stop j d Sl)
  · clear hmay
    go_wp2
    go_ret
    exact ⟨rfl, G2.out⟩
  simp only [Bool.and_eq_true] at hmay
  obtain ⟨hpg, hst⟩ := hmay
  obtain ⟨P, hP, vP⟩ := prog_of hpg
  obtain ⟨m, ok, e1, e2, e3, e4, e5, e6, e7, e8, e9, e10, e11⟩ := okk_of (out := O) hst (fun x hx => u32_wf (RR.out.2 x hx)) (fun x hx => u32_wf (MM.out.2 x hx)) (fun x hx => u32_wf (II.out.2 x hx)) (by have := HBD.out; omega)
  clear hpg hst
  subst e1 e2 e3 e4 e5 e6 e7 e8 e9 e10 e11
  subst hP
  have SM := Lib.hid (show SV w (.agg #[.slice A1 m.R.length c1, .slice A2 m.mem.length c2, .slice A3 m.inp.length c3, .int .i64 m.tk, .slice A4 m.out.length c4, .int .i64 m.pc, .slice A5 m.st.length c5, .int .i64 m.stop, .slice A6 0 c6, .int .i64 0, .int .i64 0]) m from ⟨_, _, _, _, _, A6, c6, rfl, RR.out.1, MM.out.1, II.out.1, OO.out.1, by have h := SS.out; rw [List.length_map] at h; exact h⟩)
  have XP := Lib.hid (show RdP w (.slice A0 P.length c0) P from by have h := XX.out; rw [List.length_map] at h; exact h)
  have OK := Lib.hid ok
  have VP := Lib.hid vP
  have OB := Lib.hid (show m.out.length ≤ 3000 by have := HBD.out; omega)
  have K1 := Lib.hid (run_okk (n := 17) vP ok (by have := OB.out; omega))
  have K2 := Lib.hid (run_okk (n := 25) vP K1.out.1 (by have := OB.out; have := K1.out.2.1; omega))
  have HA := Lib.hid (runP_add (P := P) 17 25 m)
  have GA := Lib.hid (gr_run vP 17 m)
  have GB := Lib.hid (gr_run vP 25 (runP P 17 m).1)
  have AL := Lib.hid (runP_all (P := P) 42 m)
  have RA := Lib.hid (fun W (hb : Below w.heap.size w W) => runc_ok P m (.slice A0 P.length c0) (.agg #[.slice A1 m.R.length c1, .slice A2 m.mem.length c2, .slice A3 m.inp.length c3, .int .i64 m.tk, .slice A4 m.out.length c4, .int .i64 m.pc, .slice A5 m.st.length c5, .int .i64 m.stop, .slice A6 0 c6, .int .i64 0, .int .i64 0]) 17 W (XP.out.keep hb) vP (SM.out.below hb) ok (TT.out.below hb) (by decide) (by decide) (by have := OB.out; show m.out.length + 17 ≤ 1000000; omega))
  have RX := Lib.hid (fun W (hb : Below w.heap.size w W) => runc_ok P m (.slice A0 P.length c0) (.agg #[.slice A1 m.R.length c1, .slice A2 m.mem.length c2, .slice A3 m.inp.length c3, .int .i64 m.tk, .slice A4 m.out.length c4, .int .i64 m.pc, .slice A5 m.st.length c5, .int .i64 m.stop, .slice A6 0 c6, .int .i64 0, .int .i64 0]) 42 W (XP.out.keep hb) vP (SM.out.below hb) ok (TT.out.below hb) (by decide) (by decide) (by have := OB.out; show m.out.length + 42 ≤ 1000000; omega))
  have RB := Lib.hid (fun (ma : M) V W (hb : Below w.heap.size w W) (sv : SV W (.agg (stCells ma V)) ma) (k : Okk ma) (ho : ma.out.length + 25 ≤ 1000000) => runc_ok P ma (.slice A0 P.length c0) (.agg (stCells ma V)) 25 W (XP.out.keep hb) vP sv k (TT.out.below hb) (by decide) (by decide) ho)
  have RS := Lib.hid (fun (mx : M) V W (hb : Below w.heap.size w W) (sv : SV W (.agg (stCells mx V)) mx) (k : Okk mx) (ho : mx.out.length + 1 ≤ 1000000) => step_ok P mx (.slice A0 P.length c0) (.agg (stCells mx V)) W (XP.out.keep hb) vP sv k (TT.out.below hb) ho)
  have OI := Lib.hid (show Rd .u32 w (.slice A3 m.inp.length c3) m.inp from II.out.1)
  have OU := Lib.hid (show Rd .u32 w (.slice A4 m.out.length c4) m.out from OO.out.1)
  have XM := Lib.hid (show BK 29 w2 w.heap.size #[.slice A0 P.length c0, .slice A1 m.R.length c1, .slice A2 m.mem.length c2, .slice A3 m.inp.length c3, .int .i64 m.tk, .slice A4 m.out.length c4, .int .i64 m.pc, .slice A5 m.st.length c5, .int .i64 m.stop, .slice A6 0 c6, .int .i64 0, .int .i64 0, .slice A7 n7 c7, .slice A8 n8 c8] from by have h := X2.out; simp only [List.length_map] at h; exact h)
  clear ok vP RR MM II OO SS X2 XX XS
  generalize hpl : P.length = pl at *
  obtain ⟨q0, q1, q2, q3, q4, q5, q6, q7, q8, q9, q10, q11, q12, q13⟩ := XM.out.c14
  have hl2 := XM.out.lt
  clear hpl
  go_wp2_with fail
  refine (RA.out _ G2.out).mono ?_
  rintro e w3 ⟨VA, rfl, s3, hca, b3⟩
  rw [show (17 : Int).toNat = 17 from rfl] at s3 hca ⊢
  generalize hma : (runP P 17 m).1 = ma at *
  generalize hna : (runP P 17 m).2 = na at *
  have SA3 := Lib.hid s3
  have CA := Lib.hid hca
  have XM3 := Lib.hid (XM.out.below b3)
  have G3 := Lib.hid (G2.out.trans (b3.mono G2.out.size))
  clear s3 hca b3 hma hna q0 q1 q2 q3 q4 q5 q6 q7 q8 q9 q10 q11 q12 q13 hl2
  go_wp2_with ((with_reducible refine wpList_store_bk (T := 27) (op := ⟨none, .store 27 _ _, _, _, _, none⟩) rfl _ _ rfl Tryd.size27 w3.heap.size ZS (stCells ma VA) ?u1x ?u1y ?u1b ?u11 ?u12 ?u13 ?_); (case u1x => rfl); (case u1y => rfl); (case u11 => rfl); (case u12 => exact rfl); (case u13 => exact st_one _ _); (case u1b => exact heap_alloc_new _ _))
  intro w4 hbl hg hsz
  have BL4 := (below_new w3 (.cells ZS 27)).grown hg (by simp) (by intro k hk; cases hk; omega)
  have BA4 := Lib.hid hbl
  have SA4 := Lib.hid (SA3.out.below BL4)
  have XM4 := Lib.hid (XM3.out.below BL4)
  have G4 := Lib.hid (G3.out.trans (BL4.mono G3.out.size))
  clear hbl hg hsz BL4
  have q0 : w4.cell? ⟨w.heap.size, 0, none⟩ = some (.slice A0 pl c0) := XM4.out.cell 0
  have hl4 := XM4.out.lt
  go_wp2_with ((with_reducible refine wpList_load_bk (T := 27) (op := ⟨some 33, .load 27 _, _, _, _, none⟩) rfl _ rfl Tryd.underlying27 Tryd.size27 w3.heap.size (stCells ma VA) ?u2x ?u2b ?u2l ?_); (case u2x => rfl); (case u2l => rfl); (case u2b => exact BA4.out))
  refine (RB.out ma VA _ G4.out SA4.out.sv K1.out.1 (by have := K1.out.2.1; have := OB.out; omega)).mono ?_
  rintro e w5 ⟨VB, rfl, s5, hcb, b5⟩
  rw [show (25 : Int).toNat = 25 from rfl] at s5 hcb ⊢
  generalize hmb : (runP P 25 ma).1 = mb at *
  generalize hnb : (runP P 25 ma).2 = nb at *
  have SB5 := Lib.hid s5
  have CB := Lib.hid hcb
  have BA5 := Lib.hid (BA4.out.below b5)
  have SA5 := Lib.hid (SA4.out.below b5)
  have XM5 := Lib.hid (XM4.out.below b5)
  have G5 := Lib.hid (G4.out.trans (b5.mono G4.out.size))
  clear s5 hcb b5 hmb hnb q0 hl4
  go_wp2_with ((with_reducible refine wpList_store_bk (T := 27) (op := ⟨none, .store 27 _ _, _, _, _, none⟩) rfl _ _ rfl Tryd.size27 w5.heap.size ZS (stCells mb VB) ?u3x ?u3y ?u3b ?u31 ?u32 ?u33 ?_); (case u3x => rfl); (case u3y => rfl); (case u31 => rfl); (case u32 => exact rfl); (case u33 => exact st_one _ _); (case u3b => exact heap_alloc_new _ _))
  intro w6 hbl hg hsz
  have BL6 := (below_new w5 (.cells ZS 27)).grown hg (by simp) (by intro k hk; cases hk; omega)
  have BB6 := Lib.hid hbl
  have BA6 := Lib.hid (BA5.out.below BL6)
  have SA6 := Lib.hid (SA5.out.below BL6)
  have SB6 := Lib.hid (SB5.out.below BL6)
  have XM6 := Lib.hid (XM5.out.below BL6)
  have G6 := Lib.hid (G5.out.trans (BL6.mono G5.out.size))
  clear hbl hg hsz BL6
  obtain ⟨q0, q1, q2, q3, q4, q5, q6, q7, q8, q9, q10, q11, q12, q13⟩ := XM6.out.c14
  have hl6 := XM6.out.lt
  go_wp2_with fail
  refine (RX.out _ G6.out).mono ?_
  rintro e w7 ⟨VX, rfl, s7, hcx, b7⟩
  rw [show (42 : Int).toNat = 42 from rfl] at s7 ⊢
  have HX := HA.out
  rw [show 17 + 25 = 42 from rfl] at HX
  rw [HX] at s7 ⊢
  simp only at s7 ⊢
  have AL2 := Lib.hid (show mb.stop = 0 → na + nb = 42 from fun h => by have h1 := AL.out; rw [HX] at h1; exact h1 h)
  have SX7 := Lib.hid s7
  have BA7 := Lib.hid (BA6.out.below b7)
  have BB7 := Lib.hid (BB6.out.below b7)
  have SA7 := Lib.hid (SA6.out.below b7)
  have SB7 := Lib.hid (SB6.out.below b7)
  have XM7 := Lib.hid (XM6.out.below b7)
  have G7 := Lib.hid (G6.out.trans (b7.mono G6.out.size))
  clear s7 hcx b7 HX hl6 q0 q1 q2 q3 q4 q5 q6 q7 q8 q9 q10 q11 q12 q13
  go_wp2_with ((with_reducible refine wpList_store_bk (T := 27) (op := ⟨none, .store 27 _ _, _, _, _, none⟩) rfl _ _ rfl Tryd.size27 w7.heap.size ZS (stCells mb VX) ?u4x ?u4y ?u4b ?u41 ?u42 ?u43 ?_); (case u4x => rfl); (case u4y => rfl); (case u41 => rfl); (case u42 => exact rfl); (case u43 => exact st_one _ _); (case u4b => exact heap_alloc_new _ _))
  intro w8 hbl hg hsz
  have BL8 := (below_new w7 (.cells ZS 27)).grown hg (by simp) (by intro k hk; cases hk; omega)
  have BX8 := Lib.hid hbl
  have BA8 := Lib.hid (BA7.out.below BL8)
  have BB8 := Lib.hid (BB7.out.below BL8)
  have SA8 := Lib.hid (SA7.out.below BL8)
  have SB8 := Lib.hid (SB7.out.below BL8)
  have SX8 := Lib.hid (SX7.out.below BL8)
  have XM8 := Lib.hid (XM7.out.below BL8)
  have G8 := Lib.hid (G7.out.trans (BL8.mono G7.out.size))
  clear hbl hg hsz BL8
  have nb0 : na ≤ 17 := K1.out.2.2
  have nb1 : nb ≤ 25 := K2.out.2.2
  have en : ((na : Int) + (nb : Int) != (na : Int) + (nb : Int)) = false := by simp
  obtain ⟨q0, q1, q2, q3, q4, q5, q6, q7, q8, q9, q10, q11, q12, q13⟩ := XM8.out.c14
  obtain ⟨x0, x1, x2, x3, x4, x5, x6, x7, x8, x9, x10⟩ := (show BK 27 w8 _ #[VA.r, VA.m, VA.i ma, .int .i64 ma.tk, VA.o ma, .int .i64 ma.pc, VA.s ma, .int .i64 ma.stop, .slice none 0 0, .int .i64 0, .int .i64 0] from BA8.out).c11
  obtain ⟨y0, y1, y2, y3, y4, y5, y6, y7, y8, y9, y10⟩ := (show BK 27 w8 _ #[VB.r, VB.m, VB.i mb, .int .i64 mb.tk, VB.o mb, .int .i64 mb.pc, VB.s mb, .int .i64 mb.stop, .slice none 0 0, .int .i64 0, .int .i64 0] from BB8.out).c11
  obtain ⟨z0, z1, z2, z3, z4, z5, z6, z7, z8, z9, z10⟩ := (show BK 27 w8 _ #[VX.r, VX.m, VX.i mb, .int .i64 mb.tk, VX.o mb, .int .i64 mb.pc, VX.s mb, .int .i64 mb.stop, .slice none 0 0, .int .i64 0, .int .i64 0] from BX8.out).c11
  have hl8 := XM8.out.lt
  have xl := BA8.out.lt
  have yl := BB8.out.lt
  have zl := BX8.out.lt
  go_wp2_with (go_at_call 15; refine (num_any _ _).mono ?_; rintro e w' ⟨rfl, rfl⟩)
  refine (eqst_same mb _ _ _ SB8.out.sv SX8.out.sv K2.out.1.ok).mono ?_
  rintro e w9 ⟨rfl, b9⟩
  have XM9 := Lib.hid (XM8.out.below b9)
  have BA9 := Lib.hid (BA8.out.below b9)
  have BB9 := Lib.hid (BB8.out.below b9)
  have BX9 := Lib.hid (BX8.out.below b9)
  have SA9 := Lib.hid (SA8.out.below b9)
  have SB9 := Lib.hid (SB8.out.below b9)
  have SX9 := Lib.hid (SX8.out.below b9)
  have G9 := Lib.hid (G8.out.trans (b9.mono G8.out.size))
  clear b9 hl8 xl yl zl q0 q1 q2 q3 q4 q5 q6 q7 q8 q9 q10 q11 q12 q13 x0 x1 x2 x3 x4 x5 x6 x7 x8 x9 x10 y0 y1 y2 y3 y4 y5 y6 y7 y8 y9 y10 z0 z1 z2 z3 z4 z5 z6 z7 z8 z9 z10
  obtain ⟨q0, q1, q2, q3, q4, q5, q6, q7, q8, q9, q10, q11, q12, q13⟩ := XM9.out.c14
  obtain ⟨x0, x1, x2, x3, x4, x5, x6, x7, x8, x9, x10⟩ := (show BK 27 w9 _ #[VA.r, VA.m, VA.i ma, .int .i64 ma.tk, VA.o ma, .int .i64 ma.pc, VA.s ma, .int .i64 ma.stop, .slice none 0 0, .int .i64 0, .int .i64 0] from BA9.out).c11
  obtain ⟨y0, y1, y2, y3, y4, y5, y6, y7, y8, y9, y10⟩ := (show BK 27 w9 _ #[VB.r, VB.m, VB.i mb, .int .i64 mb.tk, VB.o mb, .int .i64 mb.pc, VB.s mb, .int .i64 mb.stop, .slice none 0 0, .int .i64 0, .int .i64 0] from BB9.out).c11
  obtain ⟨z0, z1, z2, z3, z4, z5, z6, z7, z8, z9, z10⟩ := (show BK 27 w9 _ #[VX.r, VX.m, VX.i mb, .int .i64 mb.tk, VX.o mb, .int .i64 mb.pc, VX.s mb, .int .i64 mb.stop, .slice none 0 0, .int .i64 0, .int .i64 0] from BX9.out).c11
  have hl9 := XM9.out.lt
  have xl := BA9.out.lt
  have yl := BB9.out.lt
  have zl := BX9.out.lt
  obtain ⟨ta, hta⟩ := GA.out.out
  obtain ⟨tb, htb⟩ := GB.out.out
  have BE1 := Lib.hid (fun n => begins_any m.out ta (VA.o ma) (.slice A4 m.out.length c4) (w9.drewN n) (by have h := SA9.out.outRd; rw [hta] at h; exact h) ((OU.out.below G9.out).drewN n) (by have := OB.out; omega) (by intro A n c h; simp only [Vs.o, Value.slice.injEq] at h; have := CA.out; omega))
  have BE2 := Lib.hid (fun n => begins_any ma.out tb (VB.o mb) (VA.o ma) (w9.drewN n) (by have h := SB9.out.outRd; rw [htb] at h; exact h) SA9.out.outRd (by have := K1.out.2.1; have := OB.out; omega) (by intro A n c h; simp only [Vs.o, Value.slice.injEq] at h; have := CB.out; omega))
  have EI := Lib.hid (fun n => eq_w m.inp (VX.i mb) (.slice A3 m.inp.length c3) (w9.drewN n) (by have h := SX9.out.inRd; rw [GB.out.inp.trans GA.out.inp] at h; exact h) ((OI.out.below G9.out).drewN n) (by have := OK.out.ok.inp; omega))
  have d1 : decide ((ma.tk : Int) < (m.tk : Int)) = false := by have := GA.out.tk; simp; omega
  have d3 : decide (ma.tk < m.tk) = false := by have := GA.out.tk; simp; omega
  have d4 : decide (mb.tk < ma.tk) = false := by have := GB.out.tk; simp; omega
  have d5 : ¬ ma.tk < m.tk := by have := GA.out.tk; omega
  have d6 : ¬ mb.tk < ma.tk := by have := GB.out.tk; omega
  have d2 : decide ((mb.tk : Int) < (ma.tk : Int)) = false := by have := GB.out.tk; simp; omega
  clear hta htb
  go_wp2_with fail
  refine (BE1.out 0).mono ?_
  rintro e w' ⟨rfl, k1, rfl⟩
  go_wp2_with fail
  refine (BE2.out _).mono ?_
  rintro e w' ⟨rfl, k2, rfl⟩
  go_wp2_with fail
  refine (EI.out _).mono ?_
  rintro e w' ⟨rfl, k3, rfl⟩
  by_cases hs : mb.stop = 0
  · have t0 : (mb.stop != 0) = false := by simpa using hs
    have t1 : ((na : Int) + (nb : Int) != 42) = false := by have := AL2.out hs; simp; omega
    clear hs
    go_wp2_with fail
    refine (wakes_any _ (((TT.out.below G9.out).drewN _))).mono ?_
    rintro e wz ⟨rfl, bz⟩
    have GZ := Lib.hid (G9.out.trans ((show Below w9.heap.size w9 wz from (below_drewN (Below.refl _ w9) _).trans bz).mono G9.out.size))
    clear bz
    go_wp2
    go_ret
    exact ⟨rfl, GZ.out⟩
  · have t0 : (mb.stop != 0) = true := by simpa using hs
    have HS := Lib.hid hs
    clear hs
    clear q0 q1 q2 q3 q4 q5 q6 q7 q8 q9 q10 q11 q12 q13 x0 x1 x2 x3 x4 x5 x6 x7 x8 x9 x10 y0 y1 y2 y3 y4 y5 y6 y7 y8 y9 y10 xl yl d1 d2 d3 d4 d5 d6
    have q0 : w9.cell? ⟨w.heap.size, 0, none⟩ = some (.slice A0 pl c0) := XM9.out.cell 0
    go_wp2_with ((with_reducible refine wpList_load_bk (T := 27) (op := ⟨some 120, .load 27 _, _, _, _, none⟩) rfl _ rfl Tryd.underlying27 Tryd.size27 w7.heap.size (stCells mb VX) ?u91x ?u91b ?u91l ?_); (case u91x => rfl); (case u91l => rfl); (case u91b => exact BX9.out.drewN _))
    refine (RS.out mb VX _ (below_drewN G9.out _) (SX9.out.sv.drewN _) K2.out.1 (by have := K2.out.2.1; have := K1.out.2.1; have := OB.out; omega)).mono ?_
    rintro e wS ⟨vS, rfl, sS, bS⟩
    rw [runP_stop HS.out] at sS
    simp only at sS
    have BXS := Lib.hid (BK.below (w := w9.drewN (k1 + k2 + k3)) BX9.out (by first | exact bS | (simpa using bS)))
    have SXS := Lib.hid (SVN.below (w := w9.drewN (k1 + k2 + k3)) SX9.out (by first | exact bS | (simpa using bS)))
    have GS := Lib.hid (G9.out.trans ((show Below w9.heap.size w9 wS from (below_drewN (Below.refl _ w9) _).trans bS).mono G9.out.size))
    have SS5 := Lib.hid sS
    obtain ⟨rr5, pp5, ii5, oo5, zz5, FF5, gg5, rfl, a1, a2, a3, a4, a5⟩ := sS.sv
    have O5 := Lib.hid (one11 (a := mb.tk) (b := mb.pc) (s := mb.stop) (A := FF5) (c := gg5) a1.one a2.one a3.one a4.one a5.one)
    clear a1 a2 a3 a4 a5 sS bS q0 hl9 zl z0 z1 z2 z3 z4 z5 z6 z7 z8 z9 z10
    go_wp2_with ((with_reducible refine wpList_store_bk (T := 27) (op := ⟨none, .store 27 _ _, _, _, _, none⟩) rfl _ _ rfl Tryd.size27 wS.heap.size ZS #[rr5, pp5, ii5, .int .i64 mb.tk, oo5, .int .i64 mb.pc, zz5, .int .i64 mb.stop, .slice FF5 0 gg5, .int .i64 0, .int .i64 0] ?u92x ?u92y ?u92b ?u921 ?u922 ?u923 ?_); (case u92x => rfl); (case u92y => rfl); (case u921 => rfl); (case u922 => exact rfl); (case u923 => exact O5.out); (case u92b => exact heap_alloc_new _ _))
    intro wT hbl hg hsz
    have BLT := (below_new wS (.cells ZS 27)).grown hg (by simp) (by intro k hk; cases hk; omega)
    have BXT := Lib.hid (BXS.out.below BLT)
    have SXT := Lib.hid (SXS.out.below BLT)
    have SYT := Lib.hid (SS5.out.below BLT)
    have GT := Lib.hid (GS.out.trans (BLT.mono GS.out.size))
    obtain ⟨y0, y1, y2, y3, y4, y5, y6, y7, y8, y9, y10⟩ := hbl.c11
    obtain ⟨z0, z1, z2, z3, z4, z5, z6, z7, z8, z9, z10⟩ := (show BK 27 wT _ #[VX.r, VX.m, VX.i mb, .int .i64 mb.tk, VX.o mb, .int .i64 mb.pc, VX.s mb, .int .i64 mb.stop, .slice none 0 0, .int .i64 0, .int .i64 0] from BXT.out).c11
    have yl := hbl.lt
    have zl := BXT.out.lt
    clear hbl hg hsz BLT
    go_wp2_with (go_at_call 15; refine (num_any _ _).mono ?_; rintro e w' ⟨rfl, rfl⟩)
    refine (eqst_same mb _ _ _ SXT.out.sv SYT.out.sv K2.out.1.ok).mono ?_
    rintro e wU ⟨rfl, bU⟩
    have GU := Lib.hid (GT.out.trans (bU.mono GT.out.size))
    clear bU
    go_wp2_with fail
    refine (wakes_any _ (TT.out.below GU.out)).mono ?_
    rintro e wz ⟨rfl, bz⟩
    have GZ := Lib.hid (GU.out.trans (bz.mono GU.out.size))
    clear bz
    go_wp2
    go_ret
    exact ⟨rfl, GZ.out⟩
end Go.Proofs.YtpnmlednningkaaDoor
