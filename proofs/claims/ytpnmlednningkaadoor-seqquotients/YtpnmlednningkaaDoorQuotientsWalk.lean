/-
  SeqQuotients: the walk: a program of some kinds of ops, made of a script's instructions, does on both machines the same. Conditions: the tables lie in the world; the argument reads as a script.
-/
import Derived.Test.YtpnmlednningkaaDoorKd
import Derived.Deep.RegionHeld3
namespace Go.Proofs.YtpnmlednningkaaDoor
open Go.RowKit

set_option maxRecDepth 40000 in
set_option maxHeartbeats 8000000 in
theorem kinds_16 (v : Value) (w : World) (xs : List In6) (ins : List Int) (SC : ScI w v xs ins) : Calls Tryd.prog 32 #[v, .int .i64 16, .int .i64 17] w (KdPost w) := by
  obtain ⟨A0, A1, A2, A3, A4, A5, A6, A7, A8, n0, c0, n1, c1, n2, c2, n3, c3, n4, c4, n5, c5, n6, c6, n7, c7, n8, c8, tk, pc, stop, j, d, rfl, hx, hn, _, _, b0, _⟩ := SC.form
  have SZ := Lib.hid SC.sz
  have RX := Lib.hid hx
  have HN := Lib.hid hn
  clear SC hx hn
  have X0 := Lib.hid (show BK 29 (w.alloc (.cells #[.slice A0 n0 c0, .slice A1 n1 c1, .slice A2 n2 c2, .slice A3 n3 c3, .int .i64 tk, .slice A4 n4 c4, .int .i64 pc, .slice A5 n5 c5, .int .i64 stop, .slice A6 n6 c6, .int .i64 j, .int .i64 d, .slice A7 n7 c7, .slice A8 n8 c8] 29)) w.heap.size #[.slice A0 n0 c0, .slice A1 n1 c1, .slice A2 n2 c2, .slice A3 n3 c3, .int .i64 tk, .slice A4 n4 c4, .int .i64 pc, .slice A5 n5 c5, .int .i64 stop, .slice A6 n6 c6, .int .i64 j, .int .i64 d, .slice A7 n7 c7, .slice A8 n8 c8] from heap_alloc_new w _)
  have G0 := Lib.hid (below_new w (.cells #[.slice A0 n0 c0, .slice A1 n1 c1, .slice A2 n2 c2, .slice A3 n3 c3, .int .i64 tk, .slice A4 n4 c4, .int .i64 pc, .slice A5 n5 c5, .int .i64 stop, .slice A6 n6 c6, .int .i64 j, .int .i64 d, .slice A7 n7 c7, .slice A8 n8 c8] 29))
  go_enter Tryd.func32, Tryd.ntmps32
  go_wp2_with fail
  go_loopg [7, 8] n0 (fun gk l o wr2 => ∃ i : Nat, i ≤ n0 ∧ gk = n0 - i ∧ o = .int .i64 i ∧ Kl w 50 #[.slice A0 n0 c0, .slice A1 n1 c1, .slice A2 n2 c2, .slice A3 n3 c3, .int .i64 tk, .slice A4 n4 c4, .int .i64 pc, .slice A5 n5 c5, .int .i64 stop, .slice A6 n6 c6, .int .i64 j, .int .i64 d, .slice A7 n7 c7, .slice A8 n8 c8] l wr2)
  case atStart =>
    refine ⟨0, by omega, rfl, rfl, ?_⟩
    have h0 := (own_lit (w.alloc (.cells #[.slice A0 n0 c0, .slice A1 n1 c1, .slice A2 n2 c2, .slice A3 n3 c3, .int .i64 tk, .slice A4 n4 c4, .int .i64 pc, .slice A5 n5 c5, .int .i64 stop, .slice A6 n6 c6, .int .i64 j, .int .i64 d, .slice A7 n7 c7, .slice A8 n8 c8] 29)) #[.int .i64 26, .int .i64 1, .int .i64 0, .int .i64 0, .int .i64 0, .string ⟨#[]⟩, .int .i64 26, .int .i64 2, .int .i64 0, .int .i64 0, .int .i64 0, .string ⟨#[]⟩, .int .i64 23, .int .i64 3, .int .i64 0, .int .i64 0, .int .i64 (-5), .string ⟨#[]⟩, .int .i64 23, .int .i64 4, .int .i64 0, .int .i64 0, .int .i64 77, .string ⟨#[]⟩] (kdB.map In5.raw) 4 rfl rfl (by decide)).mono (base' := w.heap.size + 1) (by simp)
    have e0 : (w.alloc (.cells #[.slice A0 n0 c0, .slice A1 n1 c1, .slice A2 n2 c2, .slice A3 n3 c3, .int .i64 tk, .slice A4 n4 c4, .int .i64 pc, .slice A5 n5 c5, .int .i64 stop, .slice A6 n6 c6, .int .i64 j, .int .i64 d, .slice A7 n7 c7, .slice A8 n8 c8] 29)).heap.size = w.heap.size + 1 := by simp
    rw [e0] at h0
    exact ⟨some ⟨w.heap.size + 1, 0, none⟩, 4, kdB, rfl, h0, by decide, by decide, kdB_vi, X0.out.alloc _, G0.out.alloc (by simp) _⟩
  case round =>
    obtain ⟨i, hi, rfl, rfl, A, c, P, rfl, hown, hp4, hp50, hvi, hbk, hbel⟩ := hrel
    have OW := Lib.hid hown
    have VI := Lib.hid hvi
    have X1 := Lib.hid hbk
    have G1 := Lib.hid hbel
    obtain ⟨q0, q1, q2, q3, q4, q5, q6, q7, q8, q9, q10, q11, q12, q13⟩ := hbk.c14
    have hl1 := hbk.lt
    generalize hpl : P.length = pl at *
    have HPL := Lib.hid hpl
    clear hown hvi hbk hbel hpl
    by_cases hlt : i < n0 ∧ pl < 50
    · obtain ⟨hlt, hpl⟩ := hlt
      have hd : decide ((i : Int) < (n0 : Int)) = true := by simpa using hlt
      have hd2 : decide ((pl : Int) < 50) = true := by simp; omega
      have i0 : (0 : Int) ≤ (i : Int) := by omega
      have i1 : (i : Int) < (n0 : Int) := by omega
      obtain ⟨AA, cc, hv, hr⟩ := RX.out
      simp only [Value.slice.injEq] at hv
      obtain ⟨hv1, hv2, hv3⟩ := hv
      subst hv1
      obtain ⟨ad, rfl, hg, qq⟩ := hr (by have := HN.out; omega)
      have hil : i < xs.length := by have := HN.out; omega
      obtain ⟨k0, k1, k2, k3, k4, k5⟩ := ((qq i _ (List.getElem?_eq_getElem hil)).keep G1.out hg).k
      have hgw : (ad.add (i * 6)).block < wr.heap.size := by rw [block_add]; have := G1.out.size; omega
      generalize xs[i] = x at k0 k1 k2 k3 k4 k5
      obtain ⟨xo, xd, xa, xb, xm, s⟩ := x
      simp only at k0 k1 k2 k3 k4 k5
      obtain ⟨o, ho⟩ : ∃ o : Nat, 16 + (i : Int) % 2 = (o : Int) := ⟨(16 + (i : Int) % 2).toNat, by omega⟩
      have o34 : o < 34 := by omega
      clear hv2 hv3 hr qq hg hil
      go_wp2_with fail
      refine (rform_any o _ o34).mono ?_
      rintro e w1 ⟨rfl, b1⟩
      have E1 := Lib.hid (show BK 54 w1 wr.heap.size #[.int .i64 o, .int .i64 xd, .int .i64 xa, .int .i64 xb, .int .i64 xm, .string ⟨#[]⟩] from BK.below (heap_alloc_new wr _) b1)
      have OW1 := Lib.hid (own_bel (OW.out.alloc _) b1)
      have Y1 := Lib.hid ((X1.out.alloc _).below b1)
      have H1 := Lib.hid (G1.out.trans (((below_new wr _).trans (b1.mono (by simp))).mono G1.out.size))
      have L1 := Lib.hid (show wr.heap.size < w1.heap.size by have := b1.size; simp at this; omega)
      obtain ⟨e0, e1, e2, e3, e4, e5⟩ := E1.out.c6
      obtain ⟨f0, f1, f2, f3, f4, f5⟩ := E1.out.f6
      have el := E1.out.lt
      clear b1 q0 q1 q2 q3 q4 q5 q6 q7 q8 q9 q10 q11 q12 q13 hl1 k0 k1 k2 k3 k4 k5 hgw
      by_cases hf : fm o = 1
      · have t1 : ((fm o : Int) != 1) = false := by simp; omega
        clear hf
        cases hc : iB ⟨(o : Int), xd, xa, xb, 0, ⟨#[]⟩⟩
        · have C := Lib.hid (fun W => ins_raw ⟨(o : Int), xd, xa, xb, 0, ⟨#[]⟩⟩ false W (Nat.zero_le _) hc)
          clear hc
          go_wp2_with fail
          refine (C.out _).mono ?_
          rintro e w2 ⟨rfl, b2⟩
          have OW2 := Lib.hid (own_bel (own_set OW.out OW1.out (grown_set w1 wr.heap.size 4 (.int .i64 0)) (Nat.le_refl _)) b2)
          have Y2 := Lib.hid ((Y1.out.grown (grown_set w1 wr.heap.size 4 (.int .i64 0)) (by have := X1.out.lt; intro h; injection h; omega)).below b2)
          have H2 := Lib.hid ((H1.out.trans (gb_below (B := w.heap.size) (grown_set w1 wr.heap.size 4 (.int .i64 0)) G1.out.size H1.out.size)).trans (b2.mono (by have := H1.out.size; simp; omega)))
          clear b2 e0 e1 e2 e3 e4 e5 f0 f1 f2 f3 f4 f5 el
          go_wp2_with fail
          go_roundg (n0 - (i + 1))
          case measure => omega
          case rel => exact ⟨i + 1, by omega, rfl, by go_num, A, c, P, by rw [HPL.out], by rw [HPL.out]; exact OW2.out, by rw [HPL.out]; exact hp4, by rw [HPL.out]; exact hp50, VI.out, Y2.out, H2.out⟩
        · obtain ⟨y, hy, hvy⟩ := in5_of rfl hc
          have YY := Lib.hid (And.intro hy hvy)
          have C := Lib.hid (fun W => ins_raw ⟨(o : Int), xd, xa, xb, 0, ⟨#[]⟩⟩ true W (Nat.zero_le _) hc)
          clear hc hy hvy
          go_wp2_with fail
          refine (C.out _).mono ?_
          rintro e w2 ⟨rfl, b2⟩
          have OW2 := Lib.hid (own_bel (own_set OW.out OW1.out (grown_set w1 wr.heap.size 4 (.int .i64 0)) (Nat.le_refl _)) b2)
          have Y2 := Lib.hid ((Y1.out.grown (grown_set w1 wr.heap.size 4 (.int .i64 0)) (by have := X1.out.lt; intro h; injection h; omega)).below b2)
          have H2 := Lib.hid ((H1.out.trans (gb_below (B := w.heap.size) (grown_set w1 wr.heap.size 4 (.int .i64 0)) G1.out.size H1.out.size)).trans (b2.mono (by have := H1.out.size; simp; omega)))
          have E2 := Lib.hid (BK.below (E1.out.set 4 (.int .i64 0) : BK 54 _ wr.heap.size #[.int .i64 o, .int .i64 xd, .int .i64 xa, .int .i64 xb, .int .i64 0, .string ⟨#[]⟩]) b2)
          have HS2 := Lib.hid (show w.heap.size + 1 ≤ w2.heap.size from Y2.out.lt)
          clear b2 e0 e1 e2 e3 e4 e5 f0 f1 f2 f3 f4 f5 el
          obtain ⟨e0, e1, e2, e3, e4, e5⟩ := E2.out.c6
          have el := E2.out.lt
          go_wp2_with (at_builtin; refine app6 (by rfl) _ _ (by rfl) _ (w.heap.size + 1) pl c A (P.map In5.raw) [⟨(o : Int), xd, xa, xb, 0, ⟨#[]⟩⟩] 1 rfl (by decide) (by decide) (by rfl) ?p1 (by omega) w2.heap.size (by rfl) #[.int .i64 o, .int .i64 xd, .int .i64 xa, .int .i64 xb, .int .i64 0, .string ⟨#[]⟩] ?p2 rfl ?p3 ?_)
          case p1 => exact OW2.out.alloc _
          case p2 => exact heap_alloc_new w2 _
          case p3 => have := HS2.out; simp; omega
          intro g cap w3 hown hgrow
          have OW3 := Lib.hid hown
          have Y3 := Lib.hid ((Y2.out.alloc (.cells #[.int .i64 o, .int .i64 xd, .int .i64 xa, .int .i64 xb, .int .i64 0, .string ⟨#[]⟩] 54)).grown hgrow (by intro h; have := (OW2.out.lt _ (by rw [own_ob]; exact h.symm)).1; omega))
          have H3 := Lib.hid ((H2.out.alloc (Nat.le_of_succ_le HS2.out) (.cells #[.int .i64 o, .int .i64 xd, .int .i64 xa, .int .i64 xb, .int .i64 0, .string ⟨#[]⟩] 54)).grown hgrow (by have := HS2.out; simp; omega) (by intro k hk; have := (OW2.out.lt k (by rw [own_ob]; exact hk)).1; omega))
          clear hown hgrow e0 e1 e2 e3 e4 e5 el
          go_wp2_with fail
          go_roundg (n0 - (i + 1))
          case measure => omega
          case rel => exact ⟨i + 1, by omega, rfl, by go_num, some ⟨g, 0, none⟩, cap, P ++ [y], by rw [List.length_append, HPL.out]; rfl, by have h1 := OW3.out; rw [List.map_append, List.length_append, HPL.out]; simp only [List.map_cons, List.map_nil, YY.out.1]; exact h1, by rw [List.length_append, HPL.out]; omega, by rw [List.length_append, HPL.out]; show pl + 1 ≤ 50; omega, fun z hz => by rcases List.mem_append.1 hz with hz | hz; exact VI.out z hz; (simp at hz; rw [hz]; exact YY.out.2), Y3.out, H3.out⟩
      · have t1 : ((fm o : Int) != 1) = true := by simp; omega
        clear hf
        cases hc : iB ⟨(o : Int), xd, xa, 0, 0, ⟨#[]⟩⟩
        · have C := Lib.hid (fun W => ins_raw ⟨(o : Int), xd, xa, 0, 0, ⟨#[]⟩⟩ false W (Nat.zero_le _) hc)
          clear hc
          go_wp2_with fail
          refine (C.out _).mono ?_
          rintro e w2 ⟨rfl, b2⟩
          have OW2 := Lib.hid (own_bel (own_set OW.out OW1.out (gb_set6 w1 wr.heap.size (.int .i64 o) (.int .i64 xd) (.int .i64 xa) (.int .i64 0) (.int .i64 0) (.string ⟨#[]⟩)) (Nat.le_refl _)) b2)
          have Y2 := Lib.hid ((Y1.out.grown (gb_set6 w1 wr.heap.size (.int .i64 o) (.int .i64 xd) (.int .i64 xa) (.int .i64 0) (.int .i64 0) (.string ⟨#[]⟩)) (by have := X1.out.lt; intro h; injection h; omega)).below b2)
          have H2 := Lib.hid ((H1.out.trans (gb_below (B := w.heap.size) (gb_set6 w1 wr.heap.size (.int .i64 o) (.int .i64 xd) (.int .i64 xa) (.int .i64 0) (.int .i64 0) (.string ⟨#[]⟩)) G1.out.size H1.out.size)).trans (b2.mono (by have := H1.out.size; simp; omega)))
          clear b2 e0 e1 e2 e3 e4 e5 f0 f1 f2 f3 f4 f5 el
          go_wp2_with fail
          go_roundg (n0 - (i + 1))
          case measure => omega
          case rel => exact ⟨i + 1, by omega, rfl, by go_num, A, c, P, by rw [HPL.out], by rw [HPL.out]; exact OW2.out, by rw [HPL.out]; exact hp4, by rw [HPL.out]; exact hp50, VI.out, Y2.out, H2.out⟩
        · obtain ⟨y, hy, hvy⟩ := in5_of rfl hc
          have YY := Lib.hid (And.intro hy hvy)
          have C := Lib.hid (fun W => ins_raw ⟨(o : Int), xd, xa, 0, 0, ⟨#[]⟩⟩ true W (Nat.zero_le _) hc)
          clear hc hy hvy
          go_wp2_with fail
          refine (C.out _).mono ?_
          rintro e w2 ⟨rfl, b2⟩
          have OW2 := Lib.hid (own_bel (own_set OW.out OW1.out (gb_set6 w1 wr.heap.size (.int .i64 o) (.int .i64 xd) (.int .i64 xa) (.int .i64 0) (.int .i64 0) (.string ⟨#[]⟩)) (Nat.le_refl _)) b2)
          have Y2 := Lib.hid ((Y1.out.grown (gb_set6 w1 wr.heap.size (.int .i64 o) (.int .i64 xd) (.int .i64 xa) (.int .i64 0) (.int .i64 0) (.string ⟨#[]⟩)) (by have := X1.out.lt; intro h; injection h; omega)).below b2)
          have H2 := Lib.hid ((H1.out.trans (gb_below (B := w.heap.size) (gb_set6 w1 wr.heap.size (.int .i64 o) (.int .i64 xd) (.int .i64 xa) (.int .i64 0) (.int .i64 0) (.string ⟨#[]⟩)) G1.out.size H1.out.size)).trans (b2.mono (by have := H1.out.size; simp; omega)))
          have E2 := Lib.hid (BK.below (bk_set6 E1.out (.int .i64 o) (.int .i64 xd) (.int .i64 xa) (.int .i64 0) (.int .i64 0) (.string ⟨#[]⟩) : BK 54 _ wr.heap.size #[.int .i64 o, .int .i64 xd, .int .i64 xa, .int .i64 0, .int .i64 0, .string ⟨#[]⟩]) b2)
          have HS2 := Lib.hid (show w.heap.size + 1 ≤ w2.heap.size from Y2.out.lt)
          clear b2 e0 e1 e2 e3 e4 e5 f0 f1 f2 f3 f4 f5 el
          obtain ⟨e0, e1, e2, e3, e4, e5⟩ := E2.out.c6
          have el := E2.out.lt
          go_wp2_with (at_builtin; refine app6 (by rfl) _ _ (by rfl) _ (w.heap.size + 1) pl c A (P.map In5.raw) [⟨(o : Int), xd, xa, 0, 0, ⟨#[]⟩⟩] 1 rfl (by decide) (by decide) (by rfl) ?p1 (by omega) w2.heap.size (by rfl) #[.int .i64 o, .int .i64 xd, .int .i64 xa, .int .i64 0, .int .i64 0, .string ⟨#[]⟩] ?p2 rfl ?p3 ?_)
          case p1 => exact OW2.out.alloc _
          case p2 => exact heap_alloc_new w2 _
          case p3 => have := HS2.out; simp; omega
          intro g cap w3 hown hgrow
          have OW3 := Lib.hid hown
          have Y3 := Lib.hid ((Y2.out.alloc (.cells #[.int .i64 o, .int .i64 xd, .int .i64 xa, .int .i64 0, .int .i64 0, .string ⟨#[]⟩] 54)).grown hgrow (by intro h; have := (OW2.out.lt _ (by rw [own_ob]; exact h.symm)).1; omega))
          have H3 := Lib.hid ((H2.out.alloc (Nat.le_of_succ_le HS2.out) (.cells #[.int .i64 o, .int .i64 xd, .int .i64 xa, .int .i64 0, .int .i64 0, .string ⟨#[]⟩] 54)).grown hgrow (by have := HS2.out; simp; omega) (by intro k hk; have := (OW2.out.lt k (by rw [own_ob]; exact hk)).1; omega))
          clear hown hgrow e0 e1 e2 e3 e4 e5 el
          go_wp2_with fail
          go_roundg (n0 - (i + 1))
          case measure => omega
          case rel => exact ⟨i + 1, by omega, rfl, by go_num, some ⟨g, 0, none⟩, cap, P ++ [y], by rw [List.length_append, HPL.out]; rfl, by have h1 := OW3.out; rw [List.map_append, List.length_append, HPL.out]; simp only [List.map_cons, List.map_nil, YY.out.1]; exact h1, by rw [List.length_append, HPL.out]; omega, by rw [List.length_append, HPL.out]; show pl + 1 ≤ 50; omega, fun z hz => by rcases List.mem_append.1 hz with hz | hz; exact VI.out z hz; (simp at hz; rw [hz]; exact YY.out.2), Y3.out, H3.out⟩
    · by_cases hin : i < n0
      · have hd : decide ((i : Int) < (n0 : Int)) = true := by simpa using hin
        have hd2 : decide ((pl : Int) < 50) = false := by simp; omega
        have hp5 : ¬ pl < 50 := by omega
        clear hlt
        have GS := Lib.hid (show w.heap.size + 1 ≤ wr.heap.size from X1.out.lt)
        go_wp2_with (at_builtin; refine app6 (by rfl) _ _ (by rfl) _ (w.heap.size + 1) pl c A (P.map In5.raw) (kdE.map In5.raw) 2 kdE_len (by decide) (by decide) (by rfl) ?_ (by omega) wr.heap.size (by rfl) #[.int .i64 27, .int .i64 0, .int .i64 3, .int .i64 0, .int .i64 0, .string ⟨#[]⟩, .int .i64 33, .int .i64 0, .int .i64 0, .int .i64 0, .int .i64 0, .string ⟨#[]⟩] ?_ kdE_cs ?_ ?_; (· exact OW.out.alloc _); (· exact heap_alloc_new wr _); (· have := GS.out; simp; omega); intro g cap w3 hown hgrow; have OW3 := Lib.hid hown; have H3 := Lib.hid ((G1.out.alloc (Nat.le_of_succ_le GS.out) (.cells #[.int .i64 27, .int .i64 0, .int .i64 3, .int .i64 0, .int .i64 0, .string ⟨#[]⟩, .int .i64 33, .int .i64 0, .int .i64 0, .int .i64 0, .int .i64 0, .string ⟨#[]⟩] 54)).grown hgrow (by have := GS.out; simp; omega) (by intro k hk; have := (OW.out.lt k (by rw [own_ob]; exact hk)).1; omega)); clear hown hgrow)
        go_ret
        refine ⟨_, P ++ kdE, rfl, ?_, ⟨?_, ?_⟩, H3.out⟩
        · have h1 := rdi_own OW3.out
          unfold RdP
          rw [List.map_append]
          exact h1
        · rw [List.length_append, HPL.out]; show pl + 2 ≤ 1024; omega
        · intro z hz
          rcases List.mem_append.1 hz with hz | hz
          · exact VI.out z hz
          · exact kdE_vi z hz
      · have hd : decide ((i : Int) < (n0 : Int)) = false := by simp; omega
        clear hlt
        have GS := Lib.hid (show w.heap.size + 1 ≤ wr.heap.size from X1.out.lt)
        go_wp2_with (at_builtin; refine app6 (by rfl) _ _ (by rfl) _ (w.heap.size + 1) pl c A (P.map In5.raw) (kdE.map In5.raw) 2 kdE_len (by decide) (by decide) (by rfl) ?_ (by omega) wr.heap.size (by rfl) #[.int .i64 27, .int .i64 0, .int .i64 3, .int .i64 0, .int .i64 0, .string ⟨#[]⟩, .int .i64 33, .int .i64 0, .int .i64 0, .int .i64 0, .int .i64 0, .string ⟨#[]⟩] ?_ kdE_cs ?_ ?_; (· exact OW.out.alloc _); (· exact heap_alloc_new wr _); (· have := GS.out; simp; omega); intro g cap w3 hown hgrow; have OW3 := Lib.hid hown; have H3 := Lib.hid ((G1.out.alloc (Nat.le_of_succ_le GS.out) (.cells #[.int .i64 27, .int .i64 0, .int .i64 3, .int .i64 0, .int .i64 0, .string ⟨#[]⟩, .int .i64 33, .int .i64 0, .int .i64 0, .int .i64 0, .int .i64 0, .string ⟨#[]⟩] 54)).grown hgrow (by have := GS.out; simp; omega) (by intro k hk; have := (OW.out.lt k (by rw [own_ob]; exact hk)).1; omega)); clear hown hgrow)
        go_ret
        refine ⟨_, P ++ kdE, rfl, ?_, ⟨?_, ?_⟩, H3.out⟩
        · have h1 := rdi_own OW3.out
          unfold RdP
          rw [List.map_append]
          exact h1
        · rw [List.length_append, HPL.out]; show pl + 2 ≤ 1024; omega
        · intro z hz
          rcases List.mem_append.1 hz with hz | hz
          · exact VI.out z hz
          · exact kdE_vi z hz
set_option maxRecDepth 40000 in
set_option maxHeartbeats 4000000 in
theorem seqQuotients_walk (v : Value) (w : World) (T : Tab w) (H : Asked w v) : Calls Tryd.prog 7 #[v] w (BoolBelow true w) := by
  obtain ⟨xs, ins, SC⟩ := H.sc
  obtain ⟨A0, A1, A2, A3, A4, A5, A6, A7, A8, n0, c0, n1, c1, n2, c2, n3, c3, n4, c4, n5, c5, n6, c6, n7, c7, n8, c8, tk, pc, stop, j, d, rfl, _⟩ := SC.form
  have RU := Lib.hid (fun W (hb : Below w.heap.size w W) pv P (hp : RdP W pv P) (v : Vp P) => runs_any _ pv xs ins P W (SC.below hb) hp v (T.below hb))
  have KD := Lib.hid (fun W (hb : Below w.heap.size w W) => kinds_16 _ W xs ins (SC.below hb))
  clear SC T H
  have X0 := Lib.hid (show BK 29 (w.alloc (.cells #[.slice A0 n0 c0, .slice A1 n1 c1, .slice A2 n2 c2, .slice A3 n3 c3, .int .i64 tk, .slice A4 n4 c4, .int .i64 pc, .slice A5 n5 c5, .int .i64 stop, .slice A6 n6 c6, .int .i64 j, .int .i64 d, .slice A7 n7 c7, .slice A8 n8 c8] 29)) w.heap.size #[.slice A0 n0 c0, .slice A1 n1 c1, .slice A2 n2 c2, .slice A3 n3 c3, .int .i64 tk, .slice A4 n4 c4, .int .i64 pc, .slice A5 n5 c5, .int .i64 stop, .slice A6 n6 c6, .int .i64 j, .int .i64 d, .slice A7 n7 c7, .slice A8 n8 c8] from heap_alloc_new w _)
  have G0 := Lib.hid (below_new w (.cells #[.slice A0 n0 c0, .slice A1 n1 c1, .slice A2 n2 c2, .slice A3 n3 c3, .int .i64 tk, .slice A4 n4 c4, .int .i64 pc, .slice A5 n5 c5, .int .i64 stop, .slice A6 n6 c6, .int .i64 j, .int .i64 d, .slice A7 n7 c7, .slice A8 n8 c8] 29))
  have K1 := Lib.hid (show (w.alloc (.cells #[.slice A0 n0 c0, .slice A1 n1 c1, .slice A2 n2 c2, .slice A3 n3 c3, .int .i64 tk, .slice A4 n4 c4, .int .i64 pc, .slice A5 n5 c5, .int .i64 stop, .slice A6 n6 c6, .int .i64 j, .int .i64 d, .slice A7 n7 c7, .slice A8 n8 c8] 29)).drew.cell? ⟨w.heap.size, 0, none⟩ = some (.slice A0 n0 c0) ∧ (w.alloc (.cells #[.slice A0 n0 c0, .slice A1 n1 c1, .slice A2 n2 c2, .slice A3 n3 c3, .int .i64 tk, .slice A4 n4 c4, .int .i64 pc, .slice A5 n5 c5, .int .i64 stop, .slice A6 n6 c6, .int .i64 j, .int .i64 d, .slice A7 n7 c7, .slice A8 n8 c8] 29)).drew.cell? ⟨w.heap.size, 1, none⟩ = some (.slice A1 n1 c1) ∧ (w.alloc (.cells #[.slice A0 n0 c0, .slice A1 n1 c1, .slice A2 n2 c2, .slice A3 n3 c3, .int .i64 tk, .slice A4 n4 c4, .int .i64 pc, .slice A5 n5 c5, .int .i64 stop, .slice A6 n6 c6, .int .i64 j, .int .i64 d, .slice A7 n7 c7, .slice A8 n8 c8] 29)).drew.cell? ⟨w.heap.size, 2, none⟩ = some (.slice A2 n2 c2) ∧ (w.alloc (.cells #[.slice A0 n0 c0, .slice A1 n1 c1, .slice A2 n2 c2, .slice A3 n3 c3, .int .i64 tk, .slice A4 n4 c4, .int .i64 pc, .slice A5 n5 c5, .int .i64 stop, .slice A6 n6 c6, .int .i64 j, .int .i64 d, .slice A7 n7 c7, .slice A8 n8 c8] 29)).drew.cell? ⟨w.heap.size, 3, none⟩ = some (.slice A3 n3 c3) ∧ (w.alloc (.cells #[.slice A0 n0 c0, .slice A1 n1 c1, .slice A2 n2 c2, .slice A3 n3 c3, .int .i64 tk, .slice A4 n4 c4, .int .i64 pc, .slice A5 n5 c5, .int .i64 stop, .slice A6 n6 c6, .int .i64 j, .int .i64 d, .slice A7 n7 c7, .slice A8 n8 c8] 29)).drew.cell? ⟨w.heap.size, 4, none⟩ = some (.int .i64 tk) ∧ (w.alloc (.cells #[.slice A0 n0 c0, .slice A1 n1 c1, .slice A2 n2 c2, .slice A3 n3 c3, .int .i64 tk, .slice A4 n4 c4, .int .i64 pc, .slice A5 n5 c5, .int .i64 stop, .slice A6 n6 c6, .int .i64 j, .int .i64 d, .slice A7 n7 c7, .slice A8 n8 c8] 29)).drew.cell? ⟨w.heap.size, 5, none⟩ = some (.slice A4 n4 c4) ∧ (w.alloc (.cells #[.slice A0 n0 c0, .slice A1 n1 c1, .slice A2 n2 c2, .slice A3 n3 c3, .int .i64 tk, .slice A4 n4 c4, .int .i64 pc, .slice A5 n5 c5, .int .i64 stop, .slice A6 n6 c6, .int .i64 j, .int .i64 d, .slice A7 n7 c7, .slice A8 n8 c8] 29)).drew.cell? ⟨w.heap.size, 6, none⟩ = some (.int .i64 pc) ∧ (w.alloc (.cells #[.slice A0 n0 c0, .slice A1 n1 c1, .slice A2 n2 c2, .slice A3 n3 c3, .int .i64 tk, .slice A4 n4 c4, .int .i64 pc, .slice A5 n5 c5, .int .i64 stop, .slice A6 n6 c6, .int .i64 j, .int .i64 d, .slice A7 n7 c7, .slice A8 n8 c8] 29)).drew.cell? ⟨w.heap.size, 7, none⟩ = some (.slice A5 n5 c5) ∧ (w.alloc (.cells #[.slice A0 n0 c0, .slice A1 n1 c1, .slice A2 n2 c2, .slice A3 n3 c3, .int .i64 tk, .slice A4 n4 c4, .int .i64 pc, .slice A5 n5 c5, .int .i64 stop, .slice A6 n6 c6, .int .i64 j, .int .i64 d, .slice A7 n7 c7, .slice A8 n8 c8] 29)).drew.cell? ⟨w.heap.size, 8, none⟩ = some (.int .i64 stop) ∧ (w.alloc (.cells #[.slice A0 n0 c0, .slice A1 n1 c1, .slice A2 n2 c2, .slice A3 n3 c3, .int .i64 tk, .slice A4 n4 c4, .int .i64 pc, .slice A5 n5 c5, .int .i64 stop, .slice A6 n6 c6, .int .i64 j, .int .i64 d, .slice A7 n7 c7, .slice A8 n8 c8] 29)).drew.cell? ⟨w.heap.size, 9, none⟩ = some (.slice A6 n6 c6) ∧ (w.alloc (.cells #[.slice A0 n0 c0, .slice A1 n1 c1, .slice A2 n2 c2, .slice A3 n3 c3, .int .i64 tk, .slice A4 n4 c4, .int .i64 pc, .slice A5 n5 c5, .int .i64 stop, .slice A6 n6 c6, .int .i64 j, .int .i64 d, .slice A7 n7 c7, .slice A8 n8 c8] 29)).drew.cell? ⟨w.heap.size, 10, none⟩ = some (.int .i64 j) ∧ (w.alloc (.cells #[.slice A0 n0 c0, .slice A1 n1 c1, .slice A2 n2 c2, .slice A3 n3 c3, .int .i64 tk, .slice A4 n4 c4, .int .i64 pc, .slice A5 n5 c5, .int .i64 stop, .slice A6 n6 c6, .int .i64 j, .int .i64 d, .slice A7 n7 c7, .slice A8 n8 c8] 29)).drew.cell? ⟨w.heap.size, 11, none⟩ = some (.int .i64 d) ∧ (w.alloc (.cells #[.slice A0 n0 c0, .slice A1 n1 c1, .slice A2 n2 c2, .slice A3 n3 c3, .int .i64 tk, .slice A4 n4 c4, .int .i64 pc, .slice A5 n5 c5, .int .i64 stop, .slice A6 n6 c6, .int .i64 j, .int .i64 d, .slice A7 n7 c7, .slice A8 n8 c8] 29)).drew.cell? ⟨w.heap.size, 12, none⟩ = some (.slice A7 n7 c7) ∧ (w.alloc (.cells #[.slice A0 n0 c0, .slice A1 n1 c1, .slice A2 n2 c2, .slice A3 n3 c3, .int .i64 tk, .slice A4 n4 c4, .int .i64 pc, .slice A5 n5 c5, .int .i64 stop, .slice A6 n6 c6, .int .i64 j, .int .i64 d, .slice A7 n7 c7, .slice A8 n8 c8] 29)).drew.cell? ⟨w.heap.size, 13, none⟩ = some (.slice A8 n8 c8) from X0.out.c14)
  have hzl : w.heap.size < (w.alloc (.cells #[.slice A0 n0 c0, .slice A1 n1 c1, .slice A2 n2 c2, .slice A3 n3 c3, .int .i64 tk, .slice A4 n4 c4, .int .i64 pc, .slice A5 n5 c5, .int .i64 stop, .slice A6 n6 c6, .int .i64 j, .int .i64 d, .slice A7 n7 c7, .slice A8 n8 c8] 29)).heap.size := X0.out.lt
  go_enter Tryd.func7, Tryd.ntmps7
  go_wp2_with fail
  go_region_held3 (fun w' => w'.cell? ⟨w.heap.size, 0, none⟩ = some (.slice A0 n0 c0) ∧ w'.cell? ⟨w.heap.size, 1, none⟩ = some (.slice A1 n1 c1) ∧ w'.cell? ⟨w.heap.size, 2, none⟩ = some (.slice A2 n2 c2) ∧ w'.cell? ⟨w.heap.size, 3, none⟩ = some (.slice A3 n3 c3) ∧ w'.cell? ⟨w.heap.size, 4, none⟩ = some (.int .i64 tk) ∧ w'.cell? ⟨w.heap.size, 5, none⟩ = some (.slice A4 n4 c4) ∧ w'.cell? ⟨w.heap.size, 6, none⟩ = some (.int .i64 pc) ∧ w'.cell? ⟨w.heap.size, 7, none⟩ = some (.slice A5 n5 c5) ∧ w'.cell? ⟨w.heap.size, 8, none⟩ = some (.int .i64 stop) ∧ w'.cell? ⟨w.heap.size, 9, none⟩ = some (.slice A6 n6 c6) ∧ w'.cell? ⟨w.heap.size, 10, none⟩ = some (.int .i64 j) ∧ w'.cell? ⟨w.heap.size, 11, none⟩ = some (.int .i64 d) ∧ w'.cell? ⟨w.heap.size, 12, none⟩ = some (.slice A7 n7 c7) ∧ w'.cell? ⟨w.heap.size, 13, none⟩ = some (.slice A8 n8 c8)) (first | with_reducible exact K1.out | with_reducible exact K2.out | with_reducible exact K3.out) (first | (go_at_call 32; refine (KD.out _ G0.out.drew).mono ?_; rintro e w2 ⟨v2, P, rfl, hP, vP, b2⟩; have X2 := Lib.hid (BK.below (w := (w.alloc (.cells #[.slice A0 n0 c0, .slice A1 n1 c1, .slice A2 n2 c2, .slice A3 n3 c3, .int .i64 tk, .slice A4 n4 c4, .int .i64 pc, .slice A5 n5 c5, .int .i64 stop, .slice A6 n6 c6, .int .i64 j, .int .i64 d, .slice A7 n7 c7, .slice A8 n8 c8] 29)).drew) X0.out b2); have K2 := Lib.hid (show w2.cell? ⟨w.heap.size, 0, none⟩ = some (.slice A0 n0 c0) ∧ w2.cell? ⟨w.heap.size, 1, none⟩ = some (.slice A1 n1 c1) ∧ w2.cell? ⟨w.heap.size, 2, none⟩ = some (.slice A2 n2 c2) ∧ w2.cell? ⟨w.heap.size, 3, none⟩ = some (.slice A3 n3 c3) ∧ w2.cell? ⟨w.heap.size, 4, none⟩ = some (.int .i64 tk) ∧ w2.cell? ⟨w.heap.size, 5, none⟩ = some (.slice A4 n4 c4) ∧ w2.cell? ⟨w.heap.size, 6, none⟩ = some (.int .i64 pc) ∧ w2.cell? ⟨w.heap.size, 7, none⟩ = some (.slice A5 n5 c5) ∧ w2.cell? ⟨w.heap.size, 8, none⟩ = some (.int .i64 stop) ∧ w2.cell? ⟨w.heap.size, 9, none⟩ = some (.slice A6 n6 c6) ∧ w2.cell? ⟨w.heap.size, 10, none⟩ = some (.int .i64 j) ∧ w2.cell? ⟨w.heap.size, 11, none⟩ = some (.int .i64 d) ∧ w2.cell? ⟨w.heap.size, 12, none⟩ = some (.slice A7 n7 c7) ∧ w2.cell? ⟨w.heap.size, 13, none⟩ = some (.slice A8 n8 c8) from X2.out.c14); have G2 := Lib.hid (G0.out.drew.trans (b2.mono (by simp [World.drew]))); have HP := Lib.hid hP; have VP := Lib.hid vP; clear b2 hP vP) | (go_at_call 31; refine (RU.out _ G2.out _ P HP.out VP.out).mono ?_; rintro e w3 ⟨rfl, b3⟩; have K3 := Lib.hid (show w3.cell? ⟨w.heap.size, 0, none⟩ = some (.slice A0 n0 c0) ∧ w3.cell? ⟨w.heap.size, 1, none⟩ = some (.slice A1 n1 c1) ∧ w3.cell? ⟨w.heap.size, 2, none⟩ = some (.slice A2 n2 c2) ∧ w3.cell? ⟨w.heap.size, 3, none⟩ = some (.slice A3 n3 c3) ∧ w3.cell? ⟨w.heap.size, 4, none⟩ = some (.int .i64 tk) ∧ w3.cell? ⟨w.heap.size, 5, none⟩ = some (.slice A4 n4 c4) ∧ w3.cell? ⟨w.heap.size, 6, none⟩ = some (.int .i64 pc) ∧ w3.cell? ⟨w.heap.size, 7, none⟩ = some (.slice A5 n5 c5) ∧ w3.cell? ⟨w.heap.size, 8, none⟩ = some (.int .i64 stop) ∧ w3.cell? ⟨w.heap.size, 9, none⟩ = some (.slice A6 n6 c6) ∧ w3.cell? ⟨w.heap.size, 10, none⟩ = some (.int .i64 j) ∧ w3.cell? ⟨w.heap.size, 11, none⟩ = some (.int .i64 d) ∧ w3.cell? ⟨w.heap.size, 12, none⟩ = some (.slice A7 n7 c7) ∧ w3.cell? ⟨w.heap.size, 13, none⟩ = some (.slice A8 n8 c8) from (X2.out.below b3).c14); have G3 := Lib.hid (G2.out.trans (b3.mono G2.out.size)); clear b3))
  all_goals go_wp2
  all_goals go_ret
  all_goals exact ⟨rfl, G3.out⟩
end Go.Proofs.YtpnmlednningkaaDoor
