/-
  LexTexts, walked: on any input whose lengths memory holds it is true; it makes new memory alone.
-/
import Derived.Test.YtddbfhdhldnoiaaDoorHy
import Derived.Test.YtddbfhdhldnoiaaDoorPt
import Derived.Test.YtddbfhdhldnoiaaDoorPi
import Derived.Test.YtddbfhdhldnoiaaDoorPj
import Derived.Test.YtddbfhdhldnoiaaDoorPm
import Derived.Test.YtddbfhdhldnoiaaDoorNw
namespace Go.Proofs.YtddbfhdhldnoiaaDoor
open Go.RowKit

theorem Tryd.sizeAsk : (Tryd.prog.info? 25).map (·.size) = some 2 := by kernel_rfl
theorem data_inj : ∀ (a b : List ByteArray), a.map (fun s => s.data.toList) = b.map (fun s => s.data.toList) → a = b
  | [], [], _ => rfl
  | [], _ :: _, h => by simp at h
  | _ :: _, [], h => by simp at h
  | x :: a, y :: b, h => by
    simp only [List.map_cons, List.cons.injEq] at h
    have h1 : x = y := by
      have := Array.toList_inj.1 h.1
      cases x; cases y; simp only at this; rw [this]
    rw [h1, data_inj a b h.2]
theorem Tryd.info5 : (Tryd.prog.info? 5).map (fun i => (i.zero, i.size, i.bytes)) = some (some (.int .u8 0), 1, 1) := by kernel_rfl
/-- A new row of zero bytes, and the string that it gives. -/
theorem zeros (N : Nat) (x : Int) (hx : x = (N : Int)) (hN : N ≤ 1000000) : ∃ Z : ByteArray, Z.size = N ∧
    (∀ W : World, (Instr.makeSlice 42 (.int .i64 x) (.int .i64 x)).run Tryd.prog W = .ok (.slice (some ⟨W.heap.size, 0, none⟩) N N) (W.alloc (.cells (madeCells #[.int .u8 0] N) 5))) ∧
    (∀ W : World, (convert 42 9 (.slice (some ⟨W.heap.size, 0, none⟩) N N)).run Tryd.prog (W.alloc (.cells (madeCells #[.int .u8 0] N) 5)) = .ok (.string Z) (W.alloc (.cells (madeCells #[.int .u8 0] N) 5))) := by
  subst hx
  refine ⟨⟨(List.replicate N (0 : UInt8)).toArray⟩, by show (List.replicate N (0 : UInt8)).toArray.size = N; simp, fun W => run_make_row' 42 5 _ 1 Tryd.underlying42 Tryd.info5 rfl .i64 .i64 N (by omega) (by omega) W, fun W => ?_⟩
  have h := run_convert_bytes_back (W.alloc (.cells (madeCells #[.int .u8 0] N) 5)) 42 9 5 ⟨W.heap.size, 0, none⟩ N (List.replicate N (0 : UInt8)) Tryd.underlying42 Tryd.underlying5 Tryd.underlying9 (fun j hj => by
    have hk : BK 5 (W.alloc (.cells (madeCells #[.int .u8 0] N) 5)) W.heap.size (madeCells #[.int .u8 0] N) := heap_alloc_new W _
    have hj' : j < N := by simpa using hj
    have e : (⟨W.heap.size, 0, none⟩ : Addr).add j = ⟨W.heap.size, j, none⟩ := by
      by_cases h0 : j = 0
      · subst h0; rfl
      · rw [add_pos _ _ h0, Nat.zero_add]
    rw [e, hk.cell, ← Array.getElem?_toList, toList_madeCells_one, List.getElem?_replicate, if_pos hj']
    simp)
  rw [List.length_replicate] at h
  exact h
/-- A slice of slices of words, each no longer than memory holds. -/
def TIn2 (w : World) (A : Option Addr) (n : Nat) : Prop := ∀ i, i < n → ∃ (ad : Addr) (v : Value) (xs : List Tk), A = some ad ∧ ad.block < w.heap.size ∧ w.cell? (ad.add i) = some v ∧ RdT w v xs ∧ Small xs ∧ xs.length * 40 ≤ 140737488351232
theorem TIn2.old {w : World} {A : Option Addr} {n : Nat} (h : TIn2 w A n) : TIn w A n := fun i hi => by
  obtain ⟨ad, v, xs, h1, h2, h3, h4, h5, h6⟩ := h i hi
  exact ⟨ad, v, xs, h1, h2, h3, h4, h5, by unfold maxLen; omega⟩
theorem TIn2.below {w w' : World} {A : Option Addr} {n : Nat} (h : TIn2 w A n) (hb : Below w.heap.size w w') : TIn2 w' A n := fun i hi => by
  obtain ⟨ad, v, xs, h1, h2, h3, h4, h5, h6⟩ := h i hi
  exact ⟨ad, v, xs, h1, Nat.lt_of_lt_of_le h2 hb.size, (hb.cell (p := ad.add i) (by rw [block_add]; exact h2)).trans h3, h4.below hb, h5, h6⟩
set_option maxHeartbeats 2000000 in
set_option maxRecDepth 4000 in
theorem lexTexts_walk (A1 A2 : Option Addr) (c1 n2 c2 : Nat) (m : Int) (ss : List ByteArray) (w : World) (H : Tab w) (hm0 : w.cell? ⟨0, 0, none⟩ = some (.int .i64 m)) (h : RdS w (.slice A1 ss.length c1) ss) (hS : ∀ s ∈ ss, s.size ≤ maxLen) (hl : ss.length ≤ maxLen) (hT : TIn2 w A2 n2) (hl2 : n2 ≤ maxLen) :
    Calls Tryd.prog 3 #[.agg #[.slice A1 ss.length c1, .slice A2 n2 c2]] w (BoolBelow true w) := by
  have B0 := Lib.hid (below_new w (.cells #[.slice A1 ss.length c1, .slice A2 n2 c2] 25))
  have HV := Lib.hid (heavy_any A1 A2 c1 n2 c2 ss (w.alloc (.cells #[.slice A1 ss.length c1, .slice A2 n2 c2] 25)) (h.below B0.out) hS hl (hT.old.below B0.out) hl2)
  have TT := Lib.hid (hT.below B0.out)
  have TB := Lib.hid (H.below B0.out)
  have SS := Lib.hid (h.below B0.out)
  have SZ := Lib.hid hS
  have MC := Lib.hid ((B0.out.cell (p := ⟨0, 0, none⟩) (Nat.lt_trans Nat.zero_lt_one H.big)).trans hm0)
  have KB := Lib.hid (show BK 25 (w.alloc (.cells #[.slice A1 ss.length c1, .slice A2 n2 c2] 25)) w.heap.size #[.slice A1 ss.length c1, .slice A2 n2 c2] from heap_alloc_new w _)
  clear h hS hT H hm0
  unfold maxLen at hl2 hl
  generalize hn : ss.length = n1 at *
  have HN := Lib.hid hn
  clear hn
  have hLD := KB.out.load Tryd.underlying25 Tryd.sizeAsk rfl
  go_enter Tryd.func3, Tryd.ntmps3
  go_wp2_with fail
  generalize w.alloc (.cells #[.slice A1 n1 c1, .slice A2 n2 c2] 25) = w1 at *
  refine HV.out.mono ?_
  rintro e w2 ⟨bv, rfl, b2⟩
  have B2 := Lib.hid b2
  clear b2 hLD HV
  cases bv with
  | true =>
    go_wp2_with fail
    go_ret
    exact ⟨rfl, B0.out.trans (B2.out.mono B0.out.size)⟩
  | false =>
    go_wp2_with fail
    go_loopg [3] n2 (fun gk o wr2 => ∃ i : Nat, i ≤ n2 ∧ gk = n2 - i ∧ o = .int .i64 i ∧ Below w1.heap.size w1 wr2)
    case atStart => exact ⟨0, Nat.zero_le _, rfl, rfl, B2.out⟩
    case round =>
      clear B2
      obtain ⟨i, hi, rfl, rfl, hb⟩ := hrel
      have HB := Lib.hid hb
      clear hb
      have k1 := (KB.out.below HB.out).cell 1
      by_cases hlt : i < n2
      · have hd : decide ((i : Int) < (n2 : Int)) = true := by simpa using hlt
        by_cases h8 : i < 8
        · have hd8 : decide ((i : Int) < 8) = true := decide_eq_true (by omega)
          have i0 : (0 : Int) ≤ (i : Int) := by omega
          have i1 : (i : Int) < (n2 : Int) := by omega
          obtain ⟨ad, v, xs, rfl, hg, hc1, hR1, hSm, hlen⟩ := TT.out i hlt
          have hR := hR1.below HB.out
          have hc := (HB.out.cell (p := ad.add i) (by rw [block_add]; exact hg)).trans hc1
          have hR3 := hR1
          obtain ⟨A, c, hv, _⟩ := hR3
          subst hv
          have RX := Lib.hid hR1
          have SX := Lib.hid hSm
          have HC := Lib.hid hc1
          have HG := Lib.hid hg
          have HLN := Lib.hid hlen
          have CP := Lib.hid (copy_any xs _ wr hR hlen)
          clear hR hR1 hSm hc1 hlen hg
          go_wp2_with fail
          refine CP.out.mono ?_
          clear CP k1 hc
          rintro e w3 ⟨v4, rfl, o4, b3⟩
          have R4 := Lib.hid (RdT.of_own (xs := xs) o4)
          have B3 := Lib.hid (HB.out.trans (b3.mono HB.out.size))
          clear o4 b3
          have TX := text_all xs v4 w3 R4.out SX.out (TB.out.below B3.out)
          unfold TxPost at TX
          by_cases hm : mayL xs = true
          · rw [if_pos hm, chk_yes hm] at TX
            have HM := Lib.hid hm
            have TXX := Lib.hid TX
            clear TX
            go_wp2_with fail
            refine TXX.out.mono ?_
            clear TXX
            rintro e w4 ⟨rfl, b4⟩
            have B4 := Lib.hid (B3.out.trans (b4.mono B3.out.size))
            have R4 := Lib.hid (R4.out.below b4)
            clear b4
            have k1 := (KB.out.below B4.out).cell 1
            have hc := (B4.out.cell (p := ad.add i) (by rw [block_add]; exact HG.out)).trans HC.out
            have TK := Lib.hid (tokens_any xs (.slice A xs.length c) w4 (RX.out.below B4.out) SX.out (by have := HLN.out; unfold maxLen; omega))
            rw [hm] at TK
            have PT := Lib.hid (fun W (h : RdT W v4 xs) (T : Tab W) => ptext_any xs v4 W h HM.out T SX.out)
            have CK := Lib.hid (fun W (h : RdT W v4 xs) => check_any xs v4 W h SX.out (by have := HLN.out; omega))
            rw [chk_yes hm] at CK
            clear hm
            generalize (⟨(txL xs).toArray⟩ : ByteArray) = S at *
            go_wp2_with fail
            refine TK.out.mono ?_
            clear TK k1 hc
            rintro e w5 ⟨rfl, b5⟩
            have B5 := Lib.hid (B4.out.trans (b5.mono B4.out.size))
            have R4 := Lib.hid (R4.out.below b5)
            clear b5
            go_wp2_with fail
            refine (PT.out _ R4.out (TB.out.below B5.out)).mono ?_
            clear PT
            rintro e w6 ⟨rfl, b6⟩
            have B6 := Lib.hid (B5.out.trans (b6.mono B5.out.size))
            go_wp2_with fail
            refine (CK.out _ (R4.out.below b6)).mono ?_
            clear CK
            rintro e w7 ⟨rfl, b7⟩
            have R5 := Lib.hid ((R4.out.below b6).below b7)
            have B7 := Lib.hid (B6.out.trans (b7.mono B6.out.size))
            clear b6 b7
            go_wp2_with fail
            refine (num_any _ _).mono ?_
            rintro e w8 ⟨rfl, rfl⟩
            have k1 := (KB.out.below B7.out).cell 1
            have hc := (B7.out.cell (p := ad.add i) (by rw [block_add]; exact HG.out)).trans HC.out
            go_wp2_with fail
            refine (num_any _ _).mono ?_
            rintro e w9 ⟨rfl, rfl⟩
            go_wp2_with fail
            refine (eqt_big xs v4 (.slice A xs.length c) _ R5.out (RX.out.below B7.out) (by have := HLN.out; omega)).mono ?_
            rintro e w10 ⟨rfl, kk, rfl⟩
            go_wp2_with fail
            go_roundg (n2 - (i + 1))
            case measure => omega
            case rel => exact ⟨i + 1, by omega, rfl, by go_num, below_drewN B7.out kk⟩
          · have hm' : mayL xs = false := by simpa using hm
            rw [if_neg hm, chk_no hm'] at TX
            have TXX := Lib.hid TX
            clear TX hm
            go_wp2_with fail
            refine TXX.out.mono ?_
            clear TXX
            rintro e w4 ⟨rfl, b4⟩
            have B4 := Lib.hid (B3.out.trans (b4.mono B3.out.size))
            have R4 := Lib.hid (R4.out.below b4)
            clear b4
            have k1 := (KB.out.below B4.out).cell 1
            have hc := (B4.out.cell (p := ad.add i) (by rw [block_add]; exact HG.out)).trans HC.out
            have TK := Lib.hid (tokens_any xs (.slice A xs.length c) w4 (RX.out.below B4.out) SX.out (by have := HLN.out; unfold maxLen; omega))
            rw [hm'] at TK
            have CK := Lib.hid (fun W (h : RdT W v4 xs) => check_any xs v4 W h SX.out (by have := HLN.out; omega))
            rw [chk_no hm'] at CK
            clear hm'
            go_wp2_with fail
            refine TK.out.mono ?_
            clear TK k1 hc
            rintro e w6 ⟨rfl, b6⟩
            have B6 := Lib.hid (B4.out.trans (b6.mono B4.out.size))
            go_wp2_with fail
            refine (CK.out _ (R4.out.below b6)).mono ?_
            clear CK
            rintro e w7 ⟨rfl, b7⟩
            have R5 := Lib.hid ((R4.out.below b6).below b7)
            have B7 := Lib.hid (B6.out.trans (b7.mono B6.out.size))
            clear b6 b7
            go_wp2_with fail
            refine (num_any _ _).mono ?_
            rintro e w8 ⟨rfl, rfl⟩
            have k1 := (KB.out.below B7.out).cell 1
            have hc := (B7.out.cell (p := ad.add i) (by rw [block_add]; exact HG.out)).trans HC.out
            go_wp2_with fail
            refine (num_any _ _).mono ?_
            rintro e w9 ⟨rfl, rfl⟩
            go_wp2_with fail
            refine (eqt_big xs v4 (.slice A xs.length c) _ R5.out (RX.out.below B7.out) (by have := HLN.out; omega)).mono ?_
            rintro e w10 ⟨rfl, kk, rfl⟩
            go_wp2_with fail
            go_roundg (n2 - (i + 1))
            case measure => omega
            case rel => exact ⟨i + 1, by omega, rfl, by go_num, below_drewN B7.out kk⟩
        · have hd8 : decide ((i : Int) < 8) = false := by simp; omega
          clear hi
          go_wp2_with fail
          go_loopg [9] n1 (fun gk o wr2 => ∃ i : Nat, i ≤ n1 ∧ gk = n1 - i ∧ o = .int .i64 i ∧ Below w1.heap.size w1 wr2)
          case atStart => exact ⟨0, Nat.zero_le _, rfl, rfl, HB.out⟩
          case round =>
            clear HB
            obtain ⟨i, hi, rfl, rfl, hb⟩ := hrel
            have HB := Lib.hid hb
            clear hb
            have k0 := (KB.out.below HB.out).cell 0
            by_cases hlt : i < n1
            · have hd : decide ((i : Int) < (n1 : Int)) = true := by simpa using hlt
              by_cases h8 : i < 8
              · have hd8 : decide ((i : Int) < 8) = true := decide_eq_true (by omega)
                have i0 : (0 : Int) ≤ (i : Int) := by omega
                have i1 : (i : Int) < (n1 : Int) := by omega
                have hil : i < ss.length := by have := HN.out; omega
                obtain ⟨Av, cv, hv, r⟩ := SS.out
                simp only [Value.slice.injEq] at hv
                obtain ⟨rfl, hv1, hv2⟩ := hv
                obtain ⟨ad, rfl, hg, hc⟩ := r (by omega)
                clear hv1 hv2
                have hc1 := hc i _ (List.getElem?_eq_getElem hil)
                have kc := (HB.out.cell (p := ad.add i) (by rw [block_add]; exact hg)).trans hc1
                have HSm := SZ.out _ (List.getElem_mem hil)
                have LS := Lib.hid (lsplit_any ss[i] m wr ((HB.out.cell (p := ⟨0, 0, none⟩) (Nat.lt_trans Nat.zero_lt_one TB.out.big)).trans MC.out) HSm)
                have PS := Lib.hid (fun W => psplit_any ss[i] W HSm)
                generalize ss[i] = S at *
                have HC := Lib.hid hc1
                have HG := Lib.hid hg
                clear r hc hil HSm hc1 hg
                go_wp2_with fail
                refine LS.out.mono ?_
                rintro e w3 ⟨v3, x3, rfl, b3, hbad, hgd⟩
                have B3 := Lib.hid (HB.out.trans (b3.mono HB.out.size))
                clear b3 LS k0 kc
                have HBAD := Lib.hid hbad
                have HGD := Lib.hid hgd
                clear hbad hgd
                have k0 := (KB.out.below B3.out).cell 0
                have kc := (B3.out.cell (p := ad.add i) (by rw [block_add]; exact HG.out)).trans HC.out
                go_wp2_with fail
                refine (PS.out _).mono ?_
                rintro e w4 ⟨v4, bb, rfl, b4, hbig, hsm⟩
                have B4 := Lib.hid (B3.out.trans (b4.mono B3.out.size))
                by_cases hG : good S.data.toList
                · obtain ⟨hx, s1, hs1, hr1⟩ := HGD.out hG
                  obtain ⟨s2, hs2, hbb, ho2⟩ := hsm hG.1
                  have hl2 : s2.length ≤ 300 := by
                    have h1 := congrArg List.length hs2
                    rw [List.length_map] at h1
                    have := hG.2
                    omega
                  have he : s1 = s2 := data_inj s1 s2 (hs1.trans hs2.symm)
                  subst he
                  have EQ := Lib.hid (eqs_same s1 v3 v4 w4 (hr1.below b4) (rds_own ho2) (by omega))
                  have hb1 : bb = true := by rw [hbb]; exact decide_eq_true hl2
                  subst hx hb1
                  clear HBAD HGD hbig hsm hs1 hs2 hr1 ho2 hG hbb b4 PS k0 kc hl2
                  go_wp2_with fail
                  refine (num_any _ _).mono ?_
                  rintro e w5 ⟨rfl, rfl⟩
                  go_wp2_with fail
                  refine EQ.out.mono ?_
                  rintro e w6 ⟨rfl, kk, rfl⟩
                  go_wp2_with fail
                  go_roundg (n1 - (i + 1))
                  case measure => omega
                  case rel => exact ⟨i + 1, by omega, rfl, by go_num, below_drewN B4.out kk⟩
                · have hx := HBAD.out hG
                  have hb1 : bb = false := by
                    by_cases h40 : 4000 < S.data.toList.length
                    · exact hbig h40
                    · obtain ⟨s2, hs2, hbb, _⟩ := hsm (by omega)
                      rw [hbb]
                      have h1 := congrArg List.length hs2
                      rw [List.length_map] at h1
                      refine decide_eq_false fun h => hG ⟨by omega, by omega⟩
                  subst hx hb1
                  clear HBAD HGD hbig hsm hG b4 PS k0 kc
                  go_wp2_with fail
                  refine (num_any _ _).mono ?_
                  rintro e w5 ⟨rfl, rfl⟩
                  go_wp2_with fail
                  refine (num_any _ _).mono ?_
                  rintro e w6 ⟨rfl, rfl⟩
                  go_wp2_with fail
                  go_roundg (n1 - (i + 1))
                  case measure => omega
                  case rel => exact ⟨i + 1, by omega, rfl, by go_num, B4.out⟩
              · have hd8 : decide ((i : Int) < 8) = false := by simp; omega
                obtain ⟨Z, hZ, mk, cv⟩ := zeros 4001 4001 rfl (by decide)
                have ZZ := Lib.hid hZ
                have mk1 := mk wr
                have cv1 := cv wr
                clear mk cv hZ
                have BZ := Lib.hid (below_new wr (.cells (madeCells #[.int .u8 0] 4001) 5))
                generalize madeCells #[.int .u8 0] 4001 = MZ at *
                have BY := Lib.hid (HB.out.trans (BZ.out.mono HB.out.size))
                have LZ := Lib.hid (lsplit_any Z m (wr.alloc (.cells MZ 5)) ((BY.out.cell (p := ⟨0, 0, none⟩) (Nat.lt_trans Nat.zero_lt_one TB.out.big)).trans MC.out) (by have := ZZ.out; unfold maxLen; omega))
                have NG := Lib.hid (show ¬ good Z.data.toList from fun h => by
                  have h1 : Z.data.toList.length = Z.size := by simp
                  have h2 := h.1
                  have h3 := ZZ.out
                  omega)
                go_wp2_with fail
                refine LZ.out.mono ?_
                rintro e w3 ⟨v3, x3, rfl, b3, hbad, _⟩
                have hx3 := hbad NG.out
                subst hx3
                have B3 := Lib.hid (BY.out.trans (b3.mono BY.out.size))
                clear b3 hbad LZ
                go_wp2_with fail
                refine (num_any _ _).mono ?_
                rintro e w4 ⟨rfl, rfl⟩
                go_wp2_with fail
                refine (wakes_any _ (TB.out.below B3.out)).mono ?_
                rintro e w5 ⟨rfl, b5⟩
                have B5 := Lib.hid (B3.out.trans (b5.mono B3.out.size))
                go_wp2_with fail
                go_ret
                exact ⟨rfl, B0.out.trans (B5.out.mono B0.out.size)⟩
            · have hd : decide ((i : Int) < (n1 : Int)) = false := by simp; omega
              obtain ⟨Z, hZ, mk, cv⟩ := zeros 4001 4001 rfl (by decide)
              have ZZ := Lib.hid hZ
              have mk1 := mk wr
              have cv1 := cv wr
              clear mk cv hZ
              have BZ := Lib.hid (below_new wr (.cells (madeCells #[.int .u8 0] 4001) 5))
              generalize madeCells #[.int .u8 0] 4001 = MZ at *
              have BY := Lib.hid (HB.out.trans (BZ.out.mono HB.out.size))
              have LZ := Lib.hid (lsplit_any Z m (wr.alloc (.cells MZ 5)) ((BY.out.cell (p := ⟨0, 0, none⟩) (Nat.lt_trans Nat.zero_lt_one TB.out.big)).trans MC.out) (by have := ZZ.out; unfold maxLen; omega))
              have NG := Lib.hid (show ¬ good Z.data.toList from fun h => by
                have h1 : Z.data.toList.length = Z.size := by simp
                have h2 := h.1
                have h3 := ZZ.out
                omega)
              go_wp2_with fail
              refine LZ.out.mono ?_
              rintro e w3 ⟨v3, x3, rfl, b3, hbad, _⟩
              have hx3 := hbad NG.out
              subst hx3
              have B3 := Lib.hid (BY.out.trans (b3.mono BY.out.size))
              clear b3 hbad LZ
              go_wp2_with fail
              refine (num_any _ _).mono ?_
              rintro e w4 ⟨rfl, rfl⟩
              go_wp2_with fail
              refine (wakes_any _ (TB.out.below B3.out)).mono ?_
              rintro e w5 ⟨rfl, b5⟩
              have B5 := Lib.hid (B3.out.trans (b5.mono B3.out.size))
              go_wp2_with fail
              go_ret
              exact ⟨rfl, B0.out.trans (B5.out.mono B0.out.size)⟩
      · have hd : decide ((i : Int) < (n2 : Int)) = false := by simp; omega
        clear hi
        go_wp2_with fail
        go_loopg [9] n1 (fun gk o wr2 => ∃ i : Nat, i ≤ n1 ∧ gk = n1 - i ∧ o = .int .i64 i ∧ Below w1.heap.size w1 wr2)
        case atStart => exact ⟨0, Nat.zero_le _, rfl, rfl, HB.out⟩
        case round =>
          clear HB
          obtain ⟨i, hi, rfl, rfl, hb⟩ := hrel
          have HB := Lib.hid hb
          clear hb
          have k0 := (KB.out.below HB.out).cell 0
          by_cases hlt : i < n1
          · have hd : decide ((i : Int) < (n1 : Int)) = true := by simpa using hlt
            by_cases h8 : i < 8
            · have hd8 : decide ((i : Int) < 8) = true := decide_eq_true (by omega)
              have i0 : (0 : Int) ≤ (i : Int) := by omega
              have i1 : (i : Int) < (n1 : Int) := by omega
              have hil : i < ss.length := by have := HN.out; omega
              obtain ⟨Av, cv, hv, r⟩ := SS.out
              simp only [Value.slice.injEq] at hv
              obtain ⟨rfl, hv1, hv2⟩ := hv
              obtain ⟨ad, rfl, hg, hc⟩ := r (by omega)
              clear hv1 hv2
              have hc1 := hc i _ (List.getElem?_eq_getElem hil)
              have kc := (HB.out.cell (p := ad.add i) (by rw [block_add]; exact hg)).trans hc1
              have HSm := SZ.out _ (List.getElem_mem hil)
              have LS := Lib.hid (lsplit_any ss[i] m wr ((HB.out.cell (p := ⟨0, 0, none⟩) (Nat.lt_trans Nat.zero_lt_one TB.out.big)).trans MC.out) HSm)
              have PS := Lib.hid (fun W => psplit_any ss[i] W HSm)
              generalize ss[i] = S at *
              have HC := Lib.hid hc1
              have HG := Lib.hid hg
              clear r hc hil HSm hc1 hg
              go_wp2_with fail
              refine LS.out.mono ?_
              rintro e w3 ⟨v3, x3, rfl, b3, hbad, hgd⟩
              have B3 := Lib.hid (HB.out.trans (b3.mono HB.out.size))
              clear b3 LS k0 kc
              have HBAD := Lib.hid hbad
              have HGD := Lib.hid hgd
              clear hbad hgd
              have k0 := (KB.out.below B3.out).cell 0
              have kc := (B3.out.cell (p := ad.add i) (by rw [block_add]; exact HG.out)).trans HC.out
              go_wp2_with fail
              refine (PS.out _).mono ?_
              rintro e w4 ⟨v4, bb, rfl, b4, hbig, hsm⟩
              have B4 := Lib.hid (B3.out.trans (b4.mono B3.out.size))
              by_cases hG : good S.data.toList
              · obtain ⟨hx, s1, hs1, hr1⟩ := HGD.out hG
                obtain ⟨s2, hs2, hbb, ho2⟩ := hsm hG.1
                have hl2 : s2.length ≤ 300 := by
                  have h1 := congrArg List.length hs2
                  rw [List.length_map] at h1
                  have := hG.2
                  omega
                have he : s1 = s2 := data_inj s1 s2 (hs1.trans hs2.symm)
                subst he
                have EQ := Lib.hid (eqs_same s1 v3 v4 w4 (hr1.below b4) (rds_own ho2) (by omega))
                have hb1 : bb = true := by rw [hbb]; exact decide_eq_true hl2
                subst hx hb1
                clear HBAD HGD hbig hsm hs1 hs2 hr1 ho2 hG hbb b4 PS k0 kc hl2
                go_wp2_with fail
                refine (num_any _ _).mono ?_
                rintro e w5 ⟨rfl, rfl⟩
                go_wp2_with fail
                refine EQ.out.mono ?_
                rintro e w6 ⟨rfl, kk, rfl⟩
                go_wp2_with fail
                go_roundg (n1 - (i + 1))
                case measure => omega
                case rel => exact ⟨i + 1, by omega, rfl, by go_num, below_drewN B4.out kk⟩
              · have hx := HBAD.out hG
                have hb1 : bb = false := by
                  by_cases h40 : 4000 < S.data.toList.length
                  · exact hbig h40
                  · obtain ⟨s2, hs2, hbb, _⟩ := hsm (by omega)
                    rw [hbb]
                    have h1 := congrArg List.length hs2
                    rw [List.length_map] at h1
                    refine decide_eq_false fun h => hG ⟨by omega, by omega⟩
                subst hx hb1
                clear HBAD HGD hbig hsm hG b4 PS k0 kc
                go_wp2_with fail
                refine (num_any _ _).mono ?_
                rintro e w5 ⟨rfl, rfl⟩
                go_wp2_with fail
                refine (num_any _ _).mono ?_
                rintro e w6 ⟨rfl, rfl⟩
                go_wp2_with fail
                go_roundg (n1 - (i + 1))
                case measure => omega
                case rel => exact ⟨i + 1, by omega, rfl, by go_num, B4.out⟩
            · have hd8 : decide ((i : Int) < 8) = false := by simp; omega
              obtain ⟨Z, hZ, mk, cv⟩ := zeros 4001 4001 rfl (by decide)
              have ZZ := Lib.hid hZ
              have mk1 := mk wr
              have cv1 := cv wr
              clear mk cv hZ
              have BZ := Lib.hid (below_new wr (.cells (madeCells #[.int .u8 0] 4001) 5))
              generalize madeCells #[.int .u8 0] 4001 = MZ at *
              have BY := Lib.hid (HB.out.trans (BZ.out.mono HB.out.size))
              have LZ := Lib.hid (lsplit_any Z m (wr.alloc (.cells MZ 5)) ((BY.out.cell (p := ⟨0, 0, none⟩) (Nat.lt_trans Nat.zero_lt_one TB.out.big)).trans MC.out) (by have := ZZ.out; unfold maxLen; omega))
              have NG := Lib.hid (show ¬ good Z.data.toList from fun h => by
                have h1 : Z.data.toList.length = Z.size := by simp
                have h2 := h.1
                have h3 := ZZ.out
                omega)
              go_wp2_with fail
              refine LZ.out.mono ?_
              rintro e w3 ⟨v3, x3, rfl, b3, hbad, _⟩
              have hx3 := hbad NG.out
              subst hx3
              have B3 := Lib.hid (BY.out.trans (b3.mono BY.out.size))
              clear b3 hbad LZ
              go_wp2_with fail
              refine (num_any _ _).mono ?_
              rintro e w4 ⟨rfl, rfl⟩
              go_wp2_with fail
              refine (wakes_any _ (TB.out.below B3.out)).mono ?_
              rintro e w5 ⟨rfl, b5⟩
              have B5 := Lib.hid (B3.out.trans (b5.mono B3.out.size))
              go_wp2_with fail
              go_ret
              exact ⟨rfl, B0.out.trans (B5.out.mono B0.out.size)⟩
          · have hd : decide ((i : Int) < (n1 : Int)) = false := by simp; omega
            obtain ⟨Z, hZ, mk, cv⟩ := zeros 4001 4001 rfl (by decide)
            have ZZ := Lib.hid hZ
            have mk1 := mk wr
            have cv1 := cv wr
            clear mk cv hZ
            have BZ := Lib.hid (below_new wr (.cells (madeCells #[.int .u8 0] 4001) 5))
            generalize madeCells #[.int .u8 0] 4001 = MZ at *
            have BY := Lib.hid (HB.out.trans (BZ.out.mono HB.out.size))
            have LZ := Lib.hid (lsplit_any Z m (wr.alloc (.cells MZ 5)) ((BY.out.cell (p := ⟨0, 0, none⟩) (Nat.lt_trans Nat.zero_lt_one TB.out.big)).trans MC.out) (by have := ZZ.out; unfold maxLen; omega))
            have NG := Lib.hid (show ¬ good Z.data.toList from fun h => by
              have h1 : Z.data.toList.length = Z.size := by simp
              have h2 := h.1
              have h3 := ZZ.out
              omega)
            go_wp2_with fail
            refine LZ.out.mono ?_
            rintro e w3 ⟨v3, x3, rfl, b3, hbad, _⟩
            have hx3 := hbad NG.out
            subst hx3
            have B3 := Lib.hid (BY.out.trans (b3.mono BY.out.size))
            clear b3 hbad LZ
            go_wp2_with fail
            refine (num_any _ _).mono ?_
            rintro e w4 ⟨rfl, rfl⟩
            go_wp2_with fail
            refine (wakes_any _ (TB.out.below B3.out)).mono ?_
            rintro e w5 ⟨rfl, b5⟩
            have B5 := Lib.hid (B3.out.trans (b5.mono B3.out.size))
            go_wp2_with fail
            go_ret
            exact ⟨rfl, B0.out.trans (B5.out.mono B0.out.size)⟩
end Go.Proofs.YtddbfhdhldnoiaaDoor
