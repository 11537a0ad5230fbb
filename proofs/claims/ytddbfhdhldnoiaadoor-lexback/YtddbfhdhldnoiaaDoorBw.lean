/-
  LexBack, walked: on any input it is true; it makes new memory alone.
-/
import Derived.Test.YtddbfhdhldnoiaaDoorHy
import Derived.Test.YtddbfhdhldnoiaaDoorPd
import Derived.Test.YtddbfhdhldnoiaaDoorPt
import Derived.Test.YtddbfhdhldnoiaaDoorNw
namespace Go.Proofs.YtddbfhdhldnoiaaDoor
open Go.RowKit

theorem RdT.nth {w : World} {A : Option Addr} {n c : Nat} {xs : List Tk} (h : RdT w (.slice A n c) xs) {j : Nat} {t : Tk} (ht : xs[j]? = some t) :
    ∃ ad : Addr, A = some ad ∧ ad.block < w.heap.size ∧ w.cell? (ad.add (j * 4)) = some (.int .i64 t.k) ∧ w.cell? ⟨(ad.add (j * 4)).block, (ad.add (j * 4)).off + 1, none⟩ = some (.string ⟨t.t.toArray⟩) ∧ w.cell? ⟨(ad.add (j * 4)).block, (ad.add (j * 4)).off + 2, none⟩ = some (.int .i64 t.n) ∧ w.cell? ⟨(ad.add (j * 4)).block, (ad.add (j * 4)).off + 3, none⟩ = some (.int .i64 t.a) := by
  obtain ⟨A', c', hv, r⟩ := h
  cases hv
  obtain ⟨hj, rfl⟩ := List.getElem?_eq_some_iff.1 ht
  exact RdT.at_ r hj
theorem wid_take {l : List UInt8} {k : Nat} (h : k < l.length) : wid (l.take (k + 1)) = wid (l.take k) ++ (if l[k] = 32 then [32, 9, 32, 32] else [l[k]]) := by
  rw [List.take_succ_eq_append_getElem h, wid_app]
  congr 1
  unfold wid
  rw [List.flatMap_cons, List.flatMap_nil, List.append_nil]
theorem app_toList (a b : ByteArray) : (a ++ b).data.toList = a.data.toList ++ b.data.toList := by simp
theorem ext_one' (S : ByteArray) (k : Nat) (h : k < S.size) : (S.extract k (k + 1)).data.toList = [S[k]] := by
  have := ext_one S k h
  rw [this]
theorem wid_len : ∀ l : List UInt8, (wid l).length ≤ 4 * l.length
  | [] => Nat.zero_le _
  | c :: r => by
    have ih := wid_len r
    unfold wid at ih ⊢
    rw [List.flatMap_cons, List.length_append, List.length_cons]
    split
    · simp only [List.length_cons, List.length_nil]; omega
    · simp only [List.length_cons, List.length_nil]; omega
theorem Tryd.sizeAsk : (Tryd.prog.info? 25).map (·.size) = some 2 := by kernel_rfl
set_option maxHeartbeats 2000000 in
set_option maxRecDepth 4000 in
theorem lexBack_walk (A1 A2 : Option Addr) (c1 n2 c2 : Nat) (ss : List ByteArray) (w : World) (H : Tab w) (h : RdS w (.slice A1 ss.length c1) ss) (hS : ∀ s ∈ ss, s.size ≤ maxLen) (hl : ss.length ≤ maxLen) (hT : TIn w A2 n2) (hl2 : n2 ≤ maxLen) :
    Calls Tryd.prog 4 #[.agg #[.slice A1 ss.length c1, .slice A2 n2 c2]] w (BoolBelow true w) := by
  have B0 := Lib.hid (below_new w (.cells #[.slice A1 ss.length c1, .slice A2 n2 c2] 25))
  have HV := Lib.hid (heavy_any A1 A2 c1 n2 c2 ss (w.alloc (.cells #[.slice A1 ss.length c1, .slice A2 n2 c2] 25)) (h.below B0.out) hS hl (hT.below B0.out) hl2)
  have TT := Lib.hid (hT.below B0.out)
  have TB := Lib.hid (H.below B0.out)
  have KB := Lib.hid (show BK 25 (w.alloc (.cells #[.slice A1 ss.length c1, .slice A2 n2 c2] 25)) w.heap.size #[.slice A1 ss.length c1, .slice A2 n2 c2] from heap_alloc_new w _)
  clear h hS hl hT H
  unfold maxLen at hl2
  generalize ss.length = n1 at *
  have hLD := KB.out.load Tryd.underlying25 Tryd.sizeAsk rfl
  go_enter Tryd.func4, Tryd.ntmps4
  go_wp2_with fail
  generalize w.alloc (.cells #[.slice A1 n1 c1, .slice A2 n2 c2] 25) = w1 at *
  refine HV.out.mono ?_
  rintro e w2 ⟨bv, rfl, b2⟩
  have B2 := Lib.hid b2
  clear b2 hLD HV
  cases bv with
  | true =>
    go_wp2_with fail
    go_ret
    exact ⟨rfl, B0.out.trans (B2.out.mono B0.out.size)⟩
  | false =>
    go_wp2_with fail
    go_loopg [3] n2 (fun gk o wr2 => ∃ i : Nat, i ≤ n2 ∧ gk = n2 - i ∧ o = .int .i64 i ∧ Below w1.heap.size w1 wr2)
    case atStart => exact ⟨0, Nat.zero_le _, rfl, rfl, B2.out⟩
    case round =>
      clear B2
      obtain ⟨i, hi, rfl, rfl, hb⟩ := hrel
      have HB := Lib.hid hb
      clear hb
      have k1 := (KB.out.below HB.out).cell 1
      by_cases hlt : i < n2
      · have hd : decide ((i : Int) < (n2 : Int)) = true := by simpa using hlt
        by_cases h8 : i < 8
        · have hd8 : decide ((i : Int) < 8) = true := decide_eq_true (by omega)
          have i0 : (0 : Int) ≤ (i : Int) := by omega
          have i1 : (i : Int) < (n2 : Int) := by omega
          obtain ⟨ad, v, xs, rfl, hg, hc1, hR1, hSm, hlen⟩ := TT.out i hlt
          have hR := hR1.below HB.out
          have hc := (HB.out.cell (p := ad.add i) (by rw [block_add]; exact hg)).trans hc1
          have hR2 := hR
          obtain ⟨A, c, rfl, hr⟩ := hR2
          have RX := Lib.hid hR1
          have TX := Lib.hid (text_all xs _ wr hR hSm (TB.out.below HB.out))
          have HC := Lib.hid hc1
          have HG := Lib.hid hg
          clear hr hR hR1 hSm hc1
          unfold maxLen at hlen
          go_wp2_with fail
          by_cases hm : mayL xs = true
          · have TX2 := TX.out
            unfold TxPost at TX2
            rw [if_pos hm, chk_yes hm] at TX2
            have TX3 := Lib.hid TX2
            clear TX2 TX
            have JL := Lib.hid (txL_len hm)
            have BK1 := Lib.hid (back1 hm)
            have BK2 := Lib.hid (back2 hm)
            clear hm
            generalize txL xs = l at *
            refine TX3.out.mono ?_
            clear TX3
            rintro e w3 ⟨rfl, b3⟩
            have B3 := Lib.hid (HB.out.trans (b3.mono HB.out.size))
            clear b3 hc k1 hg
            have hS0 : (⟨l.toArray⟩ : ByteArray).data.toList = l := by simp
            have HS := Lib.hid hS0
            have hSz : (⟨l.toArray⟩ : ByteArray).size ≤ 1000 := by have := JL.out; show l.toArray.size ≤ 1000; simpa using this
            clear hS0
            generalize (⟨l.toArray⟩ : ByteArray) = S at *
            have hl0 : S.size = l.length := by rw [← HS.out]; simp
            have HL0 := Lib.hid hl0
            clear hl0
            go_wp2_with fail
            refine (num_any _ _).mono ?_
            rintro e wQ ⟨rfl, rfl⟩
            go_wp2_with fail
            go_loop [6, 7] (fun b o => ∃ (k : Nat) (B : ByteArray), k ≤ S.size ∧ o = .int .i64 k ∧ b = .string B ∧ B.data.toList = [9] ++ wid (l.take k)) (fun _ o => S.size - (intOf o).toNat)
            case atStart => exact ⟨0, ⟨#[9]⟩, Nat.zero_le _, rfl, rfl, rfl⟩
            case round =>
              obtain ⟨k, B, hk, rfl, rfl, hB⟩ := hrel
              have HBB := Lib.hid hB
              have hBz : B.size ≤ 5000 := by
                have h1 : B.size = B.data.toList.length := by simp
                have h2 := wid_len (l.take k)
                rw [List.length_take] at h2
                rw [h1, hB]
                simp only [List.length_append, List.length_cons, List.length_nil]
                have := HL0.out
                omega
              clear hB
              by_cases hks : k < S.size
              · have hdk : decide ((k : Int) < (S.size : Int)) = true := by simpa using hks
                have i2 : (0 : Int) ≤ (k : Int) := by omega
                have i3 : (k : Int) < (S.size : Int) := by omega
                have i4 : (k : Int) + 1 ≤ (S.size : Int) := by omega
                have hkl : k < l.length := by have := HL0.out; omega
                have EQ : l[k] = S[k] := by
                  have h1 : l[k]? = some S[k] := by rw [← HS.out]; simp [hks]; rfl
                  exact Option.some.inj ((List.getElem?_eq_getElem hkl).symm.trans h1)
                have WT := Lib.hid (show wid (l.take (k + 1)) = wid (l.take k) ++ (if S[k] = 32 then [32, 9, 32, 32] else [S[k]]) by rw [wid_take hkl, EQ])
                have EX := Lib.hid (ext_one' S k hks)
                have hz1 : (S.extract k (k + 1)).size = 1 := by
                  have h1 : (S.extract k (k + 1)).size = (S.extract k (k + 1)).data.toList.length := by simp; omega
                  rw [h1, EX.out]; rfl
                clear EQ hkl
                by_cases hb : S[k] = 32
                · have hd3 : ((S[k].toNat : Int) == 32) = true := by rw [hb]; rfl
                  have WT2 := Lib.hid (WT.out.trans (by rw [if_pos hb]))
                  have EX2 := Lib.hid (show (S.extract k (k + 1)).data.toList = [32] by rw [EX.out, hb])
                  clear hb WT EX
                  go_wp2_with fail
                  go_round
                  case rel => exact ⟨k + 1, _, by omega, by go_num, rfl, by rw [app_toList, app_toList, HBB.out, EX2.out, WT2.out]; simp⟩
                  case measure => simp [intOf]; omega
                · have hd3 : ((S[k].toNat : Int) == 32) = false := by
                    have : S[k].toNat ≠ 32 := fun e => hb (UInt8.toNat_inj.1 e)
                    simp; omega
                  have WT2 := Lib.hid (WT.out.trans (by rw [if_neg hb]))
                  clear hb WT
                  go_wp2_with fail
                  go_round
                  case rel => exact ⟨k + 1, _, by omega, by go_num, rfl, by rw [app_toList, HBB.out, EX.out, WT2.out]; simp⟩
                  case measure => simp [intOf]; omega
              · have hdk : decide ((k : Int) < (S.size : Int)) = false := by simp; omega
                have BF := Lib.hid (show B.data.toList = [9] ++ wid l by
                  have h1 := HBB.out
                  rwa [List.take_of_length_le (by have := HL0.out; omega)] at h1)
                clear HBB
                have B2L := Lib.hid (show (B ++ ⟨#[32, 59, 32, 48, 120, 32, 128, 32, 64]⟩ : ByteArray).data.toList = [9] ++ wid l ++ rmk by rw [app_toList, BF.out]; rfl)
                have B2Z := Lib.hid (show (B ++ ⟨#[32, 59, 32, 48, 120, 32, 128, 32, 64]⟩ : ByteArray).size ≤ 6000 by
                  rw [ByteArray.size_append']
                  have : (⟨#[32, 59, 32, 48, 120, 32, 128, 32, 64]⟩ : ByteArray).size = 9 := rfl
                  omega)
                have hSz2 := Lib.hid hSz
                go_wp2_with fail
                have K4 := Lib.hid (show BK 9 (wQ.alloc (.cells #[.string S, .string (B ++ ⟨#[32, 59, 32, 48, 120, 32, 128, 32, 64]⟩)] 9)) wQ.heap.size #[.string S, .string (B ++ ⟨#[32, 59, 32, 48, 120, 32, 128, 32, 64]⟩)] from heap_alloc_new wQ _)
                have B4 := Lib.hid (B3.out.trans ((below_new wQ (.cells #[.string S, .string (B ++ ⟨#[32, 59, 32, 48, 120, 32, 128, 32, 64]⟩)] 9)).mono B3.out.size))
                have US := Lib.hid (show ∀ q : Nat, q < 2 → ∃ (U : ByteArray) (m a : Nat), 0 < m ∧ (#[.string S, .string (B ++ ⟨#[32, 59, 32, 48, 120, 32, 128, 32, 64]⟩)] : Array Value)[q]? = some (.string U) ∧ wds U.data.toList = (plc m xs a, 0, 0) ∧ U.size ≤ 6000 from fun q hq => by
                  match q, hq with
                  | 0, _ => exact ⟨S, 1, 0, by decide, rfl, by rw [HS.out]; exact BK1.out, by have := hSz2.out; omega⟩
                  | 1, _ => exact ⟨_, 4, 1, by decide, rfl, by rw [B2L.out]; exact BK2.out, B2Z.out⟩)
                clear B2L B2Z BF hSz2 BK1 BK2
                generalize (B ++ ⟨#[32, 59, 32, 48, 120, 32, 128, 32, 64]⟩ : ByteArray) = B2 at *
                generalize wQ.alloc (.cells #[.string S, .string B2] 9) = w4 at *
                generalize wQ.heap.size = g4 at *
                clear hBz hdk hks hk B3
                go_loopg [9] 2 (fun gk o wr3 => ∃ q : Nat, q ≤ 2 ∧ gk = 2 - q ∧ o = .int .i64 q ∧ Below w4.heap.size w4 wr3)
                case atStart => exact ⟨0, Nat.zero_le _, rfl, rfl, Below.refl _ _⟩
                case round =>
                  obtain ⟨q, hq, rfl, rfl, hb4⟩ := hrel
                  have H4 := Lib.hid hb4
                  have HW := Lib.hid (B4.out.trans (hb4.mono B4.out.size))
                  clear hb4
                  by_cases hq2 : q < 2
                  · have hdq : decide ((q : Int) < 2) = true := decide_eq_true (by omega)
                    have i5 : (0 : Int) ≤ (q : Int) := by omega
                    have i6 : (q : Int) < 2 := by omega
                    obtain ⟨U, m, a, hm0, hcell, hU, hUz⟩ := US.out q hq2
                    have kc := ((K4.out.below H4.out).cell q).trans hcell
                    have WU := Lib.hid (fun W => words_any U W (by unfold maxLen; omega))
                    rw [hU] at WU
                    have M0 := Lib.hid hm0
                    clear hcell hU hUz hm0
                    go_wp2_with fail
                    refine (WU.out _).mono ?_
                    clear WU kc
                    rintro e w5 ⟨v5, rfl, o5, b5⟩
                    have RV := RdT.of_own (xs := plc m xs a) o5
                    obtain ⟨A5, c5, hv5, _⟩ := RV
                    rw [plc_len] at hv5
                    subst hv5
                    have R5 := RdT.of_own (xs := plc m xs a) o5
                    have R5 := Lib.hid R5
                    have B5 := Lib.hid (HW.out.trans (b5.mono HW.out.size))
                    have BV := Lib.hid (H4.out.trans (b5.mono H4.out.size))
                    clear o5 b5
                    have k1 := (KB.out.below B5.out).cell 1
                    have hc5 := (B5.out.cell (p := ad.add i) (by rw [block_add]; exact HG.out)).trans HC.out
                    have hne : ((xs.length : Int) != (xs.length : Int)) = false := by simp
                    generalize hn : xs.length = n at *
                    have HN := Lib.hid hn
                    clear hn
                    go_wp2_with fail
                    refine (num_any _ _).mono ?_
                    rintro e w6 ⟨rfl, rfl⟩
                    go_wp2_with fail
                    clear k1 hc5
                    go_loopg [13] n (fun gk o wr4 => ∃ j : Nat, j ≤ n ∧ gk = n - j ∧ o = .int .i64 j ∧ Below w6.heap.size w6 wr4)
                    case atStart => exact ⟨0, Nat.zero_le _, rfl, rfl, Below.refl _ _⟩
                    case round =>
                      obtain ⟨j, hj, rfl, rfl, hb6⟩ := hrel
                      have H6 := Lib.hid hb6
                      have HX := Lib.hid (B5.out.trans (hb6.mono B5.out.size))
                      clear hb6
                      by_cases hjn : j < n
                      · have hdj : decide ((j : Int) < (n : Int)) = true := by simpa using hjn
                        have j0 : (0 : Int) ≤ (j : Int) := by omega
                        have j1 : (j : Int) < (n : Int) := by omega
                        have hjx : j < xs.length := by have := HN.out; omega
                        obtain ⟨x, hx⟩ : ∃ x, xs[j]? = some x := ⟨_, List.getElem?_eq_getElem hjx⟩
                        obtain ⟨p, hp0, hpj⟩ := plc_at m xs a j x hx
                        obtain ⟨adx, rfl, hgx, x0, x1, x2, x3⟩ := RX.out.nth hx
                        obtain ⟨ad5, rfl, hg5, y0, y1, y2, y3⟩ := R5.out.nth hpj
                        have PJ := Lib.hid hpj
                        have k1 := (KB.out.below HX.out).cell 1
                        have hc6 := (HX.out.cell (p := ad.add i) (by rw [block_add]; exact HG.out)).trans HC.out
                        have z0 := (HX.out.cell (p := adx.add (j * 4)) (by rw [block_add]; exact hgx)).trans x0
                        have z1 := (HX.out.cell (p := ⟨(adx.add (j * 4)).block, (adx.add (j * 4)).off + 1, none⟩) (by show (adx.add (j * 4)).block < _; rw [block_add]; exact hgx)).trans x1
                        have z2 := (HX.out.cell (p := ⟨(adx.add (j * 4)).block, (adx.add (j * 4)).off + 2, none⟩) (by show (adx.add (j * 4)).block < _; rw [block_add]; exact hgx)).trans x2
                        have z3 := (HX.out.cell (p := ⟨(adx.add (j * 4)).block, (adx.add (j * 4)).off + 3, none⟩) (by show (adx.add (j * 4)).block < _; rw [block_add]; exact hgx)).trans x3
                        clear hx hpj hp0 hjx x0 x1 x2 x3
                        go_wp2_with fail
                        have K7 := Lib.hid (show BK 47 (wr.alloc (.cells #[.int .i64 x.k, .string ⟨x.t.toArray⟩, .int .i64 x.n, .int .i64 x.a] 47)) wr.heap.size #[.int .i64 x.k, .string ⟨x.t.toArray⟩, .int .i64 x.n, .int .i64 x.a] from heap_alloc_new wr _)
                        have B7 := Lib.hid (H6.out.trans ((below_new wr (.cells #[.int .i64 x.k, .string ⟨x.t.toArray⟩, .int .i64 x.n, .int .i64 x.a] 47)).mono H6.out.size))
                        clear k1 hc6 z0 z1 z2 z3
                        generalize wr.alloc (.cells #[.int .i64 x.k, .string ⟨x.t.toArray⟩, .int .i64 x.n, .int .i64 x.a] 47) = w7 at *
                        generalize wr.heap.size = g7 at *
                        have t0 := K7.out.cell 0
                        have t1 := K7.out.cell 1
                        have t2 := K7.out.cell 2
                        have t3 := K7.out.cell 3
                        have s0 := (B7.out.cell (p := ad5.add (j * 4)) (by rw [block_add]; exact hg5)).trans y0
                        have s1 := (B7.out.cell (p := ⟨(ad5.add (j * 4)).block, (ad5.add (j * 4)).off + 1, none⟩) (by show (ad5.add (j * 4)).block < _; rw [block_add]; exact hg5)).trans y1
                        have s2 := (B7.out.cell (p := ⟨(ad5.add (j * 4)).block, (ad5.add (j * 4)).off + 2, none⟩) (by show (ad5.add (j * 4)).block < _; rw [block_add]; exact hg5)).trans y2
                        have s3 := (B7.out.cell (p := ⟨(ad5.add (j * 4)).block, (ad5.add (j * 4)).off + 3, none⟩) (by show (ad5.add (j * 4)).block < _; rw [block_add]; exact hg5)).trans y3
                        clear y0 y1 y2 y3
                        by_cases hj0 : j = 0
                        · have hd0 : decide ((0 : Int) < (j : Int)) = false := by simp; omega
                          have hd1 : decide (0 < j) = false := by simp; omega
                          clear hj0
                          go_quiet (fail)
                          go_wp2_with fail
                          go_roundg (n - (j + 1))
                          case measure => omega
                          case rel => exact ⟨j + 1, by omega, rfl, by go_num, below_drewN B7.out _⟩
                        · have hd0 : decide ((0 : Int) < (j : Int)) = true := decide_eq_true (by omega)
                          have hd1 : decide (0 < j) = true := decide_eq_true (by omega)
                          obtain ⟨jm, hjm⟩ : ∃ jm, j = jm + 1 := ⟨j - 1, by omega⟩
                          have hw : IntKind.i64.wrap ((j : Int) - 1) = (jm : Int) := by
                            rw [IntKind.wrap_i64]
                            omega
                          have hjx : jm < xs.length := by have := HN.out; omega
                          obtain ⟨x', hx'⟩ : ∃ x', xs[jm]? = some x' := ⟨_, List.getElem?_eq_getElem hjx⟩
                          obtain ⟨p', hp0, hpj⟩ := plc_at m xs a jm x' hx'
                          have hrise := plc_rise M0.out xs a jm _ _ hpj (by rw [← hjm]; exact PJ.out)
                          have hdp : decide ((p : Int) ≤ (p' : Int)) = false := by
                            have : (p' : Int) < (p : Int) := hrise
                            simp; omega
                          have hdp2 : decide (p ≤ p') = false := by
                            have : (p' : Int) < (p : Int) := hrise
                            simp; omega
                          obtain ⟨ad5', hA5, hg5', y0, y1, y2, y3⟩ := R5.out.nth hpj
                          cases hA5
                          have s4 := (B7.out.cell (p := ⟨(ad5.add (jm * 4)).block, (ad5.add (jm * 4)).off + 3, none⟩) (by show (ad5.add (jm * 4)).block < _; rw [block_add]; exact hg5)).trans y3
                          have i7 : (0 : Int) ≤ (jm : Int) := by omega
                          have i8 : (jm : Int) < (n : Int) := by omega
                          have JM := Lib.hid hjm
                          clear hj0 hx' hp0 hpj hrise hjx y0 y1 y2 y3 hg5' hjm
                          go_quiet (fail)
                          go_wp2_with fail
                          go_roundg (n - (j + 1))
                          case measure => omega
                          case rel => exact ⟨j + 1, by omega, rfl, by go_num, below_drewN B7.out _⟩
                      · have hdj : decide ((j : Int) < (n : Int)) = false := by simp; omega
                        go_wp2_with fail
                        go_roundg (2 - (q + 1))
                        case measure => omega
                        case rel => exact ⟨q + 1, by omega, rfl, by go_num, BV.out.trans (H6.out.mono BV.out.size)⟩
                  · have hdq : decide ((q : Int) < 2) = false := by simp; omega
                    go_wp2_with fail
                    go_roundg (n2 - (i + 1))
                    case measure => omega
                    case rel => exact ⟨i + 1, by omega, rfl, by go_num, HW.out⟩
          · have hm' : mayL xs = false := by simpa using hm
            have TX2 := TX.out
            unfold TxPost at TX2
            rw [if_neg hm, chk_no hm'] at TX2
            refine TX2.mono ?_
            clear TX2 TX
            rintro e w3 ⟨rfl, b3⟩
            have B3 := Lib.hid (HB.out.trans (b3.mono HB.out.size))
            clear b3 hm hm' hc k1
            go_wp2_with fail
            refine (num_any _ _).mono ?_
            rintro e w4 ⟨rfl, rfl⟩
            go_wp2_with fail
            go_roundg (n2 - (i + 1))
            case measure => omega
            case rel => exact ⟨i + 1, by omega, rfl, by go_num, B3.out⟩
        · have hd8 : decide ((i : Int) < 8) = false := by simp; omega
          go_wp2_with fail
          refine (wakes_any _ (TB.out.below HB.out)).mono ?_
          rintro e w3 ⟨rfl, b3⟩
          have B3 := Lib.hid (HB.out.trans (b3.mono HB.out.size))
          go_wp2_with fail
          go_ret
          exact ⟨rfl, B0.out.trans (B3.out.mono B0.out.size)⟩
      · have hd : decide ((i : Int) < (n2 : Int)) = false := by simp; omega
        go_wp2_with fail
        refine (wakes_any _ (TB.out.below HB.out)).mono ?_
        rintro e w3 ⟨rfl, b3⟩
        have B3 := Lib.hid (HB.out.trans (b3.mono HB.out.size))
        go_wp2_with fail
        go_ret
        exact ⟨rfl, B0.out.trans (B3.out.mono B0.out.size)⟩
end Go.Proofs.YtddbfhdhldnoiaaDoor
