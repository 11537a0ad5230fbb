/-
  IsaTable: the walk. Condition: the tables lie in the world; the strings of the input lie in old memory.
-/
import Derived.Test.YtgaoelpgdianiaaDoorSlots
import Derived.Test.YtgaoelpgdianiaaDoorEnds
import Derived.Test.YtgaoelpgdianiaaDoorShell
import Derived.Deep.LoopGhost
import Derived.Deep.DeepCutAuto
import Derived.Deep.RegionWith
import Derived.Deep.DrawnRows
import Derived.Laws.AppendOwnNone
namespace Go.Proofs.YtgaoelpgdianiaaDoor
open Go.RowKit
attribute [local go_sem ↓] Go.wp_at_zero Go.wp_at_succ

theorem names_strs {w : World} {g : Nat} (hg : g < w.heap.size) (hc : ∀ j, j < 34 → w.cell? ⟨g, j, none⟩ = some (.string (nm j))) : Strs w (.slice (some ⟨g, 0, none⟩) 34 34) ((List.range 34).map nm) := by
  refine ⟨some ⟨g, 0, none⟩, 34, by simp, fun _ => ⟨g, rfl, hg, fun j x hx => ?_⟩⟩
  have hj : j < 34 := by have := (List.getElem?_eq_some_iff.1 hx).1; simpa using this
  rw [List.getElem?_map, List.getElem?_range hj] at hx
  have e : nm j = x := by simpa using hx
  rw [hc j hj, e]
/-- The strings that the law asks for besides. -/
def five : List ByteArray := [⟨#[]⟩, ⟨#[65, 68, 68]⟩, ⟨#[97, 100]⟩, ⟨#[110, 111, 112, 32]⟩, ⟨#[46, 99, 111, 100, 101]⟩]
theorem five_size : ∀ x ∈ five, x.size ≤ maxLen := by
  have h : ∀ x ∈ five, x.size ≤ 5 := by decide
  intro x hx
  have := h x hx
  unfold maxLen
  omega
theorem five_owned (W : World) (base : Nat) (h : base ≤ W.heap.size) : (W.alloc (.cells #[.string ⟨#[]⟩, .string ⟨#[65, 68, 68]⟩, .string ⟨#[97, 100]⟩, .string ⟨#[110, 111, 112, 32]⟩, .string ⟨#[46, 99, 111, 100, 101]⟩] 9)).ownsRow base 9 1 (.slice (some ⟨W.heap.size, 0, none⟩) 5 5) 5 (five.map Value.string) := by
  have h := World.ownsRow_lit (base := base) (e := 9) (size := 1) W #[.string ⟨#[]⟩, .string ⟨#[65, 68, 68]⟩, .string ⟨#[97, 100]⟩, .string ⟨#[110, 111, 112, 32]⟩, .string ⟨#[46, 99, 111, 100, 101]⟩] 5 h (by unfold maxLen; omega) rfl
  simpa [five] using h
theorem StrIn.keep {w w' : World} {A : Option Addr} {n c : Nat} (h : StrIn w A n c) (hs : w.heap.size ≤ w'.heap.size) (hk : ∀ p : Addr, (∀ ad, A = some ad → 0 < n → p.block = ad.block) → 0 < n → w'.cell? p = w.cell? p) : StrIn w' A n c := by
  rcases h with h | ⟨ad, xs, rfl, hb, hl, hz, hc, hn⟩
  · exact .inl h
  · refine .inr ⟨ad, xs, rfl, fun h0 => Nat.lt_of_lt_of_le (hb h0) hs, hl, hz, fun j x hx => ?_, hn⟩
    have h0 : 0 < n := by have := (List.getElem?_eq_some_iff.1 hx).1; omega
    exact (hk (ad.add j) (fun ad' he _ => by cases he; exact block_add _ _) h0).trans (hc j x hx)
theorem StrIn.alloc {w : World} {A : Option Addr} {n c : Nat} (h : StrIn w A n c) (o : Obj) : StrIn (w.alloc o) A n c := by
  have h' := h
  refine h.keep (by simp) fun p hp h0 => World.cell?_alloc_lt w o p ?_
  rcases h' with ⟨_, h1, _⟩ | ⟨ad, xs, rfl, hb, _⟩
  · omega
  · rw [hp ad rfl h0]; exact hb h0
theorem StrIn.below {B : Nat} {w w' : World} {A : Option Addr} {n c : Nat} (h : StrIn w A n c) (hb : Below B w w') (hB : ∀ ad, A = some ad → 0 < n → ad.block < B) : StrIn w' A n c := by
  have h' := h
  refine h.keep hb.size fun p hp h0 => hb.cell ?_
  rcases h' with ⟨_, h1, _⟩ | ⟨ad, xs, rfl, _⟩
  · omega
  · rw [hp ad rfl h0]; exact hB ad rfl h0
/-- append of the strings that came in to a row of the call's own. -/
theorem app_strs {ops : Array Oper} {rest : List Oper} {o : Oper} {a : Act} {Q : Exit → Act → World → Prop} (hgd : o.guard = none) (s x : Operand) (ho : o.op = .call { callee := .builtin .append, args := #[s, x], argTypes := #[23, 23] })
    (W : World) (base n : Nat) (v : Value) (xs : List ByteArray) (hs : a.eval s = v) (hown : W.ownsRow base 9 1 v n (xs.map Value.string)) (A : Option Addr) (m c : Nat) (hx : a.eval x = .slice A m c) (hin : StrIn W A m c) (hn : n ≤ 10) (hbase : base ≤ W.heap.size)
    (h : ∀ v' w' (ys : List ByteArray), ys.length = m → (∀ y ∈ ys, y.size ≤ maxLen) → w'.ownsRow base 9 1 v' (n + m) ((xs ++ ys).map Value.string) → W.grownBy w' v.ownBlock → wpList Tryd.prog ops Q rest (a.put o.dst v') w') :
    wpList Tryd.prog ops Q (o :: rest) a W := by
  obtain ⟨i, hi, he⟩ := Option.map_eq_some_iff.1 Tryd.info9
  simp only [Prod.mk.injEq] at he
  rcases hin with ⟨rfl, rfl, rfl⟩ | ⟨ad, ys, rfl, _, hl, hsz, hc, hm⟩
  · refine wpList_append_own_none hgd s x 23 ho base 9 i 1 Tryd.underlying23 hi v n _ hs hown hx ?_
    exact h v W [] rfl (by simp) (by simpa using hown) (World.grownBy.refl W _)
  · refine wpList_append_own _ hgd s x 23 ho base 9 i (.string ⟨#[]⟩) 1 16 Tryd.underlying23 hi he.1 he.2.1 he.2.2 rfl (by decide) v n _ hs hown ad m c (ys.map Value.string) hx (by simp [hl]) ?_ (fun u hu => by obtain ⟨z, _, rfl⟩ := List.mem_map.1 hu; rfl) (by unfold maxLen; omega) (by omega) hbase (fun v' w' h1 h2 _ => h v' w' ys hl hsz (by rw [List.map_append]; exact h1) h2)
    intro j u hu
    rw [List.getElem?_map] at hu
    obtain ⟨z, hz, rfl⟩ := Option.map_eq_some_iff.1 hu
    exact hc j z hz

def TruePost (w : World) (e : Ending) (w' : World) : Prop := e = .returned (.bool true) ∧ Below w.heap.size w w'
/-- What region 12 of the law leaves. -/
def Cut12 (B : Nat) (W0 : World) (n : Nat) (v1 s12 s13 s14 s15 s16 : Value) (wx : World) : Prop :=
  s12 = .int .i64 0 ∧ s13 = .string (nm n) ∧ s14 = .int .i64 (fm n) ∧ s15 = .int .i64 (lt n) ∧ Nums wx s16 (slotsOf n) ∧ Nums wx v1 (slotsOf n) ∧ Below B W0 wx
theorem str_same (s : ByteArray) : (s.toList != s.toList) = false := by simp
theorem int_same (x : Int) : (x != x) = false := by simp
theorem bool_same (x : Bool) : (x != x) = false := by simp
set_option maxHeartbeats 8000000 in
set_option maxRecDepth 100000 in
theorem isaTable_walk (A1 A2 : Option Addr) (n1 c1 n2 c2 : Nat) (w : World) (H : Tab w) (_ : InsIn w A1 n1) (s2 : StrIn w A2 n2 c2) :
    Calls Tryd.prog 3 #[.agg #[.slice A1 n1 c1, .slice A2 n2 c2]] w (TruePost w) := by
  have T := Lib.hid H
  have big := H.big
  have S2 := Lib.hid s2
  clear H s2
  go_enter Tryd.func3, Tryd.ntmps3
  go_wp2_with fail
  have z0 : (w.alloc (.cells #[.slice A1 n1 c1, .slice A2 n2 c2] 25)).heap.size = w.heap.size + 1 := by simp
  have Q0 := Lib.hid (show (w.alloc (.cells #[.slice A1 n1 c1, .slice A2 n2 c2] 25)).cell? ⟨w.heap.size, 1, none⟩ = some (.slice A2 n2 c2) by simp [go_sem])
  generalize hW0 : (w.alloc (.cells #[.slice A1 n1 c1, .slice A2 n2 c2] 25)) = W0 at z0 Q0
  have HW0 := Lib.hid hW0
  have Z0 := Lib.hid z0
  clear hW0 z0
  have T0 := Lib.hid (show Tab W0 from HW0.out ▸ T.out.alloc _)
  go_loopw [3] (fun o wr2 => ∃ op : Int, -2 ≤ op ∧ op ≤ 36 ∧ o = .int .i64 op ∧ Below (w.heap.size + 1) W0 wr2) (fun o _ => (36 - intOf o).toNat)
  case atStart => exact ⟨-2, by omega, by omega, rfl, Below.refl _ _⟩
  case round =>
    obtain ⟨op, hop1, hop2, rfl, hb⟩ := hrel
    have HB := Lib.hid hb
    have HS := Lib.hid (show w.heap.size + 1 ≤ wr.heap.size by have := hb.size; have := Z0.out; omega)
    have TR := Lib.hid (tab_below T0.out hb (by have := T.out.big; omega))
    clear hb
    by_cases hle : op ≤ 35
    · have hd : decide (op ≤ 35) = true := by simpa using hle
      by_cases hv : 0 ≤ op ∧ op ≤ 33
      · obtain ⟨n, rfl⟩ : ∃ n : Nat, op = n := ⟨op.toNat, by omega⟩
        have hn : n < 34 := by omega
        have u1 := str_same (nm n)
        have u2 := int_same (fm n)
        have u3 := int_same (lt n)
        have u4 := bool_same (endB n)
        have u5 := bool_same (effB n)
        have u6 := int_same n
        have i0 : (0 : Int) ≤ (n : Int) := by omega
        have i1 : (n : Int) < 34 := by omega
        go_upto_region 12 with (first | (go_at_call 6; refine (name_yes _ _ hn TR.out).mono ?_; rintro e w' ⟨rfl, rfl⟩) | (go_at_call 7; refine (form_yes _ _ hn TR.out).mono ?_; rintro e w' ⟨rfl, rfl⟩) | (go_at_call 8; refine (lat_yes _ _ hn TR.out).mono ?_; rintro e w' ⟨rfl, rfl⟩) | (go_at_call 9; refine (slots_yes _ _ hn TR.out).mono ?_; rintro e w1 ⟨v1, rfl, hown1, hb1⟩; have N1 := Lib.hid (RowAt.of_own (enc := Value.int .i64) hown1); have B1 := Lib.hid (HB.out.trans (hb1.mono HS.out)); clear hown1 hb1) | (go_at_call 10; refine (valid_yes _ _ hn).mono ?_; rintro e w' ⟨rfl, rfl⟩))
        go_cut [12, 13, 14, 15, 16] (fun s12 s13 s14 s15 s16 wx => Cut12 (w.heap.size + 1) W0 n v1 s12 s13 s14 s15 s16 wx)
        case first =>
          have S1 := Lib.hid (show w.heap.size + 1 ≤ w1.heap.size by have := B1.out.size; have := Z0.out; omega)
          go_region_with (first | (go_at_call 11; refine (names_any _).mono ?_; rintro e wN ⟨gN, rfl, hgN, hcN, hbN⟩; have kN := hcN n hn; have MN := Lib.hid (show Nums wN v1 (slotsOf n) from RowAt.below (show Nums w1.drew v1 (slotsOf n) from N1.out) hbN); have BN := Lib.hid (show Below (w.heap.size + 1) W0 wN from Below.trans (show Below _ W0 w1.drew from B1.out.drew) (hbN.mono S1.out)); clear hcN hbN) | (go_at_call 12; refine (rform_any _ _ hn).mono ?_; rintro e wF ⟨rfl, hbF⟩; have kF := (hbF.cell (p := ⟨gN, n, none⟩) hgN).trans kN; have hgF : gN < wF.heap.size := Nat.lt_of_lt_of_le hgN hbF.size; have MF := Lib.hid (RowAt.below MN.out hbF); have BF := Lib.hid (show Below (w.heap.size + 1) W0 wF from BN.out.trans (hbF.mono (by have := BN.out.size; have := Z0.out; omega))); clear hbF) | (go_at_call 13; refine (rlat_any _ _ hn).mono ?_; rintro e w' ⟨rfl, rfl⟩) | (go_at_call 14; refine (rslots_any _ _ hn).mono ?_; rintro e wS ⟨vS, rfl, hownS, hbS⟩; have kS := (hbS.cell (p := ⟨gN, n, none⟩) hgF).trans kF; have NS := Lib.hid (RowAt.of_own (enc := Value.int .i64) hownS); have MS := Lib.hid (RowAt.below MF.out hbS); have BS := Lib.hid (show Below (w.heap.size + 1) W0 wS from BF.out.trans (hbS.mono (by have := BF.out.size; have := Z0.out; omega))); clear hownS hbS))
          all_goals
            go_wp2_with fail
            go_meet
            case rel => exact ⟨rfl, rfl, rfl, rfl, NS.out, MS.out, BS.out⟩
        case rest =>
          obtain ⟨rfl, rfl, rfl, rfl, hn2, hn1', hb2⟩ := hcut
          have N2 := Lib.hid hn2
          have M2 := Lib.hid hn1'
          have B2 := Lib.hid hb2
          clear hn2 hn1' hb2 N1 B1
          have SL := Lib.hid (show (slotsOf n).length ≤ 100 by have := slotsTo_le n 4; unfold slotsOf; omega)
          have TX := Lib.hid (tab_below T0.out B2.out (by have := T.out.big; omega))
          go_wp2_with (first | (go_at_call 15; refine (op_some _ _ hn TX.out).mono ?_; rintro e w' ⟨rfl, rfl⟩) | (go_at_call 16; refine (num_any _ _).mono ?_; rintro e w' ⟨rfl, rfl⟩) | (go_at_call 17; refine (eq_same (slotsOf n) _ _ _ M2.out N2.out SL.out).mono ?_; rintro e w' ⟨rfl, q, rfl⟩) | (go_at_call 18; refine (ends_any _ _ (by omega) (by omega)).mono ?_; rintro e w' ⟨rfl, rfl⟩) | (go_at_call 19; refine (rends_any _ _ (by omega) (by omega)).mono ?_; rintro e w' ⟨rfl, rfl⟩) | (go_at_call 20; refine (eff_any _ _ (by omega) (by omega)).mono ?_; rintro e w' ⟨rfl, rfl⟩) | (go_at_call 21; refine (reff_any _ _ (by omega) (by omega)).mono ?_; rintro e w' ⟨rfl, rfl⟩))
          have HB3 := Lib.hid (below_drewN B2.out q)
          go_wp2_with fail
          go_loopw [19] (fun o wr2 => ∃ s : Int, -1 ≤ s ∧ s ≤ 6 ∧ o = .int .i64 s ∧ Below (w.heap.size + 1) W0 wr2) (fun o _ => (6 - intOf o).toNat)
          case atStart => exact ⟨-1, by omega, by omega, rfl, HB3.out⟩
          case round =>
            clear HB3
            obtain ⟨s, hs1, hs2, rfl, hb⟩ := hrel
            have HB3 := Lib.hid hb
            clear hb
            have TT := Lib.hid (tab_below T0.out HB3.out (by have := T.out.big; omega))
            by_cases hs : s ≤ 5
            · have hds : decide (s ≤ 5) = true := by simpa using hs
              have hx : ∃ (b : Bool), Hid (∀ W, Tab W → Calls Tryd.prog 22 #[.int .i64 n, .int .i64 s] W (QBool b W)) ∧ Hid (∀ W, Calls Tryd.prog 23 #[.int .i64 n, .int .i64 s] W (BoolBelow b W)) := by
                by_cases h0 : s = -1
                · subst h0; exact ⟨false, fun W _ => may_neg n W hn, fun W => rmay_neg n W hn⟩
                · obtain ⟨t, rfl⟩ : ∃ t : Nat, s = t := ⟨s.toNat, by omega⟩
                  exact ⟨mayB n t, fun W hW => may_any n t W hn (by omega) hW, fun W => rmay_any n t W hn (by omega)⟩
              obtain ⟨bb, MA, MB⟩ := hx
              have u7 := bool_same bb
              go_wp2_with (first | (go_at_call 22; refine (MA.out _ TT.out).mono ?_; rintro e w' ⟨rfl, qm, rfl⟩) | (go_at_call 23; refine (MB.out _).mono ?_; rintro e wm ⟨rfl, hbm⟩))
              go_roundw
              case rel => exact ⟨s + 1, by omega, by omega, rfl, (below_drewN HB3.out _).trans (hbm.mono (by have h1 := HB3.out.size; have := Z0.out; show _ ≤ wr.heap.size; omega))⟩
              case measure => simp [intOf]; omega
            · have hds : decide (s ≤ 5) = false := by simpa using hs
              go_wp2
              go_roundw
              case rel => exact ⟨(n : Int) + 1, by omega, by omega, rfl, HB3.out⟩
              case measure => simp [intOf]; omega
      · have hbad : op < 0 ∨ 33 < op := by omega
        have BD := Lib.hid hbad
        clear hbad hv
        have u4 := bool_same (endB op)
        have u5 := bool_same (effB op)
        go_wp2_with (first | (go_at_call 6; refine (name_no _ _ BD.out).mono ?_; rintro e w' ⟨rfl, rfl⟩) | (go_at_call 7; refine (form_no _ _ BD.out).mono ?_; rintro e w' ⟨rfl, rfl⟩) | (go_at_call 8; refine (lat_no _ _ BD.out).mono ?_; rintro e w' ⟨rfl, rfl⟩) | (go_at_call 9; refine (slots_no _ _ BD.out).mono ?_; rintro e w1 ⟨v1, rfl, hown1, hb1⟩; have N1 := Lib.hid (RowAt.of_own (enc := Value.int .i64) hown1); have B1 := Lib.hid (HB.out.trans (hb1.mono HS.out)); clear hown1 hb1) | (go_at_call 10; refine (valid_no _ _ BD.out).mono ?_; rintro e w' ⟨rfl, rfl⟩) | (go_at_call 16; refine (num_any _ _).mono ?_; rintro e w' ⟨rfl, rfl⟩) | (go_at_call 17; refine (eq_same [] _ _ _ N1.out (RowAt.nil _) (by simp)).mono ?_; rintro e w' ⟨rfl, q, rfl⟩) | (go_at_call 18; refine (ends_any _ _ (by omega) (by omega)).mono ?_; rintro e w' ⟨rfl, rfl⟩) | (go_at_call 19; refine (rends_any _ _ (by omega) (by omega)).mono ?_; rintro e w' ⟨rfl, rfl⟩) | (go_at_call 20; refine (eff_any _ _ (by omega) (by omega)).mono ?_; rintro e w' ⟨rfl, rfl⟩) | (go_at_call 21; refine (reff_any _ _ (by omega) (by omega)).mono ?_; rintro e w' ⟨rfl, rfl⟩))
        have HB3 := Lib.hid (below_drewN B1.out q)
        go_loopw [19] (fun o wr2 => ∃ s : Int, -1 ≤ s ∧ s ≤ 6 ∧ o = .int .i64 s ∧ Below (w.heap.size + 1) W0 wr2) (fun o _ => (6 - intOf o).toNat)
        case atStart => exact ⟨-1, by omega, by omega, rfl, HB3.out⟩
        case round =>
            clear HB3
            obtain ⟨s, hs1, hs2, rfl, hb⟩ := hrel
            have HB3 := Lib.hid hb
            clear hb
            have TT := Lib.hid (tab_below T0.out HB3.out (by have := T.out.big; omega))
            by_cases hs : s ≤ 5
            · have hds : decide (s ≤ 5) = true := by simpa using hs
              have u7 := bool_same false
              go_wp2_with (first | (go_at_call 22; refine (may_no _ _ _ BD.out).mono ?_; rintro e w' ⟨rfl, qm, rfl⟩) | (go_at_call 23; refine (rmay_no _ _ _ BD.out).mono ?_; rintro e wm ⟨rfl, hbm⟩))
              go_roundw
              case rel => exact ⟨s + 1, by omega, by omega, rfl, (below_drewN HB3.out _).trans (hbm.mono (by have h1 := HB3.out.size; have := Z0.out; show _ ≤ wr.heap.size; omega))⟩
              case measure => simp [intOf]; omega
            · have hds : decide (s ≤ 5) = false := by simpa using hs
              go_wp2
              go_roundw
              case rel => exact ⟨op + 1, by omega, by omega, rfl, HB3.out⟩
              case measure => simp [intOf]; omega
    · have hd : decide (op ≤ 35) = false := by simpa using hle
      have q1 := (HB.out.cell (p := ⟨w.heap.size, 1, none⟩) (by simp)).trans Q0.out
      have SR := Lib.hid (show StrIn wr A2 n2 c2 from (StrIn.below (HW0.out ▸ S2.out.alloc _ : StrIn W0 A2 n2 c2) HB.out (by
        intro ad he h0
        rcases S2.out with ⟨h1, _⟩ | ⟨ad', xs, h1, h2, _⟩
        · rw [h1] at he; cases he
        · rw [h1] at he; cases he; have := h2 h0; omega)))
      have hsw : w.heap.size < wr.heap.size := by have := HS.out; omega
      go_wp2_with (at_builtin; refine app_strs (by rfl) _ _ (by rfl) _ (w.heap.size + 1) 5 _ five (by rfl) (five_owned wr _ HS.out) A2 n2 c2 (by rfl) (SR.out.alloc _) (by decide) (by have := HS.out; simp; omega) ?_)
      intro v' w3 ys hyl hys hown hg
      obtain ⟨g, cap, rfl, hgb, hgl⟩ := hown.form (by omega)
      have HO3 := Lib.hid (show w3.ownsRow (w.heap.size + 1) 9 1 (.slice (some ⟨g, 0, none⟩) (5 + n2) cap) (5 + n2) ((five ++ ys).map Value.string) from by first | exact hown | (rw [List.map_append]; exact hown))
      have HB3 := Lib.hid ((HB.out.alloc HS.out _).grown hg (by have := HS.out; simp; omega) (by intro k hk; simp [Value.ownBlock] at hk; have := HS.out; omega))
      have HXL := Lib.hid (show (five ++ ys).length = 5 + n2 by rw [List.length_append, hyl]; rfl)
      have HXS := Lib.hid (show ∀ x ∈ five ++ ys, x.size ≤ maxLen from fun x hx => by
        rcases List.mem_append.1 hx with h | h
        · exact five_size x h
        · exact hys x h)
      have hn16 : n2 * 16 ≤ 140737488351232 := by
        rcases SR.out with ⟨_, h, _⟩ | ⟨_, _, _, _, _, _, _, h⟩
        · omega
        · exact h
      clear hown hg hyl hys hgb hgl HB HS TR SR S2 q1 hsw
      generalize hmn : 5 + n2 = mn at *
      have hmn2 : mn * 16 ≤ 140737488355328 := by omega
      clear hmn hn16
      generalize five ++ ys = X at *
      go_wp2_with fail
      go_loopw [21] (fun o wr2 => ∃ i : Nat, i ≤ 20 ∧ o = .int .i64 i ∧ wr2.ownsRow (w.heap.size + 1) 9 1 (.slice (some ⟨g, 0, none⟩) mn cap) mn (X.map Value.string) ∧ Below (w.heap.size + 1) W0 wr2) (fun o _ => 20 - (intOf o).toNat)
      case atStart => exact ⟨0, by omega, rfl, HO3.out, HB3.out⟩
      case round =>
        clear HO3 HB3
        obtain ⟨i, hi, rfl, hown, hb⟩ := hrel
        have HO := Lib.hid hown
        have HB4 := Lib.hid hb
        have HS4 := Lib.hid (show w.heap.size + 1 ≤ wr.heap.size by have := hb.size; have := Z0.out; omega)
        have TR2 := Lib.hid (tab_below T0.out hb (by have := T.out.big; omega))
        clear hown hb
        by_cases hilt : i < mn ∧ i < 20
        · obtain ⟨hilt, hi20⟩ := hilt
          have d4 : decide ((i : Int) < (mn : Int)) = true := by simpa using hilt
          have d5 : decide ((i : Int) < 20) = true := by simp; omega
          have i0 : (0 : Int) ≤ (i : Int) := by omega
          have i1 : (i : Int) < (mn : Int) := by omega
          have hiX : i < X.length := by have := HXL.out; omega
          have KC := Lib.hid (show wr.cell? ⟨g, i, none⟩ = some (.string X[i]) by rw [HO.out.cellAt i (by omega), List.getElem?_map, List.getElem?_eq_getElem hiX]; rfl)
          have SZ := Lib.hid (HXS.out _ (List.getElem_mem hiX))
          have GL := Lib.hid (show g < wr.heap.size from World.block_lt_of_cell? wr _ KC.out)
          generalize X[i] = s at KC SZ
          clear hiX
          by_cases hk : ∃ n, n < 34 ∧ nm n = s
          · obtain ⟨n, hn, rfl⟩ := hk
            have u6 := int_same n
            have d1 : decide ((0 : Int) ≤ (n : Int)) = true := by simp
            have d2 : decide ((n : Int) < 0) = false := by simp
            have OPC := Lib.hid (fun W (hW : Tab W) => op_some n W hn hW)
            have ATC := Lib.hid (fun W v (hS : Strs W v ((List.range 34).map nm)) => at_some ((List.range 34).map nm) (nm n) n v W hS (by simp) (by simp [hn]) (fun j x hj hx => by
              have e : x = nm j := by rw [List.getElem?_map, List.getElem?_range (by omega)] at hx; simpa using hx.symm
              subst e; exact nm_far hn hj))
            generalize hs0 : nm n = s at *
            clear hs0
            have kc := KC.out
            have N2 := Lib.hid (fun W => name2_any s W SZ.out)
            have RN := Lib.hid (fun W => rname_any s W SZ.out)
            have u8 := bool_same (nameB s)
            go_wp2_with (go_at_call 15; refine (OPC.out _ TR2.out).mono ?_; rintro e w' ⟨rfl, rfl⟩)
            go_region_held3 (fun w' => w'.cell? ⟨g, i, none⟩ = some (.string s)) (first | go_keep | exact kN) (first | (go_at_call 11; refine (names_any _).mono ?_; rintro e wN ⟨gN, rfl, hgN, hcN, hbN⟩; have SN := Lib.hid (show Strs wN (.slice (some ⟨gN, 0, none⟩) 34 34) ((List.range 34).map nm) from names_strs hgN hcN); have kN : wN.cell? ⟨g, i, none⟩ = some (.string s) := (hbN.cell (p := ⟨g, i, none⟩) GL.out).trans kc; have BN := Lib.hid (show Below (w.heap.size + 1) W0 wN from Below.trans (show Below _ W0 wr.drew from HB4.out.drew) (hbN.mono HS4.out)); have ON := Lib.hid (own_below (show wr.drew.ownsRow _ 9 1 _ _ _ from HO.out) hbN); clear hcN hbN hgN) | (go_at_call 24; refine (ATC.out _ _ SN.out).mono ?_; rintro e w' ⟨rfl, rfl⟩))
            all_goals
              go_wp2_with fail
              go_quiet ((first | (go_at_call 16; first | exact quietI (fun W => num_any _ W) _ _ | exact quietIN (fun W => num_any _ W) _ _ _) | (go_at_call 25; first | exact quietB N2.out _ _ | exact quietBN N2.out _ _ _) | (go_at_call 26; first | exact quietB RN.out _ _ | exact quietBN RN.out _ _ _)))
              go_wp2
              go_roundw
              case rel => exact ⟨i + 1, by omega, by go_num, ON.out, below_drewN BN.out _⟩
              case measure => simp [intOf]; omega
          · have OPC := Lib.hid (fun W (hW : Tab W) => op_none s W hW (fun i hi e => hk ⟨i, hi, e⟩))
            have ATC := Lib.hid (fun W v (hS : Strs W v ((List.range 34).map nm)) => at_none ((List.range 34).map nm) s v W hS (by simp) (fun j x hx e => hk ⟨j, by have := (List.getElem?_eq_some_iff.1 hx).1; simpa using this, by
              have hj : j < 34 := by have := (List.getElem?_eq_some_iff.1 hx).1; simpa using this
              rw [List.getElem?_map, List.getElem?_range hj] at hx
              have : nm j = x := by simpa using hx
              rw [this, e]⟩))
            clear hk
            have kc := KC.out
            have N2 := Lib.hid (fun W => name2_any s W SZ.out)
            have RN := Lib.hid (fun W => rname_any s W SZ.out)
            have u8 := bool_same (nameB s)
            go_wp2_with (go_at_call 15; refine (OPC.out _ TR2.out).mono ?_; rintro e w' ⟨rfl, rfl⟩)
            go_region_held3 (fun w' => w'.cell? ⟨g, i, none⟩ = some (.string s)) (first | go_keep | exact kN) (first | (go_at_call 11; refine (names_any _).mono ?_; rintro e wN ⟨gN, rfl, hgN, hcN, hbN⟩; have SN := Lib.hid (show Strs wN (.slice (some ⟨gN, 0, none⟩) 34 34) ((List.range 34).map nm) from names_strs hgN hcN); have kN : wN.cell? ⟨g, i, none⟩ = some (.string s) := (hbN.cell (p := ⟨g, i, none⟩) GL.out).trans kc; have BN := Lib.hid (show Below (w.heap.size + 1) W0 wN from Below.trans (show Below _ W0 wr.drew from HB4.out.drew) (hbN.mono HS4.out)); have ON := Lib.hid (own_below (show wr.drew.ownsRow _ 9 1 _ _ _ from HO.out) hbN); clear hcN hbN hgN) | (go_at_call 24; refine (ATC.out _ _ SN.out).mono ?_; rintro e w' ⟨rfl, rfl⟩))
            all_goals
              go_wp2_with fail
              go_quiet ((first | (go_at_call 16; first | exact quietI (fun W => num_any _ W) _ _ | exact quietIN (fun W => num_any _ W) _ _ _) | (go_at_call 25; first | exact quietB N2.out _ _ | exact quietBN N2.out _ _ _) | (go_at_call 26; first | exact quietB RN.out _ _ | exact quietBN RN.out _ _ _)))
              go_wp2
              go_roundw
              case rel => exact ⟨i + 1, by omega, by go_num, ON.out, below_drewN BN.out _⟩
              case measure => simp [intOf]; omega
        · by_cases him : i < mn
          all_goals
            have d4 : decide ((i : Int) < (mn : Int)) = decide (i < mn) := by simp
            simp only [him, decide_true, decide_false] at d4
            try have d5 : decide ((i : Int) < 20) = false := by simp; omega
            clear hilt
            go_wp2_with (go_at_call 27; refine (wakes_any _ TR2.out).mono ?_; rintro e w9 ⟨rfl, hb9⟩)
            go_ret
            have hb0 : Below w.heap.size w W0 := HW0.out ▸ below_new w _
            exact ⟨rfl, (hb0.trans (HB4.out.mono (by omega))).trans (hb9.mono (by have := HS4.out; omega))⟩
end Go.Proofs.YtgaoelpgdianiaaDoor
