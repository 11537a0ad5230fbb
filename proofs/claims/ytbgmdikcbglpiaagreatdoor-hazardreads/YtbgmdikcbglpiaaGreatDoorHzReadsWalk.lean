/-
  HazardReads: the walk: of code made here that reads a result at each distance the hazards are the page's, at each cycle, and it stops where the latency says. Conditions: the tables lie in the world; the argument reads as a script.
-/
import Derived.Test.YtbgmdikcbglpiaaGreatDoorHw
import Derived.Deep.MidRow
namespace Go.Proofs.YtbgmdikcbglpiaaGreatDoor
open Go.RowKit

/-- Where an op may first stand. -/
def fs (n : Nat) : Nat := ((slotsOf n).headD 0).toNat
theorem fs_head : ∀ n : Fin 34, (slotsOf n.1).head? = some ((fs n.1 : Nat) : Int) ∧ fs n.1 < 4 := by decide +kernel
theorem Tryz.size55 : (Tryz.prog.info? 55).map (·.size) = some 6 := by kernel_rfl
theorem load3_run {w : World} {p : Addr} {v : Value} (hc : w.cell? p = some v) : (loadVar 3 p).run Tryz.prog w = .ok v w := by simp [hc, go_sem]
theorem dstep_load_one {Q : Exit → Act → World → Prop} {o : Oper} {a : Act} {w : World} {K : Act → World → Prop} {T : TypeId} {x : Operand} {p : Addr} {v : Value} (ho : o.op = .load T x) (hx : a.eval x = .pointer (some p)) (hl : (loadVar T p).run Tryz.prog w = .ok v w) (h : K (a.put o.dst v) w) : o.wp Tryz.prog a w K Q := by
  unfold Oper.wp execOp
  simp only [ho, hx, Instr.loadAt, Instr.sureAddr, Sem.run_bind, Sem.run_pure, Result.andThen_ok, hl]
  exact h
/-- Is the op one of those? -/
def hrB (o : Nat) : Bool := sd (fm o) && !(decide (16 ≤ o) && decide (o ≤ 17))
/-- The bundle that writes, those that do nothing, the one that reads. -/
def hrW (o : Nat) : List In5 := [zw, zw, zw, zw].set (fs o) ⟨o, 3, 0, 0, 0⟩
def hrT (m : Nat) : List In5 := [⟨1, 4, 1 + 2 * (m % 2), 3, 0⟩, zw, zw, zw]
def hrC (o n : Nat) : List (List In5) := hrW o :: List.replicate n zB
def hrD (o n m : Nat) : List (List In5) := hrC o n ++ [hrT m]
theorem hr_ok : ∀ i : Fin 13, hrB (14 + i.1) = true → ∀ n : Fin 5, ∀ m : Fin 2, (cOk (hrD (14 + i.1) n.1 m.1) && (decide ((runH (hrD (14 + i.1) n.1 m.1) (n.1 + 2) (m0 [])).1.stop = 6) == decide (((n.1 : Nat) : Int) + 1 < lt (14 + i.1)))) = true := by decide +kernel
theorem hrT_mod (m : Nat) : hrT m = hrT (m % 2) := by unfold hrT; rw [Nat.mod_mod]
theorem hr_vcc {i n m : Nat} (hi : i < 13) (hn : n < 5) (hb : hrB (14 + i) = true) : Vcc (hrD (14 + i) n m) ∧ (decide ((runH (hrD (14 + i) n m) (n + 2) (m0 [])).1.stop = 6) = decide ((n : Int) + 1 < lt (14 + i))) := by
  have h := hr_ok ⟨i, hi⟩ hb ⟨n, hn⟩ ⟨m % 2, by omega⟩
  have e : hrD (14 + i) n (m % 2) = hrD (14 + i) n m := by unfold hrD; rw [← hrT_mod]
  simp only [Bool.and_eq_true, e, beq_iff_eq] at h
  exact ⟨cok_vcc h.1, h.2⟩
theorem hrC_succ (o n : Nat) : hrC o (n + 1) = hrC o n ++ [zB] := by unfold hrC; rw [List.replicate_succ']; rfl
theorem hrC_len (o n : Nat) : (hrC o n).length = n + 1 := by simp [hrC]
theorem hrD_len (o n m : Nat) : (hrD o n m).length = n + 2 := by simp [hrD, hrC]
theorem flatB_sing (b : List In5) : (bcs (bX b)).toList = flatB [b] := by simp [flatB]
/-- Six cells stored into a bundle. -/
theorem hrW_set {w : World} {g o : Nat} (h4 : fs o < 4) (h : BK 58 w g ZB) : BK 58 (w.setCells g (fs o * 6) [.int .i64 (o : Nat), .int .i64 3, .int .i64 0, .int .i64 0, .int .i64 0, .string ⟨#[]⟩]) g (bcs (bX (hrW o))) := by
  have h6 := (((((h.set (fs o * 6) (.int .i64 (o : Nat))).set (fs o * 6 + 1) (.int .i64 3)).set (fs o * 6 + 2) (.int .i64 0)).set (fs o * 6 + 3) (.int .i64 0)).set (fs o * 6 + 4) (.int .i64 0)).set (fs o * 6 + 5) (.string ⟨#[]⟩)
  have e : (((((ZB.setIfInBounds (fs o * 6) (.int .i64 (o : Nat))).setIfInBounds (fs o * 6 + 1) (.int .i64 3)).setIfInBounds (fs o * 6 + 2) (.int .i64 0)).setIfInBounds (fs o * 6 + 3) (.int .i64 0)).setIfInBounds (fs o * 6 + 4) (.int .i64 0)).setIfInBounds (fs o * 6 + 5) (.string ⟨#[]⟩) = bcs (bX (hrW o)) := by
    unfold hrW
    generalize fs o = f at h4 ⊢
    obtain rfl | rfl | rfl | rfl : f = 0 ∨ f = 1 ∨ f = 2 ∨ f = 3 := by omega
    all_goals rfl
  rw [e] at h6
  exact h6
theorem hrW_gb (w : World) (g o : Nat) (a0 a1 a2 a3 a4 a5 : Value) : w.grownBy (w.setCells g o [a0, a1, a2, a3, a4, a5]) (some g) :=
  gb_trans (gb_trans (gb_trans (gb_trans (gb_trans (grown_set _ g o _) (grown_set _ g (o + 1) _)) (grown_set _ g (o + 2) _)) (grown_set _ g (o + 3) _)) (grown_set _ g (o + 4) _)) (grown_set _ g (o + 5) _)
theorem ZB_there {w : World} {g f : Nat} (h4 : f < 4) (h : BK 58 w g ZB) : w.there g (f * 6) 6 := by
  intro j hj
  refine ⟨?_, h.frozen _⟩
  rw [h.cell]
  have hz : ZB.size = 24 := rfl
  rw [Array.getElem?_eq_getElem (by omega)]
  rfl
def hrR (i gb : Nat) : Nat → World → Value → Prop
  | 0, _, v => v = .int .i64 (14 + (i : Int))
  | 1, w, v => ∃ g len cap : Nat, v = .slice (some ⟨g, 0, none⟩) len cap ∧ 1 ≤ len ∧ g < w.heap.size ∧ w.cell? ⟨g, 0, none⟩ = some (.int .i64 (fs (14 + i) : Nat))
  | 2, w, v => ∃ g : Nat, v = .pointer (some ⟨g, 0, none⟩) ∧ g < w.heap.size ∧ w.cell? ⟨g, 0, none⟩ = some (.int .i64 (fs (14 + i) : Nat))
  | 3, _, v => v = .int .i64 (fs (14 + i) : Nat)
  | 4, _, v => v = .agg #[.int .i64 (14 + (i : Int)), .int .i64 3, .int .i64 0, .int .i64 0, .int .i64 0, .string ⟨#[]⟩]
  | 5, _, v => v = .pointer (some ⟨gb, fs (14 + i) * 6, none⟩)
  | _, _, _ => True
theorem hrR_st (i gb : Nat) : ∀ q w w' v, Below w.heap.size w w' → hrR i gb q w v → hrR i gb q w' v
  | 0, _, _, _, hb, h => h
  | 1, _, _, _, hb, h => by obtain ⟨g, len, cap, h1, h2, h3, h4⟩ := h; exact ⟨g, len, cap, h1, h2, by have := hb.size; omega, (hb.cell (p := ⟨g, 0, none⟩) h3).trans h4⟩
  | 2, _, _, _, hb, h => by obtain ⟨g, h1, h3, h4⟩ := h; exact ⟨g, h1, by have := hb.size; omega, (hb.cell (p := ⟨g, 0, none⟩) h3).trans h4⟩
  | 3, _, _, _, hb, h => h
  | 4, _, _, _, hb, h => h
  | 5, _, _, _, hb, h => h
  | _ + 6, _, _, _, _, _ => trivial
set_option maxRecDepth 40000 in
set_option maxHeartbeats 8000000 in
theorem hazardReads_walk (v : Value) (w : World) (T : Tab w) (H : Asked v) : Calls Tryz.prog 6 #[v] w (BoolBelow true w) := by
  obtain ⟨A0, A1, A2, A3, A4, A5, A6, A8, n0, c0, n1, c1, n2, c2, n3, c3, n4, c4, n5, c5, n6, c6, n8, c8, tk, pc, stop, j, d, rfl, b8⟩ := H
  have TT := Lib.hid T
  have n80 : (0 : Int) ≤ (n8 : Int) := by omega
  have n81 : (n8 : Int) ≤ 1125899906842624 := by omega
  clear T b8
  have X0 := Lib.hid (show BK 29 (w.alloc (.cells #[.slice A0 n0 c0, .slice A1 n1 c1, .slice A2 n2 c2, .slice A3 n3 c3, .int .i64 tk, .slice A4 n4 c4, .int .i64 pc, .slice A5 n5 c5, .int .i64 stop, .slice A6 n6 c6, .int .i64 j, .int .i64 d, .slice A8 n8 c8] 29)) w.heap.size #[.slice A0 n0 c0, .slice A1 n1 c1, .slice A2 n2 c2, .slice A3 n3 c3, .int .i64 tk, .slice A4 n4 c4, .int .i64 pc, .slice A5 n5 c5, .int .i64 stop, .slice A6 n6 c6, .int .i64 j, .int .i64 d, .slice A8 n8 c8] from heap_alloc_new w _)
  have G0 := Lib.hid (below_new w (.cells #[.slice A0 n0 c0, .slice A1 n1 c1, .slice A2 n2 c2, .slice A3 n3 c3, .int .i64 tk, .slice A4 n4 c4, .int .i64 pc, .slice A5 n5 c5, .int .i64 stop, .slice A6 n6 c6, .int .i64 j, .int .i64 d, .slice A8 n8 c8] 29))
  go_enter Tryz.func6, Tryz.ntmps6
  go_wp2_with fail
  generalize hsb : w.heap.size = sb at *
  have SB := Lib.hid hsb
  clear hsb
  go_loopg [3] 13 (fun gk o wr2 => ∃ i : Nat, i ≤ 13 ∧ gk = 13 - i ∧ o = .int .i64 (14 + (i : Int)) ∧ Below sb w wr2 ∧ BK 29 wr2 sb #[.slice A0 n0 c0, .slice A1 n1 c1, .slice A2 n2 c2, .slice A3 n3 c3, .int .i64 tk, .slice A4 n4 c4, .int .i64 pc, .slice A5 n5 c5, .int .i64 stop, .slice A6 n6 c6, .int .i64 j, .int .i64 d, .slice A8 n8 c8])
  case atStart => exact ⟨0, by omega, rfl, rfl, G0.out, X0.out⟩
  case round =>
    clear X0 G0
    obtain ⟨i, hi, rfl, rfl, hb, hk⟩ := hrel
    have HB := Lib.hid hb
    have XX := Lib.hid hk
    have hwz := hk.lt
    clear hb hk
    by_cases hlt : i < 13
    · have hd : 14 + (i : Int) ≤ 26 := by omega
      go_wp2_with fail
      have RF := rform_any (14 + i) wr (by omega)
      rw [show ((14 + i : Nat) : Int) = 14 + (i : Int) by omega] at RF
      refine RF.mono ?_
      clear RF
      rintro e w1 ⟨rfl, b1⟩
      have X1 := Lib.hid (XX.out.below b1)
      have H1 := Lib.hid (HB.out.trans (b1.mono (by have h1 := HB.out.size; have h2 := SB.out; omega)))
      have hz1 := X1.out.lt
      have F10 := fm_lt (show 14 + i < 34 by omega)
      clear b1 XX HB
      have HDA := Lib.hid (fun W => hasD_any (fm (14 + i)) W F10)
      by_cases hsd : sd (fm (14 + i)) = true
      · have HD := HDA.out
        rw [hsd] at HD
        have HDh := Lib.hid HD
        clear HD HDA
        by_cases hdr : 16 ≤ 14 + i ∧ 14 + i ≤ 17
        · have d1 : 16 ≤ 14 + (i : Int) := by omega
          have d2 : 14 + (i : Int) ≤ 17 := by omega
          go_wp2_with (first | (go_at_call 33; refine (HDh.out _).mono ?_; rintro e w' ⟨rfl, rfl⟩) | (go_at_call 34; refine (between_yes _ _ _ _ (by omega) (by omega)).mono ?_; rintro e w' ⟨rfl, rfl⟩))
          go_roundg (13 - (i + 1))
          case measure => omega
          case rel => exact ⟨i + 1, by omega, rfl, by go_num, H1.out.trans ((below_new w1 _).mono (by have h1 := H1.out.size; have h2 := SB.out; omega)), X1.out.alloc _⟩
        · have hrb : hrB (14 + i) = true := by
            unfold hrB
            rw [hsd, Bool.true_and, Bool.not_eq_true', Bool.and_eq_false_iff]
            simp only [decide_eq_false_iff_not]
            omega
          have HRB := Lib.hid (fun n (hn : n < 5) => hr_vcc (m := n8) hlt hn hrb)
          have d1 : 14 + (i : Int) < 16 ∨ 17 < 14 + (i : Int) := by omega
          have DR := Lib.hid d1
          clear d1 hdr hrb
          obtain ⟨hh, h4⟩ := fs_head ⟨14 + i, by omega⟩
          simp only at hh h4
          have SL := Lib.hid (fun W => by have := rslots_any (14 + i) W (by omega); rw [show ((14 + i : Nat) : Int) = 14 + (i : Int) by omega] at this; exact this)
          have LP := Lib.hid (show 0 < (slotsOf (14 + i)).length by cases hs : slotsOf (14 + i) with | nil => rw [hs] at hh; cases hh | cons a l => simp)
          have LH := Lib.hid (show (slotsOf (14 + i))[0]? = some ((fs (14 + i) : Nat) : Int) by rw [← List.head?_eq_getElem?]; exact hh)
          clear hh
          have X2 := Lib.hid (show BK 55 ((w1.alloc (.cells #[.int .i64 (14 + (i : Int)), .int .i64 3, .int .i64 0, .int .i64 0, .int .i64 0, .string ⟨#[]⟩] 55)).alloc (.cells ZB 58)) w1.heap.size #[.int .i64 (14 + (i : Int)), .int .i64 3, .int .i64 0, .int .i64 0, .int .i64 0, .string ⟨#[]⟩] from BK.alloc (heap_alloc_new w1 _) _)
          have Z2 := Lib.hid (show BK 58 ((w1.alloc (.cells #[.int .i64 (14 + (i : Int)), .int .i64 3, .int .i64 0, .int .i64 0, .int .i64 0, .string ⟨#[]⟩] 55)).alloc (.cells ZB 58)) (w1.heap.size + 1) ZB from BK.new (T := 58) (by simp))
          have XS := Lib.hid ((X1.out.alloc (.cells #[.int .i64 (14 + (i : Int)), .int .i64 3, .int .i64 0, .int .i64 0, .int .i64 0, .string ⟨#[]⟩] 55)).alloc (.cells ZB 58))
          have HS := Lib.hid (H1.out.trans (((Below.refl w1.heap.size w1).alloc (Nat.le_refl _) (.cells #[.int .i64 (14 + (i : Int)), .int .i64 3, .int .i64 0, .int .i64 0, .int .i64 0, .string ⟨#[]⟩] 55)).alloc (by simp) (.cells ZB 58) |>.mono (by have h1 := H1.out.size; have h2 := SB.out; omega)))
          go_upto_region 9 with (first | (go_at_call 33; refine (HDh.out _).mono ?_; rintro e w' ⟨rfl, rfl⟩) | (go_at_call 34; refine (between_no _ _ _ _ DR.out).mono ?_; rintro e w' ⟨rfl, rfl⟩))
          change Code.wp _ _ _ _ ((w1.alloc (.cells #[.int .i64 (14 + (i : Int)), .int .i64 3, .int .i64 0, .int .i64 0, .int .i64 0, .string ⟨#[]⟩] 55)).alloc (.cells ZB 58))
          have HGB := Lib.hid (show w1.heap.size + 1 < ((w1.alloc (.cells #[.int .i64 (14 + (i : Int)), .int .i64 3, .int .i64 0, .int .i64 0, .int .i64 0, .string ⟨#[]⟩] 55)).alloc (.cells ZB 58)).heap.size by simp)
          generalize ((w1.alloc (.cells #[.int .i64 (14 + (i : Int)), .int .i64 3, .int .i64 0, .int .i64 0, .int .i64 0, .string ⟨#[]⟩] 55)).alloc (.cells ZB 58)) = w2 at *
          have hgs : sb < w1.heap.size + 1 := by omega
          generalize hgb : w1.heap.size + 1 = gb at *
          have GBE := Lib.hid hgb
          clear hgb
          refine wp_region_dl (S := fun w' => Below w2.heap.size w2 w') (R := hrR i gb) (by kernel_rfl) (by kernel_rfl) (by kernel_rfl) (by kernel_rfl) (hrR_st _ _) (by exact below_drewN (Below.refl _ _) 1) ⟨?_, ?_, ?_, ?_, ?_, ?_, trivial⟩ ?_
          · show DStep _ _ _ _ _ _ _
            intro a w K Q hS hu hd hK
            have hv := hu 3 (by kernel_rfl)
            exact dstep_value (v := a.tmps.getD 3 undef) (by kernel_rfl) (hK _ _ hS (Below.refl _ _) hv)
          · show DStep _ _ _ _ _ _ _
            intro a w K Q hS hu hd hK
            have hv : a.tmps.getD 29 undef = .int .i64 (14 + (i : Int)) := hd 0 29 (by kernel_rfl)
            refine dstep_call1 35 29 (by kernel_rfl) hv (SL.out w) ?_
            rintro en w5 ⟨v5, rfl, own5, b5⟩
            obtain ⟨A5, c5, rfl, hr5⟩ := RowAt.of_own own5
            obtain ⟨g, rfl, hg, q⟩ := hr5 LP.out
            refine ⟨_, rfl, hK _ _ (hS.trans (b5.mono hS.size)) b5 ⟨g, _, _, rfl, LP.out, hg, q 0 _ LH.out⟩⟩
          · show DStep _ _ _ _ _ _ _
            intro a w K Q hS hu hd hK
            obtain ⟨g, len, cap, hv, hl, hg, hc⟩ : ∃ g len cap : Nat, a.tmps.getD 30 undef = .slice (some ⟨g, 0, none⟩) len cap ∧ 1 ≤ len ∧ g < w.heap.size ∧ w.cell? ⟨g, 0, none⟩ = some (.int .i64 (fs (14 + i) : Nat)) := hd 1 30 (by kernel_rfl)
            refine dstep_value (v := .pointer (some ⟨g, 0, none⟩)) (w' := w) ?_ (hK _ _ hS (Below.refl _ _) ⟨g, rfl, hg, hc⟩)
            have hl2 : 0 < len := by omega
            simp [execOp, Act.eval, hv, go_sem, hl2]
          · show DStep _ _ _ _ _ _ _
            intro a w K Q hS hu hd hK
            obtain ⟨g, hv, hg, hc⟩ : ∃ g : Nat, a.tmps.getD 31 undef = .pointer (some ⟨g, 0, none⟩) ∧ g < w.heap.size ∧ w.cell? ⟨g, 0, none⟩ = some (.int .i64 (fs (14 + i) : Nat)) := hd 2 31 (by kernel_rfl)
            exact dstep_load_one (T := 3) rfl hv (load3_run hc) (hK _ _ hS (Below.refl _ _) rfl)
          · show DStep _ _ _ _ _ _ _
            intro a w K Q hS hu hd hK
            have hv := hu 5 (by kernel_rfl)
            exact dstep_load rfl Tryz.underlying55 Tryz.size55 (hx := hv) (hb := X2.out.belowB hS X2.out.lt) rfl (hK _ _ hS (Below.refl _ _) rfl)
          · show DStep _ _ _ _ _ _ _
            intro a w K Q hS hu hd hK
            have hv := hu 6 (by kernel_rfl)
            have hw : a.tmps.getD 32 undef = .int .i64 (fs (14 + i) : Nat) := hd 3 32 (by kernel_rfl)
            refine dstep_value (v := .pointer (some ⟨gb, fs (14 + i) * 6, none⟩)) (w' := w) ?_ (hK _ _ hS (Below.refl _ _) rfl)
            simp only [execOp, Act.eval, hw]
            rw [hv]
            generalize fs (14 + i) = f at h4 ⊢
            obtain rfl | rfl | rfl | rfl : f = 0 ∨ f = 1 ∨ f = 2 ∨ f = 3 := by omega
            all_goals kernel_rfl
          intro o l a w3 K ho D hdone hK
          have D3 := Lib.hid D.s
          have hop : o.op = .store 55 (.tmp 34) (.tmp 33) := by have := Option.some.inj ho; rw [← this]; rfl
          have hds : o.dst = none := by have := Option.some.inj ho; rw [← this]; rfl
          have v4 := D.dn 4 _ 33 rfl rfl (hdone 4 (by decide))
          have v5 := D.dn 5 _ 34 rfl rfl (hdone 5 (by decide))
          have Z3 := Lib.hid (Z2.out.belowB D3.out HGB.out)
          refine wp_store_mid 55 (.tmp 34) (.tmp 33) hop gb (fs (14 + i) * 6) #[.int .i64 (14 + (i : Int)), .int .i64 3, .int .i64 0, .int .i64 0, .int .i64 0, .string ⟨#[]⟩] v5 v4 (ZB_there h4 Z3.out) Tryz.size55 (by kernel_rfl) (hK _ _ ?_)
          rw [hds]
          clear v4 v5 hop hds ho hK
          obtain ⟨vs, -, hfa⟩ := D.formL (by kernel_rfl) hdone
          subst hfa
          simp only [putAll, List.foldl_cons, List.foldl_nil, Option.getD_some, Act.put, List.setIfInBounds_toArray, List.set_cons_succ, List.set_cons_zero]
          clear D hdone
          generalize vs 29 = u29, vs 30 = u30, vs 31 = u31, vs 32 = u32, vs 33 = u33, vs 34 = u34
          have PB0 := hrW_set (o := 14 + i) h4 Z3.out
          rw [show ((14 + i : Nat) : Int) = 14 + (i : Int) by omega] at PB0
          have PB := Lib.hid PB0
          have PG := Lib.hid (hrW_gb w3 gb (fs (14 + i) * 6) (.int .i64 (14 + (i : Int))) (.int .i64 3) (.int .i64 0) (.int .i64 0) (.int .i64 0) (.string ⟨#[]⟩))
          have X3 := Lib.hid ((XS.out.belowB D3.out (by have := HGB.out; omega)).grown PG.out (by intro h; injection h with h; omega))
          have H3 := Lib.hid ((HS.out.trans (D3.out.mono (by have := HGB.out; omega))).trans (gb_below (B := sb) PG.out (by omega) (by have := D3.out.size; have := HGB.out; omega)))
          clear PB0 PG Z3 D3 XS HS HGB X2 Z2 SL LP LH h4 X1 H1
          generalize (w3.setCells gb (fs (14 + i) * 6) [.int .i64 (14 + (i : Int)), .int .i64 3, .int .i64 0, .int .i64 0, .int .i64 0, .string ⟨#[]⟩]) = W4 at PB X3 H3 ⊢
          generalize Value.int IntKind.i64 ((fm (14 + i) : Nat) : Int) = ufm
          clear F10
          go_wp2_with fail
          go_loopg [7] 5 (fun gk o wr2 => ∃ n : Nat, n ≤ 5 ∧ gk = 5 - n ∧ o = .int .i64 n ∧ Below sb w wr2 ∧ BK 29 wr2 sb #[.slice A0 n0 c0, .slice A1 n1 c1, .slice A2 n2 c2, .slice A3 n3 c3, .int .i64 tk, .slice A4 n4 c4, .int .i64 pc, .slice A5 n5 c5, .int .i64 stop, .slice A6 n6 c6, .int .i64 j, .int .i64 d, .slice A8 n8 c8] ∧ BK 58 wr2 gb (bcs (bX (hrW (14 + i)))))
          case atStart => exact ⟨0, by omega, rfl, rfl, H3.out, X3.out, PB.out⟩
          case round =>
            clear H3 X3 PB
            obtain ⟨n, hn, rfl, rfl, hb, hk, hp⟩ := hrel
            have HB := Lib.hid hb
            have XX := Lib.hid hk
            have PB := Lib.hid hp
            have hwz := hk.lt
            clear hb hk hp
            by_cases hln : n < 5
            · have hdn : decide ((n : Int) < 5) = true := by simp; omega
              go_wp2_with (first | ((with_reducible refine wpList_load_bl (op := ⟨some 39, .load 58 _, _, _, _, none⟩) rfl _ rfl gb (bcs (bX (hrW (14 + i)))) ?lx ?lb rfl ?_); (case lx => rfl); (case lb => exact PB.out)) | ((with_reducible refine buildG (o := ⟨some 40, .buildSlice 22 1 _, _, _, _, none⟩) rfl 1 _ rfl (bcs (bX (hrW (14 + i)))) (by decide) (by decide) wr.heap.size ?kg ?kf ?_); (case kf => kernel_rfl); (case kg => rfl); intro wl hk9 hb9 hz9; have OL := Lib.hid (own_of_bk (C := [hrW (14 + i)]) (B := wr.heap.size) (flatB_sing _) hk9 rfl (Nat.le_refl _) (by show 1 ≤ 1000; decide)); have BLL := Lib.hid hb9; clear hk9 hb9 hz9))
              have ZR := Lib.hid BLL.out.size
              generalize hbz : wr.heap.size = bz at *
              have BZ := Lib.hid hbz
              clear hbz
              go_loopg [8, 9] n (fun gk l o wr2 => ∃ (kk : Nat) (va : Option Addr) (cc : Nat), kk ≤ n ∧ gk = n - kk ∧ l = .slice va (kk + 1) cc ∧ o = .int .i64 kk ∧ wr2.ownsRow bz 58 24 (.slice va (kk + 1) cc) (kk + 1) (flatB (hrC (14 + i) kk)) ∧ Below bz wr wr2)
              case atStart => exact ⟨0, _, _, by omega, rfl, rfl, rfl, OL.out, BLL.out⟩
              case round =>
                clear OL BLL
                obtain ⟨kk, va, cc, hj, rfl, rfl, rfl, hown, hb⟩ := hrel
                have OWN := Lib.hid hown
                have DB := Lib.hid hb
                have hbz : bz ≤ wr.heap.size := by have h1 := hb.size; have h2 := BZ.out; omega
                clear hown hb
                by_cases hlk : kk < n
                · have hdk : decide ((kk : Int) < (n : Int)) = true := by simpa using hlk
                  go_wp2_with (first | ((with_reducible refine buildB (o := ⟨some 48, .buildSlice 22 1 _, _, _, _, none⟩) rfl 1 _ rfl (flatB [zB]).toArray (by decide) (by decide) ?kf ?_); (case kf => kernel_rfl); intro w8 hk8 hb8 hz8; have K8 := Lib.hid hk8; have B8 := Lib.hid hb8; clear hk8 hb8 hz8) | (at_builtin; refine app24 rfl _ _ rfl w8 bz (kk + 1) cc va (hrC (14 + i) kk) zB rfl (own_bel OWN.out B8.out) (by omega) wr.heap.size rfl _ K8.out rfl (by have := B8.out.size; omega) ?_; intro g9 cap9 w9 hown9 hg9; have O9 := Lib.hid hown9; have B9 := Lib.hid ((B8.out.mono hbz).grown hg9 (by have := B8.out.size; omega) (fun k hk => (OWN.out.lt k (by rw [own_ob]; exact hk)).1)); clear hown9 hg9))
                  go_roundg (n - (kk + 1))
                  case measure => omega
                  case rel => exact ⟨kk + 1, some ⟨g9, 0, none⟩, cap9, by omega, rfl, rfl, by go_num, by rw [hrC_succ]; exact O9.out, DB.out.trans B9.out⟩
                · have hdk : decide ((kk : Int) < (n : Int)) = false := by simp; omega
                  have hin : n = kk := by omega
                  subst hin
                  have XJ := Lib.hid (XX.out.belowB DB.out hwz)
                  have PJ := Lib.hid (PB.out.belowB DB.out (by have := PB.out.lt; have := BZ.out; omega))
                  have HJ := Lib.hid (HB.out.trans (DB.out.mono (by omega)))
                  have x12 : wr.cell? ⟨sb, 12, none⟩ = some (.slice A8 n8 c8) := XJ.out.cell 12
                  go_wp2_with (first | ((with_reducible refine buildG (o := ⟨some 59, .buildSlice 22 1 _, _, _, _, none⟩) rfl 1 _ rfl (bcs (bX (hrT n8))) (by decide) (by decide) wr.heap.size ?kg ?kf ?_); (case kf => kernel_rfl); (case kg => rfl); intro w6 hk6 hb6 hz6; have K6 := Lib.hid hk6; have B6 := Lib.hid hb6; clear hk6 hb6 hz6) | (at_builtin; refine app24 rfl _ _ rfl w6 bz (n + 1) cc va (hrC (14 + i) n) (hrT n8) rfl (own_bel OWN.out B6.out) (by omega) wr.heap.size rfl _ K6.out (flatB_sing _) (by have := B6.out.size; omega) ?_; intro g9 cap9 w9 hown9 hg9; have O9 := Lib.hid hown9; have B9 := Lib.hid ((B6.out.mono hbz).grown hg9 (by have := B6.out.size; omega) (fun k hk => (OWN.out.lt k (by rw [own_ob]; exact hk)).1)); clear hown9 hg9))
                  have H9 := Lib.hid (HJ.out.trans (B9.out.mono (by have h1 := HJ.out.size; have h2 := SB.out; omega)))
                  have X9 := Lib.hid (XJ.out.belowB B9.out hwz)
                  have P9 := Lib.hid (PJ.out.belowB B9.out (by have := PB.out.lt; have := BZ.out; omega))
                  have R9 := Lib.hid (own_rdc O9.out (hrD_len (14 + i) n n8) (by omega))
                  have VC := Lib.hid (HRB.out n hln)
                  refine (found_any _ (hrD (14 + i) n n8) _ R9.out VC.out.1 (TT.out.below (by rw [SB.out]; exact H9.out))).mono ?_
                  rintro en w7 ⟨rfl, b7⟩
                  have M7 := Lib.hid b7
                  clear b7
                  go_wp2_with fail
                  refine (new_ok [] _ _ (rd_nil _) (by decide)).mono ?_
                  rintro e wA ⟨VA, rfl, sA, bA⟩
                  have SVA := Lib.hid (sA.sv okc00.ok.R okc00.ok.mem)
                  have KA := Lib.hid (M7.out.trans (bA.mono M7.out.size))
                  clear sA bA
                  go_wp2_with fail
                  have RUN := hrun_ok (hrD (14 + i) n n8) (m0 []) _ _ ((n : Int) + 2) _ (R9.out.keep KA.out) VC.out.1 SVA.out okc00 (TT.out.below (by rw [SB.out]; exact H9.out.trans (KA.out.mono (by have h1 := H9.out.size; have h2 := SB.out; omega)))) (by omega) (by omega) (by show 0 + 4 * ((n : Int) + 2).toNat + 4 ≤ 1000000; omega)
                  rw [show ((n : Int) + 2).toNat = n + 2 by omega] at RUN
                  refine RUN.mono ?_
                  clear RUN
                  rintro e wB ⟨vB, rfl, sB, bB⟩
                  have KB := Lib.hid (KA.out.trans (bB.mono KA.out.size))
                  have DE := Lib.hid VC.out.2
                  clear bB
                  generalize (runH (hrD (14 + i) n n8) (n + 2) (m0 [])).2 = rn at *
                  generalize (runH (hrD (14 + i) n n8) (n + 2) (m0 [])).1 = mm at *
                  obtain ⟨r1, q1, i1, o1, z1, y1, rfl, a1, a2, a3, a4, a5, a6⟩ := sB.sv
                  have ON1 := Lib.hid (one11 (a := mm.tk) (b := mm.pc) (s := mm.stop) (j := mm.jp) (d := mm.dl) a1.one a2.one a3.one a4.one a5.one a6.one)
                  clear a1 a2 a3 a4 a5 a6 sB
                  go_wp2_with ((with_reducible refine wpList_store_bk (T := 27) (op := ⟨none, .store 27 _ _, _, _, _, none⟩) rfl _ _ rfl Tryz.size27 wB.heap.size ZS #[r1, q1, i1, .int .i64 mm.tk, o1, .int .i64 mm.pc, z1, .int .i64 mm.stop, y1, .int .i64 mm.jp, .int .i64 mm.dl] ?sx ?sy ?sb ?s1 ?s2 ?s3 ?_); (case sx => rfl); (case sy => rfl); (case s1 => rfl); (case s2 => exact rfl); (case s3 => exact ON1.out); (case sb => exact heap_alloc_new _ _))
                  intro w5 hbl hg hsz
                  have K5 := Lib.hid (KB.out.trans (((below_new wB (.cells ZS 27)).grown hg (by simp) (by intro k hk; cases hk; omega)).mono KB.out.size))
                  have n7 : w5.cell? ⟨wB.heap.size, 7, none⟩ = some (.int .i64 mm.stop) := hbl.cell 7
                  clear hbl hg hsz
                  have RL := Lib.hid (fun W => by have := rlat_any (14 + i) W (by omega); rw [show ((14 + i : Nat) : Int) = 14 + (i : Int) by omega] at this; exact this)
                  generalize mm.stop = st at *
                  generalize lt (14 + i) = la at *
                  by_cases hst : st = 6
                  · have hla : (n : Int) + 1 < la := by have := DE.out; rw [decide_eq_true hst] at this; simpa using this.symm
                    have e6 : (st == 6) = true := by simpa using hst
                    clear hst
                    go_wp2_with fail
                    go_quiet ((first | (go_at_call 25; exact Calls.quiet_of_same ((num7_any _ _).mono fun _ _ hh => ⟨hh.1, hh.2.symm⟩)) | (go_at_call 38; exact Calls.quiet_of_same ((RL.out _).mono fun _ _ hh => ⟨hh.1, hh.2.symm⟩))))
                    go_wp2_with fail
                    go_roundg (5 - (n + 1))
                    case measure => omega
                    case rel => exact ⟨n + 1, by omega, rfl, by go_num, below_drewN (H9.out.trans (K5.out.mono (by have h1 := H9.out.size; have h2 := SB.out; omega))) _, X9.out.below (below_drewN K5.out _), P9.out.below (below_drewN K5.out _)⟩
                  · have hla : decide ((n : Int) + 1 < la) = false := by have := DE.out; rw [decide_eq_false hst] at this; exact this.symm
                    have e6 : (st == 6) = false := by simpa using hst
                    clear hst
                    go_wp2_with fail
                    go_quiet ((first | (go_at_call 25; exact Calls.quiet_of_same ((num7_any _ _).mono fun _ _ hh => ⟨hh.1, hh.2.symm⟩)) | (go_at_call 38; exact Calls.quiet_of_same ((RL.out _).mono fun _ _ hh => ⟨hh.1, hh.2.symm⟩))))
                    go_wp2_with fail
                    go_roundg (5 - (n + 1))
                    case measure => omega
                    case rel => exact ⟨n + 1, by omega, rfl, by go_num, below_drewN (H9.out.trans (K5.out.mono (by have h1 := H9.out.size; have h2 := SB.out; omega))) _, X9.out.below (below_drewN K5.out _), P9.out.below (below_drewN K5.out _)⟩
            · have hdn : decide ((n : Int) < 5) = false := by simp; omega
              go_wp2_with fail
              go_roundg (13 - (i + 1))
              case measure => omega
              case rel => exact ⟨i + 1, by omega, rfl, by go_num, HB.out, XX.out⟩
      · have HD := HDA.out
        rw [show sd (fm (14 + i)) = false by simpa using hsd] at HD
        have HDh := Lib.hid HD
        clear HD HDA hsd
        go_wp2_with (go_at_call 33; refine (HDh.out _).mono ?_; rintro e w' ⟨rfl, rfl⟩)
        go_roundg (13 - (i + 1))
        case measure => omega
        case rel => exact ⟨i + 1, by omega, rfl, by go_num, H1.out.trans ((below_new w1 _).mono (by have h1 := H1.out.size; have h2 := SB.out; omega)), X1.out.alloc _⟩
    · have hd : decide (14 + (i : Int) ≤ 26) = false := by simp; omega
      have WKE := Lib.hid (wakes7_any wr (TT.out.below (by rw [SB.out]; exact HB.out)))
      go_wp2_with (go_at_call 28; refine WKE.out.mono ?_; rintro en w' ⟨rfl, bz⟩)
      go_ret
      exact ⟨rfl, by rw [SB.out]; exact HB.out.trans (bz.mono (by have h1 := HB.out.size; have h2 := SB.out; omega))⟩
end Go.Proofs.YtbgmdikcbglpiaaGreatDoor
