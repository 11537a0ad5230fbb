/-
  BitsEach: the walk: of each op, with registers and numbers at their edges, the word is the page's, and the instruction again. Condition: the tables lie in the world; the slice of bundles is within the reach of what is read.
-/
import Derived.Test.YtlhdmdhecamlfaaDoorShell
import Derived.Test.YtlhdmdhecamlfaaDoorBack
import Derived.Deep.LoopGhost
import Derived.Deep.DeepCutAuto
import Derived.Deep.CutBlock
namespace Go.Proofs.YtlhdmdhecamlfaaDoor
open Go.RowKit

/-- The block, as far as it is made: r says which fields. -/
def EB (B g : Nat) (W0 : World) (n : Nat) (r : Int → Int → Int → Int → Prop) (w' : World) : Prop := ∃ d a b m, r d a b m ∧ XB w' g n d a b m ⟨#[]⟩ ∧ Below B W0 w'
def okR (h : Bool) (r : Int) : Prop := 0 ≤ r ∧ r < 16 ∧ (h = false → r = 0)
theorem okR0 (h : Bool) : okR h 0 := ⟨by decide, by decide, fun _ => rfl⟩
theorem okRt (h : Bool) (r : Int) (h0 : 0 ≤ r) (h1 : r < 16) (hh : h = true) : okR h r := ⟨h0, h1, fun e => by rw [hh] at e; cases e⟩
theorem fit_of {n : Nat} {d a b m : Int} (h1 : okR (sd (fm n)) d) (h2 : okR (sa (fm n)) a) (h3 : okR (sb (fm n)) b) (h4 : immB (fm n) m = true) : Fit n d a b m := ⟨h1.1, h1.2.1, h2.1, h2.2.1, h3.1, h3.2.1, h1.2.2, h2.2.2, h3.2.2, h4⟩
theorem imm_of0 {f : Nat} {m : Int} (hf : f < 10) (hl : lm f = 0) (hm : m = 0) : immB f m = true := by
  subst hm
  have e := bt_lm ⟨f, hf⟩
  simp only [hl] at e
  unfold immB; rw [e]
  cases stg f <;> rfl
theorem imm_oft {f : Nat} {m : Int} (ht : stg f = true) (h0 : 0 ≤ m) (h1 : m ≤ 1023) : immB f m = true := by
  unfold immB; rw [ht]; simp [numB, h0, h1]
theorem imm_of14 {f : Nat} {m : Int} (hf : f < 10) (ht : stg f = false) (hl : lm f = 14) (h0 : -8192 ≤ m) (h1 : m < 8192) : immB f m = true := by
  have e := bt_lm ⟨f, hf⟩
  simp only [hl] at e
  unfold immB; rw [ht, e]; simp [wideB, h0, h1]
theorem imm_of18 {f : Nat} {m : Int} (hf : f < 10) (ht : stg f = false) (hl : lm f = 18) (h0 : -131072 ≤ m) (h1 : m < 131072) : immB f m = true := by
  have e := bt_lm ⟨f, hf⟩
  simp only [hl] at e
  unfold immB; rw [ht, e]; simp [wideB, h0, h1]
set_option maxHeartbeats 80000000 in
set_option maxRecDepth 100000 in
theorem bitsEach_walk (A1 A2 A3 A4 A5 : Option Addr) (n1 c1 n2 c2 n3 c3 n4 c4 n5 c5 : Nat) (w : World) (H : Tab w) (HS : BunIn w A5 n5) :
    Calls Tryd.prog 6 #[.agg #[.slice A1 n1 c1, .slice A2 n2 c2, .slice A3 n3 c3, .slice A4 n4 c4, .slice A5 n5 c5]] w (TruePost w) := by
  have T := Lib.hid H
  have big := H.big
  have n50 : (0 : Int) ≤ (n5 : Int) := by omega
  have n51 : (n5 : Int) ≤ 1000000000000 := by have := HS.1; omega
  clear H HS
  go_enter Tryd.func6, Tryd.ntmps6
  go_wp2_with fail
  have z0 : (w.alloc (.cells #[.slice A1 n1 c1, .slice A2 n2 c2, .slice A3 n3 c3, .slice A4 n4 c4, .slice A5 n5 c5] 32)).heap.size = w.heap.size + 1 := by simp
  have Q0 := Lib.hid (show (w.alloc (.cells #[.slice A1 n1 c1, .slice A2 n2 c2, .slice A3 n3 c3, .slice A4 n4 c4, .slice A5 n5 c5] 32)).cell? ⟨w.heap.size, 4, none⟩ = some (.slice A5 n5 c5) by simp [go_sem])
  generalize hW0 : (w.alloc (.cells #[.slice A1 n1 c1, .slice A2 n2 c2, .slice A3 n3 c3, .slice A4 n4 c4, .slice A5 n5 c5] 32)) = W0 at z0 Q0
  have HW0 := Lib.hid hW0
  have Z0 := Lib.hid z0
  clear hW0 z0
  have T0 := Lib.hid (show Tab W0 from HW0.out ▸ T.out.alloc _)
  go_loopg [3] 34 (fun gk o wr2 => ∃ op : Nat, op ≤ 34 ∧ gk = 34 - op ∧ o = .int .i64 op ∧ Below (w.heap.size + 1) W0 wr2)
  case atStart => exact ⟨0, by omega, rfl, rfl, Below.refl _ _⟩
  case round =>
    obtain ⟨op, hop, rfl, rfl, hb⟩ := hrel
    have HB := Lib.hid hb
    have HG := Lib.hid (show w.heap.size + 1 ≤ wr.heap.size by have := hb.size; have := Z0.out; omega)
    clear hb
    by_cases hle : op ≤ 33
    · have hd : decide ((op : Int) ≤ 33) = true := by simp; omega
      have h34 : op < 34 := by omega
      have hf := fm_lt h34
      go_wp2_with fail
      refine (rform_any _ _ h34).mono ?_
      rintro e w1 ⟨rfl, hb1⟩
      have HB1 := Lib.hid (HB.out.trans (hb1.mono HG.out))
      clear hb1 HB HG
      go_wp2_with fail
      go_loopg [5] 24 (fun gk o wr2 => ∃ k : Nat, k ≤ 24 ∧ gk = 24 - k ∧ o = .int .i64 k ∧ Below (w.heap.size + 1) W0 wr2)
      case atStart => exact ⟨0, by omega, rfl, rfl, HB1.out⟩
      case round =>
        clear HB1
        obtain ⟨k, hk, rfl, rfl, hb⟩ := hrel
        have HB := Lib.hid hb
        have HG := Lib.hid (show w.heap.size + 1 ≤ wr.heap.size by have := hb.size; have := Z0.out; omega)
        clear hb
        by_cases hlt : k < 24
        · have hdk : decide ((k : Int) < 24) = true := by simp; omega
          have k0' : (0 : Int) ≤ (k : Int) := by omega
          have k1' : (k : Int) < 24 := by omega
          have HC := Lib.hid (show EB (w.heap.size + 1) wr.heap.size W0 op (fun d a b m => d = 0 ∧ a = 0 ∧ b = 0 ∧ m = 0) (wr.alloc (.cells #[.int .i64 op, .int .i64 0, .int .i64 0, .int .i64 0, .int .i64 0, .string ⟨#[]⟩] 35)) from ⟨0, 0, 0, 0, ⟨rfl, rfl, rfl, rfl⟩, heap_alloc_new _ _, HB.out.alloc HG.out _⟩)
          go_upto_if 26 with (go_at_call 23; refine (hasD_any _ _ hf).mono ?_; rintro e w' ⟨rfl, rfl⟩)
          go_cut [] (fun wx => EB (w.heap.size + 1) wr.heap.size W0 op (fun d a b m => okR (sd (fm op)) d ∧ a = 0 ∧ b = 0 ∧ m = 0) wx)
          case first =>
            obtain ⟨xd', xa', xb', xm', hr, hX, hBx⟩ := HC.out
            obtain ⟨rfl, rfl, rfl, rfl⟩ := hr
            obtain ⟨k0, k1, k2, k3, k4, k5⟩ := hX.cells
            have q0 := (hBx.cell (p := ⟨w.heap.size, 4, none⟩) (by simp)).trans Q0.out
            have f1 := hX.frozen 1
            have f2 := hX.frozen 2
            have f3 := hX.frozen 3
            have hgl := hX.lt
            have HX := Lib.hid hX
            have HBx := Lib.hid hBx
            clear hX hBx
            cases hsd : sd (fm op)
            · go_wp2_with fail
              go_meet
              case rel => exact ⟨_, _, _, _, ⟨okR0 _, rfl, rfl, rfl⟩, HX.out, HBx.out⟩
            · go_wp2_with fail
              go_meet
              case rel => exact ⟨_, _, _, _, ⟨okRt _ _ (by omega) (by omega) hsd, rfl, rfl, rfl⟩, heap_alloc_new _ _, HB.out.alloc HG.out _⟩
          case rest =>
          clear HC
          have HC := Lib.hid hcut
          clear hcut
          go_upto_if 32 with (go_at_call 24; refine (hasA_any _ _ hf).mono ?_; rintro e w' ⟨rfl, rfl⟩)
          go_cut [] (fun wx => EB (w.heap.size + 1) wr.heap.size W0 op (fun d a b m => okR (sd (fm op)) d ∧ okR (sa (fm op)) a ∧ b = 0 ∧ m = 0) wx)
          case first =>
            obtain ⟨xd', xa', xb', xm', hr, hX, hBx⟩ := HC.out
            obtain ⟨hr1, rfl, rfl, rfl⟩ := hr; have HR1 := Lib.hid hr1; clear hr1
            obtain ⟨k0, k1, k2, k3, k4, k5⟩ := hX.cells
            have q0 := (hBx.cell (p := ⟨w.heap.size, 4, none⟩) (by simp)).trans Q0.out
            have f1 := hX.frozen 1
            have f2 := hX.frozen 2
            have f3 := hX.frozen 3
            have hgl := hX.lt
            have HX := Lib.hid hX
            have HBx := Lib.hid hBx
            clear hX hBx
            cases hsd : sa (fm op)
            · go_wp2_with fail
              go_meet
              case rel => exact ⟨_, _, _, _, ⟨HR1.out, okR0 _, rfl, rfl⟩, HX.out, HBx.out⟩
            · go_wp2_with fail
              go_meet
              case rel => exact ⟨_, _, _, _, ⟨HR1.out, okRt _ _ (by omega) (by omega) hsd, rfl, rfl⟩, HX.out.set2 _, HBx.out.setCell HG.out _⟩
          case rest =>
          clear HC
          have HC := Lib.hid hcut
          clear hcut
          go_upto_if 42 with (go_at_call 25; refine (hasB_any _ _ hf).mono ?_; rintro e w' ⟨rfl, rfl⟩)
          go_cut [] (fun wx => EB (w.heap.size + 1) wr.heap.size W0 op (fun d a b m => okR (sd (fm op)) d ∧ okR (sa (fm op)) a ∧ okR (sb (fm op)) b ∧ m = 0) wx)
          case first =>
            obtain ⟨xd', xa', xb', xm', hr, hX, hBx⟩ := HC.out
            obtain ⟨hr1, hr2, rfl, rfl⟩ := hr; have HR1 := Lib.hid hr1; have HR2 := Lib.hid hr2; clear hr1 hr2
            obtain ⟨k0, k1, k2, k3, k4, k5⟩ := hX.cells
            have q0 := (hBx.cell (p := ⟨w.heap.size, 4, none⟩) (by simp)).trans Q0.out
            have f1 := hX.frozen 1
            have f2 := hX.frozen 2
            have f3 := hX.frozen 3
            have hgl := hX.lt
            have HX := Lib.hid hX
            have HBx := Lib.hid hBx
            clear hX hBx
            cases hsd : sb (fm op)
            · go_wp2_with fail
              go_meet
              case rel => exact ⟨_, _, _, _, ⟨HR1.out, HR2.out, okR0 _, rfl⟩, HX.out, HBx.out⟩
            · go_wp2_with fail
              go_meet
              case rel => exact ⟨_, _, _, _, ⟨HR1.out, HR2.out, okRt _ _ (by omega) (by omega) hsd, rfl⟩, HX.out.set3 _, HBx.out.setCell HG.out _⟩
          case rest =>
          clear HC
          have HC := Lib.hid hcut
          clear hcut
          rcases lay_kinds ⟨fm op, hf⟩ with hl | ⟨ht, hl⟩ | ⟨ht, hl⟩ | ⟨ht, hl⟩ | ⟨ht, hl⟩
          · have hl' : lm (fm op) = 0 := hl
            have BT := Lib.hid (fun W => bits_at (fm op) 0 W hf (bt_of hf hl'))
            have HL := Lib.hid hl'
            clear hl hl'
            go_upto_if 50 with (go_at_call 26; refine (BT.out _).mono ?_; rintro e w' ⟨rfl, rfl⟩)
            go_cut [] (fun wx => EB (w.heap.size + 1) wr.heap.size W0 op (fun d a b m => Fit op d a b m) wx)
            case first =>
              obtain ⟨d', a', b', m', hr, hX, hBx⟩ := HC.out
              obtain ⟨hr1, hr2, hr3, rfl⟩ := hr
              have R1 := Lib.hid hr1
              have R2 := Lib.hid hr2
              have R3 := Lib.hid hr3
              obtain ⟨k0, k1, k2, k3, k4, k5⟩ := hX.cells
              have f4 := hX.frozen 4
              have hgl := hX.lt
              have HX := Lib.hid hX
              have HBx := Lib.hid hBx
              have G0 := Lib.hid (show w.heap.size + 1 ≤ wc.heap.size by have := hBx.size; have := Z0.out; omega)
              clear hX hBx hr1 hr2 hr3
              go_wp2_with fail
              go_meet
              case rel => exact ⟨_, _, _, _, fit_of R1.out R2.out R3.out (imm_of0 hf HL.out rfl), HX.out, HBx.out⟩
            case rest =>
            clear HC
            have HC := Lib.hid hcut
            clear hcut
            obtain ⟨d, a, b, m, hfit, hX, hBx⟩ := HC.out
            obtain ⟨k0, k1, k2, k3, k4, k5⟩ := hX.cells
            have hgl := hX.lt
            have TX := Lib.hid (tab_below T0.out hBx (by have := T.out.big; omega))
            have HX := Lib.hid hX
            have HBx := Lib.hid hBx
            have FI := Lib.hid hfit
            have II := Lib.hid (fit_ins (s := ⟨#[]⟩) hfit rfl)
            have G0 := Lib.hid (show w.heap.size + 1 ≤ wc.heap.size by have := hBx.size; have := Z0.out; omega)
            clear hX hBx hfit HC
            as_aux_lemma =>
            go_wp2_with fail
            refine (word_good _ _ _ _ _ _ _ h34 TX.out II.out rfl).mono ?_
            rintro e w2 ⟨rfl, hb2⟩
            have T2 := Lib.hid (TX.out.below hb2)
            have X2 := Lib.hid (HX.out.below hb2)
            have H2 := Lib.hid (HBx.out.trans (hb2.mono G0.out))
            have G2 := Lib.hid (Nat.le_trans G0.out hb2.size)
            clear hb2 k0 k1 k2 k3 k4 k5 hgl
            go_wp2_with fail
            refine (bins_back _ T2.out FI.out h34).mono ?_
            rintro e w3 ⟨rfl, hb3⟩
            have T3 := Lib.hid (T2.out.below hb3)
            have X3 := Lib.hid (X2.out.below hb3)
            have H3 := Lib.hid (H2.out.trans (hb3.mono G2.out))
            have G3 := Lib.hid (Nat.le_trans G2.out hb3.size)
            have hg3 := X3.out.lt
            obtain ⟨k0, k1, k2, k3, k4, k5⟩ := X3.out.cells
            clear hb3
            go_wp2_with fail
            refine (ins_good _ _ _ _ _ _ _ h34 (by decide) II.out).mono ?_
            rintro e w4 ⟨rfl, hb4⟩
            obtain ⟨q, hz4, hB4⟩ := box_cells hb4
            have y0 : w4.cell? ⟨w3.heap.size, 0, none⟩ = some (.int .i64 op) := q 0
            have y1 : w4.cell? ⟨w3.heap.size, 1, none⟩ = some (.int .i64 d) := q 1
            have y2 : w4.cell? ⟨w3.heap.size, 2, none⟩ = some (.int .i64 a) := q 2
            have y3 : w4.cell? ⟨w3.heap.size, 3, none⟩ = some (.int .i64 b) := q 3
            have y4 : w4.cell? ⟨w3.heap.size, 4, none⟩ = some (.int .i64 m) := q 4
            have y5 : w4.cell? ⟨w3.heap.size, 5, none⟩ = some (.string ⟨#[]⟩) := q 5
            have Y4 := Lib.hid (show XB w4 w3.heap.size op d a b m ⟨#[]⟩ from XB.below (heap_alloc_new _ _) hb4)
            have X4 := Lib.hid (X3.out.below hB4)
            have H4 := Lib.hid (H3.out.trans (hB4.mono G3.out))
            have G4 := Lib.hid (Nat.le_trans G3.out hB4.size)
            clear q hb4 hB4 k0 k1 k2 k3 k4 k5 hg3 y0 y1 y2 y3 y4 y5
            obtain ⟨k0, k1, k2, k3, k4, k5⟩ := X4.out.cells
            go_wp2_with (go_at_call 11; refine (num_any _ _).mono ?_; rintro e w' ⟨rfl, rfl⟩)
            refine (rword_any _ _ _ _ _ _ _ h34 FI.out).mono ?_
            rintro e w5 ⟨rfl, hb5⟩
            have X5 := X4.out.below hb5
            have Y5 := Y4.out.below hb5
            have H5 := Lib.hid (H4.out.trans (hb5.mono G4.out))
            clear hb5 k0 k1 k2 k3 k4 k5
            obtain ⟨k0, k1, k2, k3, k4, k5⟩ := X5.cells
            obtain ⟨y0, y1, y2, y3, y4, y5⟩ := Y5.cells
            have s0 : (wd op d a b m != wd op d a b m) = false := by simp
            have s1 : ((op : Int) != (op : Int)) = false := by simp
            have s2 : (d != d) = false := by simp
            have s3 : (a != a) = false := by simp
            have s4 : (b != b) = false := by simp
            have s5 : (m != m) = false := by simp
            clear X5 Y5
            go_wp2_with fail
            go_roundg (24 - (k + 1))
            case measure => omega
            case rel => exact ⟨k + 1, by omega, rfl, by go_num, H5.out⟩
          · have hl' : lm (fm op) = 14 := hl
            have ht' : stg (fm op) = true := ht
            have CT := Lib.hid (fun W => (ht' ▸ target_any (fm op) W hf : Calls Tryd.prog 27 #[.int .i64 (fm op)] W (BoolPost true W)))
            have BT := Lib.hid (fun W => bits_at (fm op) 14 W hf (bt_of hf hl'))
            have HL := Lib.hid hl'
            have HT := Lib.hid ht'
            clear hl hl' ht ht'
            go_upto_if 50 with (go_at_call 26; refine (BT.out _).mono ?_; rintro e w' ⟨rfl, rfl⟩)
            go_cut [] (fun wx => EB (w.heap.size + 1) wr.heap.size W0 op (fun d a b m => Fit op d a b m) wx)
            case first =>
              obtain ⟨d', a', b', m', hr, hX, hBx⟩ := HC.out
              obtain ⟨hr1, hr2, hr3, rfl⟩ := hr
              have R1 := Lib.hid hr1
              have R2 := Lib.hid hr2
              have R3 := Lib.hid hr3
              obtain ⟨k0, k1, k2, k3, k4, k5⟩ := hX.cells
              have f4 := hX.frozen 4
              have hgl := hX.lt
              have HX := Lib.hid hX
              have HBx := Lib.hid hBx
              have G0 := Lib.hid (show w.heap.size + 1 ≤ wc.heap.size by have := hBx.size; have := Z0.out; omega)
              clear hX hBx hr1 hr2 hr3
              obtain h6 | h6 | h6 | h6 | h6 | h6 : (k : Int) % 6 = 0 ∨ (k : Int) % 6 = 1 ∨ (k : Int) % 6 = 2 ∨ (k : Int) % 6 = 3 ∨ (k : Int) % 6 = 4 ∨ (k : Int) % 6 = 5 := by omega
              all_goals
                go_wp2_with (go_at_call 27; refine (CT.out _).mono ?_; rintro e w' ⟨rfl, rfl⟩)
                go_meet
                case rel => exact ⟨_, _, _, _, fit_of R1.out R2.out R3.out (imm_oft HT.out (by decide) (by decide)), (((HX.out.set4 _).set4 _).alloc _).alloc _, (((HBx.out.setCell HG.out _).setCell HG.out _).alloc (Nat.le_trans G0.out (by simp)) _).alloc (Nat.le_trans G0.out (by simp)) _⟩
            case rest =>
            clear HC
            have HC := Lib.hid hcut
            clear hcut
            obtain ⟨d, a, b, m, hfit, hX, hBx⟩ := HC.out
            obtain ⟨k0, k1, k2, k3, k4, k5⟩ := hX.cells
            have hgl := hX.lt
            have TX := Lib.hid (tab_below T0.out hBx (by have := T.out.big; omega))
            have HX := Lib.hid hX
            have HBx := Lib.hid hBx
            have FI := Lib.hid hfit
            have II := Lib.hid (fit_ins (s := ⟨#[]⟩) hfit rfl)
            have G0 := Lib.hid (show w.heap.size + 1 ≤ wc.heap.size by have := hBx.size; have := Z0.out; omega)
            clear hX hBx hfit HC
            as_aux_lemma =>
            go_wp2_with fail
            refine (word_good _ _ _ _ _ _ _ h34 TX.out II.out rfl).mono ?_
            rintro e w2 ⟨rfl, hb2⟩
            have T2 := Lib.hid (TX.out.below hb2)
            have X2 := Lib.hid (HX.out.below hb2)
            have H2 := Lib.hid (HBx.out.trans (hb2.mono G0.out))
            have G2 := Lib.hid (Nat.le_trans G0.out hb2.size)
            clear hb2 k0 k1 k2 k3 k4 k5 hgl
            go_wp2_with fail
            refine (bins_back _ T2.out FI.out h34).mono ?_
            rintro e w3 ⟨rfl, hb3⟩
            have T3 := Lib.hid (T2.out.below hb3)
            have X3 := Lib.hid (X2.out.below hb3)
            have H3 := Lib.hid (H2.out.trans (hb3.mono G2.out))
            have G3 := Lib.hid (Nat.le_trans G2.out hb3.size)
            have hg3 := X3.out.lt
            obtain ⟨k0, k1, k2, k3, k4, k5⟩ := X3.out.cells
            clear hb3
            go_wp2_with fail
            refine (ins_good _ _ _ _ _ _ _ h34 (by decide) II.out).mono ?_
            rintro e w4 ⟨rfl, hb4⟩
            obtain ⟨q, hz4, hB4⟩ := box_cells hb4
            have y0 : w4.cell? ⟨w3.heap.size, 0, none⟩ = some (.int .i64 op) := q 0
            have y1 : w4.cell? ⟨w3.heap.size, 1, none⟩ = some (.int .i64 d) := q 1
            have y2 : w4.cell? ⟨w3.heap.size, 2, none⟩ = some (.int .i64 a) := q 2
            have y3 : w4.cell? ⟨w3.heap.size, 3, none⟩ = some (.int .i64 b) := q 3
            have y4 : w4.cell? ⟨w3.heap.size, 4, none⟩ = some (.int .i64 m) := q 4
            have y5 : w4.cell? ⟨w3.heap.size, 5, none⟩ = some (.string ⟨#[]⟩) := q 5
            have Y4 := Lib.hid (show XB w4 w3.heap.size op d a b m ⟨#[]⟩ from XB.below (heap_alloc_new _ _) hb4)
            have X4 := Lib.hid (X3.out.below hB4)
            have H4 := Lib.hid (H3.out.trans (hB4.mono G3.out))
            have G4 := Lib.hid (Nat.le_trans G3.out hB4.size)
            clear q hb4 hB4 k0 k1 k2 k3 k4 k5 hg3 y0 y1 y2 y3 y4 y5
            obtain ⟨k0, k1, k2, k3, k4, k5⟩ := X4.out.cells
            go_wp2_with (go_at_call 11; refine (num_any _ _).mono ?_; rintro e w' ⟨rfl, rfl⟩)
            refine (rword_any _ _ _ _ _ _ _ h34 FI.out).mono ?_
            rintro e w5 ⟨rfl, hb5⟩
            have X5 := X4.out.below hb5
            have Y5 := Y4.out.below hb5
            have H5 := Lib.hid (H4.out.trans (hb5.mono G4.out))
            clear hb5 k0 k1 k2 k3 k4 k5
            obtain ⟨k0, k1, k2, k3, k4, k5⟩ := X5.cells
            obtain ⟨y0, y1, y2, y3, y4, y5⟩ := Y5.cells
            have s0 : (wd op d a b m != wd op d a b m) = false := by simp
            have s1 : ((op : Int) != (op : Int)) = false := by simp
            have s2 : (d != d) = false := by simp
            have s3 : (a != a) = false := by simp
            have s4 : (b != b) = false := by simp
            have s5 : (m != m) = false := by simp
            clear X5 Y5
            go_wp2_with fail
            go_roundg (24 - (k + 1))
            case measure => omega
            case rel => exact ⟨k + 1, by omega, rfl, by go_num, H5.out⟩
          · have hl' : lm (fm op) = 18 := hl
            have ht' : stg (fm op) = true := ht
            have CT := Lib.hid (fun W => (ht' ▸ target_any (fm op) W hf : Calls Tryd.prog 27 #[.int .i64 (fm op)] W (BoolPost true W)))
            have BT := Lib.hid (fun W => bits_at (fm op) 18 W hf (bt_of hf hl'))
            have HL := Lib.hid hl'
            have HT := Lib.hid ht'
            clear hl hl' ht ht'
            go_upto_if 50 with (go_at_call 26; refine (BT.out _).mono ?_; rintro e w' ⟨rfl, rfl⟩)
            go_cut [] (fun wx => EB (w.heap.size + 1) wr.heap.size W0 op (fun d a b m => Fit op d a b m) wx)
            case first =>
              obtain ⟨d', a', b', m', hr, hX, hBx⟩ := HC.out
              obtain ⟨hr1, hr2, hr3, rfl⟩ := hr
              have R1 := Lib.hid hr1
              have R2 := Lib.hid hr2
              have R3 := Lib.hid hr3
              obtain ⟨k0, k1, k2, k3, k4, k5⟩ := hX.cells
              have f4 := hX.frozen 4
              have hgl := hX.lt
              have HX := Lib.hid hX
              have HBx := Lib.hid hBx
              have G0 := Lib.hid (show w.heap.size + 1 ≤ wc.heap.size by have := hBx.size; have := Z0.out; omega)
              clear hX hBx hr1 hr2 hr3
              obtain h6 | h6 | h6 | h6 | h6 | h6 : (k : Int) % 6 = 0 ∨ (k : Int) % 6 = 1 ∨ (k : Int) % 6 = 2 ∨ (k : Int) % 6 = 3 ∨ (k : Int) % 6 = 4 ∨ (k : Int) % 6 = 5 := by omega
              all_goals
                go_wp2_with (go_at_call 27; refine (CT.out _).mono ?_; rintro e w' ⟨rfl, rfl⟩)
                go_meet
                case rel => exact ⟨_, _, _, _, fit_of R1.out R2.out R3.out (imm_oft HT.out (by decide) (by decide)), (((HX.out.set4 _).set4 _).alloc _).alloc _, (((HBx.out.setCell HG.out _).setCell HG.out _).alloc (Nat.le_trans G0.out (by simp)) _).alloc (Nat.le_trans G0.out (by simp)) _⟩
            case rest =>
            clear HC
            have HC := Lib.hid hcut
            clear hcut
            obtain ⟨d, a, b, m, hfit, hX, hBx⟩ := HC.out
            obtain ⟨k0, k1, k2, k3, k4, k5⟩ := hX.cells
            have hgl := hX.lt
            have TX := Lib.hid (tab_below T0.out hBx (by have := T.out.big; omega))
            have HX := Lib.hid hX
            have HBx := Lib.hid hBx
            have FI := Lib.hid hfit
            have II := Lib.hid (fit_ins (s := ⟨#[]⟩) hfit rfl)
            have G0 := Lib.hid (show w.heap.size + 1 ≤ wc.heap.size by have := hBx.size; have := Z0.out; omega)
            clear hX hBx hfit HC
            as_aux_lemma =>
            go_wp2_with fail
            refine (word_good _ _ _ _ _ _ _ h34 TX.out II.out rfl).mono ?_
            rintro e w2 ⟨rfl, hb2⟩
            have T2 := Lib.hid (TX.out.below hb2)
            have X2 := Lib.hid (HX.out.below hb2)
            have H2 := Lib.hid (HBx.out.trans (hb2.mono G0.out))
            have G2 := Lib.hid (Nat.le_trans G0.out hb2.size)
            clear hb2 k0 k1 k2 k3 k4 k5 hgl
            go_wp2_with fail
            refine (bins_back _ T2.out FI.out h34).mono ?_
            rintro e w3 ⟨rfl, hb3⟩
            have T3 := Lib.hid (T2.out.below hb3)
            have X3 := Lib.hid (X2.out.below hb3)
            have H3 := Lib.hid (H2.out.trans (hb3.mono G2.out))
            have G3 := Lib.hid (Nat.le_trans G2.out hb3.size)
            have hg3 := X3.out.lt
            obtain ⟨k0, k1, k2, k3, k4, k5⟩ := X3.out.cells
            clear hb3
            go_wp2_with fail
            refine (ins_good _ _ _ _ _ _ _ h34 (by decide) II.out).mono ?_
            rintro e w4 ⟨rfl, hb4⟩
            obtain ⟨q, hz4, hB4⟩ := box_cells hb4
            have y0 : w4.cell? ⟨w3.heap.size, 0, none⟩ = some (.int .i64 op) := q 0
            have y1 : w4.cell? ⟨w3.heap.size, 1, none⟩ = some (.int .i64 d) := q 1
            have y2 : w4.cell? ⟨w3.heap.size, 2, none⟩ = some (.int .i64 a) := q 2
            have y3 : w4.cell? ⟨w3.heap.size, 3, none⟩ = some (.int .i64 b) := q 3
            have y4 : w4.cell? ⟨w3.heap.size, 4, none⟩ = some (.int .i64 m) := q 4
            have y5 : w4.cell? ⟨w3.heap.size, 5, none⟩ = some (.string ⟨#[]⟩) := q 5
            have Y4 := Lib.hid (show XB w4 w3.heap.size op d a b m ⟨#[]⟩ from XB.below (heap_alloc_new _ _) hb4)
            have X4 := Lib.hid (X3.out.below hB4)
            have H4 := Lib.hid (H3.out.trans (hB4.mono G3.out))
            have G4 := Lib.hid (Nat.le_trans G3.out hB4.size)
            clear q hb4 hB4 k0 k1 k2 k3 k4 k5 hg3 y0 y1 y2 y3 y4 y5
            obtain ⟨k0, k1, k2, k3, k4, k5⟩ := X4.out.cells
            go_wp2_with (go_at_call 11; refine (num_any _ _).mono ?_; rintro e w' ⟨rfl, rfl⟩)
            refine (rword_any _ _ _ _ _ _ _ h34 FI.out).mono ?_
            rintro e w5 ⟨rfl, hb5⟩
            have X5 := X4.out.below hb5
            have Y5 := Y4.out.below hb5
            have H5 := Lib.hid (H4.out.trans (hb5.mono G4.out))
            clear hb5 k0 k1 k2 k3 k4 k5
            obtain ⟨k0, k1, k2, k3, k4, k5⟩ := X5.cells
            obtain ⟨y0, y1, y2, y3, y4, y5⟩ := Y5.cells
            have s0 : (wd op d a b m != wd op d a b m) = false := by simp
            have s1 : ((op : Int) != (op : Int)) = false := by simp
            have s2 : (d != d) = false := by simp
            have s3 : (a != a) = false := by simp
            have s4 : (b != b) = false := by simp
            have s5 : (m != m) = false := by simp
            clear X5 Y5
            go_wp2_with fail
            go_roundg (24 - (k + 1))
            case measure => omega
            case rel => exact ⟨k + 1, by omega, rfl, by go_num, H5.out⟩
          · have hl' : lm (fm op) = 14 := hl
            have ht' : stg (fm op) = false := ht
            have CT := Lib.hid (fun W => (ht' ▸ target_any (fm op) W hf : Calls Tryd.prog 27 #[.int .i64 (fm op)] W (BoolPost false W)))
            have BT := Lib.hid (fun W => bits_at (fm op) 14 W hf (bt_of hf hl'))
            have HL := Lib.hid hl'
            have HT := Lib.hid ht'
            clear hl hl' ht ht'
            go_upto_if 50 with (go_at_call 26; refine (BT.out _).mono ?_; rintro e w' ⟨rfl, rfl⟩)
            go_cut [] (fun wx => EB (w.heap.size + 1) wr.heap.size W0 op (fun d a b m => Fit op d a b m) wx)
            case first =>
              obtain ⟨d', a', b', m', hr, hX, hBx⟩ := HC.out
              obtain ⟨hr1, hr2, hr3, rfl⟩ := hr
              have R1 := Lib.hid hr1
              have R2 := Lib.hid hr2
              have R3 := Lib.hid hr3
              obtain ⟨k0, k1, k2, k3, k4, k5⟩ := hX.cells
              have f4 := hX.frozen 4
              have hgl := hX.lt
              have HX := Lib.hid hX
              have HBx := Lib.hid hBx
              have G0 := Lib.hid (show w.heap.size + 1 ≤ wc.heap.size by have := hBx.size; have := Z0.out; omega)
              clear hX hBx hr1 hr2 hr3
              obtain h6 | h6 | h6 | h6 | h6 | h6 : (k : Int) % 6 = 0 ∨ (k : Int) % 6 = 1 ∨ (k : Int) % 6 = 2 ∨ (k : Int) % 6 = 3 ∨ (k : Int) % 6 = 4 ∨ (k : Int) % 6 = 5 := by omega
              all_goals
                go_wp2_with (go_at_call 27; refine (CT.out _).mono ?_; rintro e w' ⟨rfl, rfl⟩)
                go_meet
                case rel => exact ⟨_, _, _, _, fit_of R1.out R2.out R3.out (imm_of14 hf HT.out HL.out (by decide) (by decide)), (HX.out.set4 _).alloc _, (HBx.out.setCell HG.out _).alloc (Nat.le_trans G0.out (by simp)) _⟩
            case rest =>
            clear HC
            have HC := Lib.hid hcut
            clear hcut
            obtain ⟨d, a, b, m, hfit, hX, hBx⟩ := HC.out
            obtain ⟨k0, k1, k2, k3, k4, k5⟩ := hX.cells
            have hgl := hX.lt
            have TX := Lib.hid (tab_below T0.out hBx (by have := T.out.big; omega))
            have HX := Lib.hid hX
            have HBx := Lib.hid hBx
            have FI := Lib.hid hfit
            have II := Lib.hid (fit_ins (s := ⟨#[]⟩) hfit rfl)
            have G0 := Lib.hid (show w.heap.size + 1 ≤ wc.heap.size by have := hBx.size; have := Z0.out; omega)
            clear hX hBx hfit HC
            as_aux_lemma =>
            go_wp2_with fail
            refine (word_good _ _ _ _ _ _ _ h34 TX.out II.out rfl).mono ?_
            rintro e w2 ⟨rfl, hb2⟩
            have T2 := Lib.hid (TX.out.below hb2)
            have X2 := Lib.hid (HX.out.below hb2)
            have H2 := Lib.hid (HBx.out.trans (hb2.mono G0.out))
            have G2 := Lib.hid (Nat.le_trans G0.out hb2.size)
            clear hb2 k0 k1 k2 k3 k4 k5 hgl
            go_wp2_with fail
            refine (bins_back _ T2.out FI.out h34).mono ?_
            rintro e w3 ⟨rfl, hb3⟩
            have T3 := Lib.hid (T2.out.below hb3)
            have X3 := Lib.hid (X2.out.below hb3)
            have H3 := Lib.hid (H2.out.trans (hb3.mono G2.out))
            have G3 := Lib.hid (Nat.le_trans G2.out hb3.size)
            have hg3 := X3.out.lt
            obtain ⟨k0, k1, k2, k3, k4, k5⟩ := X3.out.cells
            clear hb3
            go_wp2_with fail
            refine (ins_good _ _ _ _ _ _ _ h34 (by decide) II.out).mono ?_
            rintro e w4 ⟨rfl, hb4⟩
            obtain ⟨q, hz4, hB4⟩ := box_cells hb4
            have y0 : w4.cell? ⟨w3.heap.size, 0, none⟩ = some (.int .i64 op) := q 0
            have y1 : w4.cell? ⟨w3.heap.size, 1, none⟩ = some (.int .i64 d) := q 1
            have y2 : w4.cell? ⟨w3.heap.size, 2, none⟩ = some (.int .i64 a) := q 2
            have y3 : w4.cell? ⟨w3.heap.size, 3, none⟩ = some (.int .i64 b) := q 3
            have y4 : w4.cell? ⟨w3.heap.size, 4, none⟩ = some (.int .i64 m) := q 4
            have y5 : w4.cell? ⟨w3.heap.size, 5, none⟩ = some (.string ⟨#[]⟩) := q 5
            have Y4 := Lib.hid (show XB w4 w3.heap.size op d a b m ⟨#[]⟩ from XB.below (heap_alloc_new _ _) hb4)
            have X4 := Lib.hid (X3.out.below hB4)
            have H4 := Lib.hid (H3.out.trans (hB4.mono G3.out))
            have G4 := Lib.hid (Nat.le_trans G3.out hB4.size)
            clear q hb4 hB4 k0 k1 k2 k3 k4 k5 hg3 y0 y1 y2 y3 y4 y5
            obtain ⟨k0, k1, k2, k3, k4, k5⟩ := X4.out.cells
            go_wp2_with (go_at_call 11; refine (num_any _ _).mono ?_; rintro e w' ⟨rfl, rfl⟩)
            refine (rword_any _ _ _ _ _ _ _ h34 FI.out).mono ?_
            rintro e w5 ⟨rfl, hb5⟩
            have X5 := X4.out.below hb5
            have Y5 := Y4.out.below hb5
            have H5 := Lib.hid (H4.out.trans (hb5.mono G4.out))
            clear hb5 k0 k1 k2 k3 k4 k5
            obtain ⟨k0, k1, k2, k3, k4, k5⟩ := X5.cells
            obtain ⟨y0, y1, y2, y3, y4, y5⟩ := Y5.cells
            have s0 : (wd op d a b m != wd op d a b m) = false := by simp
            have s1 : ((op : Int) != (op : Int)) = false := by simp
            have s2 : (d != d) = false := by simp
            have s3 : (a != a) = false := by simp
            have s4 : (b != b) = false := by simp
            have s5 : (m != m) = false := by simp
            clear X5 Y5
            go_wp2_with fail
            go_roundg (24 - (k + 1))
            case measure => omega
            case rel => exact ⟨k + 1, by omega, rfl, by go_num, H5.out⟩
          · have hl' : lm (fm op) = 18 := hl
            have ht' : stg (fm op) = false := ht
            have CT := Lib.hid (fun W => (ht' ▸ target_any (fm op) W hf : Calls Tryd.prog 27 #[.int .i64 (fm op)] W (BoolPost false W)))
            have BT := Lib.hid (fun W => bits_at (fm op) 18 W hf (bt_of hf hl'))
            have HL := Lib.hid hl'
            have HT := Lib.hid ht'
            clear hl hl' ht ht'
            go_upto_if 50 with (go_at_call 26; refine (BT.out _).mono ?_; rintro e w' ⟨rfl, rfl⟩)
            go_cut [] (fun wx => EB (w.heap.size + 1) wr.heap.size W0 op (fun d a b m => Fit op d a b m) wx)
            case first =>
              obtain ⟨d', a', b', m', hr, hX, hBx⟩ := HC.out
              obtain ⟨hr1, hr2, hr3, rfl⟩ := hr
              have R1 := Lib.hid hr1
              have R2 := Lib.hid hr2
              have R3 := Lib.hid hr3
              obtain ⟨k0, k1, k2, k3, k4, k5⟩ := hX.cells
              have f4 := hX.frozen 4
              have hgl := hX.lt
              have HX := Lib.hid hX
              have HBx := Lib.hid hBx
              have G0 := Lib.hid (show w.heap.size + 1 ≤ wc.heap.size by have := hBx.size; have := Z0.out; omega)
              clear hX hBx hr1 hr2 hr3
              obtain h6 | h6 | h6 | h6 | h6 | h6 : (k : Int) % 6 = 0 ∨ (k : Int) % 6 = 1 ∨ (k : Int) % 6 = 2 ∨ (k : Int) % 6 = 3 ∨ (k : Int) % 6 = 4 ∨ (k : Int) % 6 = 5 := by omega
              all_goals
                go_wp2_with (go_at_call 27; refine (CT.out _).mono ?_; rintro e w' ⟨rfl, rfl⟩)
                go_meet
                case rel => exact ⟨_, _, _, _, fit_of R1.out R2.out R3.out (imm_of18 hf HT.out HL.out (by decide) (by decide)), (HX.out.set4 _).alloc _, (HBx.out.setCell HG.out _).alloc (Nat.le_trans G0.out (by simp)) _⟩
            case rest =>
            clear HC
            have HC := Lib.hid hcut
            clear hcut
            obtain ⟨d, a, b, m, hfit, hX, hBx⟩ := HC.out
            obtain ⟨k0, k1, k2, k3, k4, k5⟩ := hX.cells
            have hgl := hX.lt
            have TX := Lib.hid (tab_below T0.out hBx (by have := T.out.big; omega))
            have HX := Lib.hid hX
            have HBx := Lib.hid hBx
            have FI := Lib.hid hfit
            have II := Lib.hid (fit_ins (s := ⟨#[]⟩) hfit rfl)
            have G0 := Lib.hid (show w.heap.size + 1 ≤ wc.heap.size by have := hBx.size; have := Z0.out; omega)
            clear hX hBx hfit HC
            as_aux_lemma =>
            go_wp2_with fail
            refine (word_good _ _ _ _ _ _ _ h34 TX.out II.out rfl).mono ?_
            rintro e w2 ⟨rfl, hb2⟩
            have T2 := Lib.hid (TX.out.below hb2)
            have X2 := Lib.hid (HX.out.below hb2)
            have H2 := Lib.hid (HBx.out.trans (hb2.mono G0.out))
            have G2 := Lib.hid (Nat.le_trans G0.out hb2.size)
            clear hb2 k0 k1 k2 k3 k4 k5 hgl
            go_wp2_with fail
            refine (bins_back _ T2.out FI.out h34).mono ?_
            rintro e w3 ⟨rfl, hb3⟩
            have T3 := Lib.hid (T2.out.below hb3)
            have X3 := Lib.hid (X2.out.below hb3)
            have H3 := Lib.hid (H2.out.trans (hb3.mono G2.out))
            have G3 := Lib.hid (Nat.le_trans G2.out hb3.size)
            have hg3 := X3.out.lt
            obtain ⟨k0, k1, k2, k3, k4, k5⟩ := X3.out.cells
            clear hb3
            go_wp2_with fail
            refine (ins_good _ _ _ _ _ _ _ h34 (by decide) II.out).mono ?_
            rintro e w4 ⟨rfl, hb4⟩
            obtain ⟨q, hz4, hB4⟩ := box_cells hb4
            have y0 : w4.cell? ⟨w3.heap.size, 0, none⟩ = some (.int .i64 op) := q 0
            have y1 : w4.cell? ⟨w3.heap.size, 1, none⟩ = some (.int .i64 d) := q 1
            have y2 : w4.cell? ⟨w3.heap.size, 2, none⟩ = some (.int .i64 a) := q 2
            have y3 : w4.cell? ⟨w3.heap.size, 3, none⟩ = some (.int .i64 b) := q 3
            have y4 : w4.cell? ⟨w3.heap.size, 4, none⟩ = some (.int .i64 m) := q 4
            have y5 : w4.cell? ⟨w3.heap.size, 5, none⟩ = some (.string ⟨#[]⟩) := q 5
            have Y4 := Lib.hid (show XB w4 w3.heap.size op d a b m ⟨#[]⟩ from XB.below (heap_alloc_new _ _) hb4)
            have X4 := Lib.hid (X3.out.below hB4)
            have H4 := Lib.hid (H3.out.trans (hB4.mono G3.out))
            have G4 := Lib.hid (Nat.le_trans G3.out hB4.size)
            clear q hb4 hB4 k0 k1 k2 k3 k4 k5 hg3 y0 y1 y2 y3 y4 y5
            obtain ⟨k0, k1, k2, k3, k4, k5⟩ := X4.out.cells
            go_wp2_with (go_at_call 11; refine (num_any _ _).mono ?_; rintro e w' ⟨rfl, rfl⟩)
            refine (rword_any _ _ _ _ _ _ _ h34 FI.out).mono ?_
            rintro e w5 ⟨rfl, hb5⟩
            have X5 := X4.out.below hb5
            have Y5 := Y4.out.below hb5
            have H5 := Lib.hid (H4.out.trans (hb5.mono G4.out))
            clear hb5 k0 k1 k2 k3 k4 k5
            obtain ⟨k0, k1, k2, k3, k4, k5⟩ := X5.cells
            obtain ⟨y0, y1, y2, y3, y4, y5⟩ := Y5.cells
            have s0 : (wd op d a b m != wd op d a b m) = false := by simp
            have s1 : ((op : Int) != (op : Int)) = false := by simp
            have s2 : (d != d) = false := by simp
            have s3 : (a != a) = false := by simp
            have s4 : (b != b) = false := by simp
            have s5 : (m != m) = false := by simp
            clear X5 Y5
            go_wp2_with fail
            go_roundg (24 - (k + 1))
            case measure => omega
            case rel => exact ⟨k + 1, by omega, rfl, by go_num, H5.out⟩
        · have hdk : decide ((k : Int) < 24) = false := by simp; omega
          go_wp2_with fail
          go_roundg (34 - (op + 1))
          case measure => omega
          case rel => exact ⟨op + 1, by omega, rfl, by go_num, HB.out⟩
    · have hd : decide ((op : Int) ≤ 33) = false := by simp; omega
      have T5 := Lib.hid (tab_below T0.out HB.out (by have := T.out.big; omega))
      go_wp2_with (go_at_call 14; refine (wakes_any _ T5.out).mono ?_; rintro e w9 ⟨rfl, hb9⟩)
      go_ret
      have hb0 : Below w.heap.size w W0 := HW0.out ▸ below_new w _
      exact ⟨rfl, (hb0.trans (HB.out.mono (by omega))).trans (hb9.mono (by have := HB.out.size; have := Z0.out; omega))⟩
end Go.Proofs.YtlhdmdhecamlfaaDoor
