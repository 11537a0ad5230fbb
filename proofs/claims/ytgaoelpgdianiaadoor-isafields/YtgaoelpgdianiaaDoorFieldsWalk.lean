/-
  IsaFields: the walk: of each op, with each field as it should be, and spoilt by itself, the program's Check and the page's Ins tell the same. Condition: the tables lie in the world.
-/
import Derived.Test.YtgaoelpgdianiaaDoorTextOf
import Derived.Deep.LoopGhost
import Derived.Deep.DeepCutAuto
import Derived.Deep.CutBlock
import Derived.BigRegion
namespace Go.Proofs.YtgaoelpgdianiaaDoor
open Go.RowKit

def TruePost (w : World) (e : Ending) (w' : World) : Prop := e = .returned (.bool true) ∧ Below w.heap.size w w'
/-- The block of the instruction that the law makes. -/
def XB (w : World) (g : Nat) (o d a b m : Int) (s : ByteArray) : Prop := w.heap[g]? = some (.cells #[.int .i64 o, .int .i64 d, .int .i64 a, .int .i64 b, .int .i64 m, .string s] 47 (0, 0))
section
variable {w : World} {g : Nat} {o d a b m : Int} {s : ByteArray}
theorem XB.lt (h : XB w g o d a b m s) : g < w.heap.size := by
  rcases Nat.lt_or_ge g w.heap.size with h1 | h1
  · exact h1
  · unfold XB at h; rw [Array.getElem?_eq_none h1] at h; cases h
theorem XB.frozen (h : XB w g o d a b m s) (j : Nat) : w.frozen? ⟨g, j, none⟩ = false := by
  unfold XB at h
  simp [World.frozen?, h]
theorem XB.cells (h : XB w g o d a b m s) : w.cell? ⟨g, 0, none⟩ = some (.int .i64 o) ∧ w.cell? ⟨g, 1, none⟩ = some (.int .i64 d) ∧ w.cell? ⟨g, 2, none⟩ = some (.int .i64 a) ∧ w.cell? ⟨g, 3, none⟩ = some (.int .i64 b) ∧ w.cell? ⟨g, 4, none⟩ = some (.int .i64 m) ∧ w.cell? ⟨g, 5, none⟩ = some (.string s) := by
  unfold XB at h
  simp [World.cell?, h]
theorem XB.alloc (h : XB w g o d a b m s) (ob : Obj) : XB (w.alloc ob) g o d a b m s := (Below.heap_alloc w ob g h.lt).trans h
theorem XB.drew (h : XB w g o d a b m s) : XB w.drew g o d a b m s := h
theorem XB.drewN (h : XB w g o d a b m s) (n : Nat) : XB (w.drewN n) g o d a b m s := h
theorem XB.below {w' : World} (h : XB w g o d a b m s) (hb : Below w.heap.size w w') : XB w' g o d a b m s := (hb.block g h.lt).trans h
theorem XB.set1 (h : XB w g o d a b m s) (x : Int) : XB (w.setCell ⟨g, 1, none⟩ (.int .i64 x)) g o x a b m s := by
  unfold XB at h ⊢
  simp [World.setCell, Array.getElem?_modify, h]
theorem XB.set2 (h : XB w g o d a b m s) (x : Int) : XB (w.setCell ⟨g, 2, none⟩ (.int .i64 x)) g o d x b m s := by
  unfold XB at h ⊢
  simp [World.setCell, Array.getElem?_modify, h]
theorem XB.set3 (h : XB w g o d a b m s) (x : Int) : XB (w.setCell ⟨g, 3, none⟩ (.int .i64 x)) g o d a x m s := by
  unfold XB at h ⊢
  simp [World.setCell, Array.getElem?_modify, h]
theorem XB.set4 (h : XB w g o d a b m s) (x : Int) : XB (w.setCell ⟨g, 4, none⟩ (.int .i64 x)) g o d a b x s := by
  unfold XB at h ⊢
  simp [World.setCell, Array.getElem?_modify, h]
theorem XB.set5 (h : XB w g o d a b m s) (x : ByteArray) : XB (w.setCell ⟨g, 5, none⟩ (.string x)) g o d a b m x := by
  unfold XB at h ⊢
  simp [World.setCell, Array.getElem?_modify, h]
end
/-- The block, and what lies ahead of it. -/
def XS (B g : Nat) (W0 : World) (o : Int) (w' : World) : Prop := ∃ d a b m s, s.size ≤ 13 ∧ XB w' g o d a b m s ∧ Below B W0 w'
theorem Below.dr {B : Nat} {a w : World} (h : Below B a w) : Below B a w.drew := h.drew
set_option maxHeartbeats 80000000 in
set_option maxRecDepth 100000 in
theorem isaFields_walk (A1 A2 : Option Addr) (n1 c1 n2 c2 : Nat) (w : World) (H : Tab w) :
    Calls Tryd.prog 5 #[.agg #[.slice A1 n1 c1, .slice A2 n2 c2]] w (TruePost w) := by
  have T := Lib.hid H
  have big := H.big
  clear H
  go_enter Tryd.func5, Tryd.ntmps5
  go_wp2_with fail
  have z0 : (w.alloc (.cells #[.slice A1 n1 c1, .slice A2 n2 c2] 25)).heap.size = w.heap.size + 1 := by simp
  have Q0 := Lib.hid (show (w.alloc (.cells #[.slice A1 n1 c1, .slice A2 n2 c2] 25)).cell? ⟨w.heap.size, 0, none⟩ = some (.slice A1 n1 c1) by simp [go_sem])
  generalize hW0 : (w.alloc (.cells #[.slice A1 n1 c1, .slice A2 n2 c2] 25)) = W0 at z0 Q0
  have HW0 := Lib.hid hW0
  have Z0 := Lib.hid z0
  clear hW0 z0
  have T0 := Lib.hid (show Tab W0 from HW0.out ▸ T.out.alloc _)
  go_loopg [3] 34 (fun gk o wr2 => ∃ op : Nat, op ≤ 34 ∧ gk = 34 - op ∧ o = .int .i64 op ∧ Below (w.heap.size + 1) W0 wr2)
  case atStart => exact ⟨0, by omega, rfl, rfl, Below.refl _ _⟩
  case round =>
    obtain ⟨op, hop, rfl, rfl, hb⟩ := hrel
    have HB := Lib.hid hb
    clear hb
    by_cases hle : op ≤ 33
    · have hd : decide ((op : Int) ≤ 33) = true := by simp; omega
      have h34 : op < 34 := by omega
      have hf := fm_lt h34
      go_wp2_with fail
      go_loopg [4] 40 (fun gk o wr2 => ∃ k : Nat, k ≤ 40 ∧ gk = 40 - k ∧ o = .int .i64 k ∧ Below (w.heap.size + 1) W0 wr2)
      case atStart => exact ⟨0, by omega, rfl, rfl, HB.out⟩
      case round =>
        clear HB
        obtain ⟨k, hk, rfl, rfl, hb⟩ := hrel
        have HB := Lib.hid hb
        have HG := Lib.hid (show w.heap.size + 1 ≤ wr.heap.size by have := hb.size; have := Z0.out; omega)
        clear hb
        by_cases hlt : k < 40
        · have hdk : decide ((k : Int) < 40) = true := by simp; omega
          go_wp2_with fail
          refine (rform_any _ _ h34).mono ?_
          rintro e w1 ⟨rfl, hb1⟩
          have HC := Lib.hid (show XS (w.heap.size + 1) wr.heap.size W0 op w1 from ⟨0, 0, 0, 0, ⟨#[]⟩, by decide, XB.below (heap_alloc_new wr _) hb1, (HB.out.alloc HG.out _).trans (hb1.mono (by have := HG.out; simp; omega))⟩)
          clear hb1
          go_upto_if 20 with (go_at_call 36; refine (hasD_any _ _ hf).mono ?_; rintro e w' ⟨rfl, rfl⟩)
          go_cut [] (fun wx => XS (w.heap.size + 1) wr.heap.size W0 op wx)
          case first =>
            obtain ⟨xd, xa, xb, xm, xs, hxs, hX, hBx⟩ := HC.out
            obtain ⟨k0, k1, k2, k3, k4, k5⟩ := hX.cells
            have f1 := hX.frozen 1
            have f2 := hX.frozen 2
            have f3 := hX.frozen 3
            have f4 := hX.frozen 4
            have f5 := hX.frozen 5
            have hgl := hX.lt
            have HX := Lib.hid hX
            have HBx := Lib.hid hBx
            clear hX hBx
            cases hsd : sd (fm op)
            all_goals
              go_wp2_with fail
              go_meet
              case rel => first | exact ⟨_, _, _, _, _, hxs, HX.out, HBx.out⟩ | exact ⟨_, _, _, _, _, hxs, HX.out.set1 _, HBx.out.setCell HG.out _⟩
          case rest =>
          clear HC
          have HC := Lib.hid hcut
          clear hcut
          go_upto_if 25 with (go_at_call 37; refine (hasA_any _ _ hf).mono ?_; rintro e w' ⟨rfl, rfl⟩)
          go_cut [] (fun wx => XS (w.heap.size + 1) wr.heap.size W0 op wx)
          case first =>
            obtain ⟨xd, xa, xb, xm, xs, hxs, hX, hBx⟩ := HC.out
            obtain ⟨k0, k1, k2, k3, k4, k5⟩ := hX.cells
            have f1 := hX.frozen 1
            have f2 := hX.frozen 2
            have f3 := hX.frozen 3
            have f4 := hX.frozen 4
            have f5 := hX.frozen 5
            have hgl := hX.lt
            have HX := Lib.hid hX
            have HBx := Lib.hid hBx
            clear hX hBx
            cases hsd : sa (fm op)
            all_goals
              go_wp2_with fail
              go_meet
              case rel => first | exact ⟨_, _, _, _, _, hxs, HX.out, HBx.out⟩ | exact ⟨_, _, _, _, _, hxs, HX.out.set2 _, HBx.out.setCell HG.out _⟩
          case rest =>
          clear HC
          have HC := Lib.hid hcut
          clear hcut
          go_upto_if 31 with (go_at_call 38; refine (hasB_any _ _ hf).mono ?_; rintro e w' ⟨rfl, rfl⟩)
          go_cut [] (fun wx => XS (w.heap.size + 1) wr.heap.size W0 op wx)
          case first =>
            obtain ⟨xd, xa, xb, xm, xs, hxs, hX, hBx⟩ := HC.out
            obtain ⟨k0, k1, k2, k3, k4, k5⟩ := hX.cells
            have f1 := hX.frozen 1
            have f2 := hX.frozen 2
            have f3 := hX.frozen 3
            have f4 := hX.frozen 4
            have f5 := hX.frozen 5
            have hgl := hX.lt
            have HX := Lib.hid hX
            have HBx := Lib.hid hBx
            clear hX hBx
            cases hsd : sb (fm op)
            all_goals
              go_wp2_with fail
              go_meet
              case rel => first | exact ⟨_, _, _, _, _, hxs, HX.out, HBx.out⟩ | exact ⟨_, _, _, _, _, hxs, HX.out.set3 _, HBx.out.setCell HG.out _⟩
          case rest =>
          clear HC
          have HC := Lib.hid hcut
          clear hcut
          go_upto_block 4 with fail
          go_cut [] (fun wx => XS (w.heap.size + 1) wr.heap.size W0 op wx)
          case first =>
            obtain ⟨xd, xa, xb, xm, xs, hxs, hX, hBx⟩ := HC.out
            obtain ⟨k0, k1, k2, k3, k4, k5⟩ := hX.cells
            have f1 := hX.frozen 1
            have f2 := hX.frozen 2
            have f3 := hX.frozen 3
            have f4 := hX.frozen 4
            have f5 := hX.frozen 5
            have hgl := hX.lt
            have HX := Lib.hid hX
            have HBx := Lib.hid hBx
            clear hX hBx
            obtain h9 | h9 | h9 | h9 | h9 | h9 | h9 | h9 | h9 | h9 : (k = 0 ∨ k = 1 ∨ k = 2 ∨ k = 3) ∨ (k = 4 ∨ k = 5 ∨ k = 6 ∨ k = 7) ∨ (k = 8 ∨ k = 9 ∨ k = 10 ∨ k = 11) ∨ (k = 12 ∨ k = 13 ∨ k = 14 ∨ k = 15) ∨ (k = 16 ∨ k = 17 ∨ k = 18 ∨ k = 19) ∨ (k = 20 ∨ k = 21 ∨ k = 22 ∨ k = 23) ∨ (k = 24 ∨ k = 25 ∨ k = 26 ∨ k = 27) ∨ (k = 28 ∨ k = 29 ∨ k = 30 ∨ k = 31) ∨ (k = 32 ∨ k = 33 ∨ k = 34 ∨ k = 35) ∨ (k = 36 ∨ k = 37 ∨ k = 38 ∨ k = 39) := by omega
            · rcases h9 with rfl | rfl | rfl | rfl
              all_goals
                clear hdk hlt hk
                go_wp2_with fail
                go_meet
                case rel =>
                  skip
                  exact ⟨_, _, _, _, _, hxs, HX.out, HBx.out⟩
            · rcases h9 with rfl | rfl | rfl | rfl
              all_goals
                clear hdk hlt hk
                go_wp2_with fail
                go_meet
                case rel =>
                  skip
                  exact ⟨_, _, _, _, _, hxs, (HX.out.set1 _).alloc _, (HBx.out.setCell HG.out _).alloc (by have := HBx.out.size; have := Z0.out; simp; omega) _⟩
            · rcases h9 with rfl | rfl | rfl | rfl
              all_goals
                clear hdk hlt hk
                go_wp2_with fail
                go_meet
                case rel =>
                  skip
                  exact ⟨_, _, _, _, _, hxs, (HX.out.set2 _).alloc _, (HBx.out.setCell HG.out _).alloc (by have := HBx.out.size; have := Z0.out; simp; omega) _⟩
            · rcases h9 with rfl | rfl | rfl | rfl
              all_goals
                clear hdk hlt hk
                go_wp2_with fail
                go_meet
                case rel =>
                  skip
                  exact ⟨_, _, _, _, _, hxs, (HX.out.set3 _).alloc _, (HBx.out.setCell HG.out _).alloc (by have := HBx.out.size; have := Z0.out; simp; omega) _⟩
            · rcases h9 with rfl | rfl | rfl | rfl
              all_goals
                clear hdk hlt hk
                go_wp2_with fail
                go_meet
                case rel =>
                  skip
                  exact ⟨_, _, _, _, _, hxs, (HX.out.set4 _).alloc _, (HBx.out.setCell HG.out _).alloc (by have := HBx.out.size; have := Z0.out; simp; omega) _⟩
            · rcases h9 with rfl | rfl | rfl | rfl
              all_goals
                clear hdk hlt hk
                go_wp2_with fail
                go_meet
                case rel =>
                  skip
                  exact ⟨_, _, _, _, _, hxs, (HX.out.set4 _).alloc _, (HBx.out.setCell HG.out _).alloc (by have := HBx.out.size; have := Z0.out; simp; omega) _⟩
            · rcases h9 with rfl | rfl | rfl | rfl
              all_goals
                clear hdk hlt hk
                go_wp2_with fail
                go_meet
                case rel =>
                  skip
                  exact ⟨_, _, _, _, _, hxs, (HX.out.set4 _).alloc _, (HBx.out.setCell HG.out _).alloc (by have := HBx.out.size; have := Z0.out; simp; omega) _⟩
            · rcases h9 with rfl | rfl | rfl | rfl
              all_goals
                clear hdk hlt hk
                go_wp2_with fail
                go_meet
                case rel =>
                  skip
                  exact ⟨_, _, _, _, _, by decide, ((HX.out.set5 _).set4 _).alloc _, ((HBx.out.setCell HG.out _).setCell HG.out _).alloc (by have := HBx.out.size; have := Z0.out; simp; omega) _⟩
            · rcases h9 with rfl | rfl | rfl | rfl
              all_goals
                clear hdk hlt hk
                go_wp2_with fail
                go_region
                all_goals
                  go_wp2_with fail
                  go_meet
                  case rel =>
                    skip
                    exact ⟨_, _, _, _, _, by decide, (((HX.out.set5 _).set4 _).alloc _).drew, (((HBx.out.setCell HG.out _).setCell HG.out _).alloc (by have := HBx.out.size; have := Z0.out; simp; omega) _).drew⟩
            · rcases h9 with rfl | rfl | rfl | rfl
              all_goals
                clear hdk hlt hk
                go_wp2_with fail
                go_meet
                case rel =>
                  skip
                  exact ⟨_, _, _, _, _, hxs, HX.out, HBx.out⟩

          case rest =>
          clear HC
          have HC := Lib.hid hcut
          clear hcut
          obtain ⟨xd, xa, xb, xm, xs, hxs, hX, hBx⟩ := HC.out
          obtain ⟨k0, k1, k2, k3, k4, k5⟩ := hX.cells
          have f1 := hX.frozen 1
          have f2 := hX.frozen 2
          have f3 := hX.frozen 3
          have f4 := hX.frozen 4
          have f5 := hX.frozen 5
          have hgl := hX.lt
          have HX := Lib.hid hX
          have HBx := Lib.hid hBx
          clear hX hBx
          cases hi : insB op xd xa xb xm xs
          · skip
            have HI := Lib.hid hi
            clear hi
            go_wp2_with fail
            go_region_held3 (fun w' => w'.cell? ⟨wr.heap.size, 0, none⟩ = some (.int .i64 op) ∧ w'.cell? ⟨wr.heap.size, 1, none⟩ = some (.int .i64 xd) ∧ w'.cell? ⟨wr.heap.size, 2, none⟩ = some (.int .i64 xa) ∧ w'.cell? ⟨wr.heap.size, 3, none⟩ = some (.int .i64 xb) ∧ w'.cell? ⟨wr.heap.size, 4, none⟩ = some (.int .i64 xm) ∧ w'.cell? ⟨wr.heap.size, 5, none⟩ = some (.string xs)) (first | go_keep | exact X35.out.cells | exact X31.out.cells) (first | (go_at_call 35; refine (check_bad op xd xa xb xm xs _ (tab_below T0.out (show Below (w.heap.size + 1) W0 _ from by first | exact B31.out | exact B35.out | exact HBx.out.drew | exact HBx.out) (by have := T.out.big; omega)) (by unfold maxLen; omega) (.inr ⟨op, h34, rfl, HI.out⟩)).mono ?_; rintro e w35 ⟨rfl, hb35⟩; have X35 := Lib.hid (show XB w35 wr.heap.size op xd xa xb xm xs from XB.below (by first | exact X35.out | exact X31.out | exact HX.out.drew | exact HX.out) hb35); have B35 := Lib.hid (show Below (w.heap.size + 1) W0 w35 from Below.trans (by first | exact B35.out | exact B31.out | exact HBx.out.drew | exact HBx.out) (hb35.mono (by have h1 := HBx.out.size; have h2 := Z0.out; first | exact Nat.le_trans (Nat.le_of_eq h2.symm) (B35.out.size) | exact Nat.le_trans (Nat.le_of_eq h2.symm) (B31.out.size) | exact Nat.le_trans (Nat.le_of_eq h2.symm) h1))); clear hb35) | (go_at_call 31; refine (ins_bad op xd xa xb xm xs _ (by unfold maxLen; omega) (.inr ⟨op, h34, rfl, HI.out⟩)).mono ?_; rintro e w31 ⟨rfl, hb31⟩; have X31 := Lib.hid (show XB w31 wr.heap.size op xd xa xb xm xs from XB.below (by first | exact X35.out | exact X31.out | exact HX.out.drew | exact HX.out) hb31); have B31 := Lib.hid (show Below (w.heap.size + 1) W0 w31 from Below.trans (by first | exact B35.out | exact B31.out | exact HBx.out.drew | exact HBx.out) (hb31.mono (by have h1 := HBx.out.size; have h2 := Z0.out; first | exact Nat.le_trans (Nat.le_of_eq h2.symm) (B35.out.size) | exact Nat.le_trans (Nat.le_of_eq h2.symm) (B31.out.size) | exact Nat.le_trans (Nat.le_of_eq h2.symm) h1))); clear hb31) | (go_at_call 16; refine (num_any _ _).mono ?_; rintro e w' ⟨rfl, rfl⟩))
            all_goals
              go_wp2_with fail
              go_roundg (40 - (k + 1))
              case measure => omega
              case rel => exact ⟨k + 1, by omega, rfl, by go_num, by first | exact B35.out | exact B31.out⟩
          · skip
            have HI := Lib.hid hi
            clear hi
            go_wp2_with fail
            go_region_held3 (fun w' => w'.cell? ⟨wr.heap.size, 0, none⟩ = some (.int .i64 op) ∧ w'.cell? ⟨wr.heap.size, 1, none⟩ = some (.int .i64 xd) ∧ w'.cell? ⟨wr.heap.size, 2, none⟩ = some (.int .i64 xa) ∧ w'.cell? ⟨wr.heap.size, 3, none⟩ = some (.int .i64 xb) ∧ w'.cell? ⟨wr.heap.size, 4, none⟩ = some (.int .i64 xm) ∧ w'.cell? ⟨wr.heap.size, 5, none⟩ = some (.string xs)) (first | go_keep | exact X35.out.cells | exact X31.out.cells) (first | (go_at_call 35; refine (check_good op xd xa xb xm xs _ h34 (tab_below T0.out (show Below (w.heap.size + 1) W0 _ from by first | exact B31.out | exact B35.out | exact HBx.out.drew | exact HBx.out) (by have := T.out.big; omega)) (by unfold maxLen; omega) HI.out).mono ?_; rintro e w35 ⟨rfl, hb35⟩; have X35 := Lib.hid (show XB w35 wr.heap.size op xd xa xb xm xs from XB.below (by first | exact X35.out | exact X31.out | exact HX.out.drew | exact HX.out) hb35); have B35 := Lib.hid (show Below (w.heap.size + 1) W0 w35 from Below.trans (by first | exact B35.out | exact B31.out | exact HBx.out.drew | exact HBx.out) (hb35.mono (by have h1 := HBx.out.size; have h2 := Z0.out; first | exact Nat.le_trans (Nat.le_of_eq h2.symm) (B35.out.size) | exact Nat.le_trans (Nat.le_of_eq h2.symm) (B31.out.size) | exact Nat.le_trans (Nat.le_of_eq h2.symm) h1))); clear hb35) | (go_at_call 31; refine (ins_good op xd xa xb xm xs _ h34 (by unfold maxLen; omega) HI.out).mono ?_; rintro e w31 ⟨rfl, hb31⟩; have X31 := Lib.hid (show XB w31 wr.heap.size op xd xa xb xm xs from XB.below (by first | exact X35.out | exact X31.out | exact HX.out.drew | exact HX.out) hb31); have B31 := Lib.hid (show Below (w.heap.size + 1) W0 w31 from Below.trans (by first | exact B35.out | exact B31.out | exact HBx.out.drew | exact HBx.out) (hb31.mono (by have h1 := HBx.out.size; have h2 := Z0.out; first | exact Nat.le_trans (Nat.le_of_eq h2.symm) (B35.out.size) | exact Nat.le_trans (Nat.le_of_eq h2.symm) (B31.out.size) | exact Nat.le_trans (Nat.le_of_eq h2.symm) h1))); clear hb31) | (go_at_call 16; refine (num_any _ _).mono ?_; rintro e w' ⟨rfl, rfl⟩))
            all_goals
              go_wp2_with fail
              go_roundg (40 - (k + 1))
              case measure => omega
              case rel => exact ⟨k + 1, by omega, rfl, by go_num, by first | exact B35.out | exact B31.out⟩

        · have hdk : decide ((k : Int) < 40) = false := by simp; omega
          go_wp2_with fail
          go_roundg (34 - (op + 1))
          case measure => omega
          case rel => exact ⟨op + 1, by omega, rfl, by go_num, HB.out⟩
    · have hd : decide ((op : Int) ≤ 33) = false := by simp; omega
      have q0 := (HB.out.cell (p := ⟨w.heap.size, 0, none⟩) (by simp)).trans Q0.out
      have T5 := Lib.hid (tab_below T0.out HB.out (by have := T.out.big; omega))
      go_wp2_with (first | (go_at_call 39; refine (has_one _).mono ?_; rintro e w' ⟨rfl, rfl⟩) | (go_at_call 27; refine (wakes_any _ T5.out).mono ?_; rintro e w9 ⟨rfl, hb9⟩))
      go_ret
      have hb0 : Below w.heap.size w W0 := HW0.out ▸ below_new w _
      exact ⟨rfl, (hb0.trans (HB.out.mono (by omega))).trans (hb9.mono (by have := HB.out.size; have := Z0.out; omega))⟩
end Go.Proofs.YtgaoelpgdianiaaDoor
