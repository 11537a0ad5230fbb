/-
  The text of an instruction as the page makes it: the same as the program's. Conditions: the instruction may be; the tables lie in the world.
-/
import Derived.Test.YtgaoelpgdianiaaDoorTextOf
import Derived.Test.YtgaoelpgdianiaaDoorSlots
import Derived.Deep.LoopGhost
import Derived.Deep.DeepCutAuto
import Derived.Deep.RegionWith
import Derived.Deep.DrawnRows
namespace Go.Proofs.YtgaoelpgdianiaaDoor
open Go.RowKit
attribute [local go_sem ↓] Go.wp_at_zero Go.wp_at_succ

/-- What the page's loop has made of the first k operands. -/
def acc (n : Nat) (xs : List ByteArray) : Nat → ByteArray
  | 0 => nm n
  | k + 1 => if k = 0 then (acc n xs k ++ ⟨#[32]⟩) ++ xs.getD k ⟨#[]⟩ else (acc n xs k ++ ⟨#[44, 32]⟩) ++ xs.getD k ⟨#[]⟩
theorem acc_size (n : Nat) (xs : List ByteArray) (h : n < 34) (hx : ∀ x ∈ xs, x.size ≤ 40) : ∀ k, (acc n xs k).size ≤ 4 + 42 * k
  | 0 => by have := nm_size h; simpa [acc] using this
  | k + 1 => by
    have ih := acc_size n xs h hx k
    have h1 : (xs.getD k ⟨#[]⟩).size ≤ 40 := by
      rcases Nat.lt_or_ge k xs.length with hk | hk
      · rw [List.getD_eq_getElem?_getD, List.getElem?_eq_getElem hk]; exact hx _ (List.getElem_mem hk)
      · rw [List.getD_eq_getElem?_getD, List.getElem?_eq_none hk]; decide
    have e1 : (⟨#[32]⟩ : ByteArray).size = 1 := rfl
    have e2 : (⟨#[44, 32]⟩ : ByteArray).size = 2 := rfl
    unfold acc
    split
    · rw [ByteArray.size_append, ByteArray.size_append]; omega
    · rw [ByteArray.size_append, ByteArray.size_append]; omega
theorem ba_ext {a b : ByteArray} (h : a.data.toList = b.data.toList) : a = b := by
  obtain ⟨x⟩ := a
  obtain ⟨y⟩ := b
  exact congrArg ByteArray.mk (Array.toList_inj.1 h)
theorem ba_app (a b : ByteArray) : (a ++ b).data.toList = a.data.toList ++ b.data.toList := by
  rw [ByteArray.data_append, Array.toList_append]
theorem joinTail_snoc (r : List (List UInt8)) (y : List UInt8) : Lib.joinTail [44, 32] (r ++ [y]) = Lib.joinTail [44, 32] r ++ ([44, 32] ++ y) := by simp [Lib.joinTail]
theorem acc_list (n : Nat) (x : ByteArray) (r : List ByteArray) : ∀ k, k ≤ r.length → (acc n (x :: r) (k + 1)).data.toList = (nm n).data.toList ++ [32] ++ x.data.toList ++ Lib.joinTail [44, 32] ((r.take k).map (·.data.toList))
  | 0, _ => by
    unfold acc
    rw [if_pos rfl, ba_app, ba_app]
    simp [acc, Lib.joinTail]
  | k + 1, hk => by
    have ih := acc_list n x r k (by omega)
    unfold acc
    rw [if_neg (by omega), ba_app, ba_app, ih]
    have e : (x :: r).getD (k + 1) ⟨#[]⟩ = r[k]'(by omega) := by rw [List.getD_eq_getElem?_getD, List.getElem?_cons_succ, List.getElem?_eq_getElem (by omega)]; rfl
    rw [e, List.take_succ_eq_append_getElem (by omega), List.map_append, List.map_cons, List.map_nil, joinTail_snoc]
    have e2 : (⟨#[44, 32]⟩ : ByteArray).data.toList = [44, 32] := rfl
    rw [e2]
    simp only [List.append_assoc]
theorem acc_txt (n : Nat) (xs : List ByteArray) : acc n xs xs.length = txt n xs := by
  cases xs with
  | nil => rfl
  | cons x r =>
    apply ba_ext
    rw [List.length_cons, acc_list n x r r.length (Nat.le_refl _)]
    unfold txt
    rw [if_neg (by simp), ba_app, ba_app, List.take_length]
    simp [Lib.join_cons, List.append_assoc]

/-- The list while it grows. -/
def RT (B : Nat) (W1 : World) (X : List ByteArray) (v : Value) (wx : World) : Prop := wx.ownsRow B 9 1 v X.length (X.map Value.string) ∧ Below B W1 wx ∧ B ≤ wx.heap.size
theorem RT.step {B : Nat} {W1 wx w2 w3 : World} {X : List ByteArray} {v v' : Value} {u : ByteArray} {ob : Obj} (h : RT B W1 X v wx) (hb : Below wx.heap.size wx w2)
    (hown : w3.ownsRow B 9 1 v' (X.length + 1) (X.map Value.string ++ [.string u])) (hg : (w2.alloc ob).grownBy w3 v.ownBlock) : RT B W1 (X ++ [u]) v' w3 := by
  obtain ⟨h1, h2, h3⟩ := h
  have k1 := own_below h1 hb
  have hs := hb.size
  have hs3 := hg.size
  exact ⟨by rw [List.length_append, List.map_append]; exact hown, (h2.trans (hb.mono h3)).trans (app_below k1 hg (by omega)), by simp at hs3; omega⟩
theorem RT.below {B : Nat} {W1 wx w2 : World} {X : List ByteArray} {v : Value} (h : RT B W1 X v wx) (hb : Below wx.heap.size wx w2) : RT B W1 X v w2 :=
  ⟨own_below h.1 hb, h.2.1.trans (hb.mono h.2.2), Nat.le_trans h.2.2 hb.size⟩
def X1 (f : Nat) (d : Int) : List ByteArray := if sd f then [regT d] else []
def X2 (f : Nat) (d b : Int) : List ByteArray := X1 f d ++ (if f = 5 then [regT b] else [])
def X3 (f : Nat) (d a b : Int) : List ByteArray := X2 f d b ++ (if sa f then [regT a] else [])
def X4 (f : Nat) (d a b : Int) : List ByteArray := X3 f d a b ++ (if f = 1 then [regT b] else [])
def X5 (f : Nat) (d a b m : Int) (s : ByteArray) : List ByteArray := X4 f d a b ++ (if 0 < bt f then [valT m s] else [])
theorem X_ops (f : Nat) (d a b m : Int) (s : ByteArray) (h : f < 10) : X5 f d a b m s = opsL f d a b m s := by
  obtain rfl | rfl | rfl | rfl | rfl | rfl | rfl | rfl | rfl | rfl : f = 0 ∨ f = 1 ∨ f = 2 ∨ f = 3 ∨ f = 4 ∨ f = 5 ∨ f = 6 ∨ f = 7 ∨ f = 8 ∨ f = 9 := by omega
  all_goals rfl
theorem X4_le (f : Nat) (d a b : Int) : (X4 f d a b).length ≤ 10 ∧ (X3 f d a b).length ≤ 10 ∧ (X2 f d b).length ≤ 10 ∧ (X1 f d).length ≤ 10 := by
  unfold X4 X3 X2 X1
  split <;> split <;> split <;> split <;> simp
theorem bt_in : ∀ f : Fin 10, bt f.1 = 0 ∨ bt f.1 = 14 ∨ bt f.1 = 18 := by decide
set_option maxHeartbeats 20000000 in
set_option maxRecDepth 100000 in
theorem rtext_any (n : Nat) (d a b m : Int) (s : ByteArray) (w : World) (h : n < 34) (H : Tab w) (hi : insB n d a b m s = true) :
    Calls Tryd.prog 32 #[.agg #[.int .i64 n, .int .i64 d, .int .i64 a, .int .i64 b, .int .i64 m, .string s]] w (StrBelow (txt n (opsL (fm n) d a b m s)) w) := by
  have T := Lib.hid H
  obtain ⟨pd, pa, pb, pm, ps⟩ := good_parts h hi
  have hf := fm_lt h
  have OS := Lib.hid (opsL_size (fm n) d a b m s pd pa pb pm ps)
  have OE := Lib.hid (opsL_le (fm n) d a b m s)
  have XO := Lib.hid (X_ops (fm n) d a b m s hf)
  have PD := Lib.hid pd
  have PA := Lib.hid pa
  have PB := Lib.hid pb
  have PM := Lib.hid pm
  have PS := Lib.hid ps
  have big := H.big
  clear H pd pa pb pm ps hi
  go_enter Tryd.func32, Tryd.ntmps32
  go_wp2_with fail
  refine (rform_any _ _ h).mono ?_
  rintro e w1 ⟨rfl, hb⟩
  obtain ⟨q, hz, hB⟩ := box_cells hb
  have K := Lib.hid q
  have T1 := Lib.hid ((T.out.alloc _).below hb)
  have HB := Lib.hid hB
  have y1 : w1.cell? ⟨w.heap.size, 1, none⟩ = some (.int .i64 d) := q 1
  clear q hb hB
  go_upto_if 16 with (first | (go_at_call 54; refine (reg54 _ _ PD.out T1.out).mono ?_; rintro e wD ⟨rfl, hbD⟩; have BD := Lib.hid hbD; clear hbD) | (go_at_call 36; refine (hasD_any _ _ hf).mono ?_; rintro e w' ⟨rfl, rfl⟩))
  clear y1
  have RR := Lib.hid (show RT w1.heap.size w1 [] (.slice none 0 0) wD from ⟨World.ownsRow_nil _ _ _ _, BD.out, BD.out.size⟩)
  clear BD
  go_cut [4] (fun s4 wx => RT w1.heap.size w1 (X1 (fm n) d) s4 wx)
  case first =>
    cases hc : sd (fm n)
    · have NX := Lib.hid (show X1 (fm n) d = [] by unfold X1; rw [hc]; rfl)
      go_wp2_with fail
      go_meet
      case rel => rw [NX.out]; exact RR.out
    · have NX := Lib.hid (show X1 (fm n) d = [] ++ [regT d] by unfold X1; rw [hc]; rfl)
      have BG := Lib.hid (Below.refl wD.heap.size wD)
      go_wp2_with (at_builtin; refine app_one 23 9 16 (.string ⟨#[]⟩) Tryd.info9 rfl (by decide) Tryd.underlying23 (by rfl) _ _ (by rfl) _ w1.heap.size 0 _ _ [] (by rfl) (World.ownsRow_nil _ _ _ _) (by decide) (by rfl) _ (by rfl) (by simp) ?hb ?_)
      case hb => exact RR.out.2.2
      intro v7 w7 hown7 hg7
      have R7 := Lib.hid (RR.out.step BG.out hown7 hg7)
      clear hown7 hg7
      go_wp2_with fail
      go_meet
      case rel => rw [NX.out]; exact R7.out
  case rest =>
  clear RR
  have RR := Lib.hid hcut
  clear hcut
  go_upto_if 22 with (fail)
  go_cut [4] (fun s4 wx => RT w1.heap.size w1 (X2 (fm n) d b) s4 wx)
  case first =>
    by_cases hc : fm n = 5
    · have NX := Lib.hid (show X2 (fm n) d b = X1 (fm n) d ++ [regT b] by unfold X2; rw [if_pos hc])
      have e5 : ((fm n : Int) == 5) = true := by rw [hc]; rfl
      clear hc
      have XL := Lib.hid (show (X1 (fm n) d).length ≤ 1000 by have := X4_le (fm n) d a b; omega)
      generalize X1 (fm n) d = X at RR NX XL
      have HW := Lib.hid RR.out.2.1
      have k0 := (HW.out.cell (p := ⟨w.heap.size, 0, none⟩) hz).trans (K.out 0)
      have k1 := (HW.out.cell (p := ⟨w.heap.size, 1, none⟩) hz).trans (K.out 1)
      have k2 := (HW.out.cell (p := ⟨w.heap.size, 2, none⟩) hz).trans (K.out 2)
      have k3 := (HW.out.cell (p := ⟨w.heap.size, 3, none⟩) hz).trans (K.out 3)
      have k4 := (HW.out.cell (p := ⟨w.heap.size, 4, none⟩) hz).trans (K.out 4)
      have k5 := (HW.out.cell (p := ⟨w.heap.size, 5, none⟩) hz).trans (K.out 5)
      go_wp2_with (first | (go_at_call 54; refine (reg54 _ _ PB.out (tab_below T1.out RR.out.2.1 (by have := T1.out.big; omega))).mono ?_; rintro e wG ⟨rfl, hbG⟩; have BG := Lib.hid hbG; clear hbG) | (at_builtin; refine app_one 23 9 16 (.string ⟨#[]⟩) Tryd.info9 rfl (by decide) Tryd.underlying23 (by rfl) _ _ (by rfl) _ w1.heap.size X.length _ _ _ (by rfl) (own_below RR.out.1 BG.out) XL.out (by rfl) _ (by rfl) (by simp) ?hb ?_))
      case hb => have := BG.out.size; have := RR.out.2.2; omega
      intro v7 w7 hown7 hg7
      have R7 := Lib.hid (RR.out.step BG.out hown7 hg7)
      clear hown7 hg7
      go_wp2_with fail
      go_meet
      case rel => rw [NX.out]; exact R7.out
    · have NX := Lib.hid (show X2 (fm n) d b = X1 (fm n) d by unfold X2; rw [if_neg hc, List.append_nil])
      have e5 : ((fm n : Int) == 5) = false := by rw [beq_eq_false_iff_ne]; omega
      clear hc
      go_wp2_with fail
      go_meet
      case rel => rw [NX.out]; exact RR.out
  case rest =>
  clear RR
  have RR := Lib.hid hcut
  clear hcut
  go_upto_if 30 with (go_at_call 37; refine (hasA_any _ _ hf).mono ?_; rintro e w' ⟨rfl, rfl⟩)
  go_cut [4] (fun s4 wx => RT w1.heap.size w1 (X3 (fm n) d a b) s4 wx)
  case first =>
    by_cases hc : sa (fm n) = true
    · have NX := Lib.hid (show X3 (fm n) d a b = X2 (fm n) d b ++ [regT a] by unfold X3; rw [if_pos hc])
      rw [hc]
      have XL := Lib.hid (show (X2 (fm n) d b).length ≤ 1000 by have := X4_le (fm n) d a b; omega)
      generalize X2 (fm n) d b = X at RR NX XL
      have HW := Lib.hid RR.out.2.1
      have k0 := (HW.out.cell (p := ⟨w.heap.size, 0, none⟩) hz).trans (K.out 0)
      have k1 := (HW.out.cell (p := ⟨w.heap.size, 1, none⟩) hz).trans (K.out 1)
      have k2 := (HW.out.cell (p := ⟨w.heap.size, 2, none⟩) hz).trans (K.out 2)
      have k3 := (HW.out.cell (p := ⟨w.heap.size, 3, none⟩) hz).trans (K.out 3)
      have k4 := (HW.out.cell (p := ⟨w.heap.size, 4, none⟩) hz).trans (K.out 4)
      have k5 := (HW.out.cell (p := ⟨w.heap.size, 5, none⟩) hz).trans (K.out 5)
      go_wp2_with (first | (go_at_call 54; refine (reg54 _ _ PA.out (tab_below T1.out RR.out.2.1 (by have := T1.out.big; omega))).mono ?_; rintro e wG ⟨rfl, hbG⟩; have BG := Lib.hid hbG; clear hbG) | (at_builtin; refine app_one 23 9 16 (.string ⟨#[]⟩) Tryd.info9 rfl (by decide) Tryd.underlying23 (by rfl) _ _ (by rfl) _ w1.heap.size X.length _ _ _ (by rfl) (own_below RR.out.1 BG.out) XL.out (by rfl) _ (by rfl) (by simp) ?hb ?_))
      case hb => have := BG.out.size; have := RR.out.2.2; omega
      intro v7 w7 hown7 hg7
      have R7 := Lib.hid (RR.out.step BG.out hown7 hg7)
      clear hown7 hg7
      go_wp2_with fail
      go_meet
      case rel => rw [NX.out]; exact R7.out
    · have NX := Lib.hid (show X3 (fm n) d a b = X2 (fm n) d b by unfold X3; rw [if_neg hc, List.append_nil])
      have hc' : sa (fm n) = false := by simpa using hc
      rw [hc']
      clear hc
      go_wp2_with fail
      go_meet
      case rel => rw [NX.out]; exact RR.out
  case rest =>
  clear RR
  have RR := Lib.hid hcut
  clear hcut
  go_upto_if 38 with (fail)
  go_cut [4] (fun s4 wx => RT w1.heap.size w1 (X4 (fm n) d a b) s4 wx)
  case first =>
    by_cases hc : fm n = 1
    · have NX := Lib.hid (show X4 (fm n) d a b = X3 (fm n) d a b ++ [regT b] by unfold X4; rw [if_pos hc])
      have e5 : ((fm n : Int) == 1) = true := by rw [hc]; rfl
      clear hc
      have XL := Lib.hid (show (X3 (fm n) d a b).length ≤ 1000 by have := X4_le (fm n) d a b; omega)
      generalize X3 (fm n) d a b = X at RR NX XL
      have HW := Lib.hid RR.out.2.1
      have k0 := (HW.out.cell (p := ⟨w.heap.size, 0, none⟩) hz).trans (K.out 0)
      have k1 := (HW.out.cell (p := ⟨w.heap.size, 1, none⟩) hz).trans (K.out 1)
      have k2 := (HW.out.cell (p := ⟨w.heap.size, 2, none⟩) hz).trans (K.out 2)
      have k3 := (HW.out.cell (p := ⟨w.heap.size, 3, none⟩) hz).trans (K.out 3)
      have k4 := (HW.out.cell (p := ⟨w.heap.size, 4, none⟩) hz).trans (K.out 4)
      have k5 := (HW.out.cell (p := ⟨w.heap.size, 5, none⟩) hz).trans (K.out 5)
      go_wp2_with (first | (go_at_call 54; refine (reg54 _ _ PB.out (tab_below T1.out RR.out.2.1 (by have := T1.out.big; omega))).mono ?_; rintro e wG ⟨rfl, hbG⟩; have BG := Lib.hid hbG; clear hbG) | (at_builtin; refine app_one 23 9 16 (.string ⟨#[]⟩) Tryd.info9 rfl (by decide) Tryd.underlying23 (by rfl) _ _ (by rfl) _ w1.heap.size X.length _ _ _ (by rfl) (own_below RR.out.1 BG.out) XL.out (by rfl) _ (by rfl) (by simp) ?hb ?_))
      case hb => have := BG.out.size; have := RR.out.2.2; omega
      intro v7 w7 hown7 hg7
      have R7 := Lib.hid (RR.out.step BG.out hown7 hg7)
      clear hown7 hg7
      go_wp2_with fail
      go_meet
      case rel => rw [NX.out]; exact R7.out
    · have NX := Lib.hid (show X4 (fm n) d a b = X3 (fm n) d a b by unfold X4; rw [if_neg hc, List.append_nil])
      have e5 : ((fm n : Int) == 1) = false := by rw [beq_eq_false_iff_ne]; omega
      clear hc
      go_wp2_with fail
      go_meet
      case rel => rw [NX.out]; exact RR.out
  case rest =>
  clear RR
  have RR := Lib.hid hcut
  clear hcut
  go_upto_if 47 with (go_at_call 53; refine (bits_any _ _ hf).mono ?_; rintro e w' ⟨rfl, rfl⟩)
  go_cut [4] (fun s4 wx => RT w1.heap.size w1 (X5 (fm n) d a b m s) s4 wx)
  case first =>
    by_cases hc : 0 < bt (fm n)
    · have NX := Lib.hid (show X5 (fm n) d a b m s = X4 (fm n) d a b ++ [valT m s] by unfold X5; rw [if_pos hc])
      have dc : decide (0 < bt (fm n)) = true := by simpa using hc
      rw [dc]
      have XL := Lib.hid (show (X4 (fm n) d a b).length ≤ 1000 by have := X4_le (fm n) d a b; omega)
      generalize X4 (fm n) d a b = X at RR NX XL
      have HW := Lib.hid RR.out.2.1
      have k0 := (HW.out.cell (p := ⟨w.heap.size, 0, none⟩) hz).trans (K.out 0)
      have k1 := (HW.out.cell (p := ⟨w.heap.size, 1, none⟩) hz).trans (K.out 1)
      have k2 := (HW.out.cell (p := ⟨w.heap.size, 2, none⟩) hz).trans (K.out 2)
      have k3 := (HW.out.cell (p := ⟨w.heap.size, 3, none⟩) hz).trans (K.out 3)
      have k4 := (HW.out.cell (p := ⟨w.heap.size, 4, none⟩) hz).trans (K.out 4)
      have k5 := (HW.out.cell (p := ⟨w.heap.size, 5, none⟩) hz).trans (K.out 5)
      have hzw : w.heap.size < wc.heap.size := by have := RR.out.2.2; omega
      have TW := Lib.hid (tab_below T1.out RR.out.2.1 (by have := T1.out.big; omega))
      have hz1 := itoa_size m PM.out
      by_cases h0 : s.size = 0
      · have e0 := empty_of h0
        have NV : valT m s = itoa m := by unfold valT; rw [if_pos h0]
        rw [NV] at NX
        subst e0
        clear h0 NV hc
        go_wp2_with (first | (go_at_call 55; refine (itoa_any _ _ PM.out TW.out).mono ?_; rintro e wG ⟨rfl, hbG⟩; have BG := Lib.hid hbG; have g4 := (hbG.cell (p := ⟨w.heap.size, 4, none⟩) hzw).trans k4; have g5 := (hbG.cell (p := ⟨w.heap.size, 5, none⟩) hzw).trans k5; have hzg : w.heap.size < wG.heap.size := Nat.lt_of_lt_of_le hzw hbG.size; have TG := Lib.hid (TW.out.below hbG); clear hbG) | (at_builtin; refine app_one 23 9 16 (.string ⟨#[]⟩) Tryd.info9 rfl (by decide) Tryd.underlying23 (by rfl) _ _ (by rfl) _ w1.heap.size X.length _ _ _ (by rfl) (own_below RR.out.1 BG.out) XL.out (by rfl) _ (by rfl) (by simp) ?hb ?_))
        case hb => have := BG.out.size; have := RR.out.2.2; omega
        intro v7 w7 hown7 hg7
        have R7 := Lib.hid (RR.out.step BG.out hown7 hg7)
        clear hown7 hg7
        go_wp2_with fail
        go_meet
        case rel => rw [NX.out]; exact R7.out
      · have hp : 0 < s.size := by omega
        have hn1 := toList_ne hp
        have hn2 := isEmpty_ne hp
        have hn3 : (s.toList != ([] : List UInt8)) = true := by simpa using hn1
        by_cases h1 : 0 < m
        · have NV : valT m s = (s ++ ⟨#[43]⟩) ++ itoa m := by unfold valT; rw [if_neg h0, if_pos h1]
          rw [NV] at NX
          have d1 : decide (0 < m) = true := by simpa using h1
          have d2 : decide (m < 0) = false := by simp; omega
          have q1 : ¬ 9223372036854775807 < s.size + 1 := by have := PS.out; omega
          have q2 : ¬ 9223372036854775807 < s.size + 1 + (itoa m).size := by have := PS.out; omega
          clear NV hc h0
          go_wp2_with fail
          refine (itoa_any _ _ PM.out TW.out).mono ?_
          rintro e wG ⟨rfl, hbG⟩
          have BG := Lib.hid hbG
          have g4 : wG.cell? ⟨w.heap.size, 4, none⟩ = some (.int .i64 m) := (hbG.cell (p := ⟨w.heap.size, 4, none⟩) hzw).trans k4
          have g5 : wG.cell? ⟨w.heap.size, 5, none⟩ = some (.string s) := (hbG.cell (p := ⟨w.heap.size, 5, none⟩) hzw).trans k5
          have hzg : w.heap.size < wG.heap.size := Nat.lt_of_lt_of_le hzw hbG.size
          have TG := Lib.hid (TW.out.below hbG)
          clear hbG
          go_wp2_with (first | (go_at_call 55; refine (itoa_any _ _ PM.out TG.out).mono ?_; rintro e wI ⟨rfl, hbI⟩; have BI := Lib.hid (BG.out.trans (hbI.mono BG.out.size)); have j4 : wI.cell? ⟨w.heap.size, 4, none⟩ = some (.int .i64 m) := (hbI.cell (p := ⟨w.heap.size, 4, none⟩) hzg).trans g4; have j5 : wI.cell? ⟨w.heap.size, 5, none⟩ = some (.string s) := (hbI.cell (p := ⟨w.heap.size, 5, none⟩) hzg).trans g5; clear hbI) | (at_builtin; refine app_one 23 9 16 (.string ⟨#[]⟩) Tryd.info9 rfl (by decide) Tryd.underlying23 (by rfl) _ _ (by rfl) _ w1.heap.size X.length _ _ _ (by rfl) (own_below RR.out.1 BI.out) XL.out (by rfl) _ (by rfl) (by simp) ?hb ?_))
          case hb => have := BI.out.size; have := RR.out.2.2; omega
          intro v7 w7 hown7 hg7
          have R7 := Lib.hid (RR.out.step BI.out hown7 hg7)
          clear hown7 hg7
          go_wp2_with fail
          go_meet
          case rel => rw [NX.out]; exact R7.out
        · by_cases h2 : m < 0
          · have NV : valT m s = s ++ itoa m := by unfold valT; rw [if_neg h0, if_neg h1, if_pos h2]
            rw [NV] at NX
            have d1 : decide (0 < m) = false := by simp; omega
            have d2 : decide (m < 0) = true := by simpa using h2
            have q2 : ¬ 9223372036854775807 < s.size + (itoa m).size := by have := PS.out; omega
            clear NV hc h0 h1
            go_wp2_with fail
            refine (itoa_any _ _ PM.out TW.out).mono ?_
            rintro e wG ⟨rfl, hbG⟩
            have BG := Lib.hid hbG
            have g4 : wG.cell? ⟨w.heap.size, 4, none⟩ = some (.int .i64 m) := (hbG.cell (p := ⟨w.heap.size, 4, none⟩) hzw).trans k4
            have g5 : wG.cell? ⟨w.heap.size, 5, none⟩ = some (.string s) := (hbG.cell (p := ⟨w.heap.size, 5, none⟩) hzw).trans k5
            have hzg : w.heap.size < wG.heap.size := Nat.lt_of_lt_of_le hzw hbG.size
            have TG := Lib.hid (TW.out.below hbG)
            clear hbG
            go_wp2_with (first | (go_at_call 55; refine (itoa_any _ _ PM.out TG.out).mono ?_; rintro e wI ⟨rfl, hbI⟩; have BI := Lib.hid (BG.out.trans (hbI.mono BG.out.size)); have j4 : wI.cell? ⟨w.heap.size, 4, none⟩ = some (.int .i64 m) := (hbI.cell (p := ⟨w.heap.size, 4, none⟩) hzg).trans g4; have j5 : wI.cell? ⟨w.heap.size, 5, none⟩ = some (.string s) := (hbI.cell (p := ⟨w.heap.size, 5, none⟩) hzg).trans g5; clear hbI) | (at_builtin; refine app_one 23 9 16 (.string ⟨#[]⟩) Tryd.info9 rfl (by decide) Tryd.underlying23 (by rfl) _ _ (by rfl) _ w1.heap.size X.length _ _ _ (by rfl) (own_below RR.out.1 BI.out) XL.out (by rfl) _ (by rfl) (by simp) ?hb ?_))
            case hb => have := BI.out.size; have := RR.out.2.2; omega
            intro v7 w7 hown7 hg7
            have R7 := Lib.hid (RR.out.step BI.out hown7 hg7)
            clear hown7 hg7
            go_wp2_with fail
            go_meet
            case rel => rw [NX.out]; exact R7.out
          · obtain rfl : m = 0 := by omega
            have NV : valT 0 s = s := by unfold valT; rw [if_neg h0, if_neg h1, if_neg h2]
            rw [NV] at NX
            clear NV hc h0 h1 h2
            go_wp2_with (first | (go_at_call 55; refine (itoa_any _ _ PM.out TW.out).mono ?_; rintro e wG ⟨rfl, hbG⟩; have BG := Lib.hid hbG; have g4 := (hbG.cell (p := ⟨w.heap.size, 4, none⟩) hzw).trans k4; have g5 := (hbG.cell (p := ⟨w.heap.size, 5, none⟩) hzw).trans k5; have hzg : w.heap.size < wG.heap.size := Nat.lt_of_lt_of_le hzw hbG.size; have TG := Lib.hid (TW.out.below hbG); clear hbG) | (at_builtin; refine app_one 23 9 16 (.string ⟨#[]⟩) Tryd.info9 rfl (by decide) Tryd.underlying23 (by rfl) _ _ (by rfl) _ w1.heap.size X.length _ _ _ (by rfl) (own_below RR.out.1 BG.out) XL.out (by rfl) _ (by rfl) (by simp) ?hb ?_))
            case hb => have := BG.out.size; have := RR.out.2.2; omega
            intro v7 w7 hown7 hg7
            have R7 := Lib.hid (RR.out.step BG.out hown7 hg7)
            clear hown7 hg7
            go_wp2_with fail
            go_meet
            case rel => rw [NX.out]; exact R7.out

    · have NX := Lib.hid (show X5 (fm n) d a b m s = X4 (fm n) d a b by unfold X5; rw [if_neg hc, List.append_nil])
      have dc : decide (0 < bt (fm n)) = false := by simpa using hc
      rw [dc]
      clear hc
      go_wp2_with fail
      go_meet
      case rel => rw [NX.out]; exact RR.out
  case rest =>
  clear RR
  have RR := Lib.hid hcut
  clear hcut
  rw [XO.out] at RR
  go_upto_region 21 with fail
  go_cut [7] (fun s7 wx => s7 = .string (nm n) ∧ RT w1.heap.size w1 (opsL (fm n) d a b m s) u4 wx)
  case first =>
    have HW := Lib.hid RR.out.2.1
    have k0 := (HW.out.cell (p := ⟨w.heap.size, 0, none⟩) hz).trans (K.out 0)
    have hzw : w.heap.size < wc.heap.size := by have := RR.out.2.2; omega
    have i0 : (0 : Int) ≤ (n : Int) := by omega
    have i1 : (n : Int) < 34 := by omega
    go_region_with (go_at_call 11; refine (names_any _).mono ?_; rintro e wN ⟨gN, rfl, hgN, hcN, hbN⟩; have kN := hcN n h; have z0 := (hbN.cell (p := ⟨w.heap.size, 0, none⟩) hzw).trans k0; have RN := Lib.hid (show RT w1.heap.size w1 (opsL (fm n) d a b m s) u4 wN from RT.below (show RT w1.heap.size w1 (opsL (fm n) d a b m s) u4 wc.drew from ⟨RR.out.1, RR.out.2.1.drew, RR.out.2.2⟩) hbN); clear hcN hbN)
    all_goals
      go_wp2_with fail
      go_meet
      case rel => exact ⟨rfl, RN.out⟩
  case rest =>
  obtain ⟨rfl, hrt⟩ := hcut
  have R9 := Lib.hid hrt
  clear hrt RR
  have AT := Lib.hid (acc_txt n (opsL (fm n) d a b m s))
  have AS := Lib.hid (fun k => acc_size n (opsL (fm n) d a b m s) h OS.out k)
  generalize opsL (fm n) d a b m s = X at *
  have hX4 : X.length ≤ 4 := OE.out
  have hv4 : ∃ A c, u4 = .slice A X.length c := by
    rcases R9.out.1.2 with ⟨rfl, h0⟩ | ⟨g, cap, cur, rfl, _⟩
    · exact ⟨none, 0, by rw [h0]⟩
    · exact ⟨_, _, rfl⟩
  obtain ⟨A, c, rfl⟩ := hv4
  generalize hln : X.length = ln at *
  have HLN := Lib.hid hln
  clear hln
  go_wp2_with fail
  go_loop [7, 8] (fun s7 s8 => ∃ k : Nat, k ≤ ln ∧ s8 = .int .i64 k ∧ s7 = .string (acc n X k)) (fun _ s8 => ln - (intOf s8).toNat)
  case atStart => exact ⟨0, by omega, rfl, rfl⟩
  case round =>
    obtain ⟨k, hk, rfl, rfl⟩ := hrel
    by_cases hlt : k < ln
    · have dk : decide ((k : Int) < (ln : Int)) = true := by simpa using hlt
      have i2 : (0 : Int) ≤ (k : Int) := by omega
      have i3 : (k : Int) < (ln : Int) := by omega
      have hkl : k < X.length := by have := HLN.out; omega
      have hrow := R9.out.1
      rw [HLN.out] at hrow
      obtain ⟨g, cap, hv, _, hgl⟩ := hrow.form (by omega)
      injection hv with hv1 _ hv3
      subst hv1
      have hr := hrow.cellAt k (by omega)
      rw [List.getElem?_map, List.getElem?_eq_getElem hkl] at hr
      simp only [Option.map_some] at hr
      have xz := OS.out _ (List.getElem_mem hkl)
      have GE := Lib.hid (show X.getD k ⟨#[]⟩ = X[k] by rw [List.getD_eq_getElem?_getD, List.getElem?_eq_getElem hkl]; rfl)
      have ak := AS.out k
      generalize X[k] = u at hr xz GE
      clear hv3 hgl hkl hrow
      by_cases h0 : k = 0
      · have e0 : ((k : Int) == 0) = true := by rw [h0]; rfl
        have q1 : ¬ 9223372036854775807 < (acc n X k).size + 1 := by omega
        have q2 : ¬ 9223372036854775807 < (acc n X k).size + 1 + u.size := by omega
        have AC := Lib.hid (show acc n X (k + 1) = (acc n X k ++ ⟨#[32]⟩) ++ u by rw [acc, if_pos h0, GE.out])
        generalize acc n X k = t at *
        clear h0 ak
        go_wp2
        go_round
        case rel => exact ⟨k + 1, by omega, by go_num, by rw [AC.out]⟩
        case measure => simp [intOf]; omega
      · have e0 : ((k : Int) == 0) = false := by rw [beq_eq_false_iff_ne]; omega
        have q1 : ¬ 9223372036854775807 < (acc n X k).size + 2 := by omega
        have q2 : ¬ 9223372036854775807 < (acc n X k).size + 2 + u.size := by omega
        have AC := Lib.hid (show acc n X (k + 1) = (acc n X k ++ ⟨#[44, 32]⟩) ++ u by rw [acc, if_neg h0, GE.out])
        generalize acc n X k = t at *
        clear h0 ak
        go_wp2
        go_round
        case rel => exact ⟨k + 1, by omega, by go_num, by rw [AC.out]⟩
        case measure => simp [intOf]; omega
    · obtain rfl : k = ln := by omega
      have dk : decide ((k : Int) < (k : Int)) = false := by simp
      go_wp2
      go_ret
      exact strb_mk AT.out (HB.out.trans (R9.out.2.1.mono (by omega)))
end Go.Proofs.YtgaoelpgdianiaaDoor
