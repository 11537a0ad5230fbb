/-
  Slots of an op, the page's names of ops, and where an op may stand by the page. Conditions: the op is from 0 to 33; the tables lie in the world where the program is asked.
-/
import Derived.Test.YtgaoelpgdianiaaDoorOperands
namespace Go.Proofs.YtgaoelpgdianiaaDoor
open Go.RowKit

def slotsTo (n k : Nat) : List Int := (([0, 1, 2, 3] : List Int).take k).filter fun s => mayB n s.toNat
def slotsOf (n : Nat) : List Int := slotsTo n 4
theorem slotsTo_le (n k : Nat) : (slotsTo n k).length ≤ 4 := by
  unfold slotsTo
  refine Nat.le_trans (List.length_filter_le _ _) ?_
  rw [List.length_take]
  exact Nat.min_le_right _ _
theorem slots_step {n k : Nat} (hk : k < 4) : slotsTo n (k + 1) = slotsTo n k ++ (if mayB n k then [(k : Int)] else []) := by
  have e : ([0, 1, 2, 3] : List Int).take (k + 1) = ([0, 1, 2, 3] : List Int).take k ++ [(k : Int)] := by
    obtain rfl | rfl | rfl | rfl : k = 0 ∨ k = 1 ∨ k = 2 ∨ k = 3 := by omega
    all_goals rfl
  unfold slotsTo
  rw [e, List.filter_append]
  congr 1
  simp [List.filter_cons]
theorem slots_may : ∀ n : Fin 34, ∀ s : Fin 6, decide (((s.1 : Nat) : Int) ∈ slotsOf n.1) = mayB n.1 s.1 := by decide +kernel
theorem slots_neg : ∀ n : Fin 34, decide ((-1 : Int) ∈ slotsOf n.1) = false := by decide +kernel

/-- The page's names. -/
def NamesPost (w : World) (e : Ending) (w' : World) : Prop := ∃ g, e = .returned (.slice (some ⟨g, 0, none⟩) 34 34) ∧ g < w'.heap.size ∧ (∀ j, j < 34 → w'.cell? ⟨g, j, none⟩ = some (.string (nm j))) ∧ Below w.heap.size w w'
theorem cell_new (w : World) (cs : Array Value) (t : TypeId) (j : Nat) : (w.alloc (.cells cs t)).cell? ⟨w.heap.size, j, none⟩ = cs[j]? := by simp [go_sem]
theorem names_lit (w : World) (cs : Array Value) (h : cs = ((List.range 34).map fun i => Value.string (nm i)).toArray) (j : Nat) (hj : j < 34) : (w.alloc (.cells cs 9)).cell? ⟨w.heap.size, j, none⟩ = some (.string (nm j)) := by
  subst h
  rw [cell_new, List.getElem?_toArray, List.getElem?_map, List.getElem?_range hj]
  rfl
theorem names_any (w : World) : Calls Tryd.prog 11 #[] w (NamesPost w) := by
  go_enter Tryd.func11, Tryd.ntmps11
  go_wp2
  go_ret
  exact ⟨w.heap.size, rfl, by simp, fun j hj => names_lit w _ (by kernel_rfl) j hj, below_new _ _⟩

theorem lit_nums (w : World) (zs : List Int) (cs : Array Value) (n : Nat) (h : cs = (zs.map (Value.int .i64)).toArray) (hn : zs.length = n) (hl : zs.length ≤ 4) : (w.alloc (.cells cs 3)).ownsRow w.heap.size 3 1 (.slice (some ⟨w.heap.size, 0, none⟩) n n) zs.length (zs.map (Value.int .i64)) := by
  subst h
  subst hn
  have := World.ownsRow_lit (base := w.heap.size) (e := 3) (size := 1) w (zs.map (Value.int .i64)).toArray zs.length (Nat.le_refl _) (by unfold maxLen; omega) (by simp)
  simpa using this
set_option maxHeartbeats 4000000 in
theorem rslots_any (n : Nat) (w : World) (h : n < 34) : Calls Tryd.prog 14 #[.int .i64 n] w (NumsPost (slotsOf n) w) := by
  obtain rfl | rfl | rfl | rfl | rfl | rfl | rfl | rfl | rfl | rfl | rfl | rfl | rfl | rfl | rfl | rfl | rfl | rfl | rfl | rfl | rfl | rfl | rfl | rfl | rfl | rfl | rfl | rfl | rfl | rfl | rfl | rfl | rfl | rfl : n = 0 ∨ n = 1 ∨ n = 2 ∨ n = 3 ∨ n = 4 ∨ n = 5 ∨ n = 6 ∨ n = 7 ∨ n = 8 ∨ n = 9 ∨ n = 10 ∨ n = 11 ∨ n = 12 ∨ n = 13 ∨ n = 14 ∨ n = 15 ∨ n = 16 ∨ n = 17 ∨ n = 18 ∨ n = 19 ∨ n = 20 ∨ n = 21 ∨ n = 22 ∨ n = 23 ∨ n = 24 ∨ n = 25 ∨ n = 26 ∨ n = 27 ∨ n = 28 ∨ n = 29 ∨ n = 30 ∨ n = 31 ∨ n = 32 ∨ n = 33 := by omega
  all_goals
    clear h
    go_enter Tryd.func14, Tryd.ntmps14
    go_wp2
    go_ret
    exact ⟨_, rfl, lit_nums w _ _ _ (by kernel_rfl) (by decide) (slotsTo_le _ _), below_new _ _⟩
theorem rmay_any (n s : Nat) (w : World) (h : n < 34) (hs : s < 6) : Calls Tryd.prog 23 #[.int .i64 n, .int .i64 s] w (BoolBelow (mayB n s) w) := by
  have SM := Lib.hid (slots_may ⟨n, h⟩ ⟨s, hs⟩)
  go_enter Tryd.func23, Tryd.ntmps23
  go_wp2_with (first | (go_at_call 10; refine (valid_yes _ _ h).mono ?_; rintro e w' ⟨rfl, rfl⟩) | (go_at_call 14; refine (rslots_any _ _ h).mono ?_; rintro e w1 ⟨v, rfl, hown, hb⟩) | (go_at_call 42; refine (in_any (slotsOf n) _ v _ (RowAt.of_own hown) (by have := slotsTo_le n 4; unfold slotsOf; omega)).mono ?_; rintro e w' ⟨i, hi, rfl, rfl⟩))
  go_ret
  exact boolb_mk SM.out hb
theorem rmay_neg (n : Nat) (w : World) (h : n < 34) : Calls Tryd.prog 23 #[.int .i64 n, .int .i64 (-1)] w (BoolBelow false w) := by
  have SM := Lib.hid (slots_neg ⟨n, h⟩)
  go_enter Tryd.func23, Tryd.ntmps23
  go_wp2_with (first | (go_at_call 10; refine (valid_yes _ _ h).mono ?_; rintro e w' ⟨rfl, rfl⟩) | (go_at_call 14; refine (rslots_any _ _ h).mono ?_; rintro e w1 ⟨v, rfl, hown, hb⟩) | (go_at_call 42; refine (in_any (slotsOf n) _ v _ (RowAt.of_own hown) (by have := slotsTo_le n 4; unfold slotsOf; omega)).mono ?_; rintro e w' ⟨i, hi, rfl, rfl⟩))
  go_ret
  exact boolb_mk SM.out hb
theorem rmay_no (op s : Int) (w : World) (h : op < 0 ∨ 33 < op) : Calls Tryd.prog 23 #[.int .i64 op, .int .i64 s] w (BoolBelow false w) := by
  have H := Lib.hid h
  clear h
  go_enter Tryd.func23, Tryd.ntmps23
  go_wp2_with (go_at_call 10; refine (valid_no _ _ H.out).mono ?_; rintro e w' ⟨rfl, rfl⟩)
  go_ret
  exact ⟨rfl, Below.refl _ _⟩

set_option maxHeartbeats 4000000 in
theorem slots_yes (n : Nat) (w : World) (h : n < 34) (H : Tab w) : Calls Tryd.prog 9 #[.int .i64 n] w (NumsTwo (slotsOf n) 0 w) := by
  have T := Lib.hid H
  clear H
  go_enter Tryd.func9, Tryd.ntmps9
  go_wp2_with (go_at_call 40; refine (isOp_yes _ _ h).mono ?_; rintro e w' ⟨rfl, rfl⟩)
  go_loopw [4, 5] (fun l o wr2 => ∃ k : Nat, k ≤ 4 ∧ o = .int .i64 k ∧ wr2.ownsRow w.heap.size 3 1 l (slotsTo n k).length ((slotsTo n k).map (Value.int .i64)) ∧ Below w.heap.size w wr2) (fun _ o _ => 4 - (intOf o).toNat)
  case atStart => exact ⟨0, by omega, rfl, World.ownsRow_nil _ _ _ _, Below.refl _ _⟩
  case round =>
    obtain ⟨k, hk, rfl, hown, hb⟩ := hrel
    have HO := Lib.hid hown
    have HB := Lib.hid hb
    have TR := Lib.hid (T.out.below hb)
    clear hown hb
    by_cases hlt : k < 4
    · have ST := Lib.hid (slots_step (n := n) hlt)
      have SL := Lib.hid (slotsTo_le n k)
      cases hm : mayB n k
      · have MA := Lib.hid (show Calls Tryd.prog 22 #[.int .i64 n, .int .i64 k] wr (QBool false wr) from hm ▸ may_any n k wr h (by omega) TR.out)
        have ST2 := Lib.hid (show slotsTo n (k + 1) = slotsTo n k by rw [ST.out, hm]; simp)
        clear hm ST
        obtain rfl | rfl | rfl | rfl : k = 0 ∨ k = 1 ∨ k = 2 ∨ k = 3 := by omega
        all_goals
          go_wp2_with (go_at_call 22; refine MA.out.mono ?_; rintro e w' ⟨rfl, q, rfl⟩)
          go_roundw
          case rel => first | exact ⟨1, by omega, rfl, by rw [ST2.out]; exact HO.out, below_drewN HB.out _⟩ | exact ⟨2, by omega, rfl, by rw [ST2.out]; exact HO.out, below_drewN HB.out _⟩ | exact ⟨3, by omega, rfl, by rw [ST2.out]; exact HO.out, below_drewN HB.out _⟩ | exact ⟨4, by omega, rfl, by rw [ST2.out]; exact HO.out, below_drewN HB.out _⟩
          case measure => simp [intOf]
      · have MA := Lib.hid (show Calls Tryd.prog 22 #[.int .i64 n, .int .i64 k] wr (QBool true wr) from hm ▸ may_any n k wr h (by omega) TR.out)
        have ST2 := Lib.hid (show slotsTo n (k + 1) = slotsTo n k ++ [(k : Int)] by rw [ST.out, hm]; simp)
        clear hm ST
        generalize hX : slotsTo n k = X at *
        have HX := Lib.hid hX
        clear hX
        obtain rfl | rfl | rfl | rfl : k = 0 ∨ k = 1 ∨ k = 2 ∨ k = 3 := by omega
        all_goals
          go_wp2_with (first | (go_at_call 22; refine MA.out.mono ?_; rintro e w' ⟨rfl, q, rfl⟩) | (at_builtin; refine app_one 31 3 8 (.int .i64 0) Tryd.info3 rfl (by decide) Tryd.underlying31 (by rfl) _ _ (by rfl) _ w.heap.size X.length _ _ _ (by rfl) HO.out (by have := SL.out; omega) (by rfl) _ (by rfl) (by simp) ?hb ?_))
          case hb => exact HB.out.size
          intro v' w3 hown hg
          have hbl := app_below (W := wr.drewN q) HO.out hg HB.out.size
          go_wp2
          go_roundw
          case rel => first | exact ⟨1, by omega, rfl, by rw [ST2.out, List.length_append, List.map_append]; exact hown, (below_drewN HB.out _).trans hbl⟩ | exact ⟨2, by omega, rfl, by rw [ST2.out, List.length_append, List.map_append]; exact hown, (below_drewN HB.out _).trans hbl⟩ | exact ⟨3, by omega, rfl, by rw [ST2.out, List.length_append, List.map_append]; exact hown, (below_drewN HB.out _).trans hbl⟩ | exact ⟨4, by omega, rfl, by rw [ST2.out, List.length_append, List.map_append]; exact hown, (below_drewN HB.out _).trans hbl⟩
          case measure => simp [intOf]
    · obtain rfl : k = 4 := by omega
      go_wp2
      go_ret2
      exact ⟨_, rfl, HO.out, HB.out⟩
theorem slots_no (op : Int) (w : World) (h : op < 0 ∨ 33 < op) : Calls Tryd.prog 9 #[.int .i64 op] w (NumsTwo [] 1 w) := by
  have H := Lib.hid h
  clear h
  go_enter Tryd.func9, Tryd.ntmps9
  go_wp2_with (go_at_call 40; refine (isOp_no _ _ H.out).mono ?_; rintro e w' ⟨rfl, rfl⟩)
  go_ret2
  exact ⟨_, rfl, World.ownsRow_nil _ _ _ _, Below.refl _ _⟩
end Go.Proofs.YtgaoelpgdianiaaDoor
