/-
  Where an op may stand, as the program and as the page tells. Conditions: the op is from 0 to 33, or none; the slot is from 0 to 5.
-/
import Derived.Test.YtbgmdikcbglpiaaGreatDoorBdl
namespace Go.Proofs.YtbgmdikcbglpiaaGreatDoor
open Go.RowKit

/-- May an op stand in a slot? -/
def mayB (n : Nat) (s : Nat) : Bool := (sl n).toNat.testBit s
theorem may_bits : ∀ n : Fin 34, ∀ s : Fin 6, (bits BinOp.and IntKind.i64 (sl n.1) (2 ^ s.1) != 0) = mayB n.1 s.1 := by decide +kernel
theorem may_form {n s : Nat} {x : Int} (h : n < 34) (hs : s < 6) (hx : x = 2 ^ s) : (bits BinOp.and IntKind.i64 (sl n) x != 0) = mayB n s := by subst hx; exact may_bits ⟨n, h⟩ ⟨s, hs⟩
def QBool (b : Bool) (w : World) (e : Ending) (w' : World) : Prop := e = .returned (.bool b) ∧ ∃ k, w' = w.drewN k
theorem qbool_mk {b b' : Bool} {w : World} {k : Nat} (h : b' = b) : QBool b w (.returned (.bool b')) (w.drewN k) := by subst h; exact ⟨rfl, k, rfl⟩
theorem may_any (n s : Nat) (w : World) (h : n < 34) (hs : s < 6) (H : Tab w) : Calls Tryz.prog 87 #[.int .i64 n, .int .i64 s] w (QBool (mayB n s) w) := by
  obtain ⟨h1, h2, h3, h4⟩ := H.ops n h
  have b1 := H.big
  have c1 : (0 : Int) ≤ (n : Int) := by omega
  have c2 : (n : Int) < 34 := by omega
  clear H
  have c := Lib.hid (fun W => isOp_yes n W h)
  obtain rfl | rfl | rfl | rfl | rfl | rfl : s = 0 ∨ s = 1 ∨ s = 2 ∨ s = 3 ∨ s = 4 ∨ s = 5 := by omega
  all_goals
    clear hs
    go_enter Tryz.func87, Tryz.ntmps87
    go_wp2_with fail
    go_quiet ((go_at_call 101; exact Calls.quiet_of_same ((c.out _).mono fun _ _ hh => ⟨hh.1, hh.2.symm⟩)))
    go_wp2
    go_ret
    exact qbool_mk (may_form h (by omega) (by decide))
/-- The place of a number, or below nought: its sign tells whether it is there. -/
def InPost (b : Bool) (w : World) (e : Ending) (w' : World) : Prop := ∃ i : Int, decide (0 ≤ i) = b ∧ e = .returned (.int .i64 i) ∧ w = w'
set_option maxHeartbeats 400000 in
theorem in_any (zs : List Int) (x : Int) (v : Value) (w : World) (h : Nums w v zs) (hl : zs.length ≤ 100) : Calls Tryz.prog 76 #[v, .int .i64 x] w (InPost (decide (x ∈ zs)) w) := by
  obtain ⟨A, c, rfl, r⟩ := h
  have R := Lib.hid r
  clear r
  generalize hn : zs.length = n at *
  have HN := Lib.hid hn
  clear hn
  go_enter Tryz.func76, Tryz.ntmps76
  go_wp2
  go_loop [5] (fun o => ∃ i : Nat, i ≤ n ∧ o = .int .i64 i ∧ x ∉ zs.take i) (fun o => n - (intOf o).toNat)
  case atStart => exact ⟨0, by omega, rfl, by simp⟩
  case round =>
    obtain ⟨i, hi, rfl, hx⟩ := hrel
    have HX := Lib.hid hx
    clear hx
    by_cases hlt : i < n
    · have hd : decide ((i : Int) < (n : Int)) = true := by simpa using hlt
      have i0 : (0 : Int) ≤ (i : Int) := by omega
      have i1 : (i : Int) < (n : Int) := by omega
      obtain ⟨g, rfl, hg, q⟩ := R.out (by omega)
      have hil : i < zs.length := by have := HN.out; omega
      have k1 := q i _ (at_get hil)
      have T := Lib.hid (List.take_succ_eq_append_getElem hil)
      have M := Lib.hid (List.getElem_mem hil)
      generalize zs[i] = z at k1 T M
      clear q hg hil
      by_cases he : z = x
      · subst he
        have hq : (z == z) = true := by simp
        go_wp2
        go_ret
        exact ⟨i, by rw [decide_eq_true M.out]; simp, rfl, rfl⟩
      · have hq : (z == x) = false := by simpa using he
        have HE := Lib.hid he
        clear he
        go_wp2
        go_round
        case rel => exact ⟨i + 1, by omega, by go_num, by rw [T.out, List.mem_append]; rintro (h | h); exact HX.out h; simp at h; exact HE.out h.symm⟩
        case measure => simp [intOf]; omega
    · have hd : decide ((i : Int) < (n : Int)) = false := by simp; omega
      go_wp2
      go_ret
      refine ⟨-1, ?_, rfl, rfl⟩
      have : x ∉ zs := by have h3 := HX.out; rwa [List.take_of_length_le (by have := HN.out; omega)] at h3
      rw [decide_eq_false this]; rfl

def NumsPost (zs : List Int) (w : World) (e : Ending) (w' : World) : Prop := ∃ v, e = .returned v ∧ w'.ownsRow w.heap.size 3 1 v zs.length (zs.map (Value.int .i64)) ∧ Below w.heap.size w w'
def slotsTo (n k : Nat) : List Int := (([0, 1, 2, 3] : List Int).take k).filter fun s => mayB n s.toNat
def slotsOf (n : Nat) : List Int := slotsTo n 4
theorem slotsTo_le (n k : Nat) : (slotsTo n k).length ≤ 4 := by
  unfold slotsTo
  refine Nat.le_trans (List.length_filter_le _ _) ?_
  rw [List.length_take]
  exact Nat.min_le_right _ _
theorem slots_step {n k : Nat} (hk : k < 4) : slotsTo n (k + 1) = slotsTo n k ++ (if mayB n k then [(k : Int)] else []) := by
  have e : ([0, 1, 2, 3] : List Int).take (k + 1) = ([0, 1, 2, 3] : List Int).take k ++ [(k : Int)] := by
    obtain rfl | rfl | rfl | rfl : k = 0 ∨ k = 1 ∨ k = 2 ∨ k = 3 := by omega
    all_goals rfl
  unfold slotsTo
  rw [e, List.filter_append]
  congr 1
  simp [List.filter_cons]
theorem slots_may : ∀ n : Fin 34, ∀ s : Fin 6, decide (((s.1 : Nat) : Int) ∈ slotsOf n.1) = mayB n.1 s.1 := by decide +kernel
theorem slots_neg : ∀ n : Fin 34, decide ((-1 : Int) ∈ slotsOf n.1) = false := by decide +kernel

theorem lit_nums (w : World) (zs : List Int) (cs : Array Value) (n : Nat) (h : cs = (zs.map (Value.int .i64)).toArray) (hn : zs.length = n) (hl : zs.length ≤ 4) : (w.alloc (.cells cs 3)).ownsRow w.heap.size 3 1 (.slice (some ⟨w.heap.size, 0, none⟩) n n) zs.length (zs.map (Value.int .i64)) := by
  subst h
  subst hn
  have := World.ownsRow_lit (base := w.heap.size) (e := 3) (size := 1) w (zs.map (Value.int .i64)).toArray zs.length (Nat.le_refl _) (by unfold maxLen; omega) (by simp)
  simpa using this
set_option maxHeartbeats 4000000 in
theorem rslots_any (n : Nat) (w : World) (h : n < 34) : Calls Tryz.prog 35 #[.int .i64 n] w (NumsPost (slotsOf n) w) := by
  obtain rfl | rfl | rfl | rfl | rfl | rfl | rfl | rfl | rfl | rfl | rfl | rfl | rfl | rfl | rfl | rfl | rfl | rfl | rfl | rfl | rfl | rfl | rfl | rfl | rfl | rfl | rfl | rfl | rfl | rfl | rfl | rfl | rfl | rfl : n = 0 ∨ n = 1 ∨ n = 2 ∨ n = 3 ∨ n = 4 ∨ n = 5 ∨ n = 6 ∨ n = 7 ∨ n = 8 ∨ n = 9 ∨ n = 10 ∨ n = 11 ∨ n = 12 ∨ n = 13 ∨ n = 14 ∨ n = 15 ∨ n = 16 ∨ n = 17 ∨ n = 18 ∨ n = 19 ∨ n = 20 ∨ n = 21 ∨ n = 22 ∨ n = 23 ∨ n = 24 ∨ n = 25 ∨ n = 26 ∨ n = 27 ∨ n = 28 ∨ n = 29 ∨ n = 30 ∨ n = 31 ∨ n = 32 ∨ n = 33 := by omega
  all_goals
    clear h
    go_enter Tryz.func35, Tryz.ntmps35
    go_wp2
    go_ret
    exact ⟨_, rfl, lit_nums w _ _ _ (by kernel_rfl) (by decide) (slotsTo_le _ _), below_new _ _⟩
theorem rmay_any (n s : Nat) (w : World) (h : n < 34) (hs : s < 6) : Calls Tryz.prog 90 #[.int .i64 n, .int .i64 s] w (BoolBelow (mayB n s) w) := by
  have SM := Lib.hid (slots_may ⟨n, h⟩ ⟨s, hs⟩)
  go_enter Tryz.func90, Tryz.ntmps90
  go_wp2_with (first | (go_at_call 31; refine (valid_yes _ _ h).mono ?_; rintro e w' ⟨rfl, rfl⟩) | (go_at_call 35; refine (rslots_any _ _ h).mono ?_; rintro e w1 ⟨v, rfl, hown, hb⟩) | (go_at_call 76; refine (in_any (slotsOf n) _ v _ (RowAt.of_own hown) (by have := slotsTo_le n 4; unfold slotsOf; omega)).mono ?_; rintro e w' ⟨i, hi, rfl, rfl⟩))
  go_ret
  exact boolb_mk SM.out hb
theorem rmay_neg (n : Nat) (w : World) (h : n < 34) : Calls Tryz.prog 90 #[.int .i64 n, .int .i64 (-1)] w (BoolBelow false w) := by
  have SM := Lib.hid (slots_neg ⟨n, h⟩)
  go_enter Tryz.func90, Tryz.ntmps90
  go_wp2_with (first | (go_at_call 31; refine (valid_yes _ _ h).mono ?_; rintro e w' ⟨rfl, rfl⟩) | (go_at_call 35; refine (rslots_any _ _ h).mono ?_; rintro e w1 ⟨v, rfl, hown, hb⟩) | (go_at_call 76; refine (in_any (slotsOf n) _ v _ (RowAt.of_own hown) (by have := slotsTo_le n 4; unfold slotsOf; omega)).mono ?_; rintro e w' ⟨i, hi, rfl, rfl⟩))
  go_ret
  exact boolb_mk SM.out hb
theorem rmay_no (op s : Int) (w : World) (h : op < 0 ∨ 33 < op) : Calls Tryz.prog 90 #[.int .i64 op, .int .i64 s] w (BoolBelow false w) := by
  have H := Lib.hid h
  clear h
  go_enter Tryz.func90, Tryz.ntmps90
  go_wp2_with (go_at_call 31; refine (valid_no _ _ H.out).mono ?_; rintro e w' ⟨rfl, rfl⟩)
  go_ret
  exact ⟨rfl, Below.refl _ _⟩

theorem may_at (n s : Nat) (b : Bool) (w : World) (h : n < 34) (hs : s < 6) (H : Tab w) (e : mayB n s = b) : Calls Tryz.prog 87 #[.int .i64 n, .int .i64 s] w (QBool b w) := by subst e; exact may_any n s w h hs H
theorem rmay_at (n s : Nat) (b : Bool) (w : World) (h : n < 34) (hs : s < 6) (e : mayB n s = b) : Calls Tryz.prog 90 #[.int .i64 n, .int .i64 s] w (BoolBelow b w) := by subst e; exact rmay_any n s w h hs
end Go.Proofs.YtbgmdikcbglpiaaGreatDoor
