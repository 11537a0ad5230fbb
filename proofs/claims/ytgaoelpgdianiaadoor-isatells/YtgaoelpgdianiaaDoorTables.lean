/-
  Contracts of the program's tables: name, form, latency of an op, where it may stand, which op has a name, the shape of an op's form; and the page's form and latency. Conditions: the tables lie in the world; the op is one, or not, as each says.
-/
import Derived.Test.YtgaoelpgdianiaaDoorPure
namespace Go.Proofs.YtgaoelpgdianiaaDoor
open Go.RowKit

theorem get_of {L : List Value} {f : Nat → Value} {m : Nat} (e : L = (List.range m).map f) {n : Nat} (h : n < L.length) : L[n] = f n := by subst e; simp

set_option maxHeartbeats 400000 in
theorem rform_any (n : Nat) (w : World) (h : n < 34) : Calls Tryd.prog 12 #[.int .i64 n] w (IntBelow (fm n) w) := by
  have c1 : (0 : Int) ≤ (n : Int) := by omega
  have c2 : (n : Int) < 34 := by omega
  go_enter Tryd.func12, Tryd.ntmps12
  go_wp2
  go_ret
  go_simp
  exact ⟨congrArg Ending.returned (get_of (f := fun i => .int .i64 (fm i)) (m := 34) (by kernel_rfl) _), below_new _ _⟩
theorem rlat_any (n : Nat) (w : World) (h : n < 34) : Calls Tryd.prog 13 #[.int .i64 n] w (IntPost (lt n) w) := by
  obtain rfl | rfl | rfl | rfl | rfl | rfl | rfl | rfl | rfl | rfl | rfl | rfl | rfl | rfl | rfl | rfl | rfl | rfl | rfl | rfl | rfl | rfl | rfl | rfl | rfl | rfl | rfl | rfl | rfl | rfl | rfl | rfl | rfl | rfl : n = 0 ∨ n = 1 ∨ n = 2 ∨ n = 3 ∨ n = 4 ∨ n = 5 ∨ n = 6 ∨ n = 7 ∨ n = 8 ∨ n = 9 ∨ n = 10 ∨ n = 11 ∨ n = 12 ∨ n = 13 ∨ n = 14 ∨ n = 15 ∨ n = 16 ∨ n = 17 ∨ n = 18 ∨ n = 19 ∨ n = 20 ∨ n = 21 ∨ n = 22 ∨ n = 23 ∨ n = 24 ∨ n = 25 ∨ n = 26 ∨ n = 27 ∨ n = 28 ∨ n = 29 ∨ n = 30 ∨ n = 31 ∨ n = 32 ∨ n = 33 := by omega
  all_goals
    clear h
    go_enter Tryd.func13, Tryd.ntmps13
    go_wp2
    go_ret
    exact int_mk (by decide)
theorem name_yes (n : Nat) (w : World) (h : n < 34) (H : Tab w) : Calls Tryd.prog 6 #[.int .i64 n] w fun e w' => e = .returned (.tuple #[.string (nm n), .int .i64 0]) ∧ w = w' := by
  obtain ⟨h1, h2, h3, h4⟩ := H.ops n h
  have b1 := H.big
  have c1 : (0 : Int) ≤ (n : Int) := by omega
  have c2 : (n : Int) < 34 := by omega
  clear H
  go_enter Tryd.func6, Tryd.ntmps6
  go_wp2_with (go_at_call 40; refine (isOp_yes _ _ h).mono ?_; rintro e w' ⟨rfl, rfl⟩)
  go_ret2
  exact ⟨rfl, rfl⟩
theorem name_no (op : Int) (w : World) (h : op < 0 ∨ 33 < op) : Calls Tryd.prog 6 #[.int .i64 op] w fun e w' => e = .returned (.tuple #[.string ⟨#[]⟩, .int .i64 1]) ∧ w = w' := by
  have H := Lib.hid h
  clear h
  go_enter Tryd.func6, Tryd.ntmps6
  go_wp2_with (go_at_call 40; refine (isOp_no _ _ H.out).mono ?_; rintro e w' ⟨rfl, rfl⟩)
  go_ret2
  exact ⟨rfl, rfl⟩
theorem form_yes (n : Nat) (w : World) (h : n < 34) (H : Tab w) : Calls Tryd.prog 7 #[.int .i64 n] w fun e w' => e = .returned (.tuple #[.int .i64 (fm n), .int .i64 0]) ∧ w = w' := by
  obtain ⟨h1, h2, h3, h4⟩ := H.ops n h
  have b1 := H.big
  have c1 : (0 : Int) ≤ (n : Int) := by omega
  have c2 : (n : Int) < 34 := by omega
  clear H
  go_enter Tryd.func7, Tryd.ntmps7
  go_wp2_with (go_at_call 40; refine (isOp_yes _ _ h).mono ?_; rintro e w' ⟨rfl, rfl⟩)
  go_ret2
  exact ⟨rfl, rfl⟩
theorem form_no (op : Int) (w : World) (h : op < 0 ∨ 33 < op) : Calls Tryd.prog 7 #[.int .i64 op] w fun e w' => e = .returned (.tuple #[.int .i64 0, .int .i64 1]) ∧ w = w' := by
  have H := Lib.hid h
  clear h
  go_enter Tryd.func7, Tryd.ntmps7
  go_wp2_with (go_at_call 40; refine (isOp_no _ _ H.out).mono ?_; rintro e w' ⟨rfl, rfl⟩)
  go_ret2
  exact ⟨rfl, rfl⟩
theorem lat_yes (n : Nat) (w : World) (h : n < 34) (H : Tab w) : Calls Tryd.prog 8 #[.int .i64 n] w fun e w' => e = .returned (.tuple #[.int .i64 (lt n), .int .i64 0]) ∧ w = w' := by
  obtain ⟨h1, h2, h3, h4⟩ := H.ops n h
  have b1 := H.big
  have c1 : (0 : Int) ≤ (n : Int) := by omega
  have c2 : (n : Int) < 34 := by omega
  clear H
  go_enter Tryd.func8, Tryd.ntmps8
  go_wp2_with (go_at_call 40; refine (isOp_yes _ _ h).mono ?_; rintro e w' ⟨rfl, rfl⟩)
  go_ret2
  exact ⟨rfl, rfl⟩
theorem lat_no (op : Int) (w : World) (h : op < 0 ∨ 33 < op) : Calls Tryd.prog 8 #[.int .i64 op] w fun e w' => e = .returned (.tuple #[.int .i64 0, .int .i64 1]) ∧ w = w' := by
  have H := Lib.hid h
  clear h
  go_enter Tryd.func8, Tryd.ntmps8
  go_wp2_with (go_at_call 40; refine (isOp_no _ _ H.out).mono ?_; rintro e w' ⟨rfl, rfl⟩)
  go_ret2
  exact ⟨rfl, rfl⟩

/-- The shape of an op's form. -/
def ShapePost (f : Nat) (w : World) (e : Ending) (w' : World) : Prop := e = .returned (.agg #[.bool (sd f), .bool (sa f), .bool (sb f), .int .i64 (slo f), .int .i64 (shi f), .bool (stg f)]) ∧ Below w.heap.size w w'
theorem shape_any (n : Nat) (w : World) (h : n < 34) (H : Tab w) : Calls Tryd.prog 48 #[.int .i64 n] w (ShapePost (fm n) w) := by
  obtain ⟨h1, h2, h3, h4⟩ := H.ops n h
  have hf := fm_lt h
  obtain ⟨g0, g1, g2, g3, g4, g5⟩ := H.forms (fm n) hf
  have b1 := H.big
  have b0 : 0 < w.heap.size := by omega
  have b2 : 1 < w.heap.size := by omega
  have c1 : (0 : Int) ≤ (n : Int) := by omega
  have c2 : (n : Int) < 34 := by omega
  have c3 : (0 : Int) ≤ (fm n : Int) := by omega
  have c4 : (fm n : Int) < 10 := by omega
  clear H
  go_enter Tryd.func48, Tryd.ntmps48
  go_wp2
  exact bodyPost_ret (v := .agg #[.bool (sd (fm n)), .bool (sa (fm n)), .bool (sb (fm n)), .int .i64 (slo (fm n)), .int .i64 (shi (fm n)), .bool (stg (fm n))]) (by simp [results, Tryd.results48, go_sem]) rfl ⟨rfl, by first | exact below_new _ _ | exact (below_new _ _).setCell (by simp) _⟩

/-- May an op stand in a slot? -/
def mayB (n : Nat) (s : Nat) : Bool := (sl n).toNat.testBit s
theorem may_bits : ∀ n : Fin 34, ∀ s : Fin 6, (bits BinOp.and IntKind.i64 (sl n.1) (2 ^ s.1) != 0) = mayB n.1 s.1 := by decide +kernel
theorem may_form {n s : Nat} {x : Int} (h : n < 34) (hs : s < 6) (hx : x = 2 ^ s) : (bits BinOp.and IntKind.i64 (sl n) x != 0) = mayB n s := by subst hx; exact may_bits ⟨n, h⟩ ⟨s, hs⟩
def QBool (b : Bool) (w : World) (e : Ending) (w' : World) : Prop := e = .returned (.bool b) ∧ ∃ k, w' = w.drewN k
theorem qbool_mk {b b' : Bool} {w : World} {k : Nat} (h : b' = b) : QBool b w (.returned (.bool b')) (w.drewN k) := by subst h; exact ⟨rfl, k, rfl⟩
theorem may_any (n s : Nat) (w : World) (h : n < 34) (hs : s < 6) (H : Tab w) : Calls Tryd.prog 22 #[.int .i64 n, .int .i64 s] w (QBool (mayB n s) w) := by
  obtain ⟨h1, h2, h3, h4⟩ := H.ops n h
  have b1 := H.big
  have c1 : (0 : Int) ≤ (n : Int) := by omega
  have c2 : (n : Int) < 34 := by omega
  clear H
  have c := Lib.hid (fun W => isOp_yes n W h)
  obtain rfl | rfl | rfl | rfl | rfl | rfl : s = 0 ∨ s = 1 ∨ s = 2 ∨ s = 3 ∨ s = 4 ∨ s = 5 := by omega
  all_goals
    clear hs
    go_enter Tryd.func22, Tryd.ntmps22
    go_wp2_with fail
    go_quiet ((go_at_call 40; exact Calls.quiet_of_same ((c.out _).mono fun _ _ hh => ⟨hh.1, hh.2.symm⟩)))
    go_wp2
    go_ret
    exact qbool_mk (may_form h (by omega) (by decide))
theorem may_neg (n : Nat) (w : World) (h : n < 34) : Calls Tryd.prog 22 #[.int .i64 n, .int .i64 (-1)] w (QBool false w) := by
  have c := Lib.hid (fun W => isOp_yes n W h)
  go_enter Tryd.func22, Tryd.ntmps22
  go_wp2_with fail
  go_quiet ((go_at_call 40; exact Calls.quiet_of_same ((c.out _).mono fun _ _ hh => ⟨hh.1, hh.2.symm⟩)))
  go_wp2
  go_ret
  exact qbool_mk rfl
theorem may_no (op s : Int) (w : World) (h : op < 0 ∨ 33 < op) : Calls Tryd.prog 22 #[.int .i64 op, .int .i64 s] w (QBool false w) := by
  have c := Lib.hid (fun W => isOp_no op W h)
  clear h
  go_enter Tryd.func22, Tryd.ntmps22
  go_wp2_with fail
  go_quiet ((go_at_call 40; exact Calls.quiet_of_same ((c.out _).mono fun _ _ hh => ⟨hh.1, hh.2.symm⟩)))
  go_wp2
  go_ret
  exact qbool_mk rfl

/-! ### Which op has a name -/
theorem nm_ne : ∀ i : Fin 34, ∀ j : Fin 34, i.1 < j.1 → nmL i.1 ≠ nmL j.1 := by decide +kernel
theorem nm_far {i j : Nat} (hj : j < 34) (hi : i < j) : nm i ≠ nm j := by
  intro e
  have : (nmL i).toArray = (nmL j).toArray := congrArg ByteArray.data e
  exact nm_ne ⟨i, by omega⟩ ⟨j, hj⟩ hi (by simpa using this)
def PairPost (x y : Int) (w : World) (e : Ending) (w' : World) : Prop := e = .returned (.tuple #[.int .i64 x, .int .i64 y]) ∧ w = w'
set_option maxHeartbeats 400000 in
theorem op_some (n : Nat) (w : World) (h : n < 34) (H : Tab w) : Calls Tryd.prog 15 #[.string (nm n)] w (PairPost n 0 w) := by
  have T := Lib.hid H
  clear H
  go_enter Tryd.func15, Tryd.ntmps15
  go_wp2
  go_loop [5] (fun o => ∃ i : Nat, i ≤ n ∧ o = .int .i64 i) (fun o => 34 - (intOf o).toNat)
  case atStart => exact ⟨0, by omega, rfl⟩
  case round =>
    obtain ⟨i, hi, rfl⟩ := hrel
    have hd : decide ((i : Int) < 34) = true := by simp; omega
    have i0 : (0 : Int) ≤ (i : Int) := by omega
    have i1 : (i : Int) < 34 := by omega
    obtain ⟨k1, _, _, _⟩ := T.out.ops i (by omega)
    have b1 := T.out.big
    by_cases hlt : i < n
    · have hq := str_ne (nm_far h hlt)
      go_wp2
      go_round
      case rel => exact ⟨i + 1, by omega, by go_num⟩
      case measure => simp [intOf]; omega
    · obtain rfl : i = n := by omega
      have hq : ((nm i).toList == (nm i).toList) = true := beq_self_eq_true _
      go_wp2
      go_ret2
      exact ⟨rfl, rfl⟩
set_option maxHeartbeats 400000 in
theorem op_none (s : ByteArray) (w : World) (H : Tab w) (hno : ∀ i, i < 34 → nm i ≠ s) : Calls Tryd.prog 15 #[.string s] w (PairPost 0 9 w) := by
  have T := Lib.hid H
  have NO := Lib.hid hno
  clear H hno
  go_enter Tryd.func15, Tryd.ntmps15
  go_wp2
  go_loop [5] (fun o => ∃ i : Nat, i ≤ 34 ∧ o = .int .i64 i) (fun o => 34 - (intOf o).toNat)
  case atStart => exact ⟨0, by omega, rfl⟩
  case round =>
    obtain ⟨i, hi, rfl⟩ := hrel
    by_cases hlt : i < 34
    · have hd : decide ((i : Int) < 34) = true := by simp; omega
      have i0 : (0 : Int) ≤ (i : Int) := by omega
      have i1 : (i : Int) < 34 := by omega
      obtain ⟨k1, _, _, _⟩ := T.out.ops i (by omega)
      have b1 := T.out.big
      have hq := str_ne (NO.out i hlt)
      go_wp2
      go_round
      case rel => exact ⟨i + 1, by omega, by go_num⟩
      case measure => simp [intOf]; omega
    · have hd : decide ((i : Int) < 34) = false := by simp; omega
      go_wp2
      go_ret2
      exact ⟨rfl, rfl⟩
end Go.Proofs.YtgaoelpgdianiaaDoor
