/-
  Contracts of the program's tables: name, form, latency of an op, where it may stand, which op has a name, the shape of an op's form; and the page's form and latency. Conditions: the tables lie in the world; the op is one, or not, as each says.
-/
import Derived.Test.YtlhdmdhecamlfaaDoorPure
namespace Go.Proofs.YtlhdmdhecamlfaaDoor
open Go.RowKit

theorem get_of {L : List Value} {f : Nat → Value} {m : Nat} (e : L = (List.range m).map f) {n : Nat} (h : n < L.length) : L[n] = f n := by subst e; simp

set_option maxHeartbeats 400000 in
theorem rform_any (n : Nat) (w : World) (h : n < 34) : Calls Tryd.prog 22 #[.int .i64 n] w (IntBelow (fm n) w) := by
  have c1 : (0 : Int) ≤ (n : Int) := by omega
  have c2 : (n : Int) < 34 := by omega
  go_enter Tryd.func22, Tryd.ntmps22
  go_wp2
  go_ret
  go_simp
  exact ⟨congrArg Ending.returned (get_of (f := fun i => .int .i64 (fm i)) (m := 34) (by kernel_rfl) _), below_new _ _⟩
theorem form_yes (n : Nat) (w : World) (h : n < 34) (H : Tab w) : Calls Tryd.prog 29 #[.int .i64 n] w fun e w' => e = .returned (.tuple #[.int .i64 (fm n), .int .i64 0]) ∧ w = w' := by
  obtain ⟨h1, h2, h3, h4⟩ := H.ops n h
  have b1 := H.big
  have c1 : (0 : Int) ≤ (n : Int) := by omega
  have c2 : (n : Int) < 34 := by omega
  clear H
  go_enter Tryd.func29, Tryd.ntmps29
  go_wp2_with (go_at_call 42; refine (isOp_yes _ _ h).mono ?_; rintro e w' ⟨rfl, rfl⟩)
  go_ret2
  exact ⟨rfl, rfl⟩
theorem form_no (op : Int) (w : World) (h : op < 0 ∨ 33 < op) : Calls Tryd.prog 29 #[.int .i64 op] w fun e w' => e = .returned (.tuple #[.int .i64 0, .int .i64 1]) ∧ w = w' := by
  have H := Lib.hid h
  clear h
  go_enter Tryd.func29, Tryd.ntmps29
  go_wp2_with (go_at_call 42; refine (isOp_no _ _ H.out).mono ?_; rintro e w' ⟨rfl, rfl⟩)
  go_ret2
  exact ⟨rfl, rfl⟩
/-- The shape of an op's form. -/
def ShapePost (f : Nat) (w : World) (e : Ending) (w' : World) : Prop := e = .returned (.agg #[.bool (sd f), .bool (sa f), .bool (sb f), .int .i64 (slo f), .int .i64 (shi f), .bool (stg f)]) ∧ Below w.heap.size w w'
theorem shape_any (n : Nat) (w : World) (h : n < 34) (H : Tab w) : Calls Tryd.prog 43 #[.int .i64 n] w (ShapePost (fm n) w) := by
  obtain ⟨h1, h2, h3, h4⟩ := H.ops n h
  have hf := fm_lt h
  obtain ⟨g0, g1, g2, g3, g4, g5⟩ := H.forms (fm n) hf
  have b1 := H.big
  have b0 : 1 < w.heap.size := by omega
  have b2 : 2 < w.heap.size := by omega
  have c1 : (0 : Int) ≤ (n : Int) := by omega
  have c2 : (n : Int) < 34 := by omega
  have c3 : (0 : Int) ≤ (fm n : Int) := by omega
  have c4 : (fm n : Int) < 10 := by omega
  clear H
  go_enter Tryd.func43, Tryd.ntmps43
  go_wp2
  exact bodyPost_ret (v := .agg #[.bool (sd (fm n)), .bool (sa (fm n)), .bool (sb (fm n)), .int .i64 (slo (fm n)), .int .i64 (shi (fm n)), .bool (stg (fm n))]) (by simp [results, Tryd.results43, go_sem]) rfl ⟨rfl, by first | exact below_new _ _ | exact (below_new _ _).setCell (by simp) _⟩

/-- May an op stand in a slot? -/
def mayB (n : Nat) (s : Nat) : Bool := (sl n).toNat.testBit s
theorem may_bits : ∀ n : Fin 34, ∀ s : Fin 6, (bits BinOp.and IntKind.i64 (sl n.1) (2 ^ s.1) != 0) = mayB n.1 s.1 := by decide +kernel
theorem may_form {n s : Nat} {x : Int} (h : n < 34) (hs : s < 6) (hx : x = 2 ^ s) : (bits BinOp.and IntKind.i64 (sl n) x != 0) = mayB n s := by subst hx; exact may_bits ⟨n, h⟩ ⟨s, hs⟩
def QBool (b : Bool) (w : World) (e : Ending) (w' : World) : Prop := e = .returned (.bool b) ∧ ∃ k, w' = w.drewN k
theorem qbool_mk {b b' : Bool} {w : World} {k : Nat} (h : b' = b) : QBool b w (.returned (.bool b')) (w.drewN k) := by subst h; exact ⟨rfl, k, rfl⟩
theorem may_any (n s : Nat) (w : World) (h : n < 34) (hs : s < 6) (H : Tab w) : Calls Tryd.prog 38 #[.int .i64 n, .int .i64 s] w (QBool (mayB n s) w) := by
  obtain ⟨h1, h2, h3, h4⟩ := H.ops n h
  have b1 := H.big
  have c1 : (0 : Int) ≤ (n : Int) := by omega
  have c2 : (n : Int) < 34 := by omega
  clear H
  have c := Lib.hid (fun W => isOp_yes n W h)
  obtain rfl | rfl | rfl | rfl | rfl | rfl : s = 0 ∨ s = 1 ∨ s = 2 ∨ s = 3 ∨ s = 4 ∨ s = 5 := by omega
  all_goals
    clear hs
    go_enter Tryd.func38, Tryd.ntmps38
    go_wp2_with fail
    go_quiet ((go_at_call 42; exact Calls.quiet_of_same ((c.out _).mono fun _ _ hh => ⟨hh.1, hh.2.symm⟩)))
    go_wp2
    go_ret
    exact qbool_mk (may_form h (by omega) (by decide))
theorem may_neg (n : Nat) (w : World) (h : n < 34) : Calls Tryd.prog 38 #[.int .i64 n, .int .i64 (-1)] w (QBool false w) := by
  have c := Lib.hid (fun W => isOp_yes n W h)
  go_enter Tryd.func38, Tryd.ntmps38
  go_wp2_with fail
  go_quiet ((go_at_call 42; exact Calls.quiet_of_same ((c.out _).mono fun _ _ hh => ⟨hh.1, hh.2.symm⟩)))
  go_wp2
  go_ret
  exact qbool_mk rfl
theorem may_no (op s : Int) (w : World) (h : op < 0 ∨ 33 < op) : Calls Tryd.prog 38 #[.int .i64 op, .int .i64 s] w (QBool false w) := by
  have c := Lib.hid (fun W => isOp_no op W h)
  clear h
  go_enter Tryd.func38, Tryd.ntmps38
  go_wp2_with fail
  go_quiet ((go_at_call 42; exact Calls.quiet_of_same ((c.out _).mono fun _ _ hh => ⟨hh.1, hh.2.symm⟩)))
  go_wp2
  go_ret
  exact qbool_mk rfl

/-! ### Which op has a name -/
def PairPost (x y : Int) (w : World) (e : Ending) (w' : World) : Prop := e = .returned (.tuple #[.int .i64 x, .int .i64 y]) ∧ w = w'
end Go.Proofs.YtlhdmdhecamlfaaDoor
