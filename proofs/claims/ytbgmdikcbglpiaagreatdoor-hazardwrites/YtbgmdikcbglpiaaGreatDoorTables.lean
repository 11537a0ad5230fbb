/-
  Contracts of the program's tables: name, form, latency of an op, where it may stand, which op has a name, the shape of an op's form; and the page's form and latency. Conditions: the tables lie in the world; the op is one, or not, as each says.
-/
import Derived.Test.YtbgmdikcbglpiaaGreatDoorPure
namespace Go.Proofs.YtbgmdikcbglpiaaGreatDoor
open Go.RowKit

theorem get_of {L : List Value} {f : Nat → Value} {m : Nat} (e : L = (List.range m).map f) {n : Nat} (h : n < L.length) : L[n] = f n := by subst e; simp

set_option maxHeartbeats 400000 in
theorem rform_any (n : Nat) (w : World) (h : n < 34) : Calls Tryz.prog 32 #[.int .i64 n] w (IntBelow (fm n) w) := by
  have c1 : (0 : Int) ≤ (n : Int) := by omega
  have c2 : (n : Int) < 34 := by omega
  go_enter Tryz.func32, Tryz.ntmps32
  go_wp2
  go_ret
  go_simp
  exact ⟨congrArg Ending.returned (get_of (f := fun i => .int .i64 (fm i)) (m := 34) (by kernel_rfl) _), below_new _ _⟩
/-- The shape of an op's form. -/
def ShapePost (f : Nat) (w : World) (e : Ending) (w' : World) : Prop := e = .returned (.agg #[.bool (sd f), .bool (sa f), .bool (sb f), .int .i64 (slo f), .int .i64 (shi f), .bool (stg f)]) ∧ Below w.heap.size w w'
theorem shape_any (n : Nat) (w : World) (h : n < 34) (H : Tab w) : Calls Tryz.prog 99 #[.int .i64 n] w (ShapePost (fm n) w) := by
  obtain ⟨h1, h2, h3, h4⟩ := H.ops n h
  have hf := fm_lt h
  obtain ⟨g0, g1, g2, g3, g4, g5⟩ := H.forms (fm n) hf
  have b1 := H.big
  have b0 : 1 < w.heap.size := by omega
  have b2 : 0 < w.heap.size := by omega
  have c1 : (0 : Int) ≤ (n : Int) := by omega
  have c2 : (n : Int) < 34 := by omega
  have c3 : (0 : Int) ≤ (fm n : Int) := by omega
  have c4 : (fm n : Int) < 10 := by omega
  clear H
  go_enter Tryz.func99, Tryz.ntmps99
  go_wp2
  exact bodyPost_ret (v := .agg #[.bool (sd (fm n)), .bool (sa (fm n)), .bool (sb (fm n)), .int .i64 (slo (fm n)), .int .i64 (shi (fm n)), .bool (stg (fm n))]) (by simp [results, Tryz.results99, go_sem]) rfl ⟨rfl, by first | exact below_new _ _ | exact (below_new _ _).setCell (by simp) _⟩

/-! ### Which op has a name -/
def PairPost (x y : Int) (w : World) (e : Ending) (w' : World) : Prop := e = .returned (.tuple #[.int .i64 x, .int .i64 y]) ∧ w = w'
end Go.Proofs.YtbgmdikcbglpiaaGreatDoor
