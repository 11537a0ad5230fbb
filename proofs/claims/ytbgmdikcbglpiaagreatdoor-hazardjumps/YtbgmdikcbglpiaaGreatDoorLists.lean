/-
  Rows in memory: a slice value that reads as a list; that it stays so where memory only grows; equality of two rows of numbers, a number's place in one, a string's place in one. Conditions: at most 100 elements.
-/
import Derived.Test.YtbgmdikcbglpiaaGreatDoorPure
import Derived.Deep.AppendLies
import Derived.Laws.OwnMore
import Derived.Lib.SmallJoins
namespace Go.Proofs.YtbgmdikcbglpiaaGreatDoor
open Go.RowKit

/-- The value is a slice that reads as the list; it lies below the block's number. -/
def RowAt {α : Type} (enc : α → Value) (w : World) (v : Value) (xs : List α) : Prop :=
  ∃ A c, v = .slice A xs.length c ∧ (0 < xs.length → ∃ g, A = some ⟨g, 0, none⟩ ∧ g < w.heap.size ∧ ∀ j x, xs[j]? = some x → w.cell? ⟨g, j, none⟩ = some (enc x))
section
variable {α : Type} {enc : α → Value} {w w' : World} {v : Value} {xs : List α}
theorem RowAt.keep (h : RowAt enc w v xs) (hs : w.heap.size ≤ w'.heap.size) (hk : ∀ p : Addr, p.block < w.heap.size → w'.cell? p = w.cell? p) : RowAt enc w' v xs := by
  obtain ⟨A, c, rfl, hh⟩ := h
  refine ⟨A, c, rfl, fun h0 => ?_⟩
  obtain ⟨g, rfl, hg, hc⟩ := hh h0
  exact ⟨g, rfl, by omega, fun j x hx => (hk ⟨g, j, none⟩ hg).trans (hc j x hx)⟩
theorem RowAt.below (h : RowAt enc w v xs) (hb : Below w.heap.size w w') : RowAt enc w' v xs := h.keep hb.size fun _ hp => hb.cell hp
theorem RowAt.alloc (h : RowAt enc w v xs) (o : Obj) : RowAt enc (w.alloc o) v xs := h.keep (by simp) fun p hp => World.cell?_alloc_lt w o p hp
theorem RowAt.drewN (h : RowAt enc w v xs) (n : Nat) : RowAt enc (w.drewN n) v xs := h
theorem RowAt.of_own {base : Nat} {e : TypeId} (h : w.ownsRow base e 1 v xs.length (xs.map enc)) : RowAt enc w v xs := by
  rcases Nat.eq_zero_or_pos xs.length with h0 | h0
  · rcases h.2 with ⟨rfl, _⟩ | ⟨g, cap, cur, rfl, _⟩
    · exact ⟨none, 0, by rw [h0], fun h1 => absurd h1 (by omega)⟩
    · exact ⟨_, _, rfl, fun h1 => absurd h1 (by omega)⟩
  · obtain ⟨g, cap, rfl, hb, hlt⟩ := h.form h0
    refine ⟨_, _, rfl, fun _ => ⟨g, rfl, hlt, fun j x hx => ?_⟩⟩
    have hj : j < xs.length := (List.getElem?_eq_some_iff.1 hx).1
    rw [h.cellAt j (by omega), List.getElem?_map, hx]
    rfl
theorem RowAt.nil (w : World) : RowAt enc w (.slice none 0 0) [] := ⟨none, 0, rfl, fun h => absurd h (by simp)⟩
end
abbrev Nums := RowAt (Value.int .i64)
abbrev Strs := RowAt Value.string
theorem at_get {α : Type} {l : List α} {j : Nat} (h : j < l.length) : l[j]? = some l[j] := List.getElem?_eq_getElem h
theorem below_drewN {B : Nat} {a w : World} (h : Below B a w) (n : Nat) : Below B a (w.drewN n) := ⟨h.os, h.tape, h.output, h.size, h.block⟩

def QuietBool (b : Bool) (w : World) (e : Ending) (w' : World) : Prop := e = .returned (.bool b) ∧ ∃ k, w' = w.drewN k
end Go.Proofs.YtbgmdikcbglpiaaGreatDoor
