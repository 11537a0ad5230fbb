/-
  LexNumbers, walked: on two slices it is true; it makes new memory alone.
-/
import Derived.Test.YtddbfhdhldnoiaaDoorLp
namespace Go.Proofs.YtddbfhdhldnoiaaDoor
open Go.RowKit

theorem rds_from {w : World} {g : Nat} {cs : Array Value} {ss : List ByteArray} {n c : Nat} (h : BK 9 w g cs) (hn : ss.length = n) (hc : ∀ (j : Nat) (s : ByteArray), ss[j]? = some s → cs[j]? = some (Value.string s)) : RdS w (.slice (some ⟨g, 0, none⟩) n c) ss := by
  subst hn
  refine ⟨_, _, rfl, fun _ => ⟨_, rfl, h.lt, fun j s hs => ?_⟩⟩
  have : (⟨g, 0, none⟩ : Addr).add j = ⟨g, j, none⟩ := by
    by_cases h0 : j = 0
    · subst h0; rfl
    · rw [add_pos _ _ h0, Nat.zero_add]
  rw [this, h.cell]
  exact hc j s hs
theorem strs_at (ss : List ByteArray) : ∀ (j : Nat) (s : ByteArray), ss[j]? = some s → (ss.map Value.string).toArray[j]? = some (Value.string s) := fun j s h => by
  rw [List.getElem?_toArray, List.getElem?_map, h]; rfl
/-- The texts that LexNumbers plays. -/
def nuL : List ByteArray := [⟨#[48]⟩, ⟨#[48, 48]⟩, ⟨#[48, 48, 55]⟩, ⟨#[50, 49, 52, 55, 52, 56, 51, 54, 52, 55]⟩, ⟨#[50, 49, 52, 55, 52, 56, 51, 54, 52, 56]⟩, ⟨#[57, 57, 57, 57, 57, 57, 57, 57, 57, 57, 57, 57, 57, 57, 57, 57, 57, 57, 57, 57]⟩, ⟨#[48, 120]⟩, ⟨#[48, 120, 48]⟩, ⟨#[48, 120, 102, 102]⟩, ⟨#[48, 120, 70, 70]⟩, ⟨#[48, 120, 55, 102, 102, 102, 102, 102, 102, 102]⟩, ⟨#[48, 120, 56, 48, 48, 48, 48, 48, 48, 48]⟩, ⟨#[48, 120, 103]⟩, ⟨#[48, 120, 49, 103]⟩, ⟨#[49, 50, 97, 98]⟩, ⟨#[49, 32, 50]⟩, ⟨#[49, 44, 50]⟩, ⟨#[45, 53]⟩, ⟨#[48, 120, 45, 49]⟩, ⟨#[49, 46, 53]⟩, ⟨#[49, 95, 48]⟩, ⟨#[48, 88, 49]⟩, ⟨#[48, 48, 48, 48, 48, 48, 48, 48, 48, 48, 48, 48, 48, 48, 48, 48, 48, 48, 48, 48, 49]⟩, ⟨#[48, 120, 48, 48, 48, 48, 48, 48, 48, 48, 48, 48, 48, 48, 48, 48, 48, 48, 48, 48, 48, 49]⟩]
theorem nu_small : ∀ s ∈ nuL, s.size ≤ maxLen := by
  have h : ∀ s ∈ nuL, s.size ≤ 100 := by decide
  intro s hs
  have := h s hs
  unfold maxLen
  omega
def nuV : Array Value := (nuL.map Value.string).toArray
set_option maxHeartbeats 1000000 in
theorem lexNumbers_walk (A1 A2 : Option Addr) (n1 c1 n2 c2 : Nat) (w : World) (H : Tab w) : Calls Tryd.prog 5 #[.agg #[.slice A1 n1 c1, .slice A2 n2 c2]] w (BoolBelow true w) := by
  have TB := Lib.hid H
  clear H
  have hd : decide ((0 : Int) ≤ (n1 : Int)) = true := by simp
  have hd' : decide ((n1 : Int) ≥ 0) = true := by simp
  go_enter Tryd.func5, Tryd.ntmps5
  go_wp2_with fail
  have B0 := Lib.hid (below_new w (.cells #[.slice A1 n1 c1, .slice A2 n2 c2] 25))
  have B1 := Lib.hid (B0.out.trans ((below_new (w.alloc (.cells #[.slice A1 n1 c1, .slice A2 n2 c2] 25)) (.cells nuV 9)).mono B0.out.size))
  refine (same_any nuL _ _ (rds_from (g := w.heap.size + 1) (cs := nuV) ?k1 rfl (strs_at nuL)) nu_small (by decide) (TB.out.below B1.out)).mono ?_
  case k1 =>
    have h := heap_alloc_new (w.alloc (.cells #[.slice A1 n1 c1, .slice A2 n2 c2] 25)) (.cells nuV 9)
    have hs : (w.alloc (.cells #[.slice A1 n1 c1, .slice A2 n2 c2] 25)).heap.size = w.heap.size + 1 := by simp
    rw [hs] at h
    exact h
  rintro e w1 ⟨rfl, b1⟩
  have B2 := Lib.hid (B1.out.trans (b1.mono B1.out.size))
  clear b1
  go_wp2_with fail
  go_ret
  exact ⟨rfl, B2.out⟩
end Go.Proofs.YtddbfhdhldnoiaaDoor
