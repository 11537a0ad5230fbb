/-
  Contract of the page's Unword (what its walks share, and a word of no op): which instruction a word is of. Conditions: the word is one of 32 bits.
-/
import Derived.Test.YtlhdmdhecamlfaaDoorInsOf
namespace Go.Proofs.YtlhdmdhecamlfaaDoor
open Go.RowKit

/-- An instruction and a bool; new memory alone. -/
def InsBool (o d a b m : Int) (c : Bool) (w : World) (e : Ending) (w' : World) : Prop := e = .returned (.tuple #[.agg #[.int .i64 o, .int .i64 d, .int .i64 a, .int .i64 b, .int .i64 m, .string ⟨#[]⟩], .bool c]) ∧ Below w.heap.size w w'
def ZeroFalse (w : World) (e : Ending) (w' : World) : Prop := InsBool 0 0 0 0 0 false w e w'
theorem and15 (k : Nat) (x y : Int) (x0 : 0 ≤ x) (x1 : x ≤ 4294967295) (hy : y = x / 2 ^ k) (hk : k ≠ 0) : Go.bits .and .u32 y 15 = ur k x := by
  subst hy
  have h0 : 0 ≤ x / 2 ^ k := Int.ediv_nonneg x0 (Int.pow_nonneg (by decide))
  have h1 : x / 2 ^ k ≤ x := Int.ediv_le_self _ x0
  rw [u32_and _ _ h0 (by omega) (by omega) (by omega)]
  have e : (15 : Int).toNat = 15 := rfl
  rw [e, nat_mask4]
  unfold ur
  rw [if_neg hk]
  omega
theorem ur_bd (k : Nat) (x : Int) : 0 ≤ ur k x ∧ ur k x < 16 := by
  unfold ur
  split <;> omega
theorem calls_any {P : Program} {f : FuncId} {args : Array Value} {w : World} {Q : Ending → World → Prop} (R : World → Prop) (hR : R w) (h : ∀ w', R w' → Calls P f args w' Q) : Calls P f args w Q := h w hR
theorem XB.other {w : World} {g : Nat} {o d a b m : Int} {s : ByteArray} (h : XB w g o d a b m s) {p : Addr} (hp : p.block ≠ g) (u : Value) : XB (w.setCell p u) g o d a b m s := by
  unfold XB at h ⊢
  rw [World.setCell, Array.getElem?_modify, if_neg hp]
  exact h
theorem unw_noop (x : Int) (w : World) (x0 : 0 ≤ x) (x1 : x ≤ 4294967295) (h : 33 < x / 67108864) : Calls Tryd.prog 13 #[.int .u32 x] w (ZeroFalse w) := by
  have VN := Lib.hid (fun W => valid_no (x / 67108864) W (.inr h))
  go_enter Tryd.func13, Tryd.ntmps13
  go_wp2_with (go_at_call 31; refine (VN.out _).mono ?_; rintro e w' ⟨rfl, rfl⟩)
  exact bodyPost_ret (v := .tuple #[.agg #[.int .i64 0, .int .i64 0, .int .i64 0, .int .i64 0, .int .i64 0, .string ⟨#[]⟩], .bool false]) (by simp [results, Tryd.results13, go_sem]) rfl ⟨rfl, below_two _ _ _⟩
end Go.Proofs.YtlhdmdhecamlfaaDoor
