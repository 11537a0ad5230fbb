/-
  The plain numbers of layer 1: what each op makes of two words, as one Lean function, and the small laws that join the program's forms to it. No program is named here.
-/
import Derived.WalkKit
import Derived.Laws.BitsAllLaws
namespace Go.Proofs.YtbgmdikcbglpiaaGreatDoor.Wo
open Go.RowKit

def sg (a : Int) : Int := wrap64 (wrap32 a)

def wV (op a b : Int) : Int :=
  if op = 1 then (a + b) % 4294967296
  else if op = 2 then (a - b) % 4294967296
  else if op = 3 then bits .and .u32 a b
  else if op = 4 then bits .or .u32 a b
  else if op = 5 then bits .xor .u32 a b
  else if op = 6 then a * 2 ^ (b % 32).toNat % 4294967296
  else if op = 7 then a / 2 ^ (b % 32).toNat
  else if op = 8 then sg a / 2 ^ (b % 32).toNat % 4294967296
  else if op = 9 then (if sg a < sg b then 1 else 0)
  else if op = 10 then (if a < b then 1 else 0)
  else if op = 11 then (if a = b then 1 else 0)
  else if op = 12 then (if sg b < sg a then sg b else sg a) % 4294967296
  else if op = 13 then (if sg b > sg a then sg b else sg a) % 4294967296
  else if op = 14 then a * b % 4294967296
  else if op = 15 then wrap64 (sg a * sg b) / 4294967296 % 4294967296
  else if op = 16 then (if b = 0 then 0 else wrap64 ((sg a).tdiv (sg b)) % 4294967296)
  else if op = 17 then (if b = 0 then 0 else (sg a).tmod (sg b) % 4294967296)
  else 0

/-- The error beside it: 0, 7 where the divisor is nought, 1 where the op is none. -/
def wE (op b : Int) : Int :=
  if 1 ≤ op ∧ op ≤ 17 then (if 16 ≤ op ∧ b = 0 then 7 else 0) else 1

theorem sg_wrap (a : Int) : sg a = wrap32 a := by unfold sg wrap64 wrap32; omega
theorem sg_mod (a : Int) : sg a % 4294967296 = a % 4294967296 := by rw [sg_wrap]; unfold wrap32; omega
theorem sg_zero (b : Int) (h : 0 ≤ b) (h' : b ≤ 4294967295) : sg b = 0 ↔ b = 0 := by rw [sg_wrap]; unfold wrap32; omega
theorem wrap64_mod (x : Int) : wrap64 x % 4294967296 = x % 4294967296 := by unfold wrap64; omega
theorem mul_form (a b : Int) : wrap64 (sg a * sg b) % 4294967296 = a * b % 4294967296 := by
  rw [wrap64_mod, Int.mul_emod, sg_mod, sg_mod, ← Int.mul_emod]
theorem and31 (b : Int) (h : 0 ≤ b) (h' : b ≤ 4294967295) : bits .and .u32 b 31 = b % 32 := by
  obtain ⟨n, rfl⟩ := Int.eq_ofNat_of_zero_le h
  have hn : n < 4294967296 := by omega
  have e : (BitVec.ofInt 32 (n : Int)).toNat = n := by
    rw [BitVec.ofInt_natCast, BitVec.toNat_ofNat]; exact Nat.mod_eq_of_lt (by omega)
  show IntKind.u32.wrap ((BitVec.ofInt 32 (n : Int) &&& BitVec.ofInt 32 31).toNat : Int) = _
  rw [BitVec.toNat_and, e]
  have : (BitVec.ofInt 32 31).toNat = 31 := by decide
  rw [this, nat_mask5, IntKind.wrap_u32]
  omega

/-- A word: from 0 to 2^32 - 1. -/
def U32 (x : Int) : Prop := 0 ≤ x ∧ x ≤ 4294967295

section
variable {a b : Int}
theorem wV9t (h : wrap64 (wrap32 a) < wrap64 (wrap32 b)) : 1 = wV 9 a b := by simp [wV, sg, h]
theorem wV9f (h : wrap64 (wrap32 b) ≤ wrap64 (wrap32 a)) : 0 = wV 9 a b := by simp [wV, sg, Int.not_lt.2 h]
theorem wV10t (h : a < b) : 1 = wV 10 a b := by simp [wV, h]
theorem wV10f (h : b ≤ a) : 0 = wV 10 a b := by simp [wV, Int.not_lt.2 h]
theorem wV11t (h : (a == b) = true) : 1 = wV 11 a b := by
  have h' : a = b := by simpa using h
  simp [wV, h']
theorem wV11f (h : (a == b) = false) : 0 = wV 11 a b := by
  have h' : ¬ a = b := by simpa using h
  simp [wV, h']
theorem wV12b (h : wrap64 (wrap32 b) < wrap64 (wrap32 a)) : wrap64 (wrap32 b) % 4294967296 = wV 12 a b := by simp [wV, sg, h]
theorem wV12a (h : wrap64 (wrap32 a) ≤ wrap64 (wrap32 b)) : wrap64 (wrap32 a) % 4294967296 = wV 12 a b := by simp [wV, sg, Int.not_lt.2 h]
theorem wV13b (h : wrap64 (wrap32 a) < wrap64 (wrap32 b)) : wrap64 (wrap32 b) % 4294967296 = wV 13 a b := by simp [wV, sg, h]
theorem wV13a (h : wrap64 (wrap32 b) ≤ wrap64 (wrap32 a)) : wrap64 (wrap32 a) % 4294967296 = wV 13 a b := by simp [wV, sg, Int.not_lt.2 h]
end
end Go.Proofs.YtbgmdikcbglpiaaGreatDoor.Wo
