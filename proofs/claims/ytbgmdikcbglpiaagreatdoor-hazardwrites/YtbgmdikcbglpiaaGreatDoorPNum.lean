/-
  The plain numbers of layer 2: both parts of a word, the word of two parts, what each op makes of two pairs, the norm, as Lean functions, and the small laws that join the program's forms to them. No program is named here.
-/
import Derived.WalkKit
import Derived.Laws.BitsAllLaws
import Derived.Test.YtbgmdikcbglpiaaGreatDoorFloat
namespace Go.Proofs.YtbgmdikcbglpiaaGreatDoor.Pa
open Go.RowKit

/-- A word: from 0 to 2^32 - 1. -/
def U32 (x : Int) : Prop := 0 ≤ x ∧ x ≤ 4294967295
/-- A part: from -2^15 to 2^15 - 1. -/
def I16 (x : Int) : Prop := -32768 ≤ x ∧ x ≤ 32767

def lo (x : Int) : Int := (x + 32768) % 65536 - 32768
def hi (x : Int) : Int := lo (x / 65536)
def mk (r i : Int) : Int := r % 65536 + i % 65536 * 65536
def nrm (x : Int) : Int := lo x * lo x + hi x * hi x

def pV (op a b : Int) : Int :=
  if op = 18 then mk (lo a + lo b) (hi a + hi b)
  else if op = 19 then mk (lo a - lo b) (hi a - hi b)
  else if op = 20 then mk (lo a * lo b - hi a * hi b) (lo a * hi b + hi a * lo b)
  else mk (lo a) (-hi a)

theorem lo_in (x : Int) : I16 (lo x) := by unfold I16 lo; omega
theorem hi_in (x : Int) : I16 (hi x) := lo_in _
theorem mk_in (r i : Int) : U32 (mk r i) := by unfold U32 mk; omega
theorem lo_mk (r i : Int) : lo (mk r i) = lo r := by unfold lo mk; omega
theorem hi_mk (r i : Int) : hi (mk r i) = lo i := by unfold hi lo mk; omega
theorem lo_id {x : Int} (h : I16 x) : lo x = x := by unfold I16 at h; unfold lo; omega
theorem lo_lo (x : Int) : lo (lo x) = lo x := lo_id (lo_in x)
theorem lo_mod (x : Int) : lo x % 65536 = x % 65536 := by unfold lo; omega
theorem mk_back {x : Int} (h : U32 x) : mk (lo x) (hi x) = x := by unfold U32 at h; unfold mk hi lo; omega
theorem mk_eq {r i r' i' : Int} (h : r % 65536 = r' % 65536) (h' : i % 65536 = i' % 65536) : mk r i = mk r' i' := by unfold mk; rw [h, h']
theorem pV_in (op a b : Int) : U32 (pV op a b) := by unfold pV; (repeat' split) <;> exact mk_in _ _

theorem wrap_i16 (x : Int) : wrap64 (IntKind.i16.wrap x) = lo x := by
  have : IntKind.i16.wrap x = lo x := by
    simp only [IntKind.wrap, IntKind.bits, IntKind.signed, lo]
    simp
    omega
  rw [this]
  have := lo_in x
  unfold I16 at this
  unfold wrap64
  omega

theorem and16 (n : Int) (h : U32 n) : bits .and .u32 n 65535 = n % 65536 := by
  obtain ⟨h, h'⟩ := h
  obtain ⟨n, rfl⟩ := Int.eq_ofNat_of_zero_le h
  have e : (BitVec.ofInt 32 (n : Int)).toNat = n := by
    rw [BitVec.ofInt_natCast, BitVec.toNat_ofNat]; exact Nat.mod_eq_of_lt (by omega)
  show IntKind.u32.wrap ((BitVec.ofInt 32 (n : Int) &&& BitVec.ofInt 32 65535).toNat : Int) = _
  rw [BitVec.toNat_and, e]
  have : (BitVec.ofInt 32 65535).toNat = 65535 := by decide
  rw [this, show (65535 : Nat) = 2 ^ 16 - 1 from rfl, Nat.and_two_pow_sub_one_eq_mod, IntKind.wrap_u32]
  omega

theorem or16 (a b : Int) (ha : 0 ≤ a) (ha' : a < 65536) (hb : 0 ≤ b) (hb' : b < 65536) : bits .or .u32 (a * 65536) b = b + a * 65536 := by
  obtain ⟨a, rfl⟩ := Int.eq_ofNat_of_zero_le ha
  obtain ⟨b, rfl⟩ := Int.eq_ofNat_of_zero_le hb
  have e1 : (BitVec.ofInt 32 ((a : Int) * 65536)).toNat = a * 65536 := by
    rw [show (a : Int) * 65536 = ((a * 65536 : Nat) : Int) by omega, BitVec.ofInt_natCast, BitVec.toNat_ofNat]; exact Nat.mod_eq_of_lt (by omega)
  have e2 : (BitVec.ofInt 32 (b : Int)).toNat = b := by
    rw [BitVec.ofInt_natCast, BitVec.toNat_ofNat]; exact Nat.mod_eq_of_lt (by omega)
  show IntKind.u32.wrap ((BitVec.ofInt 32 ((a : Int) * 65536) ||| BitVec.ofInt 32 (b : Int)).toNat : Int) = _
  rw [BitVec.toNat_or, e1, e2]
  have h := Nat.shiftLeft_add_eq_or_of_lt (b := b) (i := 16) (by omega) a
  rw [Nat.shiftLeft_eq] at h
  rw [show a * 65536 = a * 2 ^ 16 from rfl, ← h, IntKind.wrap_u32]
  omega

theorem or16' (a b : Int) (ha : 0 ≤ a) (ha' : a < 65536) (hb : 0 ≤ b) (hb' : b < 65536) : bits .or .u32 b (a * 65536) = b + a * 65536 := by
  rw [← or16 a b ha ha' hb hb']
  show IntKind.u32.wrap ((BitVec.ofInt 32 b ||| BitVec.ofInt 32 (a * 65536)).toNat : Int) = IntKind.u32.wrap ((BitVec.ofInt 32 (a * 65536) ||| BitVec.ofInt 32 b).toNat : Int)
  rw [BitVec.or_comm]

theorem make_form (x y : Int) : bits .or .u32 (IntKind.u16.wrap y % 4294967296 * 65536 % 4294967296) (IntKind.u16.wrap x % 4294967296) = mk x y := by
  rw [IntKind.wrap_u16, IntKind.wrap_u16]
  have e1 : y % 65536 % 4294967296 * 65536 % 4294967296 = y % 65536 * 65536 := by omega
  have e2 : x % 65536 % 4294967296 = x % 65536 := by omega
  rw [e1, e2, or16 _ _ (by omega) (by omega) (by omega) (by omega)]
  rfl

theorem rmake_form (x y : Int) : bits .or .u32 (bits .and .u32 (x % 4294967296) 65535) (bits .and .u32 (y % 4294967296) 65535 * 65536 % 4294967296) = mk x y := by
  rw [and16 _ (by unfold U32; omega), and16 _ (by unfold U32; omega)]
  have e1 : y % 4294967296 % 65536 * 65536 % 4294967296 = y % 65536 * 65536 := by omega
  have e2 : x % 4294967296 % 65536 = x % 65536 := by omega
  rw [e1, e2, or16' _ _ (by omega) (by omega) (by omega) (by omega)]
  rfl

theorem rparts_form (x : Int) (h : U32 x) : wrap64 (IntKind.i16.wrap (bits .and .u32 x 65535)) = lo x := by
  rw [wrap_i16, and16 x h]
  unfold lo
  omega

/-- Products of parts stay far below 2^53. -/
theorem part_abs {x : Int} (h : I16 x) : x.natAbs ≤ 32768 := by unfold I16 at h; omega
theorem mul_abs {x y : Int} (hx : I16 x) (hy : I16 y) : (x * y).natAbs ≤ 1073741824 := by
  rw [Int.natAbs_mul]
  exact Nat.mul_le_mul (part_abs hx) (part_abs hy)
theorem mul_le {x y : Int} (hx : I16 x) (hy : I16 y) : -1073741824 ≤ x * y ∧ x * y ≤ 1073741824 := by
  have := mul_abs hx hy
  omega

/-- The float of a whole number. -/
def fl (n : Int) : Nat := floatOfInt .f64 n
theorem fl_part {x : Int} (h : I16 x) : Fl (fl x) x := fl_of (by have := part_abs h; omega)

theorem csum {op : BinOp} {a b c d : Int} (hop : op = .add ∨ op = .sub) (ha : I16 a) (hb : I16 b) (hc : I16 c) (hd : I16 d) :
    ∃ re im, cSumBits op .f64 (fl a) (fl b) (fl c) (fl d) = some (re, im) ∧ Fl re (if op = .add then a + c else a - c) ∧ Fl im (if op = .add then b + d else b - d) := by
  have h1 := part_abs ha
  have h2 := part_abs hb
  have h3 := part_abs hc
  have h4 := part_abs hd
  rcases hop with rfl | rfl
  · obtain ⟨re, e1, f1⟩ := fl_add (fl_part ha) (fl_part hc) (by omega)
    obtain ⟨im, e2, f2⟩ := fl_add (fl_part hb) (fl_part hd) (by omega)
    exact ⟨re, im, by simp [cSumBits, e1, e2], by simpa using f1, by simpa using f2⟩
  · obtain ⟨re, e1, f1⟩ := fl_sub (fl_part ha) (fl_part hc) (by omega)
    obtain ⟨im, e2, f2⟩ := fl_sub (fl_part hb) (fl_part hd) (by omega)
    exact ⟨re, im, by simp [cSumBits, e1, e2], by simpa using f1, by simpa using f2⟩

theorem cmul {a b c d : Int} {p q r s : Nat} (fa : Fl p a) (fb : Fl q b) (fc : Fl r c) (fd : Fl s d) (h1 : (a * c).natAbs ≤ 1073741824) (h2 : (b * d).natAbs ≤ 1073741824) (h3 : (a * d).natAbs ≤ 1073741824) (h4 : (b * c).natAbs ≤ 1073741824) :
    ∃ re im, cMulBits p q r s = some (re, im) ∧ Fl re (a * c - b * d) ∧ Fl im (a * d + b * c) := by
  obtain ⟨x1, e1, f1⟩ := fl_mul fa fc (by omega)
  obtain ⟨x2, e2, f2⟩ := fl_mul fb fd (by omega)
  obtain ⟨x3, e3, f3⟩ := fl_sub f1 f2 (by omega)
  obtain ⟨x4, e4, f4⟩ := fl_mul fa fd (by omega)
  obtain ⟨x5, e5, f5⟩ := fl_mul fb fc (by omega)
  obtain ⟨x6, e6, f6⟩ := fl_add f4 f5 (by omega)
  exact ⟨x3, x6, by simp [cMulBits, e1, e2, e3, e4, e5, e6], f3, f6⟩
end Go.Proofs.YtbgmdikcbglpiaaGreatDoor.Pa
