/-
  Whole numbers as floats of 64 bits: below 2^53 in magnitude each is exact, and so are sum, difference, product, negative, and the way back to an integer. No program is named here.
-/
import Derived.Laws.ComplexArith
namespace Go.Proofs.YtbgmdikcbglpiaaGreatDoor.Pa

/-- The word of the whole number of sign s and magnitude m (below 2^53). -/
def wd (s : Bool) (m : Nat) : Nat :=
  Ieee.double.word s (if m = 0 then 0 else (m.log2 + 1022) * 4503599627370496 + m * 2 ^ (52 - m.log2))

theorem binade_eq : Ieee.double.binade = 4503599627370496 := by decide
theorem inf_eq : Ieee.double.infRung = 9218868437227405312 := by decide
theorem sign_eq : Ieee.double.signWeight = 9223372036854775808 := by decide
theorem least_eq : Ieee.double.leastPlace = -1074 := by decide
theorem frac_eq : Ieee.double.fractionBits = 52 := rfl

theorem log2_le {m : Nat} (h0 : m ≠ 0) (h : m < 9007199254740992) : m.log2 ≤ 52 := by
  have := (Nat.log2_lt h0 (k := 53)).2 (by omega)
  omega

/-- Scaled to 53 digits. -/
theorem scaled {m : Nat} (h0 : m ≠ 0) (h : m < 9007199254740992) : 4503599627370496 ≤ m * 2 ^ (52 - m.log2) ∧ m * 2 ^ (52 - m.log2) < 9007199254740992 := by
  have hl := log2_le h0 h
  have h1 := Nat.log2_self_le h0
  have h2 := (Nat.lt_log2_self (n := m))
  constructor
  · have : 2 ^ m.log2 * 2 ^ (52 - m.log2) = 4503599627370496 := by rw [← Nat.pow_add, show m.log2 + (52 - m.log2) = 52 by omega]
    rw [← this]
    exact Nat.mul_le_mul_right _ h1
  · have : 2 ^ (m.log2 + 1) * 2 ^ (52 - m.log2) = 9007199254740992 := by rw [← Nat.pow_add, show m.log2 + 1 + (52 - m.log2) = 53 by omega]
    rw [← this]
    exact Nat.mul_lt_mul_of_pos_right h2 (Nat.two_pow_pos _)

theorem log2_shift {m : Nat} (h0 : m ≠ 0) (q : Nat) : (m * 2 ^ q).log2 = m.log2 + q := by
  have hp := Nat.two_pow_pos q
  have hne : m * 2 ^ q ≠ 0 := Nat.mul_ne_zero h0 (by omega)
  rw [Nat.log2_eq_iff hne]
  have h1 := Nat.log2_self_le h0
  have h2 := (Nat.lt_log2_self (n := m))
  constructor
  · rw [Nat.pow_add]; exact Nat.mul_le_mul_right _ h1
  · rw [show m.log2 + q + 1 = (m.log2 + 1) + q by omega, Nat.pow_add]
    exact Nat.mul_lt_mul_of_pos_right h2 hp

theorem cut_exact (way : Ieee.Toward) (neg : Bool) (n d : Nat) (hd : d ≤ (n * 2 ^ d).log2 + 2) : way.cut neg (n * 2 ^ d) d = n := by
  unfold Ieee.Toward.cut
  have hm : min d ((n * 2 ^ d).log2 + 2) = d := Nat.min_eq_left hd
  have hp := Nat.two_pow_pos d
  simp only [hm, Nat.one_shiftLeft, Nat.mul_div_cancel _ hp, Nat.mul_mod_left]
  cases way <;> simp

theorem nearest_exact (s : Bool) (m q : Nat) (h : m < 9007199254740992) : Ieee.double.nearest s (m * 2 ^ q) (-(q : Int)) = wd s m := by
  unfold Ieee.Format.nearest wd
  by_cases h0 : m = 0
  · subst h0; simp
  · have hp := Nat.two_pow_pos q
    have hne : m * 2 ^ q ≠ 0 := Nat.mul_ne_zero h0 (by omega)
    have hl := log2_le h0 h
    obtain ⟨hs1, hs2⟩ := scaled h0 h
    rw [if_neg hne, if_neg h0, log2_shift h0, binade_eq, inf_eq, least_eq, frac_eq]
    have hlast : max (-(q : Int) + ((m.log2 + q : Nat) : Int) - ((52 : Nat) : Int)) (-1074) = (m.log2 : Int) - 52 := by omega
    simp only [hlast]
    have hrung : ((m.log2 : Int) - 52 - -1074).toNat = m.log2 + 1022 := by omega
    rw [hrung]
    have hkept : Ieee.Toward.even.cut s ((m * 2 ^ q) <<< (-(q : Int) - ((m.log2 : Int) - 52)).toNat) ((m.log2 : Int) - 52 - -(q : Int)).toNat = m * 2 ^ (52 - m.log2) := by
      by_cases hq : q ≤ 52 - m.log2
      · have e1 : (-(q : Int) - ((m.log2 : Int) - 52)).toNat = 52 - m.log2 - q := by omega
        have e2 : ((m.log2 : Int) - 52 - -(q : Int)).toNat = 0 := by omega
        rw [e1, e2, Nat.shiftLeft_eq, Nat.mul_assoc, ← Nat.pow_add, show q + (52 - m.log2 - q) = 52 - m.log2 by omega]
        have := cut_exact .even s (m * 2 ^ (52 - m.log2)) 0 (by omega)
        simpa using this
      · have e1 : (-(q : Int) - ((m.log2 : Int) - 52)).toNat = 0 := by omega
        have e2 : ((m.log2 : Int) - 52 - -(q : Int)).toNat = m.log2 + q - 52 := by omega
        rw [e1, e2, Nat.shiftLeft_zero]
        have e3 : m * 2 ^ q = m * 2 ^ (52 - m.log2) * 2 ^ (m.log2 + q - 52) := by
          rw [Nat.mul_assoc, ← Nat.pow_add, show 52 - m.log2 + (m.log2 + q - 52) = q by omega]
        rw [e3]
        refine cut_exact .even s _ _ ?_
        rw [← e3, log2_shift h0]
        omega
    rw [hkept]
    congr 1
    have : m.log2 + 1022 ≤ 1074 := by omega
    have := Nat.mul_le_mul_right 4503599627370496 this
    omega

theorem word_read (s : Bool) (r : Nat) (h : r < 9223372036854775808) : (Ieee.double.word s r / 9223372036854775808 % 2 == 1) = s ∧ Ieee.double.word s r % 9223372036854775808 = r := by
  unfold Ieee.Format.word
  rw [sign_eq]
  cases s
  · simp; omega
  · simp; omega

theorem read_wd (s : Bool) (m : Nat) (h : m < 9007199254740992) : ∃ q : Nat, Ieee.double.read (wd s m) = .number s (m * 2 ^ q) (-(q : Int)) := by
  by_cases h0 : m = 0
  · subst h0
    have key : Ieee.double.read (wd s 0) = .number s 0 (-((1074 : Nat) : Int)) := by cases s <;> rfl
    generalize 1074 = q at key
    exact ⟨q, by rw [Nat.zero_mul]; exact key⟩
  · have hl := log2_le h0 h
    obtain ⟨hs1, hs2⟩ := scaled h0 h
    refine ⟨52 - m.log2, ?_⟩
    have hr : (m.log2 + 1022) * 4503599627370496 + m * 2 ^ (52 - m.log2) < 9223372036854775808 := by
      have : m.log2 + 1022 ≤ 1074 := by omega
      have := Nat.mul_le_mul_right 4503599627370496 this
      omega
    obtain ⟨w1, w2⟩ := word_read s _ hr
    unfold Ieee.Format.read wd
    rw [if_neg h0, sign_eq]
    simp only [w1, w2]
    generalize m * 2 ^ (52 - m.log2) = M at *
    generalize m.log2 = L at *
    rw [binade_eq, inf_eq, least_eq, if_neg (by omega), if_pos (by omega)]
    have e1 : ((L + 1022) * 4503599627370496 + M) % 4503599627370496 = M - 4503599627370496 := by omega
    have e2 : ((L + 1022) * 4503599627370496 + M) / 4503599627370496 = L + 1023 := by omega
    have e3 : 4503599627370496 + (M - 4503599627370496) = M := by omega
    have e4 : (-1074 : Int) + ((L + 1023 - 1 : Nat) : Int) = -((52 - L : Nat) : Int) := by omega
    rw [e1, e2, e3, e4]

theorem signed_eq (s : Bool) (m i q : Nat) (h : i ≤ q) : Ieee.signed s (m * 2 ^ i) (q - i) = (if s then -(m : Int) else (m : Int)) * (2 ^ q : Nat) := by
  unfold Ieee.signed
  rw [Nat.shiftLeft_eq, Nat.mul_assoc, ← Nat.pow_add, show i + (q - i) = q by omega]
  cases s <;> simp [Int.natCast_mul, Int.neg_mul]

def sv (s : Bool) (m : Nat) : Int := if s then -(m : Int) else (m : Int)

theorem sum_num (s t : Bool) (m n i j : Nat) : ∃ u : Bool, ∃ q : Nat, (Ieee.Datum.number s (m * 2 ^ i) (-(i : Int))).sum (.number t (n * 2 ^ j) (-(j : Int))) = some (.number u ((sv s m + sv t n).natAbs * 2 ^ q) (-(q : Int))) ∧ sv u (sv s m + sv t n).natAbs = sv s m + sv t n := by
  let q := max i j
  have hb : min (-(i : Int)) (-(j : Int)) = -(q : Int) := by omega
  have e1 : (-(i : Int) - -(q : Int)).toNat = q - i := by omega
  have e2 : (-(j : Int) - -(q : Int)).toNat = q - j := by omega
  have hp := Nat.two_pow_pos q
  have ht : Ieee.signed s (m * 2 ^ i) (q - i) + Ieee.signed t (n * 2 ^ j) (q - j) = (sv s m + sv t n) * (2 ^ q : Nat) := by
    rw [signed_eq s m i q (by omega), signed_eq t n j q (by omega), Int.add_mul]; rfl
  refine ⟨if (sv s m + sv t n) * (2 ^ q : Nat) = 0 then s && t else decide ((sv s m + sv t n) * (2 ^ q : Nat) < 0), q, ?_, ?_⟩
  · simp only [Ieee.Datum.sum, hb, e1, e2, ht]
    have : ((sv s m + sv t n) * (2 ^ q : Nat)).natAbs = (sv s m + sv t n).natAbs * 2 ^ q := by rw [Int.natAbs_mul, Int.natAbs_natCast]
    rw [this]
  · generalize sv s m + sv t n = x
    have hz : x * ((2 ^ q : Nat) : Int) = 0 ↔ x = 0 := by
      rw [Int.mul_eq_zero]; omega
    have hn : x * ((2 ^ q : Nat) : Int) < 0 ↔ x < 0 := by
      constructor
      · intro h
        by_cases hx : x < 0
        · exact hx
        · exact absurd (Int.mul_nonneg (by omega) (by omega) : 0 ≤ x * ((2 ^ q : Nat) : Int)) (by omega)
      · intro h; exact Int.mul_neg_of_neg_of_pos h (by omega)
    by_cases h0 : x = 0
    · rw [if_pos (hz.2 h0)]; subst h0; cases s <;> cases t <;> simp [sv]
    · rw [if_neg (fun h => h0 (hz.1 h))]
      by_cases hx : x < 0
      · have : decide (x * ((2 ^ q : Nat) : Int) < 0) = true := by simpa using hn.2 hx
        rw [this]; simp only [sv, if_true]; omega
      · have : decide (x * ((2 ^ q : Nat) : Int) < 0) = false := by simpa using fun h => hx (hn.1 h)
        rw [this]; simp only [sv]; simp; omega

/-- The bits b are those of the whole number n (below 2^53 in magnitude); a nought of either sign is nought. -/
def Fl (b : Nat) (n : Int) : Prop := ∃ s m, m < 9007199254740992 ∧ b = wd s m ∧ sv s m = n

theorem sv_abs (s : Bool) (m : Nat) : (sv s m).natAbs = m := by cases s <;> simp [sv]
theorem fl_of {n : Int} (h : n.natAbs < 9007199254740992) : Fl (floatOfInt .f64 n) n := by
  refine ⟨decide (n < 0), n.natAbs, h, ?_, ?_⟩
  · have := nearest_exact (decide (n < 0)) n.natAbs 0 h
    rw [Nat.pow_zero, Nat.mul_one] at this
    exact this
  · unfold sv; by_cases hn : n < 0 <;> simp [hn] <;> omega

theorem fl_add {a b : Nat} {x y : Int} (ha : Fl a x) (hb : Fl b y) (h : (x + y).natAbs < 9007199254740992) : ∃ r, floatBits .add .f64 a b = some r ∧ Fl r (x + y) := by
  obtain ⟨s, m, hm, rfl, rfl⟩ := ha
  obtain ⟨t, n, hn, rfl, rfl⟩ := hb
  obtain ⟨i, hi⟩ := read_wd s m hm
  obtain ⟨j, hj⟩ := read_wd t n hn
  obtain ⟨u, q, e, hu⟩ := sum_num s t m n i j
  refine ⟨wd u (sv s m + sv t n).natAbs, ?_, u, _, h, rfl, hu⟩
  show ((Ieee.double.read (wd s m)).sum (Ieee.double.read (wd t n))).map Ieee.double.write = _
  rw [hi, hj, e]
  exact congrArg some (nearest_exact u _ q h)

theorem sv_not (t : Bool) (n : Nat) : sv (!t) n = -sv t n := by cases t <;> simp [sv]

theorem fl_sub {a b : Nat} {x y : Int} (ha : Fl a x) (hb : Fl b y) (h : (x - y).natAbs < 9007199254740992) : ∃ r, floatBits .sub .f64 a b = some r ∧ Fl r (x - y) := by
  obtain ⟨s, m, hm, rfl, rfl⟩ := ha
  obtain ⟨t, n, hn, rfl, rfl⟩ := hb
  obtain ⟨i, hi⟩ := read_wd s m hm
  obtain ⟨j, hj⟩ := read_wd t n hn
  obtain ⟨u, q, e, hu⟩ := sum_num s (!t) m n i j
  rw [sv_not, ← Int.sub_eq_add_neg] at e hu
  refine ⟨wd u (sv s m - sv t n).natAbs, ?_, u, _, h, rfl, hu⟩
  show ((Ieee.double.read (wd s m)).sum (Ieee.double.read (wd t n)).opposite).map Ieee.double.write = _
  rw [hi, hj]
  show ((Ieee.Datum.number s (m * 2 ^ i) (-(i : Int))).sum (Ieee.Datum.number (!t) (n * 2 ^ j) (-(j : Int)))).map Ieee.double.write = _
  rw [e]
  exact congrArg some (nearest_exact u _ q h)

theorem fl_mul {a b : Nat} {x y : Int} (ha : Fl a x) (hb : Fl b y) (h : (x * y).natAbs < 9007199254740992) : ∃ r, floatBits .mul .f64 a b = some r ∧ Fl r (x * y) := by
  obtain ⟨s, m, hm, rfl, rfl⟩ := ha
  obtain ⟨t, n, hn, rfl, rfl⟩ := hb
  obtain ⟨i, hi⟩ := read_wd s m hm
  obtain ⟨j, hj⟩ := read_wd t n hn
  have hmn : m * n < 9007199254740992 := by rw [Int.natAbs_mul, sv_abs, sv_abs] at h; exact h
  refine ⟨wd (s ^^ t) (m * n), ?_, s ^^ t, m * n, hmn, rfl, ?_⟩
  · show ((Ieee.double.read (wd s m)).product (Ieee.double.read (wd t n))).map Ieee.double.write = _
    rw [hi, hj]
    have := nearest_exact (s ^^ t) (m * n) (i + j) hmn
    refine congrArg some ?_
    show Ieee.double.nearest (s ^^ t) (m * 2 ^ i * (n * 2 ^ j)) (-(i : Int) + -(j : Int)) = _
    rw [← this, Nat.mul_mul_mul_comm, ← Nat.pow_add]
    congr 1
    omega
  · cases s <;> cases t <;> simp [sv, Int.neg_mul, Int.mul_neg]

theorem fl_neg {a : Nat} {x : Int} (ha : Fl a x) : Fl (Op.negFloat .f64 a) (-x) := by
  obtain ⟨s, m, hm, rfl, rfl⟩ := ha
  refine ⟨!s, m, hm, ?_, sv_not s m⟩
  show wd s m ^^^ 2 ^ 63 = wd (!s) m
  have hr : (if m = 0 then 0 else (m.log2 + 1022) * 4503599627370496 + m * 2 ^ (52 - m.log2)) < 2 ^ 63 := by
    split
    · decide
    · rename_i h0
      have hl := log2_le h0 hm
      obtain ⟨hs1, hs2⟩ := scaled h0 hm
      have : m.log2 + 1022 ≤ 1074 := by omega
      have := Nat.mul_le_mul_right 4503599627370496 this
      omega
  unfold wd
  generalize (if m = 0 then 0 else (m.log2 + 1022) * 4503599627370496 + m * 2 ^ (52 - m.log2)) = r at hr
  have hx : r ^^^ 2 ^ 63 = 2 ^ 63 + r := by
    refine Nat.eq_of_testBit_eq fun i => ?_
    rw [Nat.testBit_xor, Nat.testBit_two_pow]
    by_cases hi : 63 = i
    · subst hi
      rw [Nat.testBit_two_pow_add_eq, Nat.testBit_lt_two_pow hr]
      simp
    · by_cases hlt : i < 63
      · rw [Nat.testBit_two_pow_add_gt hlt]; simp [hi]
      · rw [Nat.testBit_lt_two_pow (Nat.lt_of_lt_of_le hr (Nat.pow_le_pow_right (by omega) (by omega))), Nat.testBit_lt_two_pow (x := 2 ^ 63 + r) (Nat.lt_of_lt_of_le (show 2 ^ 63 + r < 2 ^ 64 by omega) (Nat.pow_le_pow_right (by omega) (by omega)))]
        simp [hi]
  unfold Ieee.Format.word
  have hs : Ieee.double.signWeight = 2 ^ 63 := by decide
  cases s
  · simp [hs]
    exact hx
  · simp only [if_true, hs]
    rw [← hx, Nat.xor_assoc, Nat.xor_self]
    simp

theorem fl_int {a : Nat} {x : Int} (ha : Fl a x) : floatToIntVal .f64 a .i64 = some x := by
  obtain ⟨s, m, hm, rfl, rfl⟩ := ha
  obtain ⟨i, hi⟩ := read_wd s m hm
  have hb : IntKind.i64.min ≤ sv s m ∧ sv s m ≤ IntKind.i64.max := by
    have h1 : IntKind.i64.min = -9223372036854775808 := rfl
    have h2 : IntKind.i64.max = 9223372036854775807 := rfl
    rw [h1, h2]
    cases s <;> simp [sv] <;> omega
  have hc : (FloatKind.f64.decode (wd s m)).toInt .zero = some (sv s m) := by
    show (Ieee.double.read (wd s m)).toInt .zero = _
    rw [hi]
    unfold Ieee.Datum.toInt Ieee.Datum.integral
    have e1 : (-(i : Int)).toNat = 0 := by omega
    have e2 : (- -(i : Int)).toNat = i := by omega
    have e3 : Ieee.Toward.zero.cut s (m * 2 ^ i) i = m := by
      by_cases h0 : m = 0
      · subst h0; unfold Ieee.Toward.cut; simp
      · exact cut_exact .zero s m i (by rw [log2_shift h0]; omega)
    simp only [e1, e2, Nat.shiftLeft_zero, e3]
    simp [Ieee.signed, sv]
  unfold floatToIntVal
  rw [hc]
  simp only [hb, and_self, if_true]
end Go.Proofs.YtbgmdikcbglpiaaGreatDoor.Pa
