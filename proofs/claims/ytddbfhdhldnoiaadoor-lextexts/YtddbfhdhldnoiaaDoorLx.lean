/-
  The words of a line as plain functions on lists of bytes: a name, a number in two bases, a sign; blanks between; what ends a line; and how many words may be. No program.
-/
namespace Go.Proofs.YtddbfhdhldnoiaaDoor

/-- A digit, a letter, a letter that is a digit, a blank: of a byte's number. -/
def dgI (x : Int) : Bool := decide (48 ≤ x) && decide (x ≤ 57)
def ltI (x : Int) : Bool := (decide (97 ≤ x) && decide (x ≤ 122)) || decide (x = 95) || decide (x = 46)
def hxI (x : Int) : Bool := decide (97 ≤ x) && decide (x ≤ 102)
def blI (x : Int) : Bool := decide (x = 32) || decide (x = 9)
def dvI (x : Int) : Int := if dgI x then x - 48 else if hxI x then x - 87 else 16
def blk (c : UInt8) : Bool := blI (c.toNat : Int)
def dgt (c : UInt8) : Bool := dgI (c.toNat : Int)
def ltr (c : UInt8) : Bool := ltI (c.toNat : Int)
def nmc (c : UInt8) : Bool := ltr c || dgt c
def hxl (c : UInt8) : Bool := hxI (c.toNat : Int)
def dgb (b : Nat) (c : UInt8) : Bool := dgt c || (b == 16 && hxl c)
def dvl (c : UInt8) : Nat := (dvI (c.toNat : Int)).toNat
theorem dgI_iff {x : Int} : dgI x = true ↔ 48 ≤ x ∧ x ≤ 57 := by unfold dgI; simp
theorem hxI_iff {x : Int} : hxI x = true ↔ 97 ≤ x ∧ x ≤ 102 := by unfold hxI; simp
theorem dvI_bound (x : Int) : 0 ≤ dvI x ∧ dvI x ≤ 16 := by
  unfold dvI
  split
  · next h => rw [dgI_iff] at h; omega
  · split
    · next h => rw [hxI_iff] at h; omega
    · omega
theorem dvl_eq (c : UInt8) : ((dvl c : Nat) : Int) = dvI (c.toNat : Int) := by have := dvI_bound (c.toNat : Int); unfold dvl; omega
theorem dvI_lt10 (x : Int) : dvI x < 10 ↔ dgI x = true := by
  unfold dvI
  split
  · next h => have := dgI_iff.1 h; simp [h]; omega
  · next h =>
    split
    · next h' => have := hxI_iff.1 h'; simp [h]; omega
    · simp [h]
theorem dvI_lt16 (x : Int) : dvI x < 16 ↔ (dgI x || hxI x) = true := by
  unfold dvI
  split
  · next h => have := dgI_iff.1 h; simp [h]; omega
  · next h =>
    split
    · next h' => have := hxI_iff.1 h'; simp [h']; omega
    · next h' => simp [h, h']
theorem dgb_lt {b : Nat} (hb : b = 10 ∨ b = 16) (c : UInt8) : dgb b c = true ↔ dvI (c.toNat : Int) < (b : Int) := by
  rcases hb with rfl | rfl
  · rw [show ((10 : Nat) : Int) = 10 from rfl, dvI_lt10]; simp [dgb, dgt]
  · rw [show ((16 : Nat) : Int) = 16 from rfl, dvI_lt16]; simp [dgb, dgt, hxl]
def sgs : List UInt8 := [44, 58, 43, 45, 42, 40, 41, 64]
def sgn (c : UInt8) : Bool := sgs.contains c
/-- How many of the first bytes are such. -/
def spn (p : UInt8 → Bool) : List UInt8 → Nat
  | [] => 0
  | c :: r => if p c then spn p r + 1 else 0
theorem spn_le (p : UInt8 → Bool) : ∀ l : List UInt8, spn p l ≤ l.length
  | [] => Nat.le_refl _
  | c :: r => by
    unfold spn
    split
    · have := spn_le p r; simp; omega
    · omega
theorem drop_at {l : List UInt8} {k : Nat} (h : k < l.length) : l.drop k = l[k] :: l.drop (k + 1) := List.drop_eq_getElem_cons h
theorem spn_yes {p : UInt8 → Bool} {l : List UInt8} {k : Nat} (h : k < l.length) (hp : p l[k] = true) : spn p (l.drop k) = spn p (l.drop (k + 1)) + 1 := by
  rw [drop_at h, spn, if_pos hp]
theorem spn_no {p : UInt8 → Bool} {l : List UInt8} {k : Nat} (h : k < l.length) (hp : p l[k] = false) : spn p (l.drop k) = 0 := by
  rw [drop_at h, spn, if_neg (by simp [hp])]
theorem spn_end {p : UInt8 → Bool} {l : List UInt8} {k : Nat} (h : l.length ≤ k) : spn p (l.drop k) = 0 := by
  rw [List.drop_of_length_le h]; rfl
/-- The number that the digits tell with which a text goes on, behind a number that has been told. -/
def fin (b : Nat) (n : Nat) : List UInt8 → Nat
  | [] => n
  | c :: r => if dgb b c then fin b (n * b + dvl c) r else n
theorem fin_ge {b : Nat} (hb : 0 < b) : ∀ (l : List UInt8) (n : Nat), n ≤ fin b n l
  | [], n => Nat.le_refl _
  | c :: r, n => by
    unfold fin
    split
    · exact Nat.le_trans (Nat.le_trans (Nat.le_mul_of_pos_right _ hb) (Nat.le_add_right _ _)) (fin_ge hb r (n * b + dvl c))
    · exact Nat.le_refl _
theorem fin_yes {b n : Nat} {l : List UInt8} {k : Nat} (h : k < l.length) (hp : dgb b l[k] = true) : fin b n (l.drop k) = fin b (n * b + dvl l[k]) (l.drop (k + 1)) := by
  rw [drop_at h, fin, if_pos hp]
theorem fin_no {b n : Nat} {l : List UInt8} {k : Nat} (h : k < l.length) (hp : dgb b l[k] = false) : fin b n (l.drop k) = n := by
  rw [drop_at h, fin, if_neg (by simp [hp])]
theorem fin_end {b n : Nat} {l : List UInt8} {k : Nat} (h : l.length ≤ k) : fin b n (l.drop k) = n := by
  rw [List.drop_of_length_le h]; rfl
/-- The digits by themselves tell the same. -/
theorem fin_take (b : Nat) : ∀ (l m : List UInt8) (n : Nat), (∀ c ∈ l, dgb b c = true) → (∀ c, m.head? = some c → dgb b c = false) → fin b n l = fin b n (l ++ m)
  | [], m, n, _, h => by
    cases m with
    | nil => rfl
    | cons c r => simp only [List.nil_append, fin, h c rfl]; rfl
  | c :: r, m, n, h, h' => by
    simp only [List.cons_append, fin, h c (List.mem_cons_self ..), if_true]
    exact fin_take b r m _ (fun x hx => h x (List.mem_cons_of_mem _ hx)) h'
theorem spn_take (p : UInt8 → Bool) : ∀ l : List UInt8, ∀ c ∈ l.take (spn p l), p c = true
  | [], c, h => by simp at h
  | x :: r, c, h => by
    unfold spn at h
    split at h
    · next hx =>
      rw [List.take_succ_cons] at h
      rcases List.mem_cons.1 h with rfl | h
      · exact hx
      · exact spn_take p r c h
    · simp at h
theorem spn_head (p : UInt8 → Bool) : ∀ l : List UInt8, ∀ c, (l.drop (spn p l)).head? = some c → p c = false
  | [], c, h => by simp at h
  | x :: r, c, h => by
    unfold spn at h
    split at h
    · rw [List.drop_succ_cons] at h; exact spn_head p r c h
    · next hx =>
      simp at h
      subst h
      simpa using hx
theorem fin_spn (b n : Nat) (l : List UInt8) : fin b n (l.take (spn (dgb b) l)) = fin b n l := by
  have h := fin_take b (l.take (spn (dgb b) l)) (l.drop (spn (dgb b) l)) n (spn_take _ l) (spn_head _ l)
  rw [h, List.take_append_drop]

/-- A word: its kind, its text, its number, where it begins. -/
structure Tk where
  k : Int
  t : List UInt8
  n : Int
  a : Int
def hex0 (r : List UInt8) : Bool := [48, 120].isPrefixOf r
/-- The word that a text begins with, and how long it is. -/
def wd1 : List UInt8 → Option (Tk × Nat)
  | [] => none
  | c :: q =>
    if ltr c then (if spn nmc (c :: q) ≤ 12 then some (⟨1, (c :: q).take (spn nmc (c :: q)), 0, 0⟩, spn nmc (c :: q)) else none)
    else if dgt c then
      (if hex0 (c :: q) then
        (if spn (dgb 16) ((c :: q).drop 2) = 0 ∨ 2147483648 ≤ fin 16 0 ((c :: q).drop 2) then none
          else some (⟨2, [], (fin 16 0 ((c :: q).drop 2) : Nat), 0⟩, spn (dgb 16) ((c :: q).drop 2) + 2))
        else (if 2147483648 ≤ fin 10 0 (c :: q) then none else some (⟨2, [], (fin 10 0 (c :: q) : Nat), 0⟩, spn (dgb 10) (c :: q))))
    else if sgn c then some (⟨3, [c], 0, 0⟩, 1) else none
/-- The words of what is left of a line: they, where the fault is, which one (5: none may stand here; 4: too many). -/
def W : Nat → List UInt8 → Nat → List Tk → List Tk × Nat × Nat
  | 0, _, _, _ => ([], 0, 0)
  | _ + 1, [], _, acc => (acc, 0, 0)
  | f + 1, c :: r, at_, acc =>
    if blk c then W f r (at_ + 1) acc
    else if c == 59 then (acc, 0, 0)
    else match wd1 (c :: r) with
      | none => ([], at_, 3)
      | some (t, n) => if 40 ≤ acc.length then ([], at_, 2) else W f ((c :: r).drop n) (at_ + n) (acc ++ [⟨t.k, t.t, t.n, at_⟩])
theorem wd1_pos {l : List UInt8} {t : Tk} {n : Nat} (h : wd1 l = some (t, n)) : 1 ≤ n ∧ n ≤ l.length := by
  match l, h with
  | c :: q, h =>
    have hn := spn_le nmc (c :: q)
    have h16 := spn_le (dgb 16) ((c :: q).drop 2)
    have h10 := spn_le (dgb 10) (c :: q)
    simp only [List.length_drop, List.length_cons] at hn h16 h10
    simp only [wd1] at h
    split at h
    · next hl =>
      split at h
      · have hs : spn nmc (c :: q) = spn nmc q + 1 := by simp [spn, nmc, hl]
        simp only [Option.some.injEq, Prod.mk.injEq] at h
        obtain ⟨-, rfl⟩ := h
        simp only [List.length_cons]
        omega
      · simp at h
    · split at h
      · next hd =>
        split at h
        · split at h
          · simp at h
          · next hz =>
            simp only [Option.some.injEq, Prod.mk.injEq] at h
            obtain ⟨-, rfl⟩ := h
            simp only [List.length_cons]
            omega
        · split at h
          · simp at h
          · have hs : spn (dgb 10) (c :: q) = spn (dgb 10) q + 1 := by simp [spn, dgb, hd]
            simp only [Option.some.injEq, Prod.mk.injEq] at h
            obtain ⟨-, rfl⟩ := h
            simp only [List.length_cons]
            omega
      · split at h
        · simp only [Option.some.injEq, Prod.mk.injEq] at h
          obtain ⟨-, rfl⟩ := h
          simp only [List.length_cons]
          omega
        · simp at h
/-- More fuel than bytes turns nothing. -/
theorem W_fuel : ∀ (f g : Nat) (l : List UInt8) (at_ : Nat) (acc : List Tk), l.length < f → l.length < g → W f l at_ acc = W g l at_ acc
  | 0, _, l, _, _, h, _ => absurd h (Nat.not_lt_zero _)
  | _, 0, l, _, _, _, h => absurd h (Nat.not_lt_zero _)
  | f + 1, g + 1, [], _, _, _, _ => rfl
  | f + 1, g + 1, c :: r, at_, acc, hf, hg => by
    simp only [List.length_cons] at hf hg
    simp only [W]
    split
    · exact W_fuel f g r _ _ (by omega) (by omega)
    · split
      · rfl
      · cases hw : wd1 (c :: r) with
        | none => rfl
        | some x =>
          obtain ⟨t, n⟩ := x
          have hp := wd1_pos hw
          simp only [List.length_cons] at hp
          simp only
          split
          · rfl
          · exact W_fuel f g _ _ _ (by rw [List.length_drop, List.length_cons]; omega) (by rw [List.length_drop, List.length_cons]; omega)
/-- The words of a line from a place on, behind words that stand ahead. -/
def Wd (l : List UInt8) (k : Nat) (acc : List Tk) : List Tk × Nat × Nat := W ((l.drop k).length + 1) (l.drop k) k acc
theorem Wd_end {l : List UInt8} {k : Nat} {acc : List Tk} (h : l.length ≤ k) : Wd l k acc = (acc, 0, 0) := by
  unfold Wd; rw [List.drop_of_length_le h]; rfl
theorem Wd_blank {l : List UInt8} {k : Nat} {acc : List Tk} (h : k < l.length) (hb : blk l[k] = true) : Wd l k acc = Wd l (k + 1) acc := by
  unfold Wd; rw [drop_at h, W, if_pos hb]; exact W_fuel _ _ _ _ _ (by simp; omega) (by simp)
theorem Wd_rem {l : List UInt8} {k : Nat} {acc : List Tk} (h : k < l.length) (hb : l[k] = 59) : Wd l k acc = (acc, 0, 0) := by
  unfold Wd; rw [drop_at h, W, hb]; rfl
theorem Wd_none {l : List UInt8} {k : Nat} {acc : List Tk} (h : k < l.length) (hb : blk l[k] = false) (hs : l[k] ≠ 59) (hw : wd1 (l.drop k) = none) : Wd l k acc = ([], k, 3) := by
  rw [drop_at h] at hw
  unfold Wd; rw [drop_at h, W, if_neg (by simp [hb]), if_neg (by simpa using hs), hw]
theorem Wd_many {l : List UInt8} {k : Nat} {acc : List Tk} {t : Tk} {n : Nat} (h : k < l.length) (hb : blk l[k] = false) (hs : l[k] ≠ 59) (hw : wd1 (l.drop k) = some (t, n)) (ha : 40 ≤ acc.length) : Wd l k acc = ([], k, 2) := by
  rw [drop_at h] at hw
  unfold Wd; rw [drop_at h, W, if_neg (by simp [hb]), if_neg (by simpa using hs), hw]
  simp only [if_pos ha]
theorem Wd_some {l : List UInt8} {k : Nat} {acc : List Tk} {t : Tk} {n : Nat} (h : k < l.length) (hb : blk l[k] = false) (hs : l[k] ≠ 59) (hw : wd1 (l.drop k) = some (t, n)) (ha : acc.length < 40) : Wd l k acc = Wd l (k + n) (acc ++ [⟨t.k, t.t, t.n, k⟩]) := by
  have hp := wd1_pos hw
  have hl : (l.drop (k + n)).length = l.length - (k + n) := List.length_drop
  have hp2 : n ≤ l.length - k := by have := hp.2; rwa [List.length_drop] at this
  have e2 : (l[k] :: l.drop (k + 1)).drop n = l.drop (k + n) := by rw [← drop_at h, List.drop_drop]
  rw [drop_at h] at hw
  unfold Wd
  rw [drop_at h, W, if_neg (by simp [hb]), if_neg (by simpa using hs), hw]
  simp only [if_neg (show ¬ 40 ≤ acc.length by omega)]
  rw [e2]
  refine W_fuel _ _ _ _ _ ?_ (by omega)
  rw [hl]
  simp only [List.length_cons, List.length_drop]
  omega
/-- Blanks are passed over at once. -/
theorem Wd_skip {l : List UInt8} {acc : List Tk} : ∀ (m k : Nat), spn blk (l.drop k) = m → Wd l k acc = Wd l (k + m) acc
  | 0, k, _ => rfl
  | m + 1, k, h => by
    by_cases hk : k < l.length
    · by_cases hb : blk l[k] = true
      · rw [spn_yes hk hb] at h
        rw [Wd_blank hk hb, Wd_skip m (k + 1) (by omega), show k + (m + 1) = k + 1 + m by omega]
      · rw [spn_no hk (by simpa using hb)] at h; omega
    · rw [spn_end (by omega)] at h; omega
/-- Behind blanks there is none. -/
theorem spn_skip (l : List UInt8) (k : Nat) : spn blk (l.drop (k + spn blk (l.drop k))) = 0 := by
  have h := spn_head blk (l.drop k)
  rw [List.drop_drop] at h
  cases hd : l.drop (k + spn blk (l.drop k)) with
  | nil => rfl
  | cons c r => rw [hd] at h; simp [spn, h c rfl]
/-- The words of a line. -/
def wds (l : List UInt8) : List Tk × Nat × Nat := if l.contains 10 then ([], 0, 3) else Wd l 0 []
end Go.Proofs.YtddbfhdhldnoiaaDoor
