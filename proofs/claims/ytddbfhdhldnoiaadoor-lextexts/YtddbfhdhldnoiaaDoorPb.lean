/-
  The words of the text of words are these words, but for where they stand; with more blanks between, blanks ahead and a remark behind as well. No program.
-/
import Derived.Test.YtddbfhdhldnoiaaDoorLn
namespace Go.Proofs.YtddbfhdhldnoiaaDoor
open Go.RowKit

def Tk.put (t : Tk) (a : Int) : Tk := ⟨t.k, t.t, t.n, a⟩
theorem blk_cases {d : UInt8} (h : blk d = true) : d = 32 ∨ d = 9 := by
  unfold blk blI at h
  simp only [Bool.or_eq_true, decide_eq_true_eq] at h
  rcases h with h | h
  · exact .inl (UInt8.toNat_inj.1 (show d.toNat = 32 by omega))
  · exact .inr (UInt8.toNat_inj.1 (show d.toNat = 9 by omega))
/-- What may stand behind a word: nothing, or a blank. -/
def Rst (r : List UInt8) : Prop := ∀ d, r.head? = some d → blk d = true
theorem spn_all {p : UInt8 → Bool} (hp : ∀ d, blk d = true → p d = false) : ∀ (a r : List UInt8), (∀ c ∈ a, p c = true) → Rst r → spn p (a ++ r) = a.length
  | [], [], _, _ => rfl
  | [], d :: r, _, h => by
    show spn p (d :: r) = 0
    rw [spn, if_neg (by rw [hp d (h d rfl)]; simp)]
  | c :: a, r, ha, h => by
    show spn p (c :: (a ++ r)) = a.length + 1
    rw [spn, if_pos (ha c (List.mem_cons_self ..)), spn_all hp a r (fun x hx => ha x (List.mem_cons_of_mem _ hx)) h]
theorem nmc_blk (d : UInt8) (h : blk d = true) : nmc d = false := by rcases blk_cases h with rfl | rfl <;> decide
theorem dgb_blk (d : UInt8) (h : blk d = true) : dgb 10 d = false := by rcases blk_cases h with rfl | rfl <;> decide
theorem fin_app (b : Nat) : ∀ (a r : List UInt8) (n : Nat), (∀ c ∈ a, dgb b c = true) → fin b n (a ++ r) = fin b (fin b n a) r
  | [], r, n, _ => rfl
  | c :: a, r, n, h => by
    show fin b n (c :: (a ++ r)) = _
    simp only [fin, h c (List.mem_cons_self ..), if_true]
    exact fin_app b a r _ (fun x hx => h x (List.mem_cons_of_mem _ hx))
theorem fin_rst (n : Nat) (r : List UInt8) (h : Rst r) : fin 10 n r = n := by
  cases r with
  | nil => rfl
  | cons d r => simp only [fin, dgb_blk d (h d rfl)]; rfl
theorem dgt_of {d : Nat} (h : d < 10) : dgb 10 (UInt8.ofNat (48 + d)) = true ∧ dvl (UInt8.ofNat (48 + d)) = d := by
  have : ∀ d : Fin 10, dgb 10 (UInt8.ofNat (48 + d.1)) = true ∧ dvl (UInt8.ofNat (48 + d.1)) = d.1 := by decide
  exact this ⟨d, h⟩
theorem dec_all (u : Nat) : (∀ c ∈ Lib.decDigits u, dgb 10 c = true) ∧ fin 10 0 (Lib.decDigits u) = u ∧ Lib.decDigits u ≠ [] := by
  induction u using Nat.strongRecOn with
  | _ u ih =>
    by_cases h : u < 10
    · obtain ⟨h1, h2⟩ := dgt_of h
      rw [Lib.decDigits, dif_pos h]
      refine ⟨fun c hc => ?_, ?_, by simp⟩
      · rw [List.mem_singleton.1 hc]; exact h1
      · simp only [fin, h1, if_true, h2]; omega
    · obtain ⟨h1, h2⟩ := dgt_of (Nat.mod_lt u (by decide : 0 < 10))
      obtain ⟨i1, i2, i3⟩ := ih (u / 10) (by omega)
      rw [Lib.decDigits, dif_neg h]
      refine ⟨fun c hc => ?_, ?_, by simp⟩
      · rcases List.mem_append.1 hc with hc | hc
        · exact i1 c hc
        · rw [List.mem_singleton.1 hc]; exact h1
      · rw [fin_app _ _ _ _ i1, i2]
        simp only [fin, h1, if_true, h2]; omega
theorem dgb_dgt {c : UInt8} (h : dgb 10 c = true) : dgt c = true := by simpa [dgb] using h
theorem ltr_not {c : UInt8} (h : dgt c = true) : ltr c = false := by
  unfold dgt at h
  rw [dgI_iff] at h
  unfold ltr ltI
  simp; omega
/-- A text that begins with digits and goes on with none, or a blank, is no hex number. -/
theorem hex_not : ∀ (a r : List UInt8), (∀ c ∈ a, dgb 10 c = true) → a ≠ [] → Rst r → hex0 (a ++ r) = false
  | [], _, _, h, _ => absurd rfl h
  | [c], [], _, _, _ => by simp [hex0, List.isPrefixOf]
  | [c], d :: r, _, _, h => by
    have : (120 == d) = false := by rcases blk_cases (h d rfl) with rfl | rfl <;> decide
    show ((48 == c) && ((120 == d) && true)) = false
    rw [this]; simp
  | c :: d :: a, r, h, _, _ => by
    have h2 : dgt d = true := dgb_dgt (h d (by simp))
    have : (120 == d) = false := by
      cases he : (120 == d) with
      | false => rfl
      | true => rw [beq_iff_eq] at he; subst he; exact absurd h2 (by decide)
    show ((48 == c) && ((120 == d) && true)) = false
    rw [this]; simp
/-- A number's text is one word, whatever stands behind. -/
theorem wd1_num (n : Int) (h0 : 0 ≤ n) (h1 : n ≤ 2147483647) (r : List UInt8) (hr : Rst r) : wd1 (itoa n ++ r) = some (⟨2, [], n, 0⟩, (itoa n).length) := by
  obtain ⟨i1, i2, i3⟩ := dec_all n.toNat
  have e : itoa n = Lib.decDigits n.toNat := by unfold itoa Lib.itoa; rw [if_neg (by omega)]
  rw [e]
  have hx := hex_not _ r i1 i3 hr
  have hs := spn_all dgb_blk _ r i1 hr
  have hf : fin 10 0 (Lib.decDigits n.toNat ++ r) = n.toNat := by rw [fin_app _ _ _ _ i1, i2, fin_rst _ _ hr]
  generalize Lib.decDigits n.toNat = l at *
  match l, i1, i3, hx, hs, hf with
  | c :: q, i1, _, hx, hs, hf =>
    have hd := dgb_dgt (i1 c (List.mem_cons_self ..))
    rw [List.cons_append] at hx hs hf ⊢
    simp only [wd1]
    rw [if_neg (by rw [ltr_not hd]; simp), if_pos hd, if_neg (by rw [hx]; simp), hf, hs, if_neg (by omega)]
    congr 3
    omega
theorem wd1_a : ∀ {l : List UInt8} {t : Tk} {n : Nat}, wd1 l = some (t, n) → t.a = 0
  | c :: q, t, n, h => by
    simp only [wd1] at h
    split at h
    · split at h
      · simp only [Option.some.injEq, Prod.mk.injEq] at h; rw [← h.1]
      · cases h
    · split at h
      · split at h
        · split at h
          · cases h
          · simp only [Option.some.injEq, Prod.mk.injEq] at h; rw [← h.1]
        · split at h
          · cases h
          · simp only [Option.some.injEq, Prod.mk.injEq] at h; rw [← h.1]
      · split at h
        · simp only [Option.some.injEq, Prod.mk.injEq] at h; rw [← h.1]
        · cases h
theorem spn_full {p : UInt8 → Bool} {l : List UInt8} (h : l.length ≤ spn p l) : ∀ c ∈ l, p c = true := fun c hc => spn_take p l c (by rwa [List.take_of_length_le h])
/-- A word's text by itself is one word, whatever stands behind. -/
theorem wd1_self {u : List UInt8} {k n : Int} {m : Nat} (hu : u ≠ []) (h : wd1 u = some (⟨k, u, n, 0⟩, m)) (r : List UInt8) (hr : Rst r) : wd1 (u ++ r) = some (⟨k, u, n, 0⟩, u.length) := by
  match u, hu, h with
  | c :: q, _, h =>
    rw [List.cons_append]
    simp only [wd1] at h ⊢
    by_cases hl : ltr c = true
    · rw [if_pos hl] at h ⊢
      split at h
      · next h12 =>
        simp only [Option.some.injEq, Prod.mk.injEq, Tk.mk.injEq] at h
        obtain ⟨⟨rfl, ht, rfl, _⟩, rfl⟩ := h
        have hlen : (c :: q).length ≤ spn nmc (c :: q) := by
          have h2 := congrArg List.length ht
          rw [List.length_take] at h2
          omega
        have hall := spn_full hlen
        have hs := spn_all nmc_blk (c :: q) r hall hr
        rw [List.cons_append] at hs
        have hle := spn_le nmc (c :: q)
        rw [hs, if_pos (by omega), ← List.cons_append, List.take_left' rfl]
      · cases h
    · rw [if_neg hl] at h ⊢
      by_cases hd : dgt c = true
      · rw [if_pos hd] at h
        split at h
        · split at h
          · cases h
          · simp at h
        · split at h
          · cases h
          · simp at h
      · rw [if_neg hd] at h ⊢
        by_cases hg : sgn c = true
        · rw [if_pos hg] at h ⊢
          simp only [Option.some.injEq, Prod.mk.injEq, Tk.mk.injEq] at h
          obtain ⟨⟨rfl, ht, rfl, _⟩, _⟩ := h
          rw [← ht]; rfl
        · rw [if_neg hg] at h; cases h
/-- The text of a word that may be is that word. -/
theorem wd1_may {x : Tk} (h : mayB x = true) (r : List UInt8) (hr : Rst r) : wd1 (txT x ++ r) = some (⟨x.k, x.t, x.n, 0⟩, (txT x).length) := by
  unfold mayB at h
  unfold txT
  by_cases hk : x.k = 2
  · rw [if_pos hk] at h ⊢
    simp only [Bool.and_eq_true, decide_eq_true_eq, List.isEmpty_iff] at h
    rw [wd1_num x.n h.2.1 h.2.2 r hr, hk, h.1]
  · rw [if_neg hk] at h ⊢
    simp only [Bool.and_eq_true, decide_eq_true_eq, Bool.not_eq_true', beq_iff_eq] at h
    obtain ⟨h1, ⟨h2, h3⟩, h4⟩ := h
    have hne : x.t ≠ [] := by intro e; rw [e] at h1; cases h1
    cases hw : wd1 (x.t.drop 0) with
    | none => rw [(wdT_none hw).1] at h3; exact absurd h3.symm hne
    | some y =>
      obtain ⟨y, m⟩ := y
      rw [(wdT_some hw).1] at h2 h3 h4
      have ha : y.a = 0 := wd1_a hw
      have hy : y = ⟨x.k, x.t, x.n, 0⟩ := by obtain ⟨a, b, c, d⟩ := y; simp only at h2 h3 h4 ha; subst h2 h3 h4 ha; rfl
      rw [hy] at hw
      exact wd1_self hne hw r hr
end Go.Proofs.YtddbfhdhldnoiaaDoor
