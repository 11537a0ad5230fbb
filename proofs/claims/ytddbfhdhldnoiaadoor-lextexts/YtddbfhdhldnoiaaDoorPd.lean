/-
  The words of the text that lex.Text gives, and of the same with more blanks and a remark, are the words but for their places, which rise. No program.
-/
import Derived.Test.YtddbfhdhldnoiaaDoorPc
namespace Go.Proofs.YtddbfhdhldnoiaaDoor
open Go.RowKit

theorem self_chars {u : List UInt8} {k n : Int} {m : Nat} (hu : u ≠ []) (h : wd1 u = some (⟨k, u, n, 0⟩, m)) : ∀ c ∈ u, (nmc c || sgn c) = true := by
  match u, hu, h with
  | c :: q, _, h =>
    simp only [wd1] at h
    by_cases hl : ltr c = true
    · rw [if_pos hl] at h
      split at h
      · simp only [Option.some.injEq, Prod.mk.injEq, Tk.mk.injEq] at h
        obtain ⟨⟨rfl, ht, rfl, _⟩, rfl⟩ := h
        have hlen : (c :: q).length ≤ spn nmc (c :: q) := by
          have h2 := congrArg List.length ht
          rw [List.length_take] at h2
          omega
        intro d hd
        rw [spn_full hlen d hd]; rfl
      · cases h
    · rw [if_neg hl] at h
      by_cases hd : dgt c = true
      · rw [if_pos hd] at h
        split at h
        · split at h
          · cases h
          · simp at h
        · split at h
          · cases h
          · simp at h
      · rw [if_neg hd] at h
        by_cases hg : sgn c = true
        · rw [if_pos hg] at h
          simp only [Option.some.injEq, Prod.mk.injEq, Tk.mk.injEq] at h
          obtain ⟨⟨rfl, ht, rfl, _⟩, _⟩ := h
          intro d hd2
          rw [← ht] at hd2
          rw [List.mem_singleton.1 hd2, hg]; simp
        · rw [if_neg hg] at h; cases h
/-- No word holds a blank or the end of a line. -/
theorem txT_chars {x : Tk} (h : mayB x = true) : ∀ c ∈ txT x, c ≠ 10 ∧ c ≠ 32 := by
  have key : ∀ c ∈ txT x, (nmc c || sgn c) = true := by
    have hw := wd1_may h [] (fun d hd => by cases hd)
    rw [List.append_nil] at hw
    unfold txT at hw ⊢
    unfold mayB at h
    by_cases hk : x.k = 2
    · rw [if_pos hk] at h ⊢
      simp only [Bool.and_eq_true, decide_eq_true_eq] at h
      have e : itoa x.n = Lib.decDigits x.n.toNat := by unfold itoa Lib.itoa; rw [if_neg (by omega)]
      rw [e]
      intro c hc
      have := dgb_dgt ((dec_all x.n.toNat).1 c hc)
      unfold nmc
      rw [this]; simp
    · rw [if_neg hk] at h hw ⊢
      simp only [Bool.and_eq_true, Bool.not_eq_true'] at h
      have hne : x.t ≠ [] := by intro e; rw [e] at h; cases h.1
      intro c hc
      have h0 := hw
      match hn : x.t with
      | [] => exact absurd hn hne
      | d :: q =>
        have := self_chars hne (k := x.k) (n := x.n) hw c hc
        exact this
  intro c hc
  have := key c hc
  refine ⟨?_, ?_⟩
  · rintro rfl; exact absurd this (by decide)
  · rintro rfl; exact absurd this (by decide)
theorem lay_app (s p : List UInt8) : ∀ xs : List Tk, lay s p xs = lay s [] xs ++ p
  | [] => rfl
  | [x] => by simp [lay]
  | x :: y :: r => by rw [lay, lay, lay_app s p (y :: r), List.append_assoc, List.append_assoc]
theorem txL_lay : ∀ xs : List Tk, txL xs = lay [32] [] xs
  | [] => rfl
  | [x] => by simp [txL, lay, Lib.join]
  | x :: y :: r => by
    have ih := txL_lay (y :: r)
    unfold txL at ih ⊢
    rw [lay, ← ih]
    simp only [List.map_cons, Lib.join_cons, Lib.joinTail]
    simp
/-- A text with more blanks. -/
def wid (l : List UInt8) : List UInt8 := l.flatMap fun c => if c = 32 then [32, 9, 32, 32] else [c]
theorem wid_app (a b : List UInt8) : wid (a ++ b) = wid a ++ wid b := by simp [wid]
theorem wid_word : ∀ {l : List UInt8}, (∀ c ∈ l, c ≠ 32) → wid l = l
  | [], _ => rfl
  | c :: r, h => by
    have := wid_word (l := r) (fun x hx => h x (List.mem_cons_of_mem _ hx))
    unfold wid at this ⊢
    rw [List.flatMap_cons, this, if_neg (h c (List.mem_cons_self ..))]
    rfl
theorem wid_lay : ∀ xs : List Tk, (∀ x ∈ xs, mayB x = true) → wid (lay [32] [] xs) = lay [32, 9, 32, 32] [] xs
  | [], _ => rfl
  | [x], h => by
    rw [lay, lay, List.append_nil]
    exact wid_word fun c hc => (txT_chars (h x (by simp)) c hc).2
  | x :: y :: r, h => by
    rw [lay, lay, wid_app, wid_app, wid_lay (y :: r) (fun z hz => h z (List.mem_cons_of_mem _ hz)), wid_word fun c hc => (txT_chars (h x (by simp)) c hc).2]
    rfl
theorem lay_chars (s p : List UInt8) (hs : (10 : UInt8) ∉ s) (hp : (10 : UInt8) ∉ p) : ∀ xs : List Tk, (∀ x ∈ xs, mayB x = true) → (10 : UInt8) ∉ lay s p xs
  | [], _ => hp
  | [x], h => by
    rw [lay, List.mem_append]
    rintro (hc | hc)
    · exact (txT_chars (h x (by simp)) _ hc).1 rfl
    · exact hp hc
  | x :: y :: r, h => by
    rw [lay, List.mem_append, List.mem_append]
    rintro (hc | hc | hc)
    · exact (txT_chars (h x (by simp)) _ hc).1 rfl
    · exact hs hc
    · exact lay_chars s p hs hp (y :: r) (fun z hz => h z (List.mem_cons_of_mem _ hz)) hc
theorem mayL_iff {xs : List Tk} (h : mayL xs = true) : xs.length ≤ 40 ∧ ∀ x ∈ xs, mayB x = true := by
  unfold mayL at h
  simpa [List.all_eq_true] using h
def rmk : List UInt8 := [32, 59, 32, 48, 120, 32, 128, 32, 64]
theorem back1 {xs : List Tk} (h : mayL xs = true) : wds (txL xs) = (plc 1 xs 0, 0, 0) := by
  obtain ⟨h1, h2⟩ := mayL_iff h
  have hc := lay_chars [32] [] (by decide) (by simp) xs h2
  rw [txL_lay]
  unfold wds
  rw [if_neg (by simpa using hc)]
  show V ((lay [32] [] xs).drop 0) 0 [] = _
  rw [List.drop_zero, V_lay (s := [32]) (p := []) (by decide) (by decide) (fun d hd => by cases hd) (fun _ _ => rfl) xs 0 [] h2 (by simpa using h1)]
  rfl
theorem back2 {xs : List Tk} (h : mayL xs = true) : wds ([9] ++ wid (txL xs) ++ rmk) = (plc 4 xs 1, 0, 0) := by
  obtain ⟨h1, h2⟩ := mayL_iff h
  have hc := lay_chars [32, 9, 32, 32] rmk (by decide) (by decide) xs h2
  rw [txL_lay, wid_lay xs h2, List.append_assoc, ← lay_app]
  unfold wds
  rw [if_neg (by
    simp only [List.contains_eq_mem, decide_eq_true_eq, List.mem_append]
    rintro (hx | hx)
    · exact absurd hx (by decide)
    · exact hc hx)]
  show V (([9] ++ lay [32, 9, 32, 32] rmk xs).drop 0) 0 [] = _
  rw [List.drop_zero, V_blanks [9] _ 0 [] (by decide), V_lay (s := [32, 9, 32, 32]) (p := rmk) (by decide) (by decide) (fun d hd => by simp [rmk] at hd; subst hd; decide) (fun k acc => by
    show V (32 :: 59 :: _) k acc = _
    rw [V_blank (by decide), V_rem]) xs _ [] h2 (by simpa using h1)]
  rfl
end Go.Proofs.YtddbfhdhldnoiaaDoor
