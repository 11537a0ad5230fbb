/-
  A cycle of the pipe as a Lean function on states, and what it keeps. No program is named here, no condition.
-/
import Derived.Test.YtbgmdikcbglpiaaGreatDoorStp
namespace Go.Proofs.YtbgmdikcbglpiaaGreatDoor
open Go.RowKit

/-- What has landed of a list: the registers. -/
def land1 (R : List Int) (l : List Fl) : List Int := l.foldl (fun R f => if f.k = 0 then R.set f.r f.v else R) R
/-- What flies on. -/
def later (l : List Fl) : List Fl := (l.filter (fun f => decide (f.k ≠ 0))).map (fun f => ⟨f.r, f.v, f.k - 1⟩)
def land (m : M) : M := { m with R := land1 m.R m.fl, fl := later m.fl }
/-- A result that is sent off. -/
def fly (m : M) (x : In5) (v : Int) : M := { m with fl := m.fl ++ [⟨x.d, v, (lt x.o - 1).toNat⟩] }
def jmp (m : M) (n : Nat) : M := { m with jp := n, dl := 2 }
/-- What a slot does: the state behind it, whether it jumps, why it stops. -/
def slot (x : In5) (m : M) : M × Bool × Int :=
  if x.o = 0 then (m, false, 0)
  else if x.o ≤ 22 then (if dz x m then (m, false, 3) else (fly m x (res x m), false, 0))
  else if x.o = 23 then (fly m x (x.m % 4294967296), false, 0)
  else if x.o = 24 then (if adr m x < 256 then (fly m x (m.word (adr m x)), false, 0) else (m, false, 2))
  else if x.o = 25 then (if adr m x < 256 then ({ m with mem := m.mem.set (adr m x) (m.reg x.b) }, false, 0) else (m, false, 2))
  else if x.o = 26 then (fly (tak m).2 x (tak m).1, false, 0)
  else if x.o = 27 then ({ m with out := m.out ++ [m.reg x.a] }, false, 0)
  else if x.o = 28 then (jmp m x.m.toNat, true, 0)
  else if x.o = 29 then (if m.reg x.a = 0 then (jmp m x.m.toNat, true, 0) else (m, false, 0))
  else if x.o = 30 then (if m.reg x.a = 0 then (m, false, 0) else (jmp m x.m.toNat, true, 0))
  else if x.o = 31 then (if m.st.length = 16 then (m, false, 4) else (jmp { m with st := m.st ++ [min (m.pc + 3) 1024] } x.m.toNat, true, 0))
  else if x.o = 32 then (if m.st.length = 0 then (m, false, 4) else (jmp { m with st := m.st.take (m.st.length - 1) } (m.st.getD (m.st.length - 1) 0), true, 0))
  else (m, false, 1)
/-- The slots of a bundle, one behind the other, up to one that stops. -/
def slots : List In5 → M → Bool → M × Bool
  | [], m, j => (m, j)
  | x :: l, m, j => if (slot x m).2.2 = 0 then slots l (slot x m).1 (j || (slot x m).2.1) else (stop (slot x m).1 (slot x m).2.2, j)
def adv (j : Bool) (m : M) : M :=
  if j ∨ m.dl = 0 then { m with pc := m.pc + 1 }
  else if m.dl = 1 then { m with pc := m.jp, dl := 0, jp := 0 }
  else { m with pc := m.pc + 1, dl := m.dl - 1 }
def drain (m : M) : M := land (land (land (land (land m))))
def issue (b : List In5) (m : M) : M :=
  if (slots b m false).1.stop = 0 then adv (slots b m false).2 (slots b m false).1
  else if (slots b m false).1.stop = 1 then drain (slots b m false).1
  else (slots b m false).1
/-- A cycle. -/
def cyc (C : List (List In5)) (m : M) : M := if C.length ≤ m.pc then stop (land m) 5 else issue (C.getD m.pc []) (land m)
/-- Up to so many, and how many they were. -/
def runC (C : List (List In5)) : Nat → M → M × Nat
  | 0, m => (m, 0)
  | n + 1, m => if m.stop = 0 then ((runC C n (cyc C m)).1, (runC C n (cyc C m)).2 + 1) else (m, 0)

/-! ### What flies -/
/-- As many results fly as may. -/
def Fb (n : Nat) (l : List Fl) : Prop := (∀ f ∈ l, f.r < 16 ∧ 0 ≤ f.v ∧ f.v ≤ 4294967295 ∧ f.k ≤ 4) ∧ ∀ k, k ≤ 4 → (l.countP fun f => decide (k ≤ f.k)) ≤ 4 * (4 - k) + n
section
variable {l : List Fl} {m : M} {n : Nat} {R : List Int}
theorem Fb.len (h : Fb n l) : l.length ≤ 16 + n := by
  have := h.2 0 (by omega)
  rw [show (fun f : Fl => decide (0 ≤ f.k)) = (fun _ => true) from funext fun f => by simp, List.countP_true] at this
  omega
theorem land1_len (l : List Fl) (R : List Int) : (land1 R l).length = R.length := by
  induction l generalizing R with
  | nil => rfl
  | cons a l ih => simp only [land1, List.foldl_cons] at ih ⊢; rw [ih]; split <;> simp
theorem land1_in (l : List Fl) (R : List Int) (hl : ∀ f ∈ l, 0 ≤ f.v ∧ f.v ≤ 4294967295) (h : ∀ x ∈ R, 0 ≤ x ∧ x ≤ 4294967295) : ∀ x ∈ land1 R l, 0 ≤ x ∧ x ≤ 4294967295 := by
  induction l generalizing R with
  | nil => exact h
  | cons a l ih =>
    simp only [land1, List.foldl_cons] at ih ⊢
    refine ih _ (fun f hf => hl f (List.mem_cons_of_mem _ hf)) ?_
    split
    · exact mem_set h (hl a (List.mem_cons_self ..))
    · exact h
theorem later_cons (a : Fl) (l : List Fl) : later (a :: l) = if a.k = 0 then later l else ⟨a.r, a.v, a.k - 1⟩ :: later l := by
  unfold later
  by_cases h : a.k = 0 <;> simp [h]
theorem later_mem {f : Fl} (h : f ∈ later l) : ∃ g ∈ l, g.k ≠ 0 ∧ f = ⟨g.r, g.v, g.k - 1⟩ := by
  unfold later at h
  obtain ⟨g, hg, rfl⟩ := List.mem_map.1 h
  have := List.mem_filter.1 hg
  exact ⟨g, this.1, by simpa using this.2, rfl⟩
theorem later_count (k : Nat) (l : List Fl) : (later l).countP (fun f => decide (k ≤ f.k)) = l.countP (fun f => decide (k + 1 ≤ f.k)) := by
  induction l with
  | nil => rfl
  | cons a l ih =>
    rw [later_cons, List.countP_cons]
    by_cases h : a.k = 0
    · rw [if_pos h, ih]; simp [h]
    · rw [if_neg h, List.countP_cons, ih]
      have : decide (k ≤ a.k - 1) = decide (k + 1 ≤ a.k) := by simp; omega
      simp only [this]
theorem later_len (l : List Fl) : (later l).length ≤ l.length := by
  unfold later
  rw [List.length_map]
  exact List.length_filter_le _ _
/-- Behind a landing four more have room. -/
theorem Fb.later (h : Fb 4 l) : Fb 0 (later l) := by
  refine ⟨fun f hf => ?_, fun k hk => ?_⟩
  · obtain ⟨g, hg, h0, rfl⟩ := later_mem hf
    have := h.1 g hg
    simp only
    omega
  · rw [later_count]
    by_cases h4 : k = 4
    · subst h4
      have : l.countP (fun f => decide (4 + 1 ≤ f.k)) = 0 := by
        rw [List.countP_eq_zero]
        intro f hf
        have := h.1 f hf
        simp
        omega
      omega
    · have := h.2 (k + 1) (by omega)
      omega
theorem Fb.mono {n' : Nat} (h : Fb n l) (hn : n ≤ n') : Fb n' l := ⟨h.1, fun k hk => Nat.le_trans (h.2 k hk) (by omega)⟩
theorem Fb.app (h : Fb n l) {f : Fl} (hr : f.r < 16) (hv : 0 ≤ f.v ∧ f.v ≤ 4294967295) (hk : f.k ≤ 3) : Fb (n + 1) (l ++ [f]) := by
  refine ⟨fun g hg => ?_, fun k hk' => ?_⟩
  · rcases List.mem_append.1 hg with h1 | h1
    · exact h.1 g h1
    · simp at h1; subst h1; exact ⟨hr, hv.1, hv.2, by omega⟩
  · rw [List.countP_append, List.countP_singleton]
    have := h.2 k hk'
    split <;> omega
theorem lt_le : ∀ n : Fin 34, 1 ≤ lt n.1 ∧ lt n.1 ≤ 4 := by decide
theorem land_nil (h : m.fl = []) : land m = m := by
  obtain ⟨R, mem, inp, tk, out, pc, st, stop, fl, jp, dl⟩ := m
  simp only at h
  subst h
  rfl
/-- The greatest Left goes down with each landing. -/
def Lo (n : Nat) (l : List Fl) : Prop := ∀ f ∈ l, f.k < n
theorem Lo.later {n : Nat} (h : Lo (n + 1) l) : Lo n (later l) := fun f hf => by
  obtain ⟨g, hg, h0, rfl⟩ := later_mem hf
  have := h g hg
  simp only
  omega
theorem Lo.zero (h : Lo 0 l) : l = [] := by
  cases l with
  | nil => rfl
  | cons a l => exact absurd (h a (List.mem_cons_self ..)) (by omega)
theorem Fb.lo (h : Fb n l) : Lo 5 l := fun f hf => by have := h.1 f hf; omega
end
/-- Landed so often. -/
def lands : Nat → M → M
  | 0, m => m
  | n + 1, m => lands n (land m)
theorem lands_succ (n : Nat) (m : M) : lands (n + 1) m = land (lands n m) := by
  induction n generalizing m with
  | zero => rfl
  | succ n ih => rw [lands, ih]; rfl
theorem lands_lo {n : Nat} {m : M} (h : Lo 5 m.fl) (hn : n ≤ 5) : Lo (5 - n) (lands n m).fl := by
  induction n with
  | zero => exact h
  | succ n ih =>
    rw [lands_succ]
    have := ih (by omega)
    rw [show 5 - n = (5 - (n + 1)) + 1 by omega] at this
    exact this.later
theorem lands_stop (n : Nat) (m : M) (h : m.fl = []) : lands n m = m := by
  induction n with
  | zero => rfl
  | succ n ih => rw [lands_succ, ih, land_nil h]
theorem lands_add (a b : Nat) (m : M) : lands (a + b) m = lands b (lands a m) := by
  induction a generalizing m with
  | zero => simp [lands]
  | succ a ih => rw [show a + 1 + b = (a + b) + 1 by omega, lands, ih, lands]
/-- Where nothing flies any more all have landed. -/
theorem drain_of {n : Nat} {m : M} (hn : n ≤ 5) (he : (lands n m).fl = []) : lands n m = drain m := by
  have h5 : drain m = lands 5 m := rfl
  rw [h5, show 5 = n + (5 - n) by omega, lands_add, lands_stop _ _ he]
theorem drain_nil {m : M} (h : Lo 5 m.fl) : (drain m).fl = [] := (lands_lo (n := 5) h (by omega)).zero
end Go.Proofs.YtbgmdikcbglpiaaGreatDoor
