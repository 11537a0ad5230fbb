/-
  Contract of the statements' call wakes, and how literal code lies in memory. Condition: the tables lie in the world.
-/
import Derived.Test.YtbkikibdnpffpaaGreatDoorNew
namespace Go.Proofs.YtbkikibdnpffpaaGreatDoor
open Go.RowKit

theorem addr0 (g j : Nat) : (⟨g, 0, none⟩ : Addr).add j = ⟨g, j, none⟩ := by unfold Addr.add; split <;> simp_all
def flatB (C : List (List In5)) : List Value := C.flatMap fun b => (bcs (bX b)).toList
theorem flatB_at (C : List (List In5)) (i j : Nat) (hi : i < C.length) (hj : j < 24) : (flatB C)[i * 24 + j]? = (bcs (bX (C.getD i [])))[j]? := by
  induction C generalizing i with
  | nil => simp at hi
  | cons y ys ih =>
    have hl : (bcs (bX y)).toList.length = 24 := rfl
    show ((bcs (bX y)).toList ++ flatB ys)[i * 24 + j]? = _
    cases i with
    | zero =>
      rw [List.getElem?_append_left (by rw [hl]; omega)]
      simp
    | succ i =>
      rw [List.getElem?_append_right (by rw [hl]; omega), hl, show (i + 1) * 24 + j - 24 = i * 24 + j by omega, ih i (by simpa using hi)]
      simp
/-- A row of bundles reads as the code that it holds. -/
theorem rdc_cells {w : World} {g n c : Nat} {C : List (List In5)} (hn : C.length = n) (hg : g < w.heap.size) (h : ∀ j u, (flatB C)[j]? = some u → w.cell? ⟨g, j, none⟩ = some u) : RdC w (.slice (some ⟨g, 0, none⟩) n c) C := by
  refine ⟨_, c, by rw [hn], fun i hi => ⟨_, rfl, hg, fun j u hu => ?_⟩⟩
  have hj : j < 24 := (Array.getElem?_eq_some_iff.1 hu).1
  rw [addr0]
  have e : (⟨g, i * 24, none⟩ : Addr).add j = ⟨g, i * 24 + j, none⟩ := by rw [← addr0 g (i * 24), Go.Deep.add_add, addr0]
  rw [e]
  exact h _ _ (by rw [flatB_at C i j hi hj]; exact hu)
theorem rdc_lit (w : World) (cs : Array Value) (C : List (List In5)) (n : Nat) (h : cs.toList = flatB C) (hn : C.length = n) : RdC (w.alloc (.cells cs 52)) (.slice (some ⟨w.heap.size, 0, none⟩) n n) C := by
  refine rdc_cells hn (by simp) fun j u hu => ?_
  rw [← h] at hu
  rw [cell_of_row _ w.heap.size j cs _ (0, 0) (heap_alloc_new w _)]
  simpa using hu
/-- Is it one that may be? By reckoning. -/
def viB (x : In5) : Bool := decide (x.o < 34) && insB x.o x.d x.a x.b x.m ⟨#[]⟩
theorem vi_of {x : In5} (h : viB x = true) : Vi x := by
  unfold viB at h
  simp only [Bool.and_eq_true, decide_eq_true_eq] at h
  exact ⟨h.1, h.2⟩
theorem vcc_of {C : List (List In5)} (h : (decide (C.length ≤ 1024) && C.all fun b => decide (b.length = 4) && b.all viB) = true) (hc : cdB (C.map bX) = true) : Vcc C := by
  refine ⟨?_, hc⟩
  simp only [Bool.and_eq_true, decide_eq_true_eq] at h
  refine ⟨h.1, fun b hb => ?_⟩
  have h2 := List.all_eq_true.1 h.2 b hb
  simp only [Bool.and_eq_true, decide_eq_true_eq] at h2
  exact ⟨h2.1, fun x hx => vi_of (List.all_eq_true.1 h2.2 x hx)⟩
theorem okc0 {xs : List Int} (hl : xs.length ≤ 100) (hw : ∀ x ∈ xs, 0 ≤ x ∧ x ≤ 4294967295) : Okc (m0 xs) :=
  { ok := { R := List.length_replicate .., mem := List.length_replicate .., inp := hl, tk := Nat.zero_le _, pc := Nat.zero_le _, st := Nat.zero_le _, out := Nat.zero_le _
            wR := fun x hx => by simp only [m0] at hx; rw [List.eq_of_mem_replicate hx]; omega
            wM := fun x hx => by simp only [m0] at hx; rw [List.eq_of_mem_replicate hx]; omega
            wI := hw, wS := fun x hx => by simp [m0] at hx
            fl := Nat.zero_le _, wF := fun f hf => by simp [m0] at hf
            jp := Nat.zero_le _, dl := Nat.zero_le _ }
    fb := ⟨fun f hf => by simp [m0] at hf, fun k _ => by simp [m0]⟩
    s0 := Int.le_refl _, s6 := by show (0 : Int) ≤ 6; decide }
def zw : In5 := ⟨0, 0, 0, 0, 0⟩
def wkC : List (List In5) := [[zw, zw, ⟨24, 1, 0, 0, 0⟩, zw], [zw, zw, zw, zw], [zw, zw, zw, zw], [⟨33, 0, 0, 0, 0⟩, zw, zw, zw]]
/-- A state that is all 0, but for memory's first word. -/
def wkM : M := { m0 [] with mem := (List.replicate 256 (0 : Int)).set 0 9 }
theorem wk3_n : (runC wkC 3 wkM).2 = 3 := by decide +kernel
theorem wk3_R : (runC wkC 3 wkM).1.R = [0, 0, 0, 0, 0, 0, 0, 0, 0, 0, 0, 0, 0, 0, 0, 0] := by decide +kernel
theorem wk9_n : (runC wkC 9 wkM).2 = 4 := by decide +kernel
theorem wk9_R : (runC wkC 9 wkM).1.R = [0, 9, 0, 0, 0, 0, 0, 0, 0, 0, 0, 0, 0, 0, 0, 0] := by decide +kernel
theorem wk9_stop : (runC wkC 9 wkM).1.stop = 1 := by decide +kernel
theorem wk_vcc : Vcc wkC := vcc_of (by decide +kernel) (by decide +kernel)
theorem wk_okc : Okc wkM := by
  have k := okc0 (xs := []) (by decide) (by simp)
  refine { ok := { k.ok with mem := ?_, wM := ?_ }, fb := k.fb, s0 := k.s0, s6 := k.s6 }
  · show ((List.replicate 256 (0 : Int)).set 0 9).length = 256
    rw [List.length_set, List.length_replicate]
  · intro x hx
    rcases List.mem_or_eq_of_mem_set hx with h | h
    · rw [List.eq_of_mem_replicate h]; omega
    · rw [h]; omega
theorem SR.saN {B p : Nat} {w : World} {m : M} {V : Vs} (h : SR B w m V) {W : World} (hg : w.grownBy W none) (hb : BK 27 W p (stCells m V)) (hp : p = w.heap.size) : SA B W p m V := by
  subst hp
  have a : ∀ {e z n c : Nat} {A : Option Addr} {k : Nat} {xs : List Value}, w.ownsRow B e z (.slice A k c) n xs → ob A ≠ some w.heap.size := fun h1 => own_hi h1 (Nat.le_refl _)
  have g : SR B W m V := h.grown hg (fun _ hk => by cases hk)
  have hB : B ≤ w.heap.size := by have := h.hr.lt V.gr rfl; omega
  exact { blk := ⟨27, hb⟩, hp := hB, hr := g.hr, hm := g.hm, hi := g.hi, ho := g.ho, hs := g.hs, hf := g.hf, pf := a h.hf
          pr := fun e => a h.hr (by simp [ob, e]), pm := fun e => a h.hm (by simp [ob, e]), pi := a h.hi, po := a h.ho, ps := a h.hs, rm := g.rm, ri := g.ri, ro := g.ro, rs := g.rs, mi := g.mi, mo := g.mo, ms := g.ms, io := g.io, is := g.is, os := g.os }
end Go.Proofs.YtbkikibdnpffpaaGreatDoor
