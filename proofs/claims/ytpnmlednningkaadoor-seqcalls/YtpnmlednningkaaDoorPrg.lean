/-
  How a program lies in memory, and what a step of a machine leaves. No condition.
-/
import Derived.Test.YtpnmlednningkaaDoorSq5
import Derived.Deep.RegionHeld3
namespace Go.Proofs.YtpnmlednningkaaDoor
open Go.RowKit

theorem add_pos (x : Addr) (j : Nat) (h : j ≠ 0) : x.add j = ⟨x.block, x.off + j, none⟩ := by unfold Addr.add; simp [h]
theorem block_add (a : Addr) (n : Nat) : (a.add n).block = a.block := by unfold Addr.add; split <;> rfl
/-- An instruction at a place of a row. -/
def InAt (w : World) (ad : Addr) (i : Nat) (x : In5) : Prop := ∀ j u, x.cells[j]? = some u → w.cell? (ad.add (i * 6 + j)) = some u
/-- A program lies in memory below B. -/
def Prg (B : Nat) (w : World) (A : Option Addr) (P : List In5) : Prop := ∀ i, i < P.length → ∃ ad, A = some ad ∧ ad.block < B ∧ InAt w ad i (P.getD i zi)
theorem Prg.keep {B : Nat} {w w' : World} {A : Option Addr} {P : List In5} (h : Prg B w A P) (hb : Below B w w') : Prg B w' A P := by
  intro i hi
  obtain ⟨ad, ha, hl, hx⟩ := h i hi
  exact ⟨ad, ha, hl, fun j u hu => (hb.cell (by rw [block_add]; exact hl)).trans (hx j u hu)⟩
theorem Prg.mono {B B' : Nat} {w : World} {A : Option Addr} {P : List In5} (h : Prg B w A P) (hb : B ≤ B') : Prg B' w A P := by
  intro i hi
  obtain ⟨ad, ha, hl, hx⟩ := h i hi
  exact ⟨ad, ha, by omega, hx⟩
theorem InAt.k {w : World} {ad : Addr} {i : Nat} {x : In5} (h : InAt w ad i x) :
    w.cell? (ad.add (i * 6)) = some (.int .i64 x.o) ∧ w.cell? ⟨(ad.add (i * 6)).block, (ad.add (i * 6)).off + 1, none⟩ = some (.int .i64 x.d) ∧ w.cell? ⟨(ad.add (i * 6)).block, (ad.add (i * 6)).off + 2, none⟩ = some (.int .i64 x.a) ∧ w.cell? ⟨(ad.add (i * 6)).block, (ad.add (i * 6)).off + 3, none⟩ = some (.int .i64 x.b) ∧ w.cell? ⟨(ad.add (i * 6)).block, (ad.add (i * 6)).off + 4, none⟩ = some (.int .i64 x.m) ∧ w.cell? ⟨(ad.add (i * 6)).block, (ad.add (i * 6)).off + 5, none⟩ = some (.string ByteArray.empty) := by
  have h1 := h 1 _ rfl
  have h2 := h 2 _ rfl
  have h3 := h 3 _ rfl
  have h4 := h 4 _ rfl
  have h5 := h 5 _ rfl
  rw [← Go.Deep.add_add, add_pos _ _ (by decide)] at h1 h2 h3 h4 h5
  exact ⟨h 0 _ rfl, h1, h2, h3, h4, h5⟩

def StepPost (B p : Nat) (m' : M) (w : World) (e : Ending) (w' : World) : Prop := e = .returned (.tuple #[]) ∧ Goes B w p m' w'
section
variable {B p : Nat} {w W : World} {m : M} {V : Vs}
theorem fin_go (h : SA B W p m V) (hs : m.stop = 0) {y : Int} {n : Nat} (e : y = (n : Int)) : ∃ V, SA B ((W.setCell ⟨p, 7, none⟩ (.int .i64 0)).setCell ⟨p, 5, none⟩ (.int .i64 y)) p (goto m n) V := by
  subst e
  refine ⟨V, ?_⟩
  have h1 := (h.setStop 0).setPC n
  obtain ⟨R, mem, inp, tk, out, pc, st, stop⟩ := m
  simp only at hs
  subst hs
  exact h1
theorem fin_stop (h : SA B W p m V) (k : Int) : ∃ V, SA B (W.setCell ⟨p, 7, none⟩ (.int .i64 k)) p (stop m k) V := ⟨V, h.setStop k⟩
theorem fin_b1 (hb : Below B w W) (hp : B ≤ p) (k : Value) : Below B w (W.setCell ⟨p, 7, none⟩ k) := hb.setCell (by exact hp) _
theorem fin_b2 (hb : Below B w W) (hp : B ≤ p) (k l : Value) : Below B w ((W.setCell ⟨p, 7, none⟩ k).setCell ⟨p, 5, none⟩ l) := (hb.setCell (by exact hp) _).setCell (by exact hp) _
end
end Go.Proofs.YtpnmlednningkaaDoor
