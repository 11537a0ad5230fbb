/-
  How the argument of the laws of layer 2 is opened: a struct of a slice of words and a slice of numbers, each nil or in old memory, each within the reach of what is read.
-/
import Derived.Test.YtlmbgpcmljgnkaaCalls
import Derived.ProofKit
import Derived.SizedLaws
import Derived.Lib.SmallJoins
namespace Go.Proofs.Ytlmbgpcmljgnkaa
open Go.ChangeShapes Go.WideShapes Go.ChangeAt Go.RowKit Go.Joins

theorem Try.own : ownKnob Try.prog.godebug = none := by kernel_rfl
theorem Try.laidOut : laidOutB Try.prog = true := by kernel_rfl
theorem Try.cells25 : Try.prog.cellsOf 25 = 2 := by kernel_rfl
theorem Try.cells28 : Try.prog.cellsOf 28 = 1 := by kernel_rfl
theorem Try.cells3 : Try.prog.cellsOf 3 = 1 := by kernel_rfl
theorem Try.bytes28 : Try.prog.bytesOf 28 = 4 := by kernel_rfl
theorem Try.bytes3 : Try.prog.bytesOf 3 = 8 := by kernel_rfl

section
variable {H : Type} {enc : TypeId × Value → H} {W : World}

/-- One field of the argument. -/
theorem field_open {t e : TypeId} {k : IntKind} {bytes m : Nat} {v : Value} {y : DataW H × List MemPlace} (ht : Try.prog.underlying t = some (.slice e)) (he : Try.prog.underlying e = some (.int k)) (hc : Try.prog.cellsOf e = 1) (hby : Try.prog.bytesOf e = bytes)
    (h : DataW.trod enc Try.prog W 0 (fun _ => true) true m t [v] = some y) (hsz : ∀ x ∈ y.1.weights Try.prog t, x ≤ reachBytes) :
    ∃ A n c, v = .slice A n c ∧ SliceIn k bytes W A n c := by
  have hlt := DataW.trod_lt m _ _ _ h
  rcases open_ints ht he hc h with ⟨hcs, _⟩ | ⟨ad, l, c, zs, hcs, _, hl, hm, hz, hx, hcell, hwz⟩
  · simp at hcs
    exact ⟨none, 0, 0, hcs, .inl ⟨rfl, rfl, rfl⟩⟩
  · simp at hcs
    subst hcs
    subst hx
    simp only [if_true] at hz
    refine ⟨some ad, l, c, rfl, .inr ⟨ad, zs.take l, rfl, ?_, ?_, ?_, ?_, ?_⟩⟩
    · intro h0
      have := World.block_lt_of_cell? W _ (hcell 0 (by omega))
      rwa [block_add] at this
    · rw [List.length_take]; omega
    · exact fun x hx => hwz x (List.mem_of_mem_take hx)
    · intro j u hu
      have hj : j < l := by
        have := (List.getElem?_eq_some_iff.1 hu).1
        rw [List.length_map, List.length_take] at this
        omega
      rw [hcell j (by omega)]
      rw [List.getElem?_map, List.getElem?_take, if_pos hj, List.getElem?_eq_getElem (by omega)] at hu
      simpa [List.getD, List.getElem?_eq_getElem (show j < zs.length by omega)] using hu
    · have h1 := hsz (((lits (H := H) k (zs.take l)).length + (lits (H := H) k (zs.drop l)).length) * bytes) (by simp [DataW.weights, ht, hby])
      simp only [lits, List.length_map, List.length_take, List.length_drop, reachBytes] at h1
      have h2 : l * bytes ≤ (min l zs.length + (zs.length - l)) * bytes := Nat.mul_le_mul_right _ (by omega)
      omega

theorem ask_open {r : Reach} {b0 : Nat} {v : Value} {d : DataW H} {p : List MemPlace} {L : List Nat}
    (hv : Value.okWide Try.prog W r b0 25 v) (h : DataW.Trod enc Try.prog W 0 (fun _ => true) true 25 v d p) (hL : ∀ n ∈ d.weights Try.prog 25, n ∈ L) (hsz : L.all (· ≤ reachBytes) = true) :
    ∃ A1 n1 c1 A2 n2 c2, v = .agg #[.slice A1 n1 c1, .slice A2 n2 c2] ∧ SliceIn .u32 4 W A1 n1 c1 ∧ SliceIn .i64 8 W A2 n2 c2 := by
  obtain ⟨c0, c1, y0, y1, m, rfl, rfl, rfl, hy0, hy1⟩ := open_agg2 Try.underlying25 (by kernel_rfl) Try.cells25 hv h
  have hall : ∀ x ∈ (DataW.agg [y0.1, y1.1]).weights Try.prog 25, x ≤ reachBytes := fun x hx => by simpa using List.all_eq_true.1 hsz x (hL x hx)
  obtain ⟨A1, n1, k1, rfl, s1⟩ := field_open (bytes := 4) Try.underlying22 Try.underlying28 Try.cells28 Try.bytes28 hy0 (fun x hx => hall x (by simp [DataW.weights, Try.underlying25, DataW.weightsEach]; exact Or.inl hx))
  obtain ⟨A2, n2, k2, rfl, s2⟩ := field_open (bytes := 8) Try.underlying23 Try.underlying3 Try.cells3 Try.bytes3 hy1 (fun x hx => hall x (by simp [DataW.weights, Try.underlying25, DataW.weightsEach]; exact Or.inr hx))
  exact ⟨A1, n1, k1, A2, n2, k2, rfl, s1, s2⟩
end
end Go.Proofs.Ytlmbgpcmljgnkaa
