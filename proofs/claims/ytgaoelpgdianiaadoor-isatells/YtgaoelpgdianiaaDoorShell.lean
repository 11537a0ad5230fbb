/-
  How the argument of the laws of layer 3 is opened: a struct of a slice of instructions and a slice of strings, each nil or in old memory; that the tables lie in the world out of the row's condition; a world that meets it.
-/
import Derived.Test.YtgaoelpgdianiaaDoorTextOf
import Derived.ProofKit
import Derived.SizedLaws
import Derived.LaidMore
import Derived.Stop.Joined
import Derived.Lib.SmallJoins
import Derived.Deep.Slices
namespace Go.Proofs.YtgaoelpgdianiaaDoor
open Go.ChangeShapes Go.WideShapes Go.ChangeAt Go.RowKit Go.Joins

theorem Tryd.own : ownKnob Tryd.prog.godebug = none := by kernel_rfl
theorem Tryd.laidOut : laidOutB Tryd.prog = true := by kernel_rfl
theorem Tryd.cells25 : Tryd.prog.cellsOf 25 = 2 := by kernel_rfl
theorem Tryd.cells47 : Tryd.prog.cellsOf 47 = 6 := by kernel_rfl
theorem Tryd.bytes9 : Tryd.prog.bytesOf 9 = 16 := by kernel_rfl
theorem door_met (os : Os) (args : Array Value) : laidMetH Tryd.prog laid5 ((World.doorLaid Tryd.prog 78 os).forCall (fun _ _ => 0) ⟨#[], args, []⟩).memory :=
  laidMetH_of_parts3 (fuel := 8) (laidMet_of_run' 8 (by kernel_rfl) (by kernel_rfl)) (by kernel_rfl) (by kernel_rfl)

/-- A slice of instructions as it comes in. -/
def InsIn (w : World) (A : Option Addr) (n : Nat) : Prop := 0 < n → ∃ ad : Addr, A = some ad ∧ ad.block < w.heap.size ∧ ∀ i, i < n → ∃ o d a b m s, I64 o ∧ I64 d ∧ I64 a ∧ I64 b ∧ I64 m ∧ s.size ≤ maxLen ∧
  w.cell? (ad.add (i * 6)) = some (.int .i64 o) ∧ w.cell? (ad.add (i * 6 + 1)) = some (.int .i64 d) ∧ w.cell? (ad.add (i * 6 + 2)) = some (.int .i64 a) ∧ w.cell? (ad.add (i * 6 + 3)) = some (.int .i64 b) ∧ w.cell? (ad.add (i * 6 + 4)) = some (.int .i64 m) ∧ w.cell? (ad.add (i * 6 + 5)) = some (.string s)
/-- A slice of strings as it comes in. -/
def StrIn (w : World) (A : Option Addr) (n c : Nat) : Prop := (A = none ∧ n = 0 ∧ c = 0) ∨ ∃ (ad : Addr) (xs : List ByteArray), A = some ad ∧ (0 < n → ad.block < w.heap.size) ∧ xs.length = n ∧ (∀ x ∈ xs, x.size ≤ maxLen) ∧ (∀ (j : Nat) (x : ByteArray), xs[j]? = some x → w.cell? (ad.add j) = some (.string x)) ∧ n * 16 ≤ 140737488351232
theorem i64_wf {x : Int} (h : (Lit.int .i64 x).wf = true) : I64 x := by
  have h1 : IntKind.i64.min = -9223372036854775808 := rfl
  have h2 : IntKind.i64.max = 9223372036854775807 := rfl
  simp only [Lit.wf, Bool.and_eq_true, decide_eq_true_eq] at h
  unfold I64
  omega
theorem block_add (a : Addr) (n : Nat) : (a.add n).block = a.block := by unfold Addr.add; split <;> rfl

section
variable {H : Type} {enc : TypeId × Value → H} {W : World}
theorem ins_open {m : Nat} {v : Value} {y : DataW H × List MemPlace} (h : DataW.trod enc Tryd.prog W 0 (fun _ => true) true m 22 [v] = some y) : ∃ A n c, v = .slice A n c ∧ InsIn W A n := by
  rcases Deep.open_slice Tryd.underlying22 h with ⟨hcs, _⟩ | ⟨ad, len, cap, mm, n, D, Pl, hcs, hb, hl, hm, hmm, hx, hi⟩
  · simp at hcs
    exact ⟨none, 0, 0, hcs, fun h0 => absurd h0 (by omega)⟩
  · simp at hcs
    refine ⟨some ad, len, cap, hcs, fun h0 => ?_⟩
    have key : ∀ i, i < len → ∃ o d a b m s, I64 o ∧ I64 d ∧ I64 a ∧ I64 b ∧ I64 m ∧ s.size ≤ maxLen ∧
        W.cell? (ad.add (i * 6)) = some (.int .i64 o) ∧ W.cell? (ad.add (i * 6 + 1)) = some (.int .i64 d) ∧ W.cell? (ad.add (i * 6 + 2)) = some (.int .i64 a) ∧ W.cell? (ad.add (i * 6 + 3)) = some (.int .i64 b) ∧ W.cell? (ad.add (i * 6 + 4)) = some (.int .i64 m) ∧ W.cell? (ad.add (i * 6 + 5)) = some (.string s) := by
      intro i hi2
      obtain ⟨cs, hc, ht⟩ := hi i (by rw [hmm]; simp; omega)
      rw [Tryd.cells47] at hc
      obtain ⟨ys, n', _, hy, hlen, hyl, hf⟩ := DataW.trod_struct Tryd.underlying47 ht
      rw [Tryd.cells47] at hlen
      obtain ⟨_, hcl, hat⟩ := World.cells?_some hc
      match ys, hyl, hf with
      | [y0, y1, y2, y3, y4, y5], _, hf =>
        have f0 : DataW.trod enc Tryd.prog W 0 (fun _ => true) true n' 3 ((cs.drop 0).take (Tryd.prog.cellsOf 3)) = some y0 := hf 0 _ rfl
        have f1 : DataW.trod enc Tryd.prog W 0 (fun _ => true) true n' 3 ((cs.drop 1).take (Tryd.prog.cellsOf 3)) = some y1 := hf 1 _ rfl
        have f2 : DataW.trod enc Tryd.prog W 0 (fun _ => true) true n' 3 ((cs.drop 2).take (Tryd.prog.cellsOf 3)) = some y2 := hf 2 _ rfl
        have f3 : DataW.trod enc Tryd.prog W 0 (fun _ => true) true n' 3 ((cs.drop 3).take (Tryd.prog.cellsOf 3)) = some y3 := hf 3 _ rfl
        have f4 : DataW.trod enc Tryd.prog W 0 (fun _ => true) true n' 3 ((cs.drop 4).take (Tryd.prog.cellsOf 3)) = some y4 := hf 4 _ rfl
        have f5 : DataW.trod enc Tryd.prog W 0 (fun _ => true) true n' 9 ((cs.drop 5).take (Tryd.prog.cellsOf 9)) = some y5 := hf 5 _ rfl
        rw [Tryd.cells3] at f0 f1 f2 f3 f4
        rw [Tryd.cells9] at f5
        obtain ⟨z0, g0, _, w0⟩ := DataW.trod_int Tryd.underlying3 f0
        obtain ⟨z1, g1, _, w1⟩ := DataW.trod_int Tryd.underlying3 f1
        obtain ⟨z2, g2, _, w2⟩ := DataW.trod_int Tryd.underlying3 f2
        obtain ⟨z3, g3, _, w3⟩ := DataW.trod_int Tryd.underlying3 f3
        obtain ⟨z4, g4, _, w4⟩ := DataW.trod_int Tryd.underlying3 f4
        obtain ⟨s, g5, _, w5⟩ := DataW.trod_string Tryd.underlying9 f5
        have hat' : ∀ j, j < 6 → W.cell? (ad.add (i * 6 + j)) = cs[j]? := fun j hj => by rw [← Go.Deep.add_add]; exact hat j hj
        refine ⟨z0, z1, z2, z3, z4, s, i64_wf w0, i64_wf w1, i64_wf w2, i64_wf w3, i64_wf w4, w5, ?_, ?_, ?_, ?_, ?_, ?_⟩
        · exact (hat' 0 (by omega)).trans (take_one g0)
        · exact (hat' 1 (by omega)).trans (take_one g1)
        · exact (hat' 2 (by omega)).trans (take_one g2)
        · exact (hat' 3 (by omega)).trans (take_one g3)
        · exact (hat' 4 (by omega)).trans (take_one g4)
        · exact (hat' 5 (by omega)).trans (take_one g5)
    obtain ⟨o, d, a, b, m, s, _, _, _, _, _, _, hc0, _⟩ := key 0 h0
    exact ⟨ad, rfl, by have := World.block_lt_of_cell? W _ hc0; rwa [block_add] at this, key⟩

theorem str_open {m : Nat} {v : Value} {y : DataW H × List MemPlace} (h : DataW.trod enc Tryd.prog W 0 (fun _ => true) true m 23 [v] = some y) (hsz : ∀ x ∈ y.1.weights Tryd.prog 23, x ≤ reachBytes) : ∃ A n c, v = .slice A n c ∧ StrIn W A n c := by
  rcases Deep.open_slice Tryd.underlying23 h with ⟨hcs, _⟩ | ⟨ad, len, cap, mm, n, D, Pl, hcs, hb, hl, hm, hmm, hx, hi⟩
  · simp at hcs
    exact ⟨none, 0, 0, hcs, .inl ⟨rfl, rfl, rfl⟩⟩
  · simp at hcs
    have hn : len * 16 ≤ 140737488351232 := by
      have h1 := hsz ((((List.range len).map D).length + ((List.range (mm - len)).map fun j => D (len + j)).length) * 16) (by rw [hx]; simp [DataW.weights, Tryd.underlying23, Tryd.bytes9])
      simp only [List.length_map, List.length_range, reachBytes] at h1
      have h2 : len * 16 ≤ (len + (mm - len)) * 16 := Nat.mul_le_mul_right _ (by omega)
      omega
    have key : ∀ i, i < len → ∃ s : ByteArray, s.size ≤ maxLen ∧ W.cell? (ad.add i) = some (.string s) := by
      intro i hi2
      obtain ⟨cs, hc, ht⟩ := hi i (by rw [hmm]; simp; omega)
      rw [Tryd.cells9] at hc
      obtain ⟨s, g, _, ws⟩ := DataW.trod_string Tryd.underlying9 ht
      obtain ⟨_, hcl, hat⟩ := World.cells?_some hc
      refine ⟨s, ws, ?_⟩
      have := hat 0 (by omega)
      rw [Go.Deep.add_add, Nat.mul_one, Nat.add_zero] at this
      rw [this, g]; rfl
    let xs : List ByteArray := (List.range len).map fun i => if h : i < len then (key i h).choose else ⟨#[]⟩
    have hxs : ∀ (j : Nat) (x : ByteArray), xs[j]? = some x → x.size ≤ maxLen ∧ W.cell? (ad.add j) = some (.string x) := by
      intro j x hj
      have hjl : j < len := by have := (List.getElem?_eq_some_iff.1 hj).1; simpa [xs] using this
      have e : x = (key j hjl).choose := by
        simp only [xs, List.getElem?_map, List.getElem?_range hjl, Option.map_some, Option.some.injEq] at hj
        rw [dif_pos hjl] at hj
        exact hj.symm
      subst e
      exact (key j hjl).choose_spec
    refine ⟨some ad, len, cap, hcs, .inr ⟨ad, xs, rfl, fun h0 => ?_, by simp [xs], fun x hx => ?_, fun j x hj => (hxs j x hj).2, hn⟩⟩
    · obtain ⟨s, _, hc⟩ := key 0 h0
      have := World.block_lt_of_cell? W _ hc
      rwa [block_add] at this
    · obtain ⟨j, hj⟩ := List.getElem?_of_mem hx
      exact (hxs j x hj).1

theorem ask_open {r : Reach} {b0 : Nat} {v : Value} {d : DataW H} {p : List MemPlace} {L : List Nat}
    (hv : Value.okWide Tryd.prog W r b0 25 v) (h : DataW.Trod enc Tryd.prog W 0 (fun _ => true) true 25 v d p) (hL : ∀ n ∈ d.weights Tryd.prog 25, n ∈ L) (hsz : L.all (· ≤ reachBytes) = true) :
    ∃ A1 n1 c1 A2 n2 c2, v = .agg #[.slice A1 n1 c1, .slice A2 n2 c2] ∧ InsIn W A1 n1 ∧ StrIn W A2 n2 c2 := by
  obtain ⟨c0, c1, y0, y1, m, rfl, rfl, rfl, hy0, hy1⟩ := open_agg2 Tryd.underlying25 (by kernel_rfl) Tryd.cells25 hv h
  have hall : ∀ x ∈ (DataW.agg [y0.1, y1.1]).weights Tryd.prog 25, x ≤ reachBytes := fun x hx => by simpa using List.all_eq_true.1 hsz x (hL x hx)
  obtain ⟨A1, n1, k1, rfl, s1⟩ := ins_open hy0
  obtain ⟨A2, n2, k2, rfl, s2⟩ := str_open hy1 (fun x hx => hall x (by simp [DataW.weights, Tryd.underlying25, DataW.weightsEach]; exact Or.inr hx))
  exact ⟨A1, n1, k1, A2, n2, k2, rfl, s1, s2⟩
end
end Go.Proofs.YtgaoelpgdianiaaDoor
