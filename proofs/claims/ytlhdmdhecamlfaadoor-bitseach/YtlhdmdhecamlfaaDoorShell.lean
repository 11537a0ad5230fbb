/-
  How the argument of the laws of layer 4 is opened: a struct of two structs (a slice of instructions, a slice of strings; a slice of words, a slice of numbers) and a slice of bundles, each slice nil or in old memory; that the tables lie in the world out of the row's condition; a world that meets it.
-/
import Derived.Test.YtlhdmdhecamlfaaDoorWakes
import Derived.ProofKit
import Derived.SizedLaws
import Derived.LaidMore
import Derived.Stop.Joined
import Derived.Lib.SmallJoins
import Derived.Deep.Slices
import Derived.Deep.Strs
namespace Go.Proofs.YtlhdmdhecamlfaaDoor
open Go.ChangeShapes Go.WideShapes Go.ChangeAt Go.RowKit Go.Joins

def TruePost (w : World) (e : Ending) (w' : World) : Prop := e = .returned (.bool true) ∧ Below w.heap.size w w'
theorem Tryd.own : ownKnob Tryd.prog.godebug = none := by kernel_rfl
theorem Tryd.laidOut : laidOutB Tryd.prog = true := by kernel_rfl
theorem Tryd.cells32 : Tryd.prog.cellsOf 32 = 5 := by kernel_rfl
theorem Tryd.cells25 : Tryd.prog.cellsOf 25 = 2 := by kernel_rfl
theorem Tryd.cells29 : Tryd.prog.cellsOf 29 = 2 := by kernel_rfl
theorem Tryd.cells30 : Tryd.prog.cellsOf 30 = 1 := by kernel_rfl
theorem Tryd.cells22 : Tryd.prog.cellsOf 22 = 1 := by kernel_rfl
theorem Tryd.cells23 : Tryd.prog.cellsOf 23 = 1 := by kernel_rfl
theorem Tryd.cells26 : Tryd.prog.cellsOf 26 = 1 := by kernel_rfl
theorem Tryd.cells27 : Tryd.prog.cellsOf 27 = 1 := by kernel_rfl
theorem Tryd.cells33 : Tryd.prog.cellsOf 33 = 1 := by kernel_rfl
theorem Tryd.cells35 : Tryd.prog.cellsOf 35 = 6 := by kernel_rfl
theorem Tryd.cells51 : Tryd.prog.cellsOf 51 = 24 := by kernel_rfl
theorem Tryd.bytes33 : Tryd.prog.bytesOf 33 = 4 := by kernel_rfl
theorem Tryd.bytes51 : Tryd.prog.bytesOf 51 = 224 := by kernel_rfl
def I64 (x : Int) : Prop := -9223372036854775808 ≤ x ∧ x ≤ 9223372036854775807
theorem door_met (os : Os) (args : Array Value) : laidMetH Tryd.prog laid3 ((World.doorLaid Tryd.prog 78 os).forCall (fun _ _ => 0) ⟨#[], args, []⟩).memory :=
  laidMetH_of_parts3 (fuel := 8) (laidMet_of_run' 8 (by kernel_rfl) (by kernel_rfl)) (by kernel_rfl) (by kernel_rfl)

/-- A slice of integers as it comes in: nil, or its numbers lie in old memory; it takes no more than the reach of what is read. -/
def SliceIn (k : IntKind) (bytes : Nat) (w : World) (A : Option Addr) (n c : Nat) : Prop :=
  (A = none ∧ n = 0 ∧ c = 0) ∨ ∃ (ad : Addr) (zs : List Int), A = some ad ∧ (0 < n → ad.block < w.heap.size) ∧ zs.length = n ∧ (∀ x ∈ zs, (Lit.int k x).wf = true) ∧
    (∀ j u, (zs.map (Value.int k))[j]? = some u → w.cell? (ad.add j) = some u) ∧ n * bytes ≤ 140737488351232
/-- A slice of instructions as it comes in. -/
def InsIn (w : World) (A : Option Addr) (n : Nat) : Prop := 0 < n → ∃ ad : Addr, A = some ad ∧ ad.block < w.heap.size ∧ ∀ i, i < n → ∃ o d a b m s, I64 o ∧ I64 d ∧ I64 a ∧ I64 b ∧ I64 m ∧ s.size ≤ maxLen ∧
  w.cell? (ad.add (i * 6)) = some (.int .i64 o) ∧ w.cell? (ad.add (i * 6 + 1)) = some (.int .i64 d) ∧ w.cell? (ad.add (i * 6 + 2)) = some (.int .i64 a) ∧ w.cell? (ad.add (i * 6 + 3)) = some (.int .i64 b) ∧ w.cell? (ad.add (i * 6 + 4)) = some (.int .i64 m) ∧ w.cell? (ad.add (i * 6 + 5)) = some (.string s)
theorem i64_wf {x : Int} (h : (Lit.int .i64 x).wf = true) : I64 x := by
  have h1 : IntKind.i64.min = -9223372036854775808 := rfl
  have h2 : IntKind.i64.max = 9223372036854775807 := rfl
  simp only [Lit.wf, Bool.and_eq_true, decide_eq_true_eq] at h
  unfold I64
  omega
theorem block_add (a : Addr) (n : Nat) : (a.add n).block = a.block := by unfold Addr.add; split <;> rfl

section
variable {H : Type} {enc : TypeId × Value → H} {W : World}
theorem ins_open {m : Nat} {v : Value} {y : DataW H × List MemPlace} (h : DataW.trod enc Tryd.prog W 0 (fun _ => true) true m 22 [v] = some y) : ∃ A n c, v = .slice A n c ∧ InsIn W A n := by
  rcases Deep.open_slice Tryd.underlying22 h with ⟨hcs, _⟩ | ⟨ad, len, cap, mm, n, D, Pl, hcs, hb, hl, hm, hmm, hx, hi⟩
  · simp at hcs
    exact ⟨none, 0, 0, hcs, fun h0 => absurd h0 (by omega)⟩
  · simp at hcs
    refine ⟨some ad, len, cap, hcs, fun h0 => ?_⟩
    have key : ∀ i, i < len → ∃ o d a b m s, I64 o ∧ I64 d ∧ I64 a ∧ I64 b ∧ I64 m ∧ s.size ≤ maxLen ∧
        W.cell? (ad.add (i * 6)) = some (.int .i64 o) ∧ W.cell? (ad.add (i * 6 + 1)) = some (.int .i64 d) ∧ W.cell? (ad.add (i * 6 + 2)) = some (.int .i64 a) ∧ W.cell? (ad.add (i * 6 + 3)) = some (.int .i64 b) ∧ W.cell? (ad.add (i * 6 + 4)) = some (.int .i64 m) ∧ W.cell? (ad.add (i * 6 + 5)) = some (.string s) := by
      intro i hi2
      obtain ⟨cs, hc, ht⟩ := hi i (by rw [hmm]; simp; omega)
      rw [Tryd.cells35] at hc
      obtain ⟨ys, n', _, hy, hlen, hyl, hf⟩ := DataW.trod_struct Tryd.underlying35 ht
      rw [Tryd.cells35] at hlen
      obtain ⟨_, hcl, hat⟩ := World.cells?_some hc
      match ys, hyl, hf with
      | [y0, y1, y2, y3, y4, y5], _, hf =>
        have f0 : DataW.trod enc Tryd.prog W 0 (fun _ => true) true n' 3 ((cs.drop 0).take (Tryd.prog.cellsOf 3)) = some y0 := hf 0 _ rfl
        have f1 : DataW.trod enc Tryd.prog W 0 (fun _ => true) true n' 3 ((cs.drop 1).take (Tryd.prog.cellsOf 3)) = some y1 := hf 1 _ rfl
        have f2 : DataW.trod enc Tryd.prog W 0 (fun _ => true) true n' 3 ((cs.drop 2).take (Tryd.prog.cellsOf 3)) = some y2 := hf 2 _ rfl
        have f3 : DataW.trod enc Tryd.prog W 0 (fun _ => true) true n' 3 ((cs.drop 3).take (Tryd.prog.cellsOf 3)) = some y3 := hf 3 _ rfl
        have f4 : DataW.trod enc Tryd.prog W 0 (fun _ => true) true n' 3 ((cs.drop 4).take (Tryd.prog.cellsOf 3)) = some y4 := hf 4 _ rfl
        have f5 : DataW.trod enc Tryd.prog W 0 (fun _ => true) true n' 9 ((cs.drop 5).take (Tryd.prog.cellsOf 9)) = some y5 := hf 5 _ rfl
        rw [Tryd.cells3] at f0 f1 f2 f3 f4
        rw [Tryd.cells9] at f5
        obtain ⟨z0, g0, _, w0⟩ := DataW.trod_int Tryd.underlying3 f0
        obtain ⟨z1, g1, _, w1⟩ := DataW.trod_int Tryd.underlying3 f1
        obtain ⟨z2, g2, _, w2⟩ := DataW.trod_int Tryd.underlying3 f2
        obtain ⟨z3, g3, _, w3⟩ := DataW.trod_int Tryd.underlying3 f3
        obtain ⟨z4, g4, _, w4⟩ := DataW.trod_int Tryd.underlying3 f4
        obtain ⟨s, g5, _, w5⟩ := DataW.trod_string Tryd.underlying9 f5
        have hat' : ∀ j, j < 6 → W.cell? (ad.add (i * 6 + j)) = cs[j]? := fun j hj => by rw [← Go.Deep.add_add]; exact hat j hj
        refine ⟨z0, z1, z2, z3, z4, s, i64_wf w0, i64_wf w1, i64_wf w2, i64_wf w3, i64_wf w4, w5, ?_, ?_, ?_, ?_, ?_, ?_⟩
        · exact (hat' 0 (by omega)).trans (take_one g0)
        · exact (hat' 1 (by omega)).trans (take_one g1)
        · exact (hat' 2 (by omega)).trans (take_one g2)
        · exact (hat' 3 (by omega)).trans (take_one g3)
        · exact (hat' 4 (by omega)).trans (take_one g4)
        · exact (hat' 5 (by omega)).trans (take_one g5)
    obtain ⟨o, d, a, b, m, s, _, _, _, _, _, _, hc0, _⟩ := key 0 h0
    exact ⟨ad, rfl, by have := World.block_lt_of_cell? W _ hc0; rwa [block_add] at this, key⟩

/-- One field of the argument. -/
theorem field_open {t e : TypeId} {k : IntKind} {bytes m : Nat} {v : Value} {y : DataW H × List MemPlace} (ht : Tryd.prog.underlying t = some (.slice e)) (he : Tryd.prog.underlying e = some (.int k)) (hc : Tryd.prog.cellsOf e = 1) (hby : Tryd.prog.bytesOf e = bytes)
    (h : DataW.trod enc Tryd.prog W 0 (fun _ => true) true m t [v] = some y) (hsz : ∀ x ∈ y.1.weights Tryd.prog t, x ≤ reachBytes) :
    ∃ A n c, v = .slice A n c ∧ SliceIn k bytes W A n c := by
  have hlt := DataW.trod_lt m _ _ _ h
  rcases open_ints ht he hc h with ⟨hcs, _⟩ | ⟨ad, l, c, zs, hcs, _, hl, hm, hz, hx, hcell, hwz⟩
  · simp at hcs
    exact ⟨none, 0, 0, hcs, .inl ⟨rfl, rfl, rfl⟩⟩
  · simp at hcs
    subst hcs
    subst hx
    simp only [if_true] at hz
    refine ⟨some ad, l, c, rfl, .inr ⟨ad, zs.take l, rfl, ?_, ?_, ?_, ?_, ?_⟩⟩
    · intro h0
      have := World.block_lt_of_cell? W _ (hcell 0 (by omega))
      rwa [block_add] at this
    · rw [List.length_take]; omega
    · exact fun x hx => hwz x (List.mem_of_mem_take hx)
    · intro j u hu
      have hj : j < l := by
        have := (List.getElem?_eq_some_iff.1 hu).1
        rw [List.length_map, List.length_take] at this
        omega
      rw [hcell j (by omega)]
      rw [List.getElem?_map, List.getElem?_take, if_pos hj, List.getElem?_eq_getElem (by omega)] at hu
      simpa [List.getD, List.getElem?_eq_getElem (show j < zs.length by omega)] using hu
    · have h1 := hsz (((lits (H := H) k (zs.take l)).length + (lits (H := H) k (zs.drop l)).length) * bytes) (by simp [DataW.weights, ht, hby])
      simp only [lits, List.length_map, List.length_take, List.length_drop, reachBytes] at h1
      have h2 : l * bytes ≤ (min l zs.length + (zs.length - l)) * bytes := Nat.mul_le_mul_right _ (by omega)
      omega

/-- The fields of an instruction at a place. -/
def InsAt (w : World) (ad : Addr) (j : Nat) (o d a b m : Int) (s : ByteArray) : Prop := w.cell? (ad.add j) = some (.int .i64 o) ∧ w.cell? (ad.add (j + 1)) = some (.int .i64 d) ∧ w.cell? (ad.add (j + 2)) = some (.int .i64 a) ∧ w.cell? (ad.add (j + 3)) = some (.int .i64 b) ∧ w.cell? (ad.add (j + 4)) = some (.int .i64 m) ∧ w.cell? (ad.add (j + 5)) = some (.string s)
/-- A slice of bundles as it comes in. -/
def BunIn (w : World) (A : Option Addr) (n : Nat) : Prop := n * 224 ≤ 140737488351232 ∧ (0 < n → ∃ ad : Addr, A = some ad ∧ ad.block < w.heap.size ∧ ∀ i, i < n → ∀ k, k < 4 → ∃ o d a b m s, I64 o ∧ I64 d ∧ I64 a ∧ I64 b ∧ I64 m ∧ s.size ≤ maxLen ∧ InsAt w ad (i * 24 + k * 6) o d a b m s)
theorem bun_open {m : Nat} {v : Value} {y : DataW H × List MemPlace} (h : DataW.trod enc Tryd.prog W 0 (fun _ => true) true m 30 [v] = some y) (hsz : ∀ x ∈ y.1.weights Tryd.prog 30, x ≤ reachBytes) : ∃ A n c, v = .slice A n c ∧ BunIn W A n := by
  rcases Deep.open_slice Tryd.underlying30 h with ⟨hcs, _⟩ | ⟨ad, len, cap, mm, n, D, Pl, hcs, hb, hl, hm, hmm, hx, hi⟩
  · simp at hcs
    exact ⟨none, 0, 0, hcs, by omega, fun h0 => absurd h0 (by omega)⟩
  · simp at hcs
    have hn : len * 224 ≤ 140737488351232 := by
      have h1 := hsz ((((List.range len).map D).length + ((List.range (mm - len)).map fun j => D (len + j)).length) * 224) (by rw [hx]; simp [DataW.weights, Tryd.underlying30, Tryd.bytes51])
      simp only [List.length_map, List.length_range, reachBytes] at h1
      have h2 : len * 224 ≤ (len + (mm - len)) * 224 := Nat.mul_le_mul_right _ (by omega)
      omega
    refine ⟨some ad, len, cap, hcs, hn, fun h0 => ?_⟩
    have key : ∀ i, i < len → ∀ k, k < 4 → ∃ o d a b m s, I64 o ∧ I64 d ∧ I64 a ∧ I64 b ∧ I64 m ∧ s.size ≤ maxLen ∧ InsAt W ad (i * 24 + k * 6) o d a b m s := by
      intro i hi2 k hk
      obtain ⟨cs0, hc, ht0⟩ := hi i (by rw [hmm]; simp; omega)
      rw [Tryd.cells51] at hc
      obtain ⟨_, hcl, hat⟩ := World.cells?_some hc
      obtain ⟨xs, m0, _, _, _, hxl, hel⟩ := DataW.trod_array Tryd.underlying51 ht0
      have h1 := hel k hk
      have hkx : k < xs.length := by omega
      rw [List.getElem?_eq_getElem hkx, Tryd.cells35] at h1
      generalize xs[k] = x1 at h1
      generalize hcs : (cs0.drop (k * 6)).take 6 = cs at h1
      obtain ⟨ys, n', _, hy, hlen, hyl, hf⟩ := DataW.trod_struct Tryd.underlying35 h1
      rw [Tryd.cells35] at hlen
      match ys, hyl, hf with
      | [y0, y1, y2, y3, y4, y5], _, hf =>
        have f0 : DataW.trod enc Tryd.prog W 0 (fun _ => true) true n' 3 ((cs.drop 0).take (Tryd.prog.cellsOf 3)) = some y0 := hf 0 _ rfl
        have f1 : DataW.trod enc Tryd.prog W 0 (fun _ => true) true n' 3 ((cs.drop 1).take (Tryd.prog.cellsOf 3)) = some y1 := hf 1 _ rfl
        have f2 : DataW.trod enc Tryd.prog W 0 (fun _ => true) true n' 3 ((cs.drop 2).take (Tryd.prog.cellsOf 3)) = some y2 := hf 2 _ rfl
        have f3 : DataW.trod enc Tryd.prog W 0 (fun _ => true) true n' 3 ((cs.drop 3).take (Tryd.prog.cellsOf 3)) = some y3 := hf 3 _ rfl
        have f4 : DataW.trod enc Tryd.prog W 0 (fun _ => true) true n' 3 ((cs.drop 4).take (Tryd.prog.cellsOf 3)) = some y4 := hf 4 _ rfl
        have f5 : DataW.trod enc Tryd.prog W 0 (fun _ => true) true n' 9 ((cs.drop 5).take (Tryd.prog.cellsOf 9)) = some y5 := hf 5 _ rfl
        rw [Tryd.cells3] at f0 f1 f2 f3 f4
        rw [Tryd.cells9] at f5
        obtain ⟨z0, g0, _, w0⟩ := DataW.trod_int Tryd.underlying3 f0
        obtain ⟨z1, g1, _, w1⟩ := DataW.trod_int Tryd.underlying3 f1
        obtain ⟨z2, g2, _, w2⟩ := DataW.trod_int Tryd.underlying3 f2
        obtain ⟨z3, g3, _, w3⟩ := DataW.trod_int Tryd.underlying3 f3
        obtain ⟨z4, g4, _, w4⟩ := DataW.trod_int Tryd.underlying3 f4
        obtain ⟨s, g5, _, w5⟩ := DataW.trod_string Tryd.underlying9 f5
        have hat' : ∀ j, j < 6 → W.cell? (ad.add (i * 24 + k * 6 + j)) = cs[j]? := fun j hj => by
          have h3 := hat (k * 6 + j) (by omega)
          rw [Go.Deep.add_add, ← Nat.add_assoc] at h3
          rw [h3, ← hcs, List.getElem?_take, if_pos hj, List.getElem?_drop]
        refine ⟨z0, z1, z2, z3, z4, s, i64_wf w0, i64_wf w1, i64_wf w2, i64_wf w3, i64_wf w4, w5, ?_, ?_, ?_, ?_, ?_, ?_⟩
        · exact (hat' 0 (by omega)).trans (take_one g0)
        · exact (hat' 1 (by omega)).trans (take_one g1)
        · exact (hat' 2 (by omega)).trans (take_one g2)
        · exact (hat' 3 (by omega)).trans (take_one g3)
        · exact (hat' 4 (by omega)).trans (take_one g4)
        · exact (hat' 5 (by omega)).trans (take_one g5)
    obtain ⟨o, d, a, b, m, s, _, _, _, _, _, _, hc0, _⟩ := key 0 h0 0 (by omega)
    exact ⟨ad, rfl, by have := World.block_lt_of_cell? W _ hc0; rwa [block_add] at this, key⟩

theorem array5 {α : Type} {cs : Array α} (h : cs.size = 5) : ∃ c0 c1 c2 c3 c4, cs = #[c0, c1, c2, c3, c4] := by
  obtain ⟨l⟩ := cs
  match l, h with
  | [c0, c1, c2, c3, c4], _ => exact ⟨c0, c1, c2, c3, c4, rfl⟩
theorem ask_open {r : Reach} {b0 : Nat} {v : Value} {d : DataW H} {p : List MemPlace} {L : List Nat}
    (hv : Value.okWide Tryd.prog W r b0 32 v) (h : DataW.Trod enc Tryd.prog W 0 (fun _ => true) true 32 v d p) (hL : ∀ n ∈ d.weights Tryd.prog 32, n ∈ L) (hsz : L.all (· ≤ reachBytes) = true) :
    ∃ A1 n1 c1 A2 n2 c2 A3 n3 c3 A4 n4 c4 A5 n5 c5, v = .agg #[.slice A1 n1 c1, .slice A2 n2 c2, .slice A3 n3 c3, .slice A4 n4 c4, .slice A5 n5 c5] ∧ InsIn W A1 n1 ∧ SliceIn .u32 4 W A3 n3 c3 ∧ BunIn W A5 n5 := by
  obtain ⟨cs, rfl, hs5⟩ := okWide_struct Tryd.underlying32 hv
  obtain ⟨v0, v1, v2, v3, v4, rfl⟩ := array5 (hs5.trans Tryd.cells32)
  obtain ⟨fuel, hf⟩ := h
  obtain ⟨y0, y1, y2, n, hx, _, h0, h1, h2⟩ := Deep.trod_struct3 Tryd.underlying32 hf
  have g0 : DataW.trod enc Tryd.prog W 0 (fun _ => true) true n 25 [v0, v1] = some y0 := by simpa [Value.cells, Tryd.cells25] using h0
  have g1 : DataW.trod enc Tryd.prog W 0 (fun _ => true) true n 29 [v2, v3] = some y1 := by simpa [Value.cells, Tryd.cells29] using h1
  have g2 : DataW.trod enc Tryd.prog W 0 (fun _ => true) true n 30 [v4] = some y2 := by simpa [Value.cells, Tryd.cells30] using h2
  obtain ⟨z0, z1, n0, hx0, _, k0, k1⟩ := trod_struct2 Tryd.underlying25 g0
  obtain ⟨z2, z3, n2, hx1, _, k2, k3⟩ := trod_struct2 Tryd.underlying29 g1
  have i0 : DataW.trod enc Tryd.prog W 0 (fun _ => true) true n0 22 [v0] = some z0 := by simpa [Tryd.cells22] using k0
  have i1 : DataW.trod enc Tryd.prog W 0 (fun _ => true) true n0 23 [v1] = some z1 := by simpa [Tryd.cells23] using k1
  have i2 : DataW.trod enc Tryd.prog W 0 (fun _ => true) true n2 26 [v2] = some z2 := by simpa [Tryd.cells26] using k2
  have i3 : DataW.trod enc Tryd.prog W 0 (fun _ => true) true n2 27 [v3] = some z3 := by simpa [Tryd.cells27] using k3
  have hd : d = .agg [.agg [z0.1, z1.1], .agg [z2.1, z3.1], y2.1] := by
    have := congrArg Prod.fst hx
    simp only [hx0, hx1] at this
    exact this
  have hall : ∀ x ∈ d.weights Tryd.prog 32, x ≤ reachBytes := fun x hx => by simpa using List.all_eq_true.1 hsz x (hL x hx)
  rw [hd] at hall
  obtain ⟨A1, n1, c1, rfl, s1⟩ := ins_open i0
  obtain ⟨A2, m2, c2, e2⟩ := slice_form Tryd.underlying23 i1
  obtain ⟨A3, n3, c3, rfl, s3⟩ := field_open (bytes := 4) Tryd.underlying26 Tryd.underlying33 Tryd.cells33 Tryd.bytes33 i2 (fun x hx => hall x (by simp [DataW.weights, Tryd.underlying32, Tryd.underlying29, DataW.weightsEach]; exact Or.inr (Or.inr (Or.inl hx))))
  obtain ⟨A4, m4, c4, e4⟩ := slice_form Tryd.underlying27 i3
  obtain ⟨A5, n5, c5, rfl, s5⟩ := bun_open g2 (fun x hx => hall x (by simp [DataW.weights, Tryd.underlying32, DataW.weightsEach]; exact Or.inr (Or.inr (Or.inr (Or.inr hx)))))
  simp at e2 e4
  subst e2 e4
  exact ⟨A1, n1, c1, A2, m2, c2, A3, n3, c3, A4, m4, c4, A5, n5, c5, rfl, s1, s3, s5⟩
end
end Go.Proofs.YtlhdmdhecamlfaaDoor
