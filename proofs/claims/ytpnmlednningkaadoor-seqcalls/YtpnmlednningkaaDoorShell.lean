/-
  How the argument of the laws of layer 5 is opened: a script: a slice of instructions, a state, a slice of words, a slice of numbers; that the tables lie in the world out of the row's condition; a world that meets it.
-/
import Derived.Test.YtpnmlednningkaaDoorRs
import Derived.ProofKit
import Derived.SizedLaws
import Derived.LaidMore
import Derived.Stop.Joined
import Derived.Lib.SmallJoins
import Derived.Deep.Slices
import Derived.Deep.Strs
namespace Go.Proofs.YtpnmlednningkaaDoor
open Go.ChangeShapes Go.WideShapes Go.ChangeAt Go.RowKit Go.Joins

theorem Tryd.own : ownKnob Tryd.prog.godebug = none := by kernel_rfl
theorem Tryd.laidOut : laidOutB Tryd.prog = true := by kernel_rfl
theorem Tryd.cells29 : Tryd.prog.cellsOf 29 = 14 := by kernel_rfl
theorem Tryd.cells27 : Tryd.prog.cellsOf 27 = 11 := by kernel_rfl
theorem Tryd.cells22 : Tryd.prog.cellsOf 22 = 1 := by kernel_rfl
theorem Tryd.cells23 : Tryd.prog.cellsOf 23 = 1 := by kernel_rfl
theorem Tryd.cells24 : Tryd.prog.cellsOf 24 = 1 := by kernel_rfl
theorem Tryd.cells25 : Tryd.prog.cellsOf 25 = 1 := by kernel_rfl
theorem Tryd.cells54 : Tryd.prog.cellsOf 54 = 6 := by kernel_rfl
theorem Tryd.cells60 : Tryd.prog.cellsOf 60 = 1 := by kernel_rfl
theorem Tryd.cells68 : Tryd.prog.cellsOf 68 = 3 := by kernel_rfl
theorem Tryd.bytes54 : Tryd.prog.bytesOf 54 = 56 := by kernel_rfl
theorem Tryd.bytes60 : Tryd.prog.bytesOf 60 = 4 := by kernel_rfl
theorem Tryd.bytes3 : Tryd.prog.bytesOf 3 = 8 := by kernel_rfl
theorem Tryd.bytes68 : Tryd.prog.bytesOf 68 = 24 := by kernel_rfl
def I64 (x : Int) : Prop := -9223372036854775808 ≤ x ∧ x ≤ 9223372036854775807
theorem i64_wf {x : Int} (h : (Lit.int .i64 x).wf = true) : I64 x := by
  have h1 : IntKind.i64.min = -9223372036854775808 := rfl
  have h2 : IntKind.i64.max = 9223372036854775807 := rfl
  simp only [Lit.wf, Bool.and_eq_true, decide_eq_true_eq] at h
  unfold I64
  omega
theorem u32_wf {x : Int} (h : (Lit.int .u32 x).wf = true) : 0 ≤ x ∧ x ≤ 4294967295 := by
  have h1 : IntKind.u32.min = 0 := rfl
  have h2 : IntKind.u32.max = 4294967295 := rfl
  simp only [Lit.wf, Bool.and_eq_true, decide_eq_true_eq] at h
  omega
theorem door_met (os : Os) (args : Array Value) : laidMetH Tryd.prog laid2 ((World.doorLaid Tryd.prog 63 os).forCall (fun _ _ => 0) ⟨#[], args, []⟩).memory :=
  laidMetH_of_parts3 (fuel := 8) (laidMet_of_run' 8 (by kernel_rfl) (by kernel_rfl)) (by kernel_rfl) (by kernel_rfl)
/-- A slice of numbers as it comes in. -/
def SlI (k : IntKind) (W : World) (A : Option Addr) (n c : Nat) : Prop := ∃ l : List Int, Rd k W (.slice A n c) l ∧ l.length = n ∧ (∀ x ∈ l, (Lit.int k x).wf = true) ∧ n ≤ 140737488351232
/-- A slice of instructions as it comes in. -/
def SlP (W : World) (A : Option Addr) (n c : Nat) : Prop := ∃ xs : List In6, RdI W (.slice A n c) xs ∧ xs.length = n ∧ szs xs ∧ (∀ x ∈ xs, I64 x.o ∧ I64 x.d ∧ I64 x.a ∧ I64 x.b ∧ I64 x.m) ∧ n ≤ 140737488351232
/-- A write on its way, and a slice of them. -/
def wrC (f : Int × Int × Int) : List Value := [.int .i64 f.1, .int .u32 f.2.1, .int .i64 f.2.2]
def SlF (W : World) (A : Option Addr) (n _c : Nat) : Prop := (∃ fl : List (Int × Int × Int), fl.length = n ∧ (0 < n → ∃ ad : Addr, A = some ad ∧ ad.block < W.heap.size ∧ ∀ i f, fl[i]? = some f → ∀ j u, (wrC f)[j]? = some u → W.cell? (ad.add (i * 3 + j)) = some u)) ∧ n ≤ 140737488351232
section
variable {H : Type} {enc : TypeId × Value → H} {W : World}
theorem ints_open {t e : TypeId} {k : IntKind} {bytes m : Nat} {v : Value} {y : DataW H × List MemPlace} (ht : Tryd.prog.underlying t = some (.slice e)) (he : Tryd.prog.underlying e = some (.int k)) (hc : Tryd.prog.cellsOf e = 1) (hby : Tryd.prog.bytesOf e = bytes) (hb1 : 1 ≤ bytes)
    (h : DataW.trod enc Tryd.prog W 0 (fun _ => true) true m t [v] = some y) (hsz : ∀ x ∈ y.1.weights Tryd.prog t, x ≤ reachBytes) :
    ∃ A n c, v = .slice A n c ∧ SlI k W A n c := by
  rcases open_ints ht he hc h with ⟨hcs, _⟩ | ⟨ad, l, c, zs, hcs, _, hl, hm, hz, hx, hcell, hwz⟩
  · simp at hcs
    exact ⟨none, 0, 0, hcs, [], ⟨none, 0, rfl, fun h => absurd h (by simp)⟩, rfl, fun _ h => (by cases h), Nat.zero_le _⟩
  · simp at hcs
    subst hcs
    subst hx
    simp only [if_true] at hz
    have hlen : (zs.take l).length = l := by rw [List.length_take]; omega
    refine ⟨some ad, l, c, rfl, zs.take l, ⟨some ad, c, by rw [hlen], fun h0 => ⟨ad, rfl, ?_, ?_⟩⟩, hlen, fun x hx => hwz x (List.mem_of_mem_take hx), ?_⟩
    · have := World.block_lt_of_cell? W _ (hcell 0 (by omega))
      rwa [block_add] at this
    · intro j u hu
      have hj : j < l := by
        have := (List.getElem?_eq_some_iff.1 hu).1
        rw [List.length_map, List.length_take] at this
        omega
      rw [hcell j (by omega)]
      rw [List.getElem?_map, List.getElem?_take, if_pos hj, List.getElem?_eq_getElem (by omega)] at hu
      simpa [List.getD, List.getElem?_eq_getElem (show j < zs.length by omega)] using hu
    · have h1 := hsz (((lits (H := H) k (zs.take l)).length + (lits (H := H) k (zs.drop l)).length) * bytes) (by simp [DataW.weights, ht, hby])
      simp only [lits, List.length_map, List.length_take, List.length_drop, reachBytes] at h1
      have h2 : l * 1 ≤ (min l zs.length + (zs.length - l)) * bytes := Nat.mul_le_mul (by omega) hb1
      omega
theorem ins_open {m : Nat} {v : Value} {y : DataW H × List MemPlace} (h : DataW.trod enc Tryd.prog W 0 (fun _ => true) true m 22 [v] = some y) (hsz : ∀ x ∈ y.1.weights Tryd.prog 22, x ≤ reachBytes) : ∃ A n c, v = .slice A n c ∧ SlP W A n c := by
  rcases Deep.open_slice Tryd.underlying22 h with ⟨hcs, _⟩ | ⟨ad, len, cap, mm, n, D, Pl, hcs, hb, hl, hm, hmm, hx, hi⟩
  · simp at hcs
    exact ⟨none, 0, 0, hcs, [], ⟨none, 0, rfl, fun h => absurd h (by simp)⟩, rfl, fun _ h => (by cases h), fun _ h => (by cases h), Nat.zero_le _⟩
  · simp at hcs
    have key : ∀ i, ∃ x : In6, i < len → InAt6 W ad i x ∧ x.s.size ≤ maxLen ∧ (I64 x.o ∧ I64 x.d ∧ I64 x.a ∧ I64 x.b ∧ I64 x.m) := by
      intro i
      by_cases hi2 : i < len
      rotate_left
      · exact ⟨⟨0, 0, 0, 0, 0, ⟨#[]⟩⟩, fun h => absurd h hi2⟩
      obtain ⟨cs, hc, ht⟩ := hi i (by rw [hmm]; simp; omega)
      rw [Tryd.cells54] at hc
      obtain ⟨ys, n', _, hy, hlen, hyl, hf⟩ := DataW.trod_struct Tryd.underlying54 ht
      rw [Tryd.cells54] at hlen
      obtain ⟨_, hcl, hat⟩ := World.cells?_some hc
      match ys, hyl, hf with
      | [y0, y1, y2, y3, y4, y5], _, hf =>
        have f0 : DataW.trod enc Tryd.prog W 0 (fun _ => true) true n' 3 ((cs.drop 0).take (Tryd.prog.cellsOf 3)) = some y0 := hf 0 _ rfl
        have f1 : DataW.trod enc Tryd.prog W 0 (fun _ => true) true n' 3 ((cs.drop 1).take (Tryd.prog.cellsOf 3)) = some y1 := hf 1 _ rfl
        have f2 : DataW.trod enc Tryd.prog W 0 (fun _ => true) true n' 3 ((cs.drop 2).take (Tryd.prog.cellsOf 3)) = some y2 := hf 2 _ rfl
        have f3 : DataW.trod enc Tryd.prog W 0 (fun _ => true) true n' 3 ((cs.drop 3).take (Tryd.prog.cellsOf 3)) = some y3 := hf 3 _ rfl
        have f4 : DataW.trod enc Tryd.prog W 0 (fun _ => true) true n' 3 ((cs.drop 4).take (Tryd.prog.cellsOf 3)) = some y4 := hf 4 _ rfl
        have f5 : DataW.trod enc Tryd.prog W 0 (fun _ => true) true n' 9 ((cs.drop 5).take (Tryd.prog.cellsOf 9)) = some y5 := hf 5 _ rfl
        rw [Tryd.cells3] at f0 f1 f2 f3 f4
        rw [Tryd.cells9] at f5
        obtain ⟨z0, g0, _, w0⟩ := DataW.trod_int Tryd.underlying3 f0
        obtain ⟨z1, g1, _, w1⟩ := DataW.trod_int Tryd.underlying3 f1
        obtain ⟨z2, g2, _, w2⟩ := DataW.trod_int Tryd.underlying3 f2
        obtain ⟨z3, g3, _, w3⟩ := DataW.trod_int Tryd.underlying3 f3
        obtain ⟨z4, g4, _, w4⟩ := DataW.trod_int Tryd.underlying3 f4
        obtain ⟨s, g5, _, w5⟩ := DataW.trod_string Tryd.underlying9 f5
        refine ⟨⟨z0, z1, z2, z3, z4, s⟩, fun _ => ⟨fun j u hu => ?_, w5, i64_wf w0, i64_wf w1, i64_wf w2, i64_wf w3, i64_wf w4⟩⟩
        rw [in6_list] at hu
        have hj : j < 6 := (List.getElem?_eq_some_iff.1 hu).1
        rw [← Go.Deep.add_add, hat j hj]
        match j, hj with
        | 0, _ => exact (take_one g0).trans hu
        | 1, _ => exact (take_one g1).trans hu
        | 2, _ => exact (take_one g2).trans hu
        | 3, _ => exact (take_one g3).trans hu
        | 4, _ => exact (take_one g4).trans hu
        | 5, _ => exact (take_one g5).trans hu
    have hlen : ((List.range len).map fun i => Classical.choose (key i)).length = len := by simp
    refine ⟨some ad, len, cap, hcs, (List.range len).map (fun i => Classical.choose (key i)), ⟨some ad, cap, by rw [hlen], fun h0 => ⟨ad, rfl, ?_, fun i x hix => ?_⟩⟩, hlen, fun x hx => ?_, fun x hx => ?_, ?_⟩
    · rw [hlen] at h0
      have h1 := (Classical.choose_spec (key 0) h0).1 0 _ rfl
      have := World.block_lt_of_cell? W _ h1
      rwa [block_add] at this
    · have hil : i < len := by have := (List.getElem?_eq_some_iff.1 hix).1; rwa [hlen] at this
      have h1 := (Classical.choose_spec (key i) hil).1
      have h2 : ((List.range len).map fun i => Classical.choose (key i))[i]? = some (Classical.choose (key i)) := by simp [hil]
      rw [h2] at hix
      cases hix
      exact h1
    · obtain ⟨i, hi2, rfl⟩ := List.mem_map.1 hx
      exact (Classical.choose_spec (key i) (List.mem_range.1 hi2)).2.1
    · obtain ⟨i, hi2, rfl⟩ := List.mem_map.1 hx
      exact (Classical.choose_spec (key i) (List.mem_range.1 hi2)).2.2
    · have h1 := hsz ((((List.range len).map D).length + ((List.range (mm - len)).map fun j => D (len + j)).length) * 56) (by rw [hx]; simp [DataW.weights, Tryd.underlying22, Tryd.bytes54])
      simp only [List.length_map, List.length_range, reachBytes] at h1
      have h2 : len * 1 ≤ (len + (mm - len)) * 56 := Nat.mul_le_mul (by omega) (by decide)
      omega
theorem fly_open {m : Nat} {v : Value} {y : DataW H × List MemPlace} (h : DataW.trod enc Tryd.prog W 0 (fun _ => true) true m 25 [v] = some y) (hsz : ∀ x ∈ y.1.weights Tryd.prog 25, x ≤ reachBytes) : ∃ A n c, v = .slice A n c ∧ SlF W A n c := by
  rcases Deep.open_slice Tryd.underlying25 h with ⟨hcs, _⟩ | ⟨ad, len, cap, mm, n, D, Pl, hcs, hb, hl, hm, hmm, hx, hi⟩
  · simp at hcs
    exact ⟨none, 0, 0, hcs, ⟨[], rfl, fun h => absurd h (by simp)⟩, Nat.zero_le _⟩
  · simp at hcs
    have key : ∀ i, ∃ x : Int × Int × Int, i < len → ∀ j u, (wrC x)[j]? = some u → W.cell? (ad.add (i * 3 + j)) = some u := by
      intro i
      by_cases hi2 : i < len
      rotate_left
      · exact ⟨(0, 0, 0), fun h => absurd h hi2⟩
      obtain ⟨cs, hc, ht⟩ := hi i (by rw [hmm]; simp; omega)
      rw [Tryd.cells68] at hc
      obtain ⟨ys, n', _, hy, hlen, hyl, hf⟩ := DataW.trod_struct Tryd.underlying68 ht
      rw [Tryd.cells68] at hlen
      obtain ⟨_, hcl, hat⟩ := World.cells?_some hc
      match ys, hyl, hf with
      | [y0, y1, y2], _, hf =>
        have f0 : DataW.trod enc Tryd.prog W 0 (fun _ => true) true n' 3 ((cs.drop 0).take (Tryd.prog.cellsOf 3)) = some y0 := hf 0 _ rfl
        have f1 : DataW.trod enc Tryd.prog W 0 (fun _ => true) true n' 60 ((cs.drop 1).take (Tryd.prog.cellsOf 60)) = some y1 := hf 1 _ rfl
        have f2 : DataW.trod enc Tryd.prog W 0 (fun _ => true) true n' 3 ((cs.drop 2).take (Tryd.prog.cellsOf 3)) = some y2 := hf 2 _ rfl
        rw [Tryd.cells3] at f0 f2
        rw [Tryd.cells60] at f1
        obtain ⟨z0, g0, _, w0⟩ := DataW.trod_int Tryd.underlying3 f0
        obtain ⟨z1, g1, _, w1⟩ := DataW.trod_int Tryd.underlying60 f1
        obtain ⟨z2, g2, _, w2⟩ := DataW.trod_int Tryd.underlying3 f2
        refine ⟨(z0, z1, z2), fun _ j u hu => ?_⟩
        have hj : j < 3 := (List.getElem?_eq_some_iff.1 hu).1
        rw [← Go.Deep.add_add, hat j hj]
        match j, hj with
        | 0, _ => exact (take_one g0).trans hu
        | 1, _ => exact (take_one g1).trans hu
        | 2, _ => exact (take_one g2).trans hu
    have hlen : ((List.range len).map fun i => Classical.choose (key i)).length = len := by simp
    refine ⟨some ad, len, cap, hcs, ⟨(List.range len).map (fun i => Classical.choose (key i)), hlen, fun h0 => ⟨ad, rfl, ?_, fun i x hix => ?_⟩⟩, ?_⟩
    · have h1 := (Classical.choose_spec (key 0) h0) 0 _ rfl
      have := World.block_lt_of_cell? W _ h1
      rwa [block_add] at this
    · have hil : i < len := by have := (List.getElem?_eq_some_iff.1 hix).1; rwa [hlen] at this
      have h2 : ((List.range len).map fun i => Classical.choose (key i))[i]? = some (Classical.choose (key i)) := by simp [hil]
      rw [h2] at hix
      cases hix
      exact Classical.choose_spec (key i) hil
    · have h1 := hsz ((((List.range len).map D).length + ((List.range (mm - len)).map fun j => D (len + j)).length) * 24) (by rw [hx]; simp [DataW.weights, Tryd.underlying25, Tryd.bytes68])
      simp only [List.length_map, List.length_range, reachBytes] at h1
      have h2 : len * 1 ≤ (len + (mm - len)) * 24 := Nat.mul_le_mul (by omega) (by decide)
      omega
theorem array14 {α : Type} {cs : Array α} (h : cs.size = 14) : ∃ a0 a1 a2 a3 a4 a5 a6 a7 a8 a9 a10 a11 a12 a13, cs = #[a0, a1, a2, a3, a4, a5, a6, a7, a8, a9, a10, a11, a12, a13] := by
  obtain ⟨l⟩ := cs
  match l, h with
  | [a0, a1, a2, a3, a4, a5, a6, a7, a8, a9, a10, a11, a12, a13], _ => exact ⟨a0, a1, a2, a3, a4, a5, a6, a7, a8, a9, a10, a11, a12, a13, rfl⟩
theorem one_of {i : Nat} {cs : List Value} {u : Value} (h : (cs.drop i).take 1 = [u]) : cs[i]? = some u := take_one h
/-- A script as it comes in. -/
def Asked (W : World) (v : Value) : Prop := ∃ (A0 A1 A2 A3 A4 A5 A6 A7 A8 : Option Addr) (n0 c0 n1 c1 n2 c2 n3 c3 n4 c4 n5 c5 n6 c6 n7 c7 n8 c8 : Nat) (tk pc stop j d : Int),
  v = .agg #[.slice A0 n0 c0, .slice A1 n1 c1, .slice A2 n2 c2, .slice A3 n3 c3, .int .i64 tk, .slice A4 n4 c4, .int .i64 pc, .slice A5 n5 c5, .int .i64 stop, .slice A6 n6 c6, .int .i64 j, .int .i64 d, .slice A7 n7 c7, .slice A8 n8 c8] ∧
  SlP W A0 n0 c0 ∧ SlI .u32 W A1 n1 c1 ∧ SlI .u32 W A2 n2 c2 ∧ SlI .u32 W A3 n3 c3 ∧ SlI .u32 W A4 n4 c4 ∧ SlI .i64 W A5 n5 c5 ∧ SlF W A6 n6 c6 ∧ SlI .u32 W A7 n7 c7 ∧ SlI .i64 W A8 n8 c8 ∧ I64 tk ∧ I64 pc ∧ I64 stop ∧ I64 j ∧ I64 d
set_option maxRecDepth 20000 in
set_option maxHeartbeats 1000000 in
theorem ask_open {r : Reach} {b0 : Nat} {v : Value} {d : DataW H} {p : List MemPlace} {L : List Nat}
    (hv : Value.okWide Tryd.prog W r b0 29 v) (h : DataW.Trod enc Tryd.prog W 0 (fun _ => true) true 29 v d p) (hL : ∀ n ∈ d.weights Tryd.prog 29, n ∈ L) (hsz : L.all (· ≤ reachBytes) = true) : Asked W v := by
  obtain ⟨cs, rfl, hs⟩ := okWide_struct Tryd.underlying29 hv
  obtain ⟨a0, a1, a2, a3, a4, a5, a6, a7, a8, a9, a10, a11, a12, a13, rfl⟩ := array14 (hs.trans Tryd.cells29)
  obtain ⟨fuel, hf⟩ := h
  obtain ⟨ys, n', _, hy, hlen, hyl, hg⟩ := DataW.trod_struct Tryd.underlying29 hf
  have hall : ∀ x ∈ d.weights Tryd.prog 29, x ≤ reachBytes := fun x hx => by simpa using List.all_eq_true.1 hsz x (hL x hx)
  match ys, hyl, hg, hy with
  | [y0, y1, y2, y3], _, hg, hy =>
    have g0 : DataW.trod enc Tryd.prog W 0 (fun _ => true) true n' 22 [a0] = some y0 := by have := hg 0 _ rfl; simpa [Value.cells, Tryd.cells22] using this
    have g1 : DataW.trod enc Tryd.prog W 0 (fun _ => true) true n' 27 [a1, a2, a3, a4, a5, a6, a7, a8, a9, a10, a11] = some y1 := by have := hg 1 _ rfl; simpa [Value.cells, Tryd.cells27] using this
    have g2 : DataW.trod enc Tryd.prog W 0 (fun _ => true) true n' 23 [a12] = some y2 := by have := hg 2 _ rfl; simpa [Value.cells, Tryd.cells23] using this
    have g3 : DataW.trod enc Tryd.prog W 0 (fun _ => true) true n' 24 [a13] = some y3 := by have := hg 3 _ rfl; simpa [Value.cells, Tryd.cells24] using this
    obtain ⟨zs, n2, _, hz, _, hzl, hk⟩ := DataW.trod_struct Tryd.underlying27 g1
    match zs, hzl, hk, hz with
    | [z0, z1, z2, z3, z4, z5, z6, z7, z8, z9, z10], _, hk, hz =>
      have k0 : DataW.trod enc Tryd.prog W 0 (fun _ => true) true n2 23 [a1] = some z0 := by have := hk 0 _ rfl; simpa [Tryd.cells23] using this
      have k1 : DataW.trod enc Tryd.prog W 0 (fun _ => true) true n2 23 [a2] = some z1 := by have := hk 1 _ rfl; simpa [Tryd.cells23] using this
      have k2 : DataW.trod enc Tryd.prog W 0 (fun _ => true) true n2 23 [a3] = some z2 := by have := hk 2 _ rfl; simpa [Tryd.cells23] using this
      have k3 : DataW.trod enc Tryd.prog W 0 (fun _ => true) true n2 3 [a4] = some z3 := by have := hk 3 _ rfl; simpa [Tryd.cells3] using this
      have k4 : DataW.trod enc Tryd.prog W 0 (fun _ => true) true n2 23 [a5] = some z4 := by have := hk 4 _ rfl; simpa [Tryd.cells23] using this
      have k5 : DataW.trod enc Tryd.prog W 0 (fun _ => true) true n2 3 [a6] = some z5 := by have := hk 5 _ rfl; simpa [Tryd.cells3] using this
      have k6 : DataW.trod enc Tryd.prog W 0 (fun _ => true) true n2 24 [a7] = some z6 := by have := hk 6 _ rfl; simpa [Tryd.cells24] using this
      have k7 : DataW.trod enc Tryd.prog W 0 (fun _ => true) true n2 3 [a8] = some z7 := by have := hk 7 _ rfl; simpa [Tryd.cells3] using this
      have k8 : DataW.trod enc Tryd.prog W 0 (fun _ => true) true n2 25 [a9] = some z8 := by have := hk 8 _ rfl; simpa [Tryd.cells25] using this
      have k9 : DataW.trod enc Tryd.prog W 0 (fun _ => true) true n2 3 [a10] = some z9 := by have := hk 9 _ rfl; simpa [Tryd.cells3] using this
      have k10 : DataW.trod enc Tryd.prog W 0 (fun _ => true) true n2 3 [a11] = some z10 := by have := hk 10 _ rfl; simpa [Tryd.cells3] using this
      have hd : d = .agg [y0.1, .agg [z0.1, z1.1, z2.1, z3.1, z4.1, z5.1, z6.1, z7.1, z8.1, z9.1, z10.1], y2.1, y3.1] := by
        have e1 := congrArg Prod.fst hy
        have e2 := congrArg Prod.fst hz
        simp only [List.map] at e1 e2
        rw [e1, e2]
      rw [hd] at hall
      obtain ⟨A0, n0, c0, rfl, s0⟩ := ins_open g0 (fun x hx => hall x (by simp [DataW.weights, Tryd.underlying29, Tryd.underlying27, DataW.weightsEach, hx]))
      obtain ⟨A1, n1, c1, rfl, s1⟩ := ints_open Tryd.underlying23 Tryd.underlying60 Tryd.cells60 Tryd.bytes60 (by decide) k0 (fun x hx => hall x (by simp [DataW.weights, Tryd.underlying29, Tryd.underlying27, DataW.weightsEach, hx]))
      obtain ⟨A2, n2', c2, rfl, s2⟩ := ints_open Tryd.underlying23 Tryd.underlying60 Tryd.cells60 Tryd.bytes60 (by decide) k1 (fun x hx => hall x (by simp [DataW.weights, Tryd.underlying29, Tryd.underlying27, DataW.weightsEach, hx]))
      obtain ⟨A3, n3, c3, rfl, s3⟩ := ints_open Tryd.underlying23 Tryd.underlying60 Tryd.cells60 Tryd.bytes60 (by decide) k2 (fun x hx => hall x (by simp [DataW.weights, Tryd.underlying29, Tryd.underlying27, DataW.weightsEach, hx]))
      obtain ⟨A4, n4, c4, rfl, s4⟩ := ints_open Tryd.underlying23 Tryd.underlying60 Tryd.cells60 Tryd.bytes60 (by decide) k4 (fun x hx => hall x (by simp [DataW.weights, Tryd.underlying29, Tryd.underlying27, DataW.weightsEach, hx]))
      obtain ⟨A5, n5, c5, rfl, s5⟩ := ints_open Tryd.underlying24 Tryd.underlying3 Tryd.cells3 Tryd.bytes3 (by decide) k6 (fun x hx => hall x (by simp [DataW.weights, Tryd.underlying29, Tryd.underlying27, DataW.weightsEach, hx]))
      obtain ⟨A6, n6, c6, rfl, s6⟩ := fly_open k8 (fun x hx => hall x (by simp [DataW.weights, Tryd.underlying29, Tryd.underlying27, DataW.weightsEach, hx]))
      obtain ⟨A7, n7, c7, rfl, s7⟩ := ints_open Tryd.underlying23 Tryd.underlying60 Tryd.cells60 Tryd.bytes60 (by decide) g2 (fun x hx => hall x (by simp [DataW.weights, Tryd.underlying29, Tryd.underlying27, DataW.weightsEach, hx]))
      obtain ⟨A8, n8, c8, rfl, s8⟩ := ints_open Tryd.underlying24 Tryd.underlying3 Tryd.cells3 Tryd.bytes3 (by decide) g3 (fun x hx => hall x (by simp [DataW.weights, Tryd.underlying29, Tryd.underlying27, DataW.weightsEach, hx]))
      obtain ⟨x3, e3, _, w3⟩ := DataW.trod_int Tryd.underlying3 k3
      obtain ⟨x5, e5, _, w5⟩ := DataW.trod_int Tryd.underlying3 k5
      obtain ⟨x7, e7, _, w7⟩ := DataW.trod_int Tryd.underlying3 k7
      obtain ⟨x9, e9, _, w9⟩ := DataW.trod_int Tryd.underlying3 k9
      obtain ⟨x10, e10, _, w10⟩ := DataW.trod_int Tryd.underlying3 k10
      simp only [List.cons.injEq, and_true] at e3 e5 e7 e9 e10
      subst e3 e5 e7 e9 e10
      exact ⟨A0, A1, A2, A3, A4, A5, A6, A7, A8, n0, c0, n1, c1, n2', c2, n3, c3, n4, c4, n5, c5, n6, c6, n7, c7, n8, c8, x3, x5, x7, x9, x10, rfl, s0, s1, s2, s3, s4, s5, s6, s7, s8, i64_wf w3, i64_wf w5, i64_wf w7, i64_wf w9, i64_wf w10⟩
end
/-- What the laws of programs made here lean on. -/
theorem Asked.sc {W : World} {v : Value} (h : Asked W v) : ∃ xs ins, ScI W v xs ins := by
  obtain ⟨A0, A1, A2, A3, A4, A5, A6, A7, A8, n0, c0, n1, c1, n2, c2, n3, c3, n4, c4, n5, c5, n6, c6, n7, c7, n8, c8, tk, pc, stop, j, d, rfl, ⟨xs, p1, p2, p3, p4, p5⟩, ⟨_, _, _, _, b1⟩, ⟨_, _, _, _, b2⟩, ⟨_, _, _, _, b3⟩, ⟨_, _, _, _, b4⟩, ⟨_, _, _, _, b5⟩, ⟨_, b6⟩, ⟨ins, i1, i2, i3, b7⟩, ⟨_, _, _, _, b8⟩, _⟩ := h
  exact ⟨xs, ins, ⟨A0, A1, A2, A3, A4, A5, A6, A7, A8, n0, c0, n1, c1, n2, c2, n3, c3, n4, c4, n5, c5, n6, c6, n7, c7, n8, c8, tk, pc, stop, j, d, rfl, p1, p2, i1, i2, by omega, by omega, by omega, by omega, by omega, by omega, by omega, by omega, by omega⟩, p3, fun x hx => u32_wf (i3 x hx)⟩
theorem ScI.below {w w' : World} {s : Value} {xs : List In6} {ins : List Int} (h : ScI w s xs ins) (hb : Below w.heap.size w w') : ScI w' s xs ins := by
  obtain ⟨A0, A1, A2, A3, A4, A5, A6, A7, A8, n0, c0, n1, c1, n2, c2, n3, c3, n4, c4, n5, c5, n6, c6, n7, c7, n8, c8, tk, pc, stop, j, d, rfl, p1, p2, i1, i2, hr⟩ := h.form
  exact ⟨⟨A0, A1, A2, A3, A4, A5, A6, A7, A8, n0, c0, n1, c1, n2, c2, n3, c3, n4, c4, n5, c5, n6, c6, n7, c7, n8, c8, tk, pc, stop, j, d, rfl, p1.keep hb, p2, i1.below hb, i2, hr⟩, h.sz, h.wd⟩
end Go.Proofs.YtpnmlednningkaaDoor
