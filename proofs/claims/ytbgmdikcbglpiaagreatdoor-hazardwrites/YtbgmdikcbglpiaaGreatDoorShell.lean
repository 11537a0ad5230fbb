/-
  How the argument of the laws of layer 6 is opened, as far as the laws of code made here look at it: a script: a slice of bundles, a state, a slice of numbers; a world that meets the row's condition.
-/
import Derived.Test.YtbgmdikcbglpiaaGreatDoorRs
import Derived.ProofKit
import Derived.SizedLaws
import Derived.LaidMore
import Derived.Stop.Joined
import Derived.Lib.SmallJoins
import Derived.Deep.Slices
import Derived.Deep.Strs
namespace Go.Proofs.YtbgmdikcbglpiaaGreatDoor
open Go.ChangeShapes Go.WideShapes Go.ChangeAt Go.RowKit Go.Joins

theorem Tryz.own : ownKnob Tryz.prog.godebug = none := by kernel_rfl
theorem Tryz.laidOut : laidOutB Tryz.prog = true := by kernel_rfl
theorem Tryz.cells29 : Tryz.prog.cellsOf 29 = 13 := by kernel_rfl
theorem Tryz.cells27 : Tryz.prog.cellsOf 27 = 11 := by kernel_rfl
theorem Tryz.cells22 : Tryz.prog.cellsOf 22 = 1 := by kernel_rfl
theorem Tryz.cells23 : Tryz.prog.cellsOf 23 = 1 := by kernel_rfl
theorem Tryz.cells24 : Tryz.prog.cellsOf 24 = 1 := by kernel_rfl
theorem Tryz.cells25 : Tryz.prog.cellsOf 25 = 1 := by kernel_rfl
theorem Tryz.bytes3 : Tryz.prog.bytesOf 3 = 8 := by kernel_rfl
def I64 (x : Int) : Prop := -9223372036854775808 ≤ x ∧ x ≤ 9223372036854775807
theorem i64_wf {x : Int} (h : (Lit.int .i64 x).wf = true) : I64 x := by
  have h1 : IntKind.i64.min = -9223372036854775808 := rfl
  have h2 : IntKind.i64.max = 9223372036854775807 := rfl
  simp only [Lit.wf, Bool.and_eq_true, decide_eq_true_eq] at h
  unfold I64
  omega
theorem u32_wf {x : Int} (h : (Lit.int .u32 x).wf = true) : 0 ≤ x ∧ x ≤ 4294967295 := by
  have h1 : IntKind.u32.min = 0 := rfl
  have h2 : IntKind.u32.max = 4294967295 := rfl
  simp only [Lit.wf, Bool.and_eq_true, decide_eq_true_eq] at h
  omega
theorem door_met (os : Os) (args : Array Value) : laidMetH Tryz.prog laid2 ((World.doorLaid Tryz.prog 63 os).forCall (fun _ _ => 0) ⟨#[], args, []⟩).memory :=
  laidMetH_of_parts3 (fuel := 8) (laidMet_of_run' 8 (by kernel_rfl) (by kernel_rfl)) (by kernel_rfl) (by kernel_rfl)
/-- A slice of numbers as it comes in. -/
def SlI (k : IntKind) (W : World) (A : Option Addr) (n c : Nat) : Prop := ∃ l : List Int, Rd k W (.slice A n c) l ∧ l.length = n ∧ (∀ x ∈ l, (Lit.int k x).wf = true) ∧ n ≤ 140737488351232
section
variable {H : Type} {enc : TypeId × Value → H} {W : World}
theorem ints_open {t e : TypeId} {k : IntKind} {bytes m : Nat} {v : Value} {y : DataW H × List MemPlace} (ht : Tryz.prog.underlying t = some (.slice e)) (he : Tryz.prog.underlying e = some (.int k)) (hc : Tryz.prog.cellsOf e = 1) (hby : Tryz.prog.bytesOf e = bytes) (hb1 : 1 ≤ bytes)
    (h : DataW.trod enc Tryz.prog W 0 (fun _ => true) true m t [v] = some y) (hsz : ∀ x ∈ y.1.weights Tryz.prog t, x ≤ reachBytes) :
    ∃ A n c, v = .slice A n c ∧ SlI k W A n c := by
  rcases open_ints ht he hc h with ⟨hcs, _⟩ | ⟨ad, l, c, zs, hcs, _, hl, hm, hz, hx, hcell, hwz⟩
  · simp at hcs
    exact ⟨none, 0, 0, hcs, [], ⟨none, 0, rfl, fun h => absurd h (by simp)⟩, rfl, fun _ h => (by cases h), Nat.zero_le _⟩
  · simp at hcs
    subst hcs
    subst hx
    simp only [if_true] at hz
    have hlen : (zs.take l).length = l := by rw [List.length_take]; omega
    refine ⟨some ad, l, c, rfl, zs.take l, ⟨some ad, c, by rw [hlen], fun h0 => ⟨ad, rfl, ?_, ?_⟩⟩, hlen, fun x hx => hwz x (List.mem_of_mem_take hx), ?_⟩
    · have := World.block_lt_of_cell? W _ (hcell 0 (by omega))
      rwa [block_add] at this
    · intro j u hu
      have hj : j < l := by
        have := (List.getElem?_eq_some_iff.1 hu).1
        rw [List.length_map, List.length_take] at this
        omega
      rw [hcell j (by omega)]
      rw [List.getElem?_map, List.getElem?_take, if_pos hj, List.getElem?_eq_getElem (by omega)] at hu
      simpa [List.getD, List.getElem?_eq_getElem (show j < zs.length by omega)] using hu
    · have h1 := hsz (((lits (H := H) k (zs.take l)).length + (lits (H := H) k (zs.drop l)).length) * bytes) (by simp [DataW.weights, ht, hby])
      simp only [lits, List.length_map, List.length_take, List.length_drop, reachBytes] at h1
      have h2 : l * 1 ≤ (min l zs.length + (zs.length - l)) * bytes := Nat.mul_le_mul (by omega) hb1
      omega
theorem slice_open {t e : TypeId} {m : Nat} {v : Value} {y : DataW H × List MemPlace} (ht : Tryz.prog.underlying t = some (.slice e)) (h : DataW.trod enc Tryz.prog W 0 (fun _ => true) true m t [v] = some y) : ∃ A n c, v = .slice A n c := by
  rcases Deep.open_slice ht h with ⟨hcs, _⟩ | ⟨ad, len, cap, mm, n, D, Pl, hcs, hb, hl, hm, hmm, hx, hi⟩
  · simp at hcs
    exact ⟨none, 0, 0, hcs⟩
  · simp at hcs
    exact ⟨some ad, len, cap, hcs⟩
theorem array13 {α : Type} {cs : Array α} (h : cs.size = 13) : ∃ a0 a1 a2 a3 a4 a5 a6 a7 a8 a9 a10 a11 a12, cs = #[a0, a1, a2, a3, a4, a5, a6, a7, a8, a9, a10, a11, a12] := by
  obtain ⟨l⟩ := cs
  match l, h with
  | [a0, a1, a2, a3, a4, a5, a6, a7, a8, a9, a10, a11, a12], _ => exact ⟨a0, a1, a2, a3, a4, a5, a6, a7, a8, a9, a10, a11, a12, rfl⟩
/-- A script as it comes in, as far as these laws look at it. -/
def Asked (v : Value) : Prop := ∃ (A0 A1 A2 A3 A4 A5 A6 A8 : Option Addr) (n0 c0 n1 c1 n2 c2 n3 c3 n4 c4 n5 c5 n6 c6 n8 c8 : Nat) (tk pc stop j d : Int), v = .agg #[.slice A0 n0 c0, .slice A1 n1 c1, .slice A2 n2 c2, .slice A3 n3 c3, .int .i64 tk, .slice A4 n4 c4, .int .i64 pc, .slice A5 n5 c5, .int .i64 stop, .slice A6 n6 c6, .int .i64 j, .int .i64 d, .slice A8 n8 c8] ∧ n8 ≤ 140737488351232
set_option maxRecDepth 20000 in
set_option maxHeartbeats 1000000 in
theorem ask_open {r : Reach} {b0 : Nat} {v : Value} {d : DataW H} {p : List MemPlace} {L : List Nat}
    (hv : Value.okWide Tryz.prog W r b0 29 v) (h : DataW.Trod enc Tryz.prog W 0 (fun _ => true) true 29 v d p) (hL : ∀ n ∈ d.weights Tryz.prog 29, n ∈ L) (hsz : L.all (· ≤ reachBytes) = true) : Asked v := by
  obtain ⟨cs, rfl, hs⟩ := okWide_struct Tryz.underlying29 hv
  obtain ⟨a0, a1, a2, a3, a4, a5, a6, a7, a8, a9, a10, a11, a12, rfl⟩ := array13 (hs.trans Tryz.cells29)
  obtain ⟨fuel, hf⟩ := h
  obtain ⟨ys, n', _, hy, hlen, hyl, hg⟩ := DataW.trod_struct Tryz.underlying29 hf
  have hall : ∀ x ∈ d.weights Tryz.prog 29, x ≤ reachBytes := fun x hx => by simpa using List.all_eq_true.1 hsz x (hL x hx)
  match ys, hyl, hg, hy with
  | [y0, y1, y2], _, hg, hy =>
    have g0 : DataW.trod enc Tryz.prog W 0 (fun _ => true) true n' 22 [a0] = some y0 := by have := hg 0 _ rfl; simpa [Value.cells, Tryz.cells22] using this
    have g1 : DataW.trod enc Tryz.prog W 0 (fun _ => true) true n' 27 [a1, a2, a3, a4, a5, a6, a7, a8, a9, a10, a11] = some y1 := by have := hg 1 _ rfl; simpa [Value.cells, Tryz.cells27] using this
    have g2 : DataW.trod enc Tryz.prog W 0 (fun _ => true) true n' 24 [a12] = some y2 := by have := hg 2 _ rfl; simpa [Value.cells, Tryz.cells24] using this
    obtain ⟨zs, n2, _, hz, _, hzl, hk⟩ := DataW.trod_struct Tryz.underlying27 g1
    match zs, hzl, hk, hz with
    | [z0, z1, z2, z3, z4, z5, z6, z7, z8, z9, z10], _, hk, hz =>
      have k0 : DataW.trod enc Tryz.prog W 0 (fun _ => true) true n2 23 [a1] = some z0 := by have := hk 0 _ rfl; simpa [Tryz.cells23] using this
      have k1 : DataW.trod enc Tryz.prog W 0 (fun _ => true) true n2 23 [a2] = some z1 := by have := hk 1 _ rfl; simpa [Tryz.cells23] using this
      have k2 : DataW.trod enc Tryz.prog W 0 (fun _ => true) true n2 23 [a3] = some z2 := by have := hk 2 _ rfl; simpa [Tryz.cells23] using this
      have k3 : DataW.trod enc Tryz.prog W 0 (fun _ => true) true n2 3 [a4] = some z3 := by have := hk 3 _ rfl; simpa [Tryz.cells3] using this
      have k4 : DataW.trod enc Tryz.prog W 0 (fun _ => true) true n2 23 [a5] = some z4 := by have := hk 4 _ rfl; simpa [Tryz.cells23] using this
      have k5 : DataW.trod enc Tryz.prog W 0 (fun _ => true) true n2 3 [a6] = some z5 := by have := hk 5 _ rfl; simpa [Tryz.cells3] using this
      have k6 : DataW.trod enc Tryz.prog W 0 (fun _ => true) true n2 24 [a7] = some z6 := by have := hk 6 _ rfl; simpa [Tryz.cells24] using this
      have k7 : DataW.trod enc Tryz.prog W 0 (fun _ => true) true n2 3 [a8] = some z7 := by have := hk 7 _ rfl; simpa [Tryz.cells3] using this
      have k8 : DataW.trod enc Tryz.prog W 0 (fun _ => true) true n2 25 [a9] = some z8 := by have := hk 8 _ rfl; simpa [Tryz.cells25] using this
      have k9 : DataW.trod enc Tryz.prog W 0 (fun _ => true) true n2 3 [a10] = some z9 := by have := hk 9 _ rfl; simpa [Tryz.cells3] using this
      have k10 : DataW.trod enc Tryz.prog W 0 (fun _ => true) true n2 3 [a11] = some z10 := by have := hk 10 _ rfl; simpa [Tryz.cells3] using this
      have hd : d = .agg [y0.1, .agg [z0.1, z1.1, z2.1, z3.1, z4.1, z5.1, z6.1, z7.1, z8.1, z9.1, z10.1], y2.1] := by
        have e1 := congrArg Prod.fst hy
        have e2 := congrArg Prod.fst hz
        simp only [List.map] at e1 e2
        rw [e1, e2]
      rw [hd] at hall
      obtain ⟨A0, n0, c0, rfl⟩ := slice_open Tryz.underlying22 g0
      obtain ⟨A1, n1, c1, rfl⟩ := slice_open Tryz.underlying23 k0
      obtain ⟨A2, n2', c2, rfl⟩ := slice_open Tryz.underlying23 k1
      obtain ⟨A3, n3, c3, rfl⟩ := slice_open Tryz.underlying23 k2
      obtain ⟨A4, n4, c4, rfl⟩ := slice_open Tryz.underlying23 k4
      obtain ⟨A5, n5, c5, rfl⟩ := slice_open Tryz.underlying24 k6
      obtain ⟨A6, n6, c6, rfl⟩ := slice_open Tryz.underlying25 k8
      obtain ⟨A8, n8, c8, rfl, s8⟩ := ints_open Tryz.underlying24 Tryz.underlying3 Tryz.cells3 Tryz.bytes3 (by decide) g2 (fun x hx => hall x (by simp [DataW.weights, Tryz.underlying29, Tryz.underlying27, DataW.weightsEach, hx]))
      obtain ⟨x3, e3, _, w3⟩ := DataW.trod_int Tryz.underlying3 k3
      obtain ⟨x5, e5, _, w5⟩ := DataW.trod_int Tryz.underlying3 k5
      obtain ⟨x7, e7, _, w7⟩ := DataW.trod_int Tryz.underlying3 k7
      obtain ⟨x9, e9, _, w9⟩ := DataW.trod_int Tryz.underlying3 k9
      obtain ⟨x10, e10, _, w10⟩ := DataW.trod_int Tryz.underlying3 k10
      simp only [List.cons.injEq, and_true] at e3 e5 e7 e9 e10
      subst e3 e5 e7 e9 e10
      obtain ⟨_, _, _, _, b8⟩ := s8
      exact ⟨A0, A1, A2, A3, A4, A5, A6, A8, n0, c0, n1, c1, n2', c2, n3, c3, n4, c4, n5, c5, n6, c6, n8, c8, x3, x5, x7, x9, x10, rfl, b8⟩
end
end Go.Proofs.YtbgmdikcbglpiaaGreatDoor
