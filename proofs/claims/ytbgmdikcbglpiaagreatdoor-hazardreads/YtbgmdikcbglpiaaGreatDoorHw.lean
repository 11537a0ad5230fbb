/-
  How the argument of the laws of layer 6 is opened, as far as the laws of code made here look at it: a script: a slice of bundles, a state, a slice of numbers; a world that meets the row's condition.
  What the laws of package hazard over code made here share: code in a row of one's own, a bundle appended to it, a literal row of bundles made in one step, a bundle loaded out of it. No condition.
  A region that draws its order and ends in one store that waits for all else: the law of Drw for what stands ahead of it, then the store. No program is named here.
-/
import Derived.Test.YtbgmdikcbglpiaaGreatDoorRs
import Derived.ProofKit
import Derived.SizedLaws
import Derived.LaidMore
import Derived.Stop.Joined
import Derived.Lib.SmallJoins
import Derived.Deep.Slices
import Derived.Deep.Strs
import Derived.Test.YtbgmdikcbglpiaaGreatDoorJc
import Derived.Deep.LoopGhost
namespace Go.Proofs.YtbgmdikcbglpiaaGreatDoor
open Go.RowKit

section
open Go.ChangeShapes Go.WideShapes Go.ChangeAt Go.RowKit Go.Joins
theorem Tryz.own : ownKnob Tryz.prog.godebug = none := by kernel_rfl
theorem Tryz.laidOut : laidOutB Tryz.prog = true := by kernel_rfl
theorem Tryz.cells29 : Tryz.prog.cellsOf 29 = 13 := by kernel_rfl
theorem Tryz.cells27 : Tryz.prog.cellsOf 27 = 11 := by kernel_rfl
theorem Tryz.cells22 : Tryz.prog.cellsOf 22 = 1 := by kernel_rfl
theorem Tryz.cells23 : Tryz.prog.cellsOf 23 = 1 := by kernel_rfl
theorem Tryz.cells24 : Tryz.prog.cellsOf 24 = 1 := by kernel_rfl
theorem Tryz.cells25 : Tryz.prog.cellsOf 25 = 1 := by kernel_rfl
theorem Tryz.bytes3 : Tryz.prog.bytesOf 3 = 8 := by kernel_rfl
def I64 (x : Int) : Prop := -9223372036854775808 ≤ x ∧ x ≤ 9223372036854775807
theorem i64_wf {x : Int} (h : (Lit.int .i64 x).wf = true) : I64 x := by
  have h1 : IntKind.i64.min = -9223372036854775808 := rfl
  have h2 : IntKind.i64.max = 9223372036854775807 := rfl
  simp only [Lit.wf, Bool.and_eq_true, decide_eq_true_eq] at h
  unfold I64
  omega
theorem u32_wf {x : Int} (h : (Lit.int .u32 x).wf = true) : 0 ≤ x ∧ x ≤ 4294967295 := by
  have h1 : IntKind.u32.min = 0 := rfl
  have h2 : IntKind.u32.max = 4294967295 := rfl
  simp only [Lit.wf, Bool.and_eq_true, decide_eq_true_eq] at h
  omega
theorem door_met (os : Os) (args : Array Value) : laidMetH Tryz.prog laid2 ((World.doorLaid Tryz.prog 63 os).forCall (fun _ _ => 0) ⟨#[], args, []⟩).memory :=
  laidMetH_of_parts3 (fuel := 8) (laidMet_of_run' 8 (by kernel_rfl) (by kernel_rfl)) (by kernel_rfl) (by kernel_rfl)
/-- A slice of numbers as it comes in. -/
def SlI (k : IntKind) (W : World) (A : Option Addr) (n c : Nat) : Prop := ∃ l : List Int, Rd k W (.slice A n c) l ∧ l.length = n ∧ (∀ x ∈ l, (Lit.int k x).wf = true) ∧ n ≤ 140737488351232
section
variable {H : Type} {enc : TypeId × Value → H} {W : World}
theorem ints_open {t e : TypeId} {k : IntKind} {bytes m : Nat} {v : Value} {y : DataW H × List MemPlace} (ht : Tryz.prog.underlying t = some (.slice e)) (he : Tryz.prog.underlying e = some (.int k)) (hc : Tryz.prog.cellsOf e = 1) (hby : Tryz.prog.bytesOf e = bytes) (hb1 : 1 ≤ bytes)
    (h : DataW.trod enc Tryz.prog W 0 (fun _ => true) true m t [v] = some y) (hsz : ∀ x ∈ y.1.weights Tryz.prog t, x ≤ reachBytes) :
    ∃ A n c, v = .slice A n c ∧ SlI k W A n c := by
  rcases open_ints ht he hc h with ⟨hcs, _⟩ | ⟨ad, l, c, zs, hcs, _, hl, hm, hz, hx, hcell, hwz⟩
  · simp at hcs
    exact ⟨none, 0, 0, hcs, [], ⟨none, 0, rfl, fun h => absurd h (by simp)⟩, rfl, fun _ h => (by cases h), Nat.zero_le _⟩
  · simp at hcs
    subst hcs
    subst hx
    simp only [if_true] at hz
    have hlen : (zs.take l).length = l := by rw [List.length_take]; omega
    refine ⟨some ad, l, c, rfl, zs.take l, ⟨some ad, c, by rw [hlen], fun h0 => ⟨ad, rfl, ?_, ?_⟩⟩, hlen, fun x hx => hwz x (List.mem_of_mem_take hx), ?_⟩
    · have := World.block_lt_of_cell? W _ (hcell 0 (by omega))
      rwa [block_add] at this
    · intro j u hu
      have hj : j < l := by
        have := (List.getElem?_eq_some_iff.1 hu).1
        rw [List.length_map, List.length_take] at this
        omega
      rw [hcell j (by omega)]
      rw [List.getElem?_map, List.getElem?_take, if_pos hj, List.getElem?_eq_getElem (by omega)] at hu
      simpa [List.getD, List.getElem?_eq_getElem (show j < zs.length by omega)] using hu
    · have h1 := hsz (((lits (H := H) k (zs.take l)).length + (lits (H := H) k (zs.drop l)).length) * bytes) (by simp [DataW.weights, ht, hby])
      simp only [lits, List.length_map, List.length_take, List.length_drop, reachBytes] at h1
      have h2 : l * 1 ≤ (min l zs.length + (zs.length - l)) * bytes := Nat.mul_le_mul (by omega) hb1
      omega
theorem slice_open {t e : TypeId} {m : Nat} {v : Value} {y : DataW H × List MemPlace} (ht : Tryz.prog.underlying t = some (.slice e)) (h : DataW.trod enc Tryz.prog W 0 (fun _ => true) true m t [v] = some y) : ∃ A n c, v = .slice A n c := by
  rcases Deep.open_slice ht h with ⟨hcs, _⟩ | ⟨ad, len, cap, mm, n, D, Pl, hcs, hb, hl, hm, hmm, hx, hi⟩
  · simp at hcs
    exact ⟨none, 0, 0, hcs⟩
  · simp at hcs
    exact ⟨some ad, len, cap, hcs⟩
theorem array13 {α : Type} {cs : Array α} (h : cs.size = 13) : ∃ a0 a1 a2 a3 a4 a5 a6 a7 a8 a9 a10 a11 a12, cs = #[a0, a1, a2, a3, a4, a5, a6, a7, a8, a9, a10, a11, a12] := by
  obtain ⟨l⟩ := cs
  match l, h with
  | [a0, a1, a2, a3, a4, a5, a6, a7, a8, a9, a10, a11, a12], _ => exact ⟨a0, a1, a2, a3, a4, a5, a6, a7, a8, a9, a10, a11, a12, rfl⟩
/-- A script as it comes in, as far as these laws look at it. -/
def Asked (v : Value) : Prop := ∃ (A0 A1 A2 A3 A4 A5 A6 A8 : Option Addr) (n0 c0 n1 c1 n2 c2 n3 c3 n4 c4 n5 c5 n6 c6 n8 c8 : Nat) (tk pc stop j d : Int), v = .agg #[.slice A0 n0 c0, .slice A1 n1 c1, .slice A2 n2 c2, .slice A3 n3 c3, .int .i64 tk, .slice A4 n4 c4, .int .i64 pc, .slice A5 n5 c5, .int .i64 stop, .slice A6 n6 c6, .int .i64 j, .int .i64 d, .slice A8 n8 c8] ∧ n8 ≤ 140737488351232
set_option maxRecDepth 20000 in
set_option maxHeartbeats 1000000 in
theorem ask_open {r : Reach} {b0 : Nat} {v : Value} {d : DataW H} {p : List MemPlace} {L : List Nat}
    (hv : Value.okWide Tryz.prog W r b0 29 v) (h : DataW.Trod enc Tryz.prog W 0 (fun _ => true) true 29 v d p) (hL : ∀ n ∈ d.weights Tryz.prog 29, n ∈ L) (hsz : L.all (· ≤ reachBytes) = true) : Asked v := by
  obtain ⟨cs, rfl, hs⟩ := okWide_struct Tryz.underlying29 hv
  obtain ⟨a0, a1, a2, a3, a4, a5, a6, a7, a8, a9, a10, a11, a12, rfl⟩ := array13 (hs.trans Tryz.cells29)
  obtain ⟨fuel, hf⟩ := h
  obtain ⟨ys, n', _, hy, hlen, hyl, hg⟩ := DataW.trod_struct Tryz.underlying29 hf
  have hall : ∀ x ∈ d.weights Tryz.prog 29, x ≤ reachBytes := fun x hx => by simpa using List.all_eq_true.1 hsz x (hL x hx)
  match ys, hyl, hg, hy with
  | [y0, y1, y2], _, hg, hy =>
    have g0 : DataW.trod enc Tryz.prog W 0 (fun _ => true) true n' 22 [a0] = some y0 := by have := hg 0 _ rfl; simpa [Value.cells, Tryz.cells22] using this
    have g1 : DataW.trod enc Tryz.prog W 0 (fun _ => true) true n' 27 [a1, a2, a3, a4, a5, a6, a7, a8, a9, a10, a11] = some y1 := by have := hg 1 _ rfl; simpa [Value.cells, Tryz.cells27] using this
    have g2 : DataW.trod enc Tryz.prog W 0 (fun _ => true) true n' 24 [a12] = some y2 := by have := hg 2 _ rfl; simpa [Value.cells, Tryz.cells24] using this
    obtain ⟨zs, n2, _, hz, _, hzl, hk⟩ := DataW.trod_struct Tryz.underlying27 g1
    match zs, hzl, hk, hz with
    | [z0, z1, z2, z3, z4, z5, z6, z7, z8, z9, z10], _, hk, hz =>
      have k0 : DataW.trod enc Tryz.prog W 0 (fun _ => true) true n2 23 [a1] = some z0 := by have := hk 0 _ rfl; simpa [Tryz.cells23] using this
      have k1 : DataW.trod enc Tryz.prog W 0 (fun _ => true) true n2 23 [a2] = some z1 := by have := hk 1 _ rfl; simpa [Tryz.cells23] using this
      have k2 : DataW.trod enc Tryz.prog W 0 (fun _ => true) true n2 23 [a3] = some z2 := by have := hk 2 _ rfl; simpa [Tryz.cells23] using this
      have k3 : DataW.trod enc Tryz.prog W 0 (fun _ => true) true n2 3 [a4] = some z3 := by have := hk 3 _ rfl; simpa [Tryz.cells3] using this
      have k4 : DataW.trod enc Tryz.prog W 0 (fun _ => true) true n2 23 [a5] = some z4 := by have := hk 4 _ rfl; simpa [Tryz.cells23] using this
      have k5 : DataW.trod enc Tryz.prog W 0 (fun _ => true) true n2 3 [a6] = some z5 := by have := hk 5 _ rfl; simpa [Tryz.cells3] using this
      have k6 : DataW.trod enc Tryz.prog W 0 (fun _ => true) true n2 24 [a7] = some z6 := by have := hk 6 _ rfl; simpa [Tryz.cells24] using this
      have k7 : DataW.trod enc Tryz.prog W 0 (fun _ => true) true n2 3 [a8] = some z7 := by have := hk 7 _ rfl; simpa [Tryz.cells3] using this
      have k8 : DataW.trod enc Tryz.prog W 0 (fun _ => true) true n2 25 [a9] = some z8 := by have := hk 8 _ rfl; simpa [Tryz.cells25] using this
      have k9 : DataW.trod enc Tryz.prog W 0 (fun _ => true) true n2 3 [a10] = some z9 := by have := hk 9 _ rfl; simpa [Tryz.cells3] using this
      have k10 : DataW.trod enc Tryz.prog W 0 (fun _ => true) true n2 3 [a11] = some z10 := by have := hk 10 _ rfl; simpa [Tryz.cells3] using this
      have hd : d = .agg [y0.1, .agg [z0.1, z1.1, z2.1, z3.1, z4.1, z5.1, z6.1, z7.1, z8.1, z9.1, z10.1], y2.1] := by
        have e1 := congrArg Prod.fst hy
        have e2 := congrArg Prod.fst hz
        simp only [List.map] at e1 e2
        rw [e1, e2]
      rw [hd] at hall
      obtain ⟨A0, n0, c0, rfl⟩ := slice_open Tryz.underlying22 g0
      obtain ⟨A1, n1, c1, rfl⟩ := slice_open Tryz.underlying23 k0
      obtain ⟨A2, n2', c2, rfl⟩ := slice_open Tryz.underlying23 k1
      obtain ⟨A3, n3, c3, rfl⟩ := slice_open Tryz.underlying23 k2
      obtain ⟨A4, n4, c4, rfl⟩ := slice_open Tryz.underlying23 k4
      obtain ⟨A5, n5, c5, rfl⟩ := slice_open Tryz.underlying24 k6
      obtain ⟨A6, n6, c6, rfl⟩ := slice_open Tryz.underlying25 k8
      obtain ⟨A8, n8, c8, rfl, s8⟩ := ints_open Tryz.underlying24 Tryz.underlying3 Tryz.cells3 Tryz.bytes3 (by decide) g2 (fun x hx => hall x (by simp [DataW.weights, Tryz.underlying29, Tryz.underlying27, DataW.weightsEach, hx]))
      obtain ⟨x3, e3, _, w3⟩ := DataW.trod_int Tryz.underlying3 k3
      obtain ⟨x5, e5, _, w5⟩ := DataW.trod_int Tryz.underlying3 k5
      obtain ⟨x7, e7, _, w7⟩ := DataW.trod_int Tryz.underlying3 k7
      obtain ⟨x9, e9, _, w9⟩ := DataW.trod_int Tryz.underlying3 k9
      obtain ⟨x10, e10, _, w10⟩ := DataW.trod_int Tryz.underlying3 k10
      simp only [List.cons.injEq, and_true] at e3 e5 e7 e9 e10
      subst e3 e5 e7 e9 e10
      obtain ⟨_, _, _, _, b8⟩ := s8
      exact ⟨A0, A1, A2, A3, A4, A5, A6, A8, n0, c0, n1, c1, n2', c2, n3, c3, n4, c4, n5, c5, n6, c6, n8, c8, x3, x5, x7, x9, x10, rfl, b8⟩
end
end
section
theorem Tryz.info58z : ((Tryz.prog.info? 58).bind (·.zero)).map (·.cells) = some ZB := by kernel_rfl
theorem info58_parts : ∃ ie z, Tryz.prog.info? 58 = some ie ∧ ie.zero = some z ∧ ie.size = 24 ∧ z.cells = ZB := by
  have h1 := Tryz.info58z
  have h2 := Tryz.size58
  cases hi : Tryz.prog.info? 58 with
  | none => rw [hi] at h2; cases h2
  | some ie =>
    rw [hi] at h1 h2
    simp only [Option.map_some, Option.some.injEq, Option.bind_some] at h1 h2
    cases hz : ie.zero with
    | none => rw [hz] at h1; cases h1
    | some z => rw [hz] at h1; simp only [Option.map_some, Option.some.injEq] at h1; exact ⟨ie, z, rfl, hz, h2, h1⟩
def zB : List In5 := [zw, zw, zw, zw]
theorem addro (g o j : Nat) : (⟨g, o, none⟩ : Addr).add j = ⟨g, o + j, none⟩ := by unfold Addr.add; split <;> simp_all
/-- Code in a row, from a place on. -/
theorem rdc_from {w : World} {g n c o : Nat} {cs : Array Value} {C : List (List In5)} (hb : w.heap[g]? = some (.cells cs 58 (0, 0))) (hn : C.length = n) (pre : List Value) (h : cs.toList = pre ++ flatB C) (ho : pre.length = o) : RdC w (.slice (some ⟨g, o, none⟩) n c) C := by
  refine ⟨_, c, by rw [hn], fun i hi => ⟨_, rfl, lt_of_heap hb, fun j u hu => ?_⟩⟩
  have hj : j < 24 := (Array.getElem?_eq_some_iff.1 hu).1
  rw [addro, addro, cell_of_row w g _ cs _ (0, 0) hb, ← Array.getElem?_toList, h, ← ho, List.getElem?_append_right (by omega), show pre.length + i * 24 + j - pre.length = i * 24 + j by omega, flatB_at C i j hi hj]
  exact hu
def cOk (C : List (List In5)) : Bool := (decide (C.length ≤ 1024) && C.all fun b => decide (b.length = 4) && b.all viB) && cdB (C.map bX)
theorem cok_vcc {C : List (List In5)} (h : cOk C = true) : Vcc C := by
  unfold cOk at h
  rw [Bool.and_eq_true] at h
  exact vcc_of h.1 h.2
theorem Tryz.info58b : (Tryz.prog.info? 58).map (fun i => ((i.zero.map fun z => z.cells.size), i.size, i.bytes)) = some (some 24, 24, 224) := by kernel_rfl
theorem info58_bytes : ∃ i z, Tryz.prog.info? 58 = some i ∧ i.zero = some z ∧ i.size = 24 ∧ i.bytes = 224 ∧ z.cells.size = 24 := by
  obtain ⟨i, hi, he⟩ := Option.map_eq_some_iff.1 Tryz.info58b
  simp only [Prod.mk.injEq] at he
  obtain ⟨z, hz, hc⟩ := Option.map_eq_some_iff.1 he.1
  exact ⟨i, z, hi, hz, he.2.1, he.2.2, hc⟩
theorem flatB_one (b : List In5) : ∀ u ∈ flatB [b], u.oneCell' = true := by
  intro u hu
  have h1 := bcs_one (bX b)
  rw [Array.all_eq_true_iff_forall_mem] at h1
  exact h1 u (by simpa [flatB] using hu)
theorem flatB_app (C D : List (List In5)) : flatB (C ++ D) = flatB C ++ flatB D := by unfold flatB; rw [List.flatMap_append]
/-- append of one bundle to a row of one's own. -/
theorem app24 {ops : Array Oper} {rest : List Oper} {o : Oper} {a : Act} {Q : Exit → Act → World → Prop} (hgd : o.guard = none) (s x : Operand) (ho : o.op = .call { callee := .builtin .append, args := #[s, x], argTypes := #[22, 22] })
    (W : World) (B n c : Nat) (va : Option Addr) (xs : List (List In5)) (b : List In5) (hs : a.eval s = .slice va n c) (hown : W.ownsRow B 58 24 (.slice va n c) n (flatB xs)) (hn : n ≤ 1000000) (g0 : Nat) (hx : a.eval x = .slice (some ⟨g0, 0, none⟩) 1 1) (cs : Array Value) (hg0 : W.heap[g0]? = some (.cells cs 58 (0, 0))) (hcs : cs.toList = flatB [b]) (hB : B ≤ W.heap.size)
    (h : ∀ g cap w', w'.ownsRow B 58 24 (.slice (some ⟨g, 0, none⟩) (n + 1) cap) (n + 1) (flatB (xs ++ [b])) → W.grownBy w' (ob va) → wpList Tryz.prog ops Q rest (a.put o.dst (.slice (some ⟨g, 0, none⟩) (n + 1) cap)) w') :
    wpList Tryz.prog ops Q (o :: rest) a W := by
  obtain ⟨i, z, hi, hz, h1, h2, h3⟩ := info58_bytes
  refine wpList_append_lies W hgd s x 22 ho B 58 i z 24 224 Tryz.underlying22 hi hz h1 h2 h3 (by decide) (.slice va n c) n (flatB xs) hs hown ⟨g0, 0, none⟩ 1 1 (flatB [b]) hx rfl (fun j u hu => World.news_of_block hg0 j u (by rw [hcs]; exact hu)) (flatB_one b) (by decide) (by unfold maxLen; omega) (by omega) hB _ rfl ?_
  intro g cap w' o1 o2 _ _
  refine h g cap w' ?_ (by rw [own_ob] at o2; exact o2)
  rw [flatB_app]
  exact o1
theorem own_rdc {w : World} {B n c : Nat} {va : Option Addr} {C : List (List In5)} (h : w.ownsRow B 58 24 (.slice va n c) n (flatB C)) (hn : C.length = n) (h0 : 0 < n) : RdC w (.slice va n c) C := by
  rcases h.2 with ⟨hv, hz⟩ | ⟨g, cap, cur, hv, hb, hg, _⟩
  · exact absurd hz (by omega)
  · injection hv with h1 h2 h3
    subst h1
    exact rdc_cells hn (lt_of_heap hg) fun j u hu => by
      have := h.cells rfl j u hu
      rwa [addr0] at this
theorem own_bel {w w' : World} {B e z n : Nat} {v : Value} {xs : List Value} (h : w.ownsRow B e z v n xs) (hb : Below w.heap.size w w') : w'.ownsRow B e z v n xs := h.kept (grown_below hb) (by cases v.ownBlock; exact .inl rfl; exact .inr (by simp))
theorem rd_row (w : World) (cs : Array Value) (t : TypeId) (xs : List Int) (c : Nat) (h : cs.toList = xs.map (Value.int .u32)) : Rd .u32 (w.alloc (.cells cs t)) (.slice (some ⟨w.heap.size, 0, none⟩) xs.length c) xs := by
  refine ⟨_, c, rfl, fun _ => ⟨_, rfl, by simp, fun j u hu => ?_⟩⟩
  rw [addr0, cell_of_row _ w.heap.size j cs _ (0, 0) (heap_alloc_new w _), ← Array.getElem?_toList, h]
  exact hu
/-- A literal row of bundles. -/
theorem buildB {ops : Array Oper} {rest : List Oper} {o : Oper} {a : Act} {w : World} {Q : Exit → Act → World → Prop} (hg : o.guard = none) (n : Nat) (parts : Array (Nat × Operand)) (ho : o.op = .buildSlice 22 n parts) (cs : Array Value) (hn : 1 ≤ n) (hn2 : n ≤ 100)
    (hf : Instr.fill (fun i => some (i * 24, 24)) ((Array.range (n * 24)).map (ZB[· % ZB.size]!)) (parts.map fun (i, x) => (i, a.eval x)).toList = some cs)
    (h : ∀ w1, BK 58 w1 w.heap.size cs → Below w.heap.size w w1 → w1.heap.size = w.heap.size + 1 → wpList Tryz.prog ops Q rest (a.put o.dst (.slice (some ⟨w.heap.size, 0, none⟩) n n)) w1) : wpList Tryz.prog ops Q (o :: rest) a w := by
  obtain ⟨ie, z, h1, h2, h3, h4⟩ := info58_parts
  refine wpList_buildSlice hg 22 58 n parts ho cs ie z Tryz.underlying22 h1 h2 (by rw [h3]; omega) (by rw [h3]; omega) ?_ (h _ (heap_alloc_new w _) (below_new w _) (by simp))
  rw [h3, h4]
  exact hf
theorem buildG {ops : Array Oper} {rest : List Oper} {o : Oper} {a : Act} {w : World} {Q : Exit → Act → World → Prop} (hg : o.guard = none) (n : Nat) (parts : Array (Nat × Operand)) (ho : o.op = .buildSlice 22 n parts) (cs : Array Value) (hn : 1 ≤ n) (hn2 : n ≤ 100) (g : Nat) (hgw : w.heap.size = g)
    (hf : Instr.fill (fun i => some (i * 24, 24)) ((Array.range (n * 24)).map (ZB[· % ZB.size]!)) (parts.map fun (i, x) => (i, a.eval x)).toList = some cs)
    (h : ∀ w1, BK 58 w1 g cs → Below w.heap.size w w1 → w1.heap.size = g + 1 → wpList Tryz.prog ops Q rest (a.put o.dst (.slice (some ⟨g, 0, none⟩) n n)) w1) : wpList Tryz.prog ops Q (o :: rest) a w := by
  subst hgw
  exact buildB hg n parts ho cs hn hn2 hf h
/-- A bundle out of such a row. -/
theorem bat_of {w : World} {g k : Nat} {cs : Array Value} (hb : BK 58 w g cs) (X : Nat → In6) (h : (cs.toList.drop (k * 24)).take 24 = (bcs X).toList) : BAt w ⟨g, k * 24, none⟩ X := by
  intro j u hu
  have hj : j < 24 := (Array.getElem?_eq_some_iff.1 hu).1
  rw [addro, hb.cell, ← Array.getElem?_toList]
  rw [← Array.getElem?_toList, ← h, List.getElem?_take, if_pos hj, List.getElem?_drop] at hu
  exact hu
theorem flatB_len (C : List (List In5)) : (flatB C).length = C.length * 24 := by
  induction C with
  | nil => rfl
  | cons b C ih =>
    have e : flatB (b :: C) = (bcs (bX b)).toList ++ flatB C := rfl
    rw [e, List.length_append, ih, List.length_cons, Array.length_toList, bcs_size]
    omega
/-- A literal row as a row of one's own. -/
theorem own_of_bk {w1 : World} {g n B : Nat} {cs : Array Value} {C : List (List In5)} (h : cs.toList = flatB C) (hk : BK 58 w1 g cs) (hn : C.length = n) (hB : B ≤ g) (hm : n ≤ 1000) : w1.ownsRow B 58 24 (.slice (some ⟨g, 0, none⟩) n n) n (flatB C) := by
  have hl := flatB_len C
  have h1 : cs.size = n * 24 := by rw [← Array.length_toList, h, hl, hn]
  exact ⟨by rw [hl, hn], .inr ⟨g, n, cs, rfl, hB, hk, Nat.le_refl _, by unfold maxLen; omega, h1, by rw [h, List.take_of_length_le (by rw [hl, hn]; exact Nat.le_refl _)]⟩⟩
end
section
section
variable {P : Program} {ops : Array Oper} {Q : Exit → Act → World → Prop} {a0 : Act} {S : World → Prop} {R : Nat → World → Value → Prop}
/-- Each slot is written once, no operation is guarded, each one's slot is there; the last one has none. -/
def drawL (ops : Array Oper) (n : Nat) : Bool := (List.range ops.size).all fun i => match ops[i]? with
  | none => true
  | some o => o.guard.isNone && (match o.dst with
    | none => decide (i + 1 = ops.size)
    | some d => decide (i + 1 < ops.size) && decide (d < n) && (List.range ops.size).all fun j => (j == i) || ((ops[j]?).bind (·.dst)) != some d)
theorem drawL_spec {n : Nat} (h : drawL ops n = true) {i : Nat} {o : Oper} (hi : ops[i]? = some o) : o.guard = none ∧ (i + 1 < ops.size → ∃ d, o.dst = some d ∧ d < n ∧ ∀ j oj, ops[j]? = some oj → oj.dst = some d → j = i) := by
  have hlt : i < ops.size := (Array.getElem?_eq_some_iff.1 hi).1
  have := List.all_eq_true.1 h i (List.mem_range.2 hlt)
  simp only [hi, Bool.and_eq_true] at this
  obtain ⟨h1, h2⟩ := this
  refine ⟨by simpa using h1, fun hn => ?_⟩
  cases hd : o.dst with
  | none => rw [hd] at h2; simp at h2; omega
  | some d =>
    rw [hd] at h2
    simp only [Bool.and_eq_true, decide_eq_true_eq] at h2
    refine ⟨d, rfl, h2.1.2, fun j oj hj hjd => ?_⟩
    have hl : j < ops.size := (Array.getElem?_eq_some_iff.1 hj).1
    have := List.all_eq_true.1 h2.2 j (List.mem_range.2 hl)
    simp only [hj, Option.bind_some, hjd, bne_self_eq_false, Bool.or_false, beq_iff_eq] at this
    exact this
theorem drawL_dst {n : Nat} (h : drawL ops n = true) {i : Nat} {o : Oper} {t : Nat} (hi : ops[i]? = some o) (ht : o.dst = some t) : i + 1 < ops.size := by
  have hlt : i < ops.size := (Array.getElem?_eq_some_iff.1 hi).1
  have := List.all_eq_true.1 h i (List.mem_range.2 hlt)
  simp only [hi, ht, Bool.and_eq_true, decide_eq_true_eq] at this
  exact this.2.1.1
theorem DI.stepL {l : Array Bool} {a : Act} {w : World} (hb : drawL ops a0.tmps.size = true) (st : ∀ i w w' v, Below w.heap.size w w' → R i w v → R i w' v) (h : DI ops a0 S R l a w) {i : Nat} {o : Oper} (hi : ops[i]? = some o) (hn : i + 1 < ops.size) {v : Value} {w' : World} (hs : S w') (hbel : Below w.heap.size w w') (hr : R i w' v) :
    DI ops a0 S R (l.setIfInBounds i true) (a.put o.dst v) w' := by
  obtain ⟨_, hx⟩ := drawL_spec hb hi
  obtain ⟨d, hd, hdn, huniq⟩ := hx hn
  have hdl : d < a.tmps.size := by rw [h.ts]; exact hdn
  have hin : o ∈ ops.toList := by
    obtain ⟨h1, h2⟩ := Array.getElem?_eq_some_iff.1 hi
    rw [← h2]; simp
  refine { sz := by simpa using h.sz, s := hs, df := ?_, ts := ?_, un := fun t ht => ?_, dn := fun j oj t hj hjt hl => ?_ }
  · rw [hd]; exact h.df
  · rw [hd]; simp [Act.put, h.ts]
  · rw [hd, getD_put a d t v hdl]
    have h1 : (o.dst != some t) = true := List.all_eq_true.1 ht o hin
    rw [hd] at h1
    have h2 : d ≠ t := by intro e; subst e; simp at h1
    rw [if_neg h2]
    exact h.un t ht
  · rw [hd, getD_put a d t v hdl]
    by_cases hdt : d = t
    · subst hdt
      have := huniq j oj hj hjt
      subst this
      rw [if_pos rfl]
      exact hr
    · rw [if_neg hdt]
      have hji : j ≠ i := by
        intro e
        subst e
        rw [hi] at hj
        cases hj
        rw [hd] at hjt
        cases hjt
        exact hdt rfl
      refine st j w w' _ hbel (h.dn j oj t hj hjt ?_)
      rw [Array.getD_eq_getD_getElem?, Array.getElem?_setIfInBounds_ne (Ne.symm hji)] at hl
      rw [Array.getD_eq_getD_getElem?]
      exact hl
/-- Does the last one wait for all others? -/
def lastB (ops : Array Oper) : Bool := match ops[ops.size - 1]? with
  | none => false
  | some o => o.dst.isNone && (List.range (ops.size - 1)).all fun j => o.after.any fun e => e.on == j && Region.binds .any e
theorem lastB_spec (h : lastB ops = true) : ∃ o, ops[ops.size - 1]? = some o ∧ o.dst = none ∧ ∀ j, j + 1 < ops.size → ∃ e ∈ o.after, e.on = j ∧ Region.binds .any e = true := by
  unfold lastB at h
  cases ho : ops[ops.size - 1]? with
  | none => rw [ho] at h; cases h
  | some o =>
    rw [ho] at h
    simp only [Bool.and_eq_true] at h
    refine ⟨o, rfl, by simpa using h.1, fun j hj => ?_⟩
    have := List.all_eq_true.1 h.2 j (List.mem_range.2 (by omega))
    obtain ⟨e, he, hp⟩ := Array.any_eq_true'.1 this
    simp only [Bool.and_eq_true, beq_iff_eq] at hp
    exact ⟨e, he, hp.1, hp.2⟩
theorem wpAny_dl (hb : drawL ops a0.tmps.size = true) (hk : backB ops = true) (hla : lastB ops = true) (st : ∀ i w w' v, Below w.heap.size w w' → R i w v → R i w' v) (hs : DSteps P ops a0 S R 0 (ops.toList.take (ops.size - 1)))
    (fin : ∀ o l a w (K : Act → World → Prop), ops[ops.size - 1]? = some o → DI ops a0 S R l a w → (∀ j, j + 1 < ops.size → l.getD j false = true) → (∀ a w, Q .normal a w → K a w) → o.wp P a w K Q) :
    ∀ (fuel : Nat) (l : Array Bool) (a : Act) (w : World), l.toList.countP (fun b => !b) ≤ fuel → DI ops a0 S R l a w → l.getD (ops.size - 1) true = false → wpAny P .any ops Q fuel l a w := by
  obtain ⟨ol, hol, hdl, hlast⟩ := lastB_spec hla
  have hpos : 0 < ops.size := by have := (Array.getElem?_eq_some_iff.1 hol).1; omega
  have rd : ∀ l a w, DI ops a0 S R l a w → l.getD (ops.size - 1) true = false → Region.ready .any ops l ≠ [] := fun l a w h h0 hr => by
    have hall := ready_nil hr (back_spec hk) h.sz (ops.size - 1) (by omega)
    have hlt : ops.size - 1 < l.size := by rw [h.sz]; omega
    rw [Array.getD_eq_getD_getElem?, Array.getElem?_eq_getElem hlt] at hall h0
    rw [show l[ops.size - 1] = true from hall] at h0
    cases h0
  intro fuel
  induction fuel with
  | zero =>
    intro l a w hc h h0
    exfalso
    have hlt : ops.size - 1 < l.size := by rw [h.sz]; omega
    have h1 : l[ops.size - 1] = false := by rw [Array.getD_eq_getD_getElem?, Array.getElem?_eq_getElem hlt] at h0; exact h0
    have := count_set hlt h1
    omega
  | succ fuel ih =>
    intro l a w hc h hl0
    refine ⟨fun hr => absurd hr (rd l a w h hl0), fun i hm => ?_⟩
    obtain ⟨h0, oj, hoj, hall⟩ := mem_ready.1 hm
    have hlt : i < l.size := by
      rcases Nat.lt_or_ge i l.size with h' | h'
      · exact h'
      · simp [Array.getElem?_eq_none h'] at h0
    have h1 : l[i] = false := by simpa [hlt] using h0
    have hct := count_set hlt h1
    have hg := (drawL_spec hb hoj).1
    unfold wpOp
    simp only [hoj, Region.wanted, hg, if_true]
    refine .inl ?_
    by_cases hn : i + 1 < ops.size
    · have hst := hs.at_ (i := i) (o := oj) (by rw [List.getElem?_take, if_pos (by omega)]; simpa using hoj)
      rw [Nat.zero_add] at hst
      refine hst a w _ Q h.s h.un (fun j t hjt => ?_) fun v w' hsw hbel hr => ih _ _ _ (by omega) (h.stepL hb st hoj hn hsw hbel hr) ?_
      · obtain ⟨p, hp, hpj⟩ := List.any_eq_true.1 hjt
        simp only [Bool.and_eq_true, beq_iff_eq] at hpj
        obtain ⟨rfl, rfl⟩ := hpj
        obtain ⟨e, he, hp2⟩ := List.mem_filterMap.1 hp
        by_cases hbe : Region.binds .any e = true
        · rw [if_pos hbe] at hp2
          cases hoe : ops[e.on]? with
          | none => rw [hoe] at hp2; simp at hp2
          | some oe =>
            rw [hoe] at hp2
            cases hde : oe.dst with
            | none => rw [Option.bind_some, hde] at hp2; simp at hp2
            | some t =>
              rw [Option.bind_some, hde] at hp2
              simp only [Option.map_some, Option.some.injEq] at hp2
              subst hp2
              refine h.dn e.on oe t hoe hde ?_
              have := hall e (by simpa using he) hbe
              simpa using this
        · rw [if_neg hbe] at hp2; cases hp2
      · rw [Array.getD_eq_getD_getElem?, Array.getElem?_setIfInBounds_ne (by omega), ← Array.getD_eq_getD_getElem?]
        exact hl0
    · have hi : i = ops.size - 1 := by have := h.sz; omega
      subst hi
      rw [hol] at hoj
      cases hoj
      have hdone : ∀ j, j + 1 < ops.size → l.getD j false = true := fun j hj => by
        obtain ⟨e, he, hej, hbe⟩ := hlast j hj
        subst hej
        simpa using hall e he hbe
      refine fin ol l a w _ hol h hdone fun a' w' hq => ?_
      have hz : ∀ j, j < ops.size → (l.setIfInBounds (ops.size - 1) true).getD j true = true := fun j hj => by
        by_cases hj2 : j = ops.size - 1
        · subst hj2
          rw [Array.getD_eq_getD_getElem?, Array.getElem?_setIfInBounds_self_of_lt hlt]
          rfl
        · rw [Array.getD_eq_getD_getElem?, Array.getElem?_setIfInBounds_ne (Ne.symm hj2)]
          have := hdone j (by omega)
          rw [Array.getD_eq_getD_getElem?] at this
          cases hh : l[j]? with
          | none => rfl
          | some b => rw [hh] at this; simpa using this
      have hre : Region.ready .any ops (l.setIfInBounds (ops.size - 1) true) = [] := by
        cases hr : Region.ready .any ops (l.setIfInBounds (ops.size - 1) true) with
        | nil => rfl
        | cons j js =>
          exfalso
          have hm : j ∈ Region.ready .any ops (l.setIfInBounds (ops.size - 1) true) := by rw [hr]; simp
          obtain ⟨q0, oq, hoq, _⟩ := mem_ready.1 hm
          rw [hz j (Array.getElem?_eq_some_iff.1 hoq).1] at q0
          cases q0
      cases fuel with
      | zero => exact ⟨hre, hq⟩
      | succ fuel => exact ⟨fun _ => hq, fun j hm => by rw [hre] at hm; cases hm⟩
/-- THE BEGINNING. -/
theorem wp_region_dl {id : Nat} (hm : P.follows .mixedOrders = true) {w : World} (hb : drawL ops a0.tmps.size = true) (hk : backB ops = true) (hla : lastB ops = true) (st : ∀ i w w' v, Below w.heap.size w w' → R i w v → R i w' v) (h0 : S w.drew) (hs : DSteps P ops a0 S R 0 (ops.toList.take (ops.size - 1)))
    (fin : ∀ o l a w (K : Act → World → Prop), ops[ops.size - 1]? = some o → DI ops a0 S R l a w → (∀ j, j + 1 < ops.size → l.getD j false = true) → (∀ a w, Q .normal a w → K a w) → o.wp P a w K Q) : (Code.region id ops true).wp P Q a0 w := by
  refine wp_region_any hm (wpAny_dl hb hk hla st hs fin _ _ _ _ ?_ ?_ ?_)
  · simp [List.countP_replicate]
  · exact { sz := by simp, s := h0, df := rfl, ts := rfl, un := fun _ _ => rfl, dn := fun i o t hi hd hl => absurd hl (by rw [Array.getD_eq_getD_getElem?, Array.getElem?_replicate]; split <;> simp) }
  · obtain ⟨ol, hol, _⟩ := lastB_spec hla
    have := (Array.getElem?_eq_some_iff.1 hol).1
    rw [Array.getD_eq_getD_getElem?, Array.getElem?_replicate, if_pos this]
    rfl
/-- The frame ahead of the last one, written out. -/
theorem DI.formL {l : Array Bool} {a : Act} {w : World} (hb : drawL ops a0.tmps.size = true) (h : DI ops a0 S R l a w) (hd : ∀ j, j + 1 < ops.size → l.getD j false = true) : ∃ vs : Nat → Value, (∀ i o t, ops[i]? = some o → o.dst = some t → R i w (vs t)) ∧ a = putAll ops.toList vs a0 := by
  refine ⟨fun t => a.tmps.getD t undef, fun i o t hi ht => h.dn i o t hi ht (hd i (drawL_dst hb hi ht)), ?_⟩
  have h1 := putAll_size ops.toList (fun t => a.tmps.getD t undef) a0
  have h2 := putAll_getD ops.toList (fun t => a.tmps.getD t undef) a0
  generalize putAll ops.toList (fun t => a.tmps.getD t undef) a0 = b at h1 h2
  obtain ⟨tb, db⟩ := b
  have h3 := h.df
  have h4 := h.ts
  have h5 := h.un
  obtain ⟨ta, da⟩ := a
  simp only at h1 h2 h3 h4 h5
  rw [h3, h1.2]
  congr 1
  apply Array.ext
  · rw [h4, h1.1]
  · intro i h6 h7
    have h8 := h2 i (by omega)
    have h9 : ta.getD i undef = tb.getD i undef := by
      rw [h8]
      by_cases hc : (ops.toList.all fun o => o.dst != some i) = true
      · rw [if_pos hc]; exact h5 i hc
      · rw [if_neg hc]
    simp only [Array.getD_eq_getD_getElem?, Array.getElem?_eq_getElem h6, Array.getElem?_eq_getElem h7, Option.getD_some] at h9
    exact h9
end
end
end Go.Proofs.YtbgmdikcbglpiaaGreatDoor
