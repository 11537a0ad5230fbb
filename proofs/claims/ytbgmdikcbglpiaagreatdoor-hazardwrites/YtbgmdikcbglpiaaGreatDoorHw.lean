/-
  What the laws of package hazard over code made here share: code in a row of one's own, a bundle appended to it, a literal row of bundles made in one step, a bundle loaded out of it. No condition.
-/
import Derived.Test.YtbgmdikcbglpiaaGreatDoorJc
import Derived.Test.YtbgmdikcbglpiaaGreatDoorShell
import Derived.Deep.LoopGhost
namespace Go.Proofs.YtbgmdikcbglpiaaGreatDoor
open Go.RowKit

theorem Tryz.info58z : ((Tryz.prog.info? 58).bind (·.zero)).map (·.cells) = some ZB := by kernel_rfl
theorem info58_parts : ∃ ie z, Tryz.prog.info? 58 = some ie ∧ ie.zero = some z ∧ ie.size = 24 ∧ z.cells = ZB := by
  have h1 := Tryz.info58z
  have h2 := Tryz.size58
  cases hi : Tryz.prog.info? 58 with
  | none => rw [hi] at h2; cases h2
  | some ie =>
    rw [hi] at h1 h2
    simp only [Option.map_some, Option.some.injEq, Option.bind_some] at h1 h2
    cases hz : ie.zero with
    | none => rw [hz] at h1; cases h1
    | some z => rw [hz] at h1; simp only [Option.map_some, Option.some.injEq] at h1; exact ⟨ie, z, rfl, hz, h2, h1⟩
def zB : List In5 := [zw, zw, zw, zw]
theorem addro (g o j : Nat) : (⟨g, o, none⟩ : Addr).add j = ⟨g, o + j, none⟩ := by unfold Addr.add; split <;> simp_all
/-- Code in a row, from a place on. -/
theorem rdc_from {w : World} {g n c o : Nat} {cs : Array Value} {C : List (List In5)} (hb : w.heap[g]? = some (.cells cs 58 (0, 0))) (hn : C.length = n) (pre : List Value) (h : cs.toList = pre ++ flatB C) (ho : pre.length = o) : RdC w (.slice (some ⟨g, o, none⟩) n c) C := by
  refine ⟨_, c, by rw [hn], fun i hi => ⟨_, rfl, lt_of_heap hb, fun j u hu => ?_⟩⟩
  have hj : j < 24 := (Array.getElem?_eq_some_iff.1 hu).1
  rw [addro, addro, cell_of_row w g _ cs _ (0, 0) hb, ← Array.getElem?_toList, h, ← ho, List.getElem?_append_right (by omega), show pre.length + i * 24 + j - pre.length = i * 24 + j by omega, flatB_at C i j hi hj]
  exact hu
def cOk (C : List (List In5)) : Bool := (decide (C.length ≤ 1024) && C.all fun b => decide (b.length = 4) && b.all viB) && cdB (C.map bX)
theorem cok_vcc {C : List (List In5)} (h : cOk C = true) : Vcc C := by
  unfold cOk at h
  rw [Bool.and_eq_true] at h
  exact vcc_of h.1 h.2
theorem Tryz.info58b : (Tryz.prog.info? 58).map (fun i => ((i.zero.map fun z => z.cells.size), i.size, i.bytes)) = some (some 24, 24, 224) := by kernel_rfl
theorem info58_bytes : ∃ i z, Tryz.prog.info? 58 = some i ∧ i.zero = some z ∧ i.size = 24 ∧ i.bytes = 224 ∧ z.cells.size = 24 := by
  obtain ⟨i, hi, he⟩ := Option.map_eq_some_iff.1 Tryz.info58b
  simp only [Prod.mk.injEq] at he
  obtain ⟨z, hz, hc⟩ := Option.map_eq_some_iff.1 he.1
  exact ⟨i, z, hi, hz, he.2.1, he.2.2, hc⟩
theorem flatB_one (b : List In5) : ∀ u ∈ flatB [b], u.oneCell' = true := by
  intro u hu
  have h1 := bcs_one (bX b)
  rw [Array.all_eq_true_iff_forall_mem] at h1
  exact h1 u (by simpa [flatB] using hu)
theorem flatB_app (C D : List (List In5)) : flatB (C ++ D) = flatB C ++ flatB D := by unfold flatB; rw [List.flatMap_append]
/-- append of one bundle to a row of one's own. -/
theorem app24 {ops : Array Oper} {rest : List Oper} {o : Oper} {a : Act} {Q : Exit → Act → World → Prop} (hgd : o.guard = none) (s x : Operand) (ho : o.op = .call { callee := .builtin .append, args := #[s, x], argTypes := #[22, 22] })
    (W : World) (B n c : Nat) (va : Option Addr) (xs : List (List In5)) (b : List In5) (hs : a.eval s = .slice va n c) (hown : W.ownsRow B 58 24 (.slice va n c) n (flatB xs)) (hn : n ≤ 1000000) (g0 : Nat) (hx : a.eval x = .slice (some ⟨g0, 0, none⟩) 1 1) (cs : Array Value) (hg0 : W.heap[g0]? = some (.cells cs 58 (0, 0))) (hcs : cs.toList = flatB [b]) (hB : B ≤ W.heap.size)
    (h : ∀ g cap w', w'.ownsRow B 58 24 (.slice (some ⟨g, 0, none⟩) (n + 1) cap) (n + 1) (flatB (xs ++ [b])) → W.grownBy w' (ob va) → wpList Tryz.prog ops Q rest (a.put o.dst (.slice (some ⟨g, 0, none⟩) (n + 1) cap)) w') :
    wpList Tryz.prog ops Q (o :: rest) a W := by
  obtain ⟨i, z, hi, hz, h1, h2, h3⟩ := info58_bytes
  refine wpList_append_lies W hgd s x 22 ho B 58 i z 24 224 Tryz.underlying22 hi hz h1 h2 h3 (by decide) (.slice va n c) n (flatB xs) hs hown ⟨g0, 0, none⟩ 1 1 (flatB [b]) hx rfl (fun j u hu => World.news_of_block hg0 j u (by rw [hcs]; exact hu)) (flatB_one b) (by decide) (by unfold maxLen; omega) (by omega) hB _ rfl ?_
  intro g cap w' o1 o2 _ _
  refine h g cap w' ?_ (by rw [own_ob] at o2; exact o2)
  rw [flatB_app]
  exact o1
theorem own_rdc {w : World} {B n c : Nat} {va : Option Addr} {C : List (List In5)} (h : w.ownsRow B 58 24 (.slice va n c) n (flatB C)) (hn : C.length = n) (h0 : 0 < n) : RdC w (.slice va n c) C := by
  rcases h.2 with ⟨hv, hz⟩ | ⟨g, cap, cur, hv, hb, hg, _⟩
  · exact absurd hz (by omega)
  · injection hv with h1 h2 h3
    subst h1
    exact rdc_cells hn (lt_of_heap hg) fun j u hu => by
      have := h.cells rfl j u hu
      rwa [addr0] at this
theorem own_bel {w w' : World} {B e z n : Nat} {v : Value} {xs : List Value} (h : w.ownsRow B e z v n xs) (hb : Below w.heap.size w w') : w'.ownsRow B e z v n xs := h.kept (grown_below hb) (by cases v.ownBlock; exact .inl rfl; exact .inr (by simp))
theorem rd_row (w : World) (cs : Array Value) (t : TypeId) (xs : List Int) (c : Nat) (h : cs.toList = xs.map (Value.int .u32)) : Rd .u32 (w.alloc (.cells cs t)) (.slice (some ⟨w.heap.size, 0, none⟩) xs.length c) xs := by
  refine ⟨_, c, rfl, fun _ => ⟨_, rfl, by simp, fun j u hu => ?_⟩⟩
  rw [addr0, cell_of_row _ w.heap.size j cs _ (0, 0) (heap_alloc_new w _), ← Array.getElem?_toList, h]
  exact hu
/-- A literal row of bundles. -/
theorem buildB {ops : Array Oper} {rest : List Oper} {o : Oper} {a : Act} {w : World} {Q : Exit → Act → World → Prop} (hg : o.guard = none) (n : Nat) (parts : Array (Nat × Operand)) (ho : o.op = .buildSlice 22 n parts) (cs : Array Value) (hn : 1 ≤ n) (hn2 : n ≤ 100)
    (hf : Instr.fill (fun i => some (i * 24, 24)) ((Array.range (n * 24)).map (ZB[· % ZB.size]!)) (parts.map fun (i, x) => (i, a.eval x)).toList = some cs)
    (h : ∀ w1, BK 58 w1 w.heap.size cs → Below w.heap.size w w1 → w1.heap.size = w.heap.size + 1 → wpList Tryz.prog ops Q rest (a.put o.dst (.slice (some ⟨w.heap.size, 0, none⟩) n n)) w1) : wpList Tryz.prog ops Q (o :: rest) a w := by
  obtain ⟨ie, z, h1, h2, h3, h4⟩ := info58_parts
  refine wpList_buildSlice hg 22 58 n parts ho cs ie z Tryz.underlying22 h1 h2 (by rw [h3]; omega) (by rw [h3]; omega) ?_ (h _ (heap_alloc_new w _) (below_new w _) (by simp))
  rw [h3, h4]
  exact hf
theorem buildG {ops : Array Oper} {rest : List Oper} {o : Oper} {a : Act} {w : World} {Q : Exit → Act → World → Prop} (hg : o.guard = none) (n : Nat) (parts : Array (Nat × Operand)) (ho : o.op = .buildSlice 22 n parts) (cs : Array Value) (hn : 1 ≤ n) (hn2 : n ≤ 100) (g : Nat) (hgw : w.heap.size = g)
    (hf : Instr.fill (fun i => some (i * 24, 24)) ((Array.range (n * 24)).map (ZB[· % ZB.size]!)) (parts.map fun (i, x) => (i, a.eval x)).toList = some cs)
    (h : ∀ w1, BK 58 w1 g cs → Below w.heap.size w w1 → w1.heap.size = g + 1 → wpList Tryz.prog ops Q rest (a.put o.dst (.slice (some ⟨g, 0, none⟩) n n)) w1) : wpList Tryz.prog ops Q (o :: rest) a w := by
  subst hgw
  exact buildB hg n parts ho cs hn hn2 hf h
/-- A bundle out of such a row. -/
theorem bat_of {w : World} {g k : Nat} {cs : Array Value} (hb : BK 58 w g cs) (X : Nat → In6) (h : (cs.toList.drop (k * 24)).take 24 = (bcs X).toList) : BAt w ⟨g, k * 24, none⟩ X := by
  intro j u hu
  have hj : j < 24 := (Array.getElem?_eq_some_iff.1 hu).1
  rw [addro, hb.cell, ← Array.getElem?_toList]
  rw [← Array.getElem?_toList, ← h, List.getElem?_take, if_pos hj, List.getElem?_drop] at hu
  exact hu
theorem flatB_len (C : List (List In5)) : (flatB C).length = C.length * 24 := by
  induction C with
  | nil => rfl
  | cons b C ih =>
    have e : flatB (b :: C) = (bcs (bX b)).toList ++ flatB C := rfl
    rw [e, List.length_append, ih, List.length_cons, Array.length_toList, bcs_size]
    omega
/-- A literal row as a row of one's own. -/
theorem own_of_bk {w1 : World} {g n B : Nat} {cs : Array Value} {C : List (List In5)} (h : cs.toList = flatB C) (hk : BK 58 w1 g cs) (hn : C.length = n) (hB : B ≤ g) (hm : n ≤ 1000) : w1.ownsRow B 58 24 (.slice (some ⟨g, 0, none⟩) n n) n (flatB C) := by
  have hl := flatB_len C
  have h1 : cs.size = n * 24 := by rw [← Array.length_toList, h, hl, hn]
  exact ⟨by rw [hl, hn], .inr ⟨g, n, cs, rfl, hB, hk, Nat.le_refl _, by unfold maxLen; omega, h1, by rw [h, List.take_of_length_le (by rw [hl, hn]; exact Nat.le_refl _)]⟩⟩
end Go.Proofs.YtbgmdikcbglpiaaGreatDoor
