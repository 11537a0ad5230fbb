/-
  Blocks that are one word, rows of words: load and store of a whole word in one step, append of a word, a slice that reads as words. No condition.
-/
import Derived.Test.YtddbfhdhldnoiaaDoorLb
import Derived.Laws.Rows
import Derived.Laws.Tables
import Derived.Laws.ResultCell
import Derived.Laws.OwnMore
import Derived.Deep.Onto
import Derived.Deep.AppendLies
import Derived.Lib.SmallJoins
import Derived.Deep.LoopGhost
namespace Go.Proofs.YtddbfhdhldnoiaaDoor
open Go.RowKit

theorem lt_of_heap {w : World} {g : Nat} {x : Obj} (h : w.heap[g]? = some x) : g < w.heap.size := (Array.getElem?_eq_some_iff.1 h).1
theorem add_pos (x : Addr) (j : Nat) (h : j ≠ 0) : x.add j = ⟨x.block, x.off + j, none⟩ := by unfold Addr.add; simp [h]
theorem block_add (a : Addr) (n : Nat) : (a.add n).block = a.block := by unfold Addr.add; split <;> rfl
/-- The block, if any, of a slice's place. -/
def ob : Option Addr → Option Nat := fun a => a.map (·.block)
theorem own_ob (a : Option Addr) (n c : Nat) : (Value.slice a n c).ownBlock = ob a := by cases a <;> rfl
theorem grown_below {w w' : World} (hb : Below w.heap.size w w') : w.grownBy w' none := ⟨hb.os, hb.tape, hb.output, hb.size, fun k hk _ => hb.block k hk⟩
theorem own_bel {w w' : World} {B e z n : Nat} {v : Value} {xs : List Value} (h : w.ownsRow B e z v n xs) (hb : Below w.heap.size w w') : w'.ownsRow B e z v n xs := h.kept (grown_below hb) (by cases v.ownBlock; exact .inl rfl; exact .inr (by simp))
theorem gb_trans {w w1 w2 : World} {r : Option Nat} (h1 : w.grownBy w1 r) (h2 : w1.grownBy w2 r) : w.grownBy w2 r :=
  ⟨h2.os.trans h1.os, h2.tape.trans h1.tape, h2.output.trans h1.output, Nat.le_trans h1.size h2.size, fun k hk hr => (h2.block k (Nat.lt_of_lt_of_le hk h1.size) hr).trans (h1.block k hk hr)⟩
theorem gb_below {w w1 : World} {B : Nat} {g : Nat} (h : w.grownBy w1 (some g)) (hg : B ≤ g) (hB : B ≤ w.heap.size) : Below B w w1 := (Below.refl _ w).grown h hB (by intro k hk; cases hk; exact hg)
theorem below_drewN {B : Nat} {a w : World} (h : Below B a w) (n : Nat) : Below B a (w.drewN n) := ⟨h.os, h.tape, h.output, h.size, h.block⟩
theorem box_cells {w w1 : World} {cs : Array Value} {t : TypeId} (hb : Below (w.alloc (.cells cs t)).heap.size (w.alloc (.cells cs t)) w1) :
    (∀ j, w1.cell? ⟨w.heap.size, j, none⟩ = cs[j]?) ∧ w.heap.size < w1.heap.size ∧ Below w.heap.size w w1 := by
  have hs := hb.size
  refine ⟨fun j => ?_, by simp at hs; omega, (below_new w _).trans (hb.mono (by simp))⟩
  rw [hb.cell (p := ⟨w.heap.size, j, none⟩) (by simp)]
  simp [go_sem]
/-- A block that is one value. -/
def BK (T : TypeId) (w : World) (g : Nat) (cs : Array Value) : Prop := w.heap[g]? = some (.cells cs T (0, 0))
section
variable {w w' : World} {g : Nat} {cs : Array Value} {T : TypeId}
theorem BK.lt (h : BK T w g cs) : g < w.heap.size := lt_of_heap h
theorem BK.frozen (h : BK T w g cs) (j : Nat) : w.frozen? ⟨g, j, none⟩ = false := frozen_of_row w g j cs T h
theorem BK.cell (h : BK T w g cs) (j : Nat) : w.cell? ⟨g, j, none⟩ = cs[j]? := cell_of_row w g j cs T (0, 0) h
theorem BK.below (h : BK T w g cs) (hb : Below w.heap.size w w') : BK T w' g cs := (hb.block g h.lt).trans h
theorem BK.belowB {B : Nat} (h : BK T w g cs) (hb : Below B w w') (hg : g < B) : BK T w' g cs := (hb.block g hg).trans h
theorem BK.alloc (h : BK T w g cs) (ob : Obj) : BK T (w.alloc ob) g cs := (Below.heap_alloc w ob g h.lt).trans h
theorem BK.drewN (h : BK T w g cs) (n : Nat) : BK T (w.drewN n) g cs := h
theorem BK.grown (h : BK T w g cs) {row : Option Nat} (hg : w.grownBy w' row) (hr : some g ≠ row) : BK T w' g cs := (hg.block g h.lt hr).trans h
theorem BK.set (h : BK T w g cs) (j : Nat) (u : Value) : BK T (w.setCell ⟨g, j, none⟩ u) g (cs.setIfInBounds j u) := heap_setCell_same w g j cs T u h
theorem BK.load (h : BK T w g cs) {fs : Array Field} (hu : Tryd.prog.underlying T = some (.struct fs)) {n : Nat} (hi : (Tryd.prog.info? T).map (·.size) = some n) (hs : cs.size = n) : (loadVar T ⟨g, 0, none⟩).run Tryd.prog w = .ok (.agg cs) w :=
  run_loadVar_row w g T T cs (0, 0) _ h hu rfl (by rw [hs]; exact hi)
theorem bk_row (h : BK T w g cs) (cs' : Array Value) : BK T (w.setRow g cs') g cs' ∧ w.grownBy (w.setRow g cs') (some g) ∧ (w.setRow g cs').heap.size = w.heap.size := by
  refine ⟨?_, ⟨rfl, rfl, rfl, ?_, fun k _ hk => ?_⟩, ?_⟩
  · unfold BK at h ⊢
    simp [World.setRow, Array.getElem?_modify, h]
  · simp [World.setRow]
  · have hne : ¬ g = k := fun e => hk (by rw [e])
    simp [World.setRow, Array.getElem?_modify, hne]
  · simp [World.setRow]
theorem wpList_store_bk {ops : Array Oper} {rest : List Oper} {op : Oper} {a : Act} {Q : Exit → Act → World → Prop} (hgd : op.guard = none) (x y : Operand) (ho : op.op = .store T x y)
    {n : Nat} (hi : (Tryd.prog.info? T).map (·.size) = some n)
    (g : Nat) (cs cs' : Array Value) (hx : a.eval x = .pointer (some ⟨g, 0, none⟩)) (hy : a.eval y = .agg cs') (hb : BK T w g cs) (hs : cs.size = n) (hs' : cs'.size = n) (h1 : cs'.all (·.oneCell') = true)
    (h : ∀ w', BK T w' g cs' → w.grownBy w' (some g) → w'.heap.size = w.heap.size → wpList Tryd.prog ops Q rest (a.put op.dst undef) w') : wpList Tryd.prog ops Q (op :: rest) a w :=
  wpList_plain hgd fun _ hK => by
    obtain ⟨p1, p2, p3⟩ := bk_row hb cs'
    unfold Oper.wp execOp
    simp only [ho, hx, hy, Instr.storeAt, Instr.sureAddr, Sem.run_bind, Sem.run_pure, Result.andThen_ok, run_storeVar_row (P := Tryd.prog) w g T T cs cs' hb (by rw [hs']; exact hi) (by rw [hs, hs']) h1]
    exact hK _ _ (h _ p1 p2 p3)
theorem wpList_load_bk {ops : Array Oper} {rest : List Oper} {op : Oper} {a : Act} {Q : Exit → Act → World → Prop} (hgd : op.guard = none) (x : Operand) (ho : op.op = .load T x)
    {fs : Array Field} (hu : Tryd.prog.underlying T = some (.struct fs)) {n : Nat} (hi : (Tryd.prog.info? T).map (·.size) = some n)
    (g : Nat) (cs : Array Value) (hx : a.eval x = .pointer (some ⟨g, 0, none⟩)) (hb : BK T w g cs) (hs : cs.size = n)
    (h : wpList Tryd.prog ops Q rest (a.put op.dst (.agg cs)) w) : wpList Tryd.prog ops Q (op :: rest) a w :=
  wpList_plain hgd fun _ hK => by
    unfold Oper.wp execOp
    simp only [ho, hx, Instr.loadAt, Instr.sureAddr, Sem.run_bind, Sem.run_pure, Result.andThen_ok, hb.load hu hi hs]
    exact hK _ _ h
end
theorem results_cell_one {fn : Func} {p : Tmp} {ty : TypeId} (h : fn.results = #[.cell p ty]) (tmps : Array Value) (P : Program) (w : World) :
    (results fn tmps).run P w = ((asAddr (tmps.getD p undef)).run P w).andThen fun a w₁ => (loadVar ty a).run P w₁ := by
  simp only [results, h]
  simp [Sem.run_bind, Result.andThen]
theorem Tryd.size47 : (Tryd.prog.info? 47).map (·.size) = some 4 := by kernel_rfl
theorem Tryd.info47 : (Tryd.prog.info? 47).map (fun i => ((i.zero.map fun z => z.cells.size), i.size, i.bytes)) = some (some 4, 4, 40) := by kernel_rfl
theorem info47_parts : ∃ i z, Tryd.prog.info? 47 = some i ∧ i.zero = some z ∧ i.size = 4 ∧ i.bytes = 40 ∧ z.cells.size = 4 := by
  obtain ⟨i, hi, he⟩ := Option.map_eq_some_iff.1 Tryd.info47
  simp only [Prod.mk.injEq] at he
  obtain ⟨z, hz, hc⟩ := Option.map_eq_some_iff.1 he.1
  exact ⟨i, z, hi, hz, he.2.1, he.2.2, hc⟩
def Tk.list (t : Tk) : List Value := [.int .i64 t.k, .string ⟨t.t.toArray⟩, .int .i64 t.n, .int .i64 t.a]
theorem tk_list (t : Tk) : t.cells.toList = t.list := rfl
theorem tk_one (t : Tk) : ∀ u ∈ t.list, u.oneCell' = true := by
  intro u hu
  simp only [Tk.list, List.mem_cons, List.not_mem_nil, or_false] at hu
  rcases hu with rfl | rfl | rfl | rfl <;> rfl
theorem tk_all (t : Tk) : t.cells.all (·.oneCell') = true := by kernel_rfl
/-- Words, one behind the other. -/
def flat4 (l : List Tk) : List Value := l.flatMap Tk.list
theorem flat4_len (l : List Tk) : (flat4 l).length = l.length * 4 := by
  induction l with
  | nil => rfl
  | cons t l ih => simp only [flat4, List.flatMap_cons, List.length_append, List.length_cons] at *; rw [ih]; simp [Tk.list]; omega
theorem flat4_app (a b : List Tk) : flat4 (a ++ b) = flat4 a ++ flat4 b := by simp [flat4]
theorem flat4_at (l : List Tk) (i j : Nat) (t : Tk) (h : l[i]? = some t) (hj : j < 4) : (flat4 l)[i * 4 + j]? = t.list[j]? := by
  induction l generalizing i with
  | nil => simp at h
  | cons x l ih =>
    have e : flat4 (x :: l) = x.list ++ flat4 l := rfl
    rw [e]
    cases i with
    | zero =>
      simp at h
      subst h
      rw [List.getElem?_append_left (by show 0 * 4 + j < 4; omega)]
      simp
    | succ i =>
      simp at h
      rw [List.getElem?_append_right (by show 4 ≤ _; omega)]
      have : (i + 1) * 4 + j - x.list.length = i * 4 + j := by show (i + 1) * 4 + j - 4 = _; omega
      rw [this]
      exact ih i h
/-- append of one word to a row of one's own. -/
theorem app4 {ops : Array Oper} {rest : List Oper} {o : Oper} {a : Act} {Q : Exit → Act → World → Prop} (hgd : o.guard = none) (s x : Operand) (ho : o.op = .call { callee := .builtin .append, args := #[s, x], argTypes := #[27, 27] })
    (W : World) (B n c : Nat) (va : Option Addr) (xs : List Tk) (t : Tk) (hs : a.eval s = .slice va n c) (hown : W.ownsRow B 47 4 (.slice va n c) n (flat4 xs)) (hn : n ≤ 1000000000) (g0 : Nat) (hx : a.eval x = .slice (some ⟨g0, 0, none⟩) 1 1) (cs : Array Value) (hg0 : BK 47 W g0 cs) (hcs : cs.toList = t.list) (hB : B ≤ W.heap.size)
    (h : ∀ g cap w', w'.ownsRow B 47 4 (.slice (some ⟨g, 0, none⟩) (n + 1) cap) (n + 1) (flat4 (xs ++ [t])) → W.grownBy w' (ob va) → wpList Tryd.prog ops Q rest (a.put o.dst (.slice (some ⟨g, 0, none⟩) (n + 1) cap)) w') :
    wpList Tryd.prog ops Q (o :: rest) a W := by
  obtain ⟨i, z, hi, hz, h1, h2, h3⟩ := info47_parts
  refine wpList_append_lies W hgd s x 27 ho B 47 i z 4 40 Tryd.underlying27 hi hz h1 h2 h3 (by decide) (.slice va n c) n (flat4 xs) hs hown ⟨g0, 0, none⟩ 1 1 t.list hx rfl (fun j u hu => World.news_of_block hg0 j u (by rw [hcs]; exact hu)) (tk_one t) (by decide) (by unfold maxLen; omega) (by omega) hB _ rfl ?_
  intro g cap w' o1 o2 _ _
  refine h g cap w' ?_ (by rw [own_ob] at o2; exact o2)
  rw [flat4_app]
  have e : flat4 [t] = t.list := by simp [flat4]
  rw [e]
  exact o1
/-- A slice that reads as words, nil or not, wherever it lies. -/
def RdT (w : World) (v : Value) (xs : List Tk) : Prop :=
  ∃ A c, v = .slice A xs.length c ∧ (0 < xs.length → ∃ ad : Addr, A = some ad ∧ ad.block < w.heap.size ∧ ∀ j u, (flat4 xs)[j]? = some u → w.cell? (ad.add j) = some u)
section
variable {w w' : World} {v : Value} {xs : List Tk}
theorem RdT.keep (h : RdT w v xs) (hs : w.heap.size ≤ w'.heap.size) (hk : ∀ p : Addr, p.block < w.heap.size → w'.cell? p = w.cell? p) : RdT w' v xs := by
  obtain ⟨A, c, hv, h⟩ := h
  refine ⟨A, c, hv, fun h0 => ?_⟩
  obtain ⟨ad, ha, hb, hc⟩ := h h0
  exact ⟨ad, ha, by omega, fun j u hu => (hk _ (by rw [block_add]; exact hb)).trans (hc j u hu)⟩
theorem RdT.below (h : RdT w v xs) (hb : Below w.heap.size w w') : RdT w' v xs := h.keep hb.size fun _ hp => hb.cell hp
theorem RdT.belowB {B : Nat} (h : RdT w v xs) (hb : Below B w w') (hB : ∀ A n c, v = .slice A n c → ∀ g, ob A = some g → g < B) : RdT w' v xs := by
  obtain ⟨A, c, hv, h⟩ := h
  refine ⟨A, c, hv, fun h0 => ?_⟩
  obtain ⟨ad, ha, hb', hc⟩ := h h0
  have hl : ad.block < B := hB A _ c hv ad.block (by rw [ha]; rfl)
  have := hb.size
  exact ⟨ad, ha, by omega, fun j u hu => (hb.cell (p := ad.add j) (by rw [block_add]; exact hl)).trans (hc j u hu)⟩
theorem RdT.nil (w : World) : RdT w (.slice none 0 0) [] := ⟨none, 0, rfl, fun h => absurd h (by simp)⟩
theorem RdT.of_own {B : Nat} (h : w.ownsRow B 47 4 v xs.length (flat4 xs)) : RdT w v xs := by
  rcases h.2 with ⟨rfl, h0⟩ | ⟨g, cap, cur, rfl, hb, hg, _⟩
  · exact ⟨none, 0, by rw [h0], fun h1 => absurd h1 (by omega)⟩
  · exact ⟨_, _, rfl, fun _ => ⟨_, rfl, lt_of_heap hg, h.cells rfl⟩⟩
theorem RdT.at_ {A : Option Addr} {i : Nat} (h : 0 < xs.length → ∃ ad : Addr, A = some ad ∧ ad.block < w.heap.size ∧ ∀ j u, (flat4 xs)[j]? = some u → w.cell? (ad.add j) = some u) (hi : i < xs.length) :
    ∃ ad : Addr, A = some ad ∧ ad.block < w.heap.size ∧ w.cell? (ad.add (i * 4)) = some (.int .i64 (xs[i]).k) ∧ w.cell? ⟨(ad.add (i * 4)).block, (ad.add (i * 4)).off + 1, none⟩ = some (.string ⟨(xs[i]).t.toArray⟩) ∧ w.cell? ⟨(ad.add (i * 4)).block, (ad.add (i * 4)).off + 2, none⟩ = some (.int .i64 (xs[i]).n) ∧ w.cell? ⟨(ad.add (i * 4)).block, (ad.add (i * 4)).off + 3, none⟩ = some (.int .i64 (xs[i]).a) := by
  obtain ⟨ad, ha, hb, hc⟩ := h (by omega)
  have f : ∀ j, j < 4 → w.cell? (ad.add (i * 4 + j)) = (xs[i]).list[j]? := fun j hj => by
    have h1 := flat4_at xs i j _ (List.getElem?_eq_getElem hi) hj
    have h2 : (xs[i]).list[j]? = some ((xs[i]).list[j]'hj) := List.getElem?_eq_getElem hj
    rw [h2]
    exact hc _ _ (h1.trans h2)
  have h1 := f 1 (by decide)
  have h2 := f 2 (by decide)
  have h3 := f 3 (by decide)
  rw [← Go.Deep.add_add, add_pos _ _ (by decide)] at h1 h2 h3
  exact ⟨ad, ha, hb, f 0 (by decide), h1, h2, h3⟩
end
end Go.Proofs.YtddbfhdhldnoiaaDoor
