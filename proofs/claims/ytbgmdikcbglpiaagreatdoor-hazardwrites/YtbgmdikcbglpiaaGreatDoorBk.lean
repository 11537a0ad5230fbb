/-
  Blocks that are one value of a struct type: load and store of the whole in one step; five rows of a state's own, without the state's block. No condition.
-/
import Derived.Test.YtbgmdikcbglpiaaGreatDoorEq
import Derived.Test.YtbgmdikcbglpiaaGreatDoorPp2
import Derived.Laws.Rows
import Derived.Laws.Tables
import Derived.Laws.ResultCell
import Derived.Deep.Onto
namespace Go.Proofs.YtbgmdikcbglpiaaGreatDoor
open Go.RowKit

/-- A block that is one value. -/
def BK (T : TypeId) (w : World) (g : Nat) (cs : Array Value) : Prop := w.heap[g]? = some (.cells cs T (0, 0))
section
variable {w w' : World} {g : Nat} {cs : Array Value} {T : TypeId}
theorem BK.lt (h : BK T w g cs) : g < w.heap.size := lt_of_heap h
theorem BK.frozen (h : BK T w g cs) (j : Nat) : w.frozen? ⟨g, j, none⟩ = false := frozen_of_row w g j cs T h
theorem BK.cell (h : BK T w g cs) (j : Nat) : w.cell? ⟨g, j, none⟩ = cs[j]? := cell_of_row w g j cs T (0, 0) h
theorem BK.below (h : BK T w g cs) (hb : Below w.heap.size w w') : BK T w' g cs := (hb.block g h.lt).trans h
theorem BK.belowB {B : Nat} (h : BK T w g cs) (hb : Below B w w') (hg : g < B) : BK T w' g cs := (hb.block g hg).trans h
theorem BK.alloc (h : BK T w g cs) (ob : Obj) : BK T (w.alloc ob) g cs := (Below.heap_alloc w ob g h.lt).trans h
theorem BK.drewN (h : BK T w g cs) (n : Nat) : BK T (w.drewN n) g cs := h
theorem BK.grown (h : BK T w g cs) {row : Option Nat} (hg : w.grownBy w' row) (hr : some g ≠ row) : BK T w' g cs := (hg.block g h.lt hr).trans h
theorem BK.set (h : BK T w g cs) (j : Nat) (u : Value) : BK T (w.setCell ⟨g, j, none⟩ u) g (cs.setIfInBounds j u) := heap_setCell_same w g j cs T u h
theorem BK.load (h : BK T w g cs) {fs : Array Field} (hu : Tryz.prog.underlying T = some (.struct fs)) {n : Nat} (hi : (Tryz.prog.info? T).map (·.size) = some n) (hs : cs.size = n) : (loadVar T ⟨g, 0, none⟩).run Tryz.prog w = .ok (.agg cs) w :=
  run_loadVar_row w g T T cs (0, 0) _ h hu rfl (by rw [hs]; exact hi)
theorem bk_row (h : BK T w g cs) (cs' : Array Value) : BK T (w.setRow g cs') g cs' ∧ w.grownBy (w.setRow g cs') (some g) ∧ (w.setRow g cs').heap.size = w.heap.size := by
  refine ⟨?_, ⟨rfl, rfl, rfl, ?_, fun k _ hk => ?_⟩, ?_⟩
  · unfold BK at h ⊢
    simp [World.setRow, Array.getElem?_modify, h]
  · simp [World.setRow]
  · have hne : ¬ g = k := fun e => hk (by rw [e])
    simp [World.setRow, Array.getElem?_modify, hne]
  · simp [World.setRow]
theorem wpList_store_bk {ops : Array Oper} {rest : List Oper} {op : Oper} {a : Act} {Q : Exit → Act → World → Prop} (hgd : op.guard = none) (x y : Operand) (ho : op.op = .store T x y)
    {n : Nat} (hi : (Tryz.prog.info? T).map (·.size) = some n)
    (g : Nat) (cs cs' : Array Value) (hx : a.eval x = .pointer (some ⟨g, 0, none⟩)) (hy : a.eval y = .agg cs') (hb : BK T w g cs) (hs : cs.size = n) (hs' : cs'.size = n) (h1 : cs'.all (·.oneCell') = true)
    (h : ∀ w', BK T w' g cs' → w.grownBy w' (some g) → w'.heap.size = w.heap.size → wpList Tryz.prog ops Q rest (a.put op.dst undef) w') : wpList Tryz.prog ops Q (op :: rest) a w :=
  wpList_plain hgd fun _ hK => by
    obtain ⟨p1, p2, p3⟩ := bk_row hb cs'
    unfold Oper.wp execOp
    simp only [ho, hx, hy, Instr.storeAt, Instr.sureAddr, Sem.run_bind, Sem.run_pure, Result.andThen_ok, run_storeVar_row (P := Tryz.prog) w g T T cs cs' hb (by rw [hs']; exact hi) (by rw [hs, hs']) h1]
    exact hK _ _ (h _ p1 p2 p3)
theorem wpList_load_bk {ops : Array Oper} {rest : List Oper} {op : Oper} {a : Act} {Q : Exit → Act → World → Prop} (hgd : op.guard = none) (x : Operand) (ho : op.op = .load T x)
    {fs : Array Field} (hu : Tryz.prog.underlying T = some (.struct fs)) {n : Nat} (hi : (Tryz.prog.info? T).map (·.size) = some n)
    (g : Nat) (cs : Array Value) (hx : a.eval x = .pointer (some ⟨g, 0, none⟩)) (hb : BK T w g cs) (hs : cs.size = n)
    (h : wpList Tryz.prog ops Q rest (a.put op.dst (.agg cs)) w) : wpList Tryz.prog ops Q (op :: rest) a w :=
  wpList_plain hgd fun _ hK => by
    unfold Oper.wp execOp
    simp only [ho, hx, Instr.loadAt, Instr.sureAddr, Sem.run_bind, Sem.run_pure, Result.andThen_ok, hb.load hu hi hs]
    exact hK _ _ h
end
theorem results_cell_one {fn : Func} {p : Tmp} {ty : TypeId} (h : fn.results = #[.cell p ty]) (tmps : Array Value) (P : Program) (w : World) :
    (results fn tmps).run P w = ((asAddr (tmps.getD p undef)).run P w).andThen fun a w₁ => (loadVar ty a).run P w₁ := by
  simp only [results, h]
  simp [Sem.run_bind, Result.andThen]
theorem Tryz.size27 : (Tryz.prog.info? 27).map (·.size) = some 11 := by kernel_rfl
/-- Six rows of a state's own, apart from each other. -/
structure SR (B : Nat) (w : World) (m : M) (V : Vs) : Prop where
  hr : w.ownsRow B 69 1 V.r 16 (m.R.map ui)
  hm : w.ownsRow B 69 1 V.m 256 (m.mem.map ui)
  hi : w.ownsRow B 69 1 (V.i m) m.inp.length (m.inp.map ui)
  ho : w.ownsRow B 69 1 (V.o m) m.out.length (m.out.map ui)
  hs : w.ownsRow B 3 1 (V.s m) m.st.length (m.st.map ni)
  hf : w.ownsRow B 71 3 (V.f m) m.fl.length (flat3 m.fl)
  rm : V.gr ≠ V.gm
  ri : ob V.ai ≠ some V.gr
  ro : ob V.ao ≠ some V.gr
  rs : ob V.az ≠ some V.gr
  mi : ob V.ai ≠ some V.gm
  mo : ob V.ao ≠ some V.gm
  ms : ob V.az ≠ some V.gm
  io : Ap (ob V.ai) (ob V.ao)
  is : Ap (ob V.ai) (ob V.az)
  os : Ap (ob V.ao) (ob V.az)
section
variable {B B' p : Nat} {w w' : World} {m : M} {V : Vs}
theorem SR.grown (h : SR B w m V) {r : Option Nat} (hg : w.grownBy w' r) (hr : ∀ k, r = some k → k < B) : SR B w' m V := by
  have a : ∀ {e z n c : Nat} {A : Option Addr} {k : Nat} {xs : List Value}, w.ownsRow B e z (.slice A k c) n xs → w'.ownsRow B e z (.slice A k c) n xs := by
    intro e z n c A k xs h1
    refine keep_row h1 hg fun j hj e2 => ?_
    have := (h1.lt j (by rw [own_ob]; exact e2)).1
    have := hr j hj
    omega
  exact { h with hr := a h.hr, hm := a h.hm, hi := a h.hi, ho := a h.ho, hs := a h.hs, hf := a h.hf }
theorem SR.below (h : SR B w m V) (hb : Below w.heap.size w w') : SR B w' m V := h.grown (grown_below hb) (fun _ hk => by cases hk)
theorem SR.alloc (h : SR B w m V) (o : Obj) : SR B (w.alloc o) m V := h.below (below_new _ _)
/-- With the block ahead of them they are the state. -/
theorem SR.sa (h : SR B w m V) (hb : BK 27 w p (stCells m V)) (hp : p < B) (hB : B' ≤ p) : SA B' w p m V := by
  have a : ∀ {e z n c : Nat} {A : Option Addr} {k : Nat} {xs : List Value}, w.ownsRow B e z (.slice A k c) n xs → ob A ≠ some p := by
    intro e z n c A k xs h1 e2
    have := (h1.lt p (by rw [own_ob]; exact e2)).1
    omega
  exact { blk := ⟨27, hb⟩, hp := hB, hr := h.hr.mono (by omega), hm := h.hm.mono (by omega), hi := h.hi.mono (by omega), ho := h.ho.mono (by omega), hs := h.hs.mono (by omega), hf := h.hf.mono (by omega), pf := a h.hf
          pr := fun e => a h.hr (by simp [ob, e]), pm := fun e => a h.hm (by simp [ob, e]), pi := a h.hi, po := a h.ho, ps := a h.hs, rm := h.rm, ri := h.ri, ro := h.ro, rs := h.rs, mi := h.mi, mo := h.mo, ms := h.ms, io := h.io, is := h.is, os := h.os }
theorem ui_eq (l : List Int) : l.map ui = l.map (Value.int .u32) := rfl
theorem ni_eq (l : List Nat) : l.map ni = (l.map Int.ofNat).map (Value.int .i64) := by rw [List.map_map]; rfl
/-- A state reads as what it is. -/
theorem SR.sv (h : SR B w m V) (hR : m.R.length = 16) (hM : m.mem.length = 256) : SV w (.agg (stCells m V)) m := by
  refine ⟨V.r, V.m, V.i m, V.o m, V.s m, V.f m, rfl, ?_, ?_, ?_, ?_, ?_, RdF.of_own h.hf⟩
  · have := h.hr; rw [← hR] at this; exact Rd.of_own (by rw [← hR] at *; exact this)
  · have := h.hm; rw [← hM] at this; exact Rd.of_own this
  · exact Rd.of_own h.hi
  · exact Rd.of_own h.ho
  · have := h.hs
    rw [ni_eq] at this
    exact Rd.of_own (e := 3) (B := B) (by rw [List.length_map]; exact this)
theorem SA.sr (h : SA B w p m V) : SR B w m V := { h with }
theorem SA.bk (h : SA B w p m V) : ∃ T, w.heap[p]? = some (.cells (stCells m V) T (0, 0)) := h.blk
end
end Go.Proofs.YtbgmdikcbglpiaaGreatDoor
