/-
  Bundles: four instructions, 24 cells; a block that is one bundle; a bundle at any place of memory; an instruction out of a bundle. No condition.
-/
import Derived.Test.YtbgmdikcbglpiaaGreatDoorCycOk
import Derived.Laws.Rows
import Derived.Laws.Tables
namespace Go.Proofs.YtbgmdikcbglpiaaGreatDoor
open Go.RowKit

/-- An instruction. -/
structure In6 where
  o : Int
  d : Int
  a : Int
  b : Int
  m : Int
  s : ByteArray
def In6.cells (x : In6) : Array Value := #[.int .i64 x.o, .int .i64 x.d, .int .i64 x.a, .int .i64 x.b, .int .i64 x.m, .string x.s]
def In5.raw (x : In5) : In6 := ⟨x.o, x.d, x.a, x.b, x.m, ⟨#[]⟩⟩
theorem raw_cells (x : In5) : x.raw.cells = x.cells := rfl
/-- The cells of four. -/
def bcs (X : Nat → In6) : Array Value := #[.int .i64 (X 0).o, .int .i64 (X 0).d, .int .i64 (X 0).a, .int .i64 (X 0).b, .int .i64 (X 0).m, .string (X 0).s, .int .i64 (X 1).o, .int .i64 (X 1).d, .int .i64 (X 1).a, .int .i64 (X 1).b, .int .i64 (X 1).m, .string (X 1).s, .int .i64 (X 2).o, .int .i64 (X 2).d, .int .i64 (X 2).a, .int .i64 (X 2).b, .int .i64 (X 2).m, .string (X 2).s, .int .i64 (X 3).o, .int .i64 (X 3).d, .int .i64 (X 3).a, .int .i64 (X 3).b, .int .i64 (X 3).m, .string (X 3).s]
theorem bcs_size (X : Nat → In6) : (bcs X).size = 24 := rfl
theorem bcs_one (X : Nat → In6) : (bcs X).all (·.oneCell') = true := by kernel_rfl
theorem of4 {p : Nat → Prop} (h0 : p 0) (h1 : p 1) (h2 : p 2) (h3 : p 3) {k : Nat} (hk : k < 4) : p k := by
  obtain rfl | rfl | rfl | rfl : k = 0 ∨ k = 1 ∨ k = 2 ∨ k = 3 := by omega
  all_goals assumption
theorem index_x (X : Nat → In6) (i : Nat) (hi : i < 4) (W : World) : (Instr.index 58 (.agg (bcs X)) (.int .i64 i)).run Tryz.prog W = .ok (.agg #[.int .i64 (X i).o, .int .i64 (X i).d, .int .i64 (X i).a, .int .i64 (X i).b, .int .i64 (X i).m, .string (X i).s]) W :=
  of4 (p := fun i => (Instr.index 58 (.agg (bcs X)) (.int .i64 (i : Nat))).run Tryz.prog W = .ok (.agg #[.int .i64 (X i).o, .int .i64 (X i).d, .int .i64 (X i).a, .int .i64 (X i).b, .int .i64 (X i).m, .string (X i).s]) W) (by kernel_rfl) (by kernel_rfl) (by kernel_rfl) (by kernel_rfl) hi
theorem bcs_at (X : Nat → In6) (i : Nat) (hi : i < 4) : (bcs X)[i * 6]? = some (.int .i64 (X i).o) ∧ (bcs X)[i * 6 + 1]? = some (.int .i64 (X i).d) ∧ (bcs X)[i * 6 + 2]? = some (.int .i64 (X i).a) ∧ (bcs X)[i * 6 + 3]? = some (.int .i64 (X i).b) ∧ (bcs X)[i * 6 + 4]? = some (.int .i64 (X i).m) ∧ (bcs X)[i * 6 + 5]? = some (.string (X i).s) :=
  of4 (p := fun i => (bcs X)[i * 6]? = some (.int .i64 (X i).o) ∧ (bcs X)[i * 6 + 1]? = some (.int .i64 (X i).d) ∧ (bcs X)[i * 6 + 2]? = some (.int .i64 (X i).a) ∧ (bcs X)[i * 6 + 3]? = some (.int .i64 (X i).b) ∧ (bcs X)[i * 6 + 4]? = some (.int .i64 (X i).m) ∧ (bcs X)[i * 6 + 5]? = some (.string (X i).s)) ⟨rfl, rfl, rfl, rfl, rfl, rfl⟩ ⟨rfl, rfl, rfl, rfl, rfl, rfl⟩ ⟨rfl, rfl, rfl, rfl, rfl, rfl⟩ ⟨rfl, rfl, rfl, rfl, rfl, rfl⟩ hi
/-- A block that is one bundle. -/
def BL (w : World) (g : Nat) (cs : Array Value) : Prop := w.heap[g]? = some (.cells cs 58 (0, 0))
theorem Tryz.size58 : (Tryz.prog.info? 58).map (·.size) = some 24 := by kernel_rfl
section
variable {w w' : World} {g : Nat} {cs : Array Value}
theorem BL.lt (h : BL w g cs) : g < w.heap.size := lt_of_heap h
theorem BL.frozen (h : BL w g cs) (j : Nat) : w.frozen? ⟨g, j, none⟩ = false := frozen_of_row w g j cs _ h
theorem BL.cell (h : BL w g cs) (j : Nat) : w.cell? ⟨g, j, none⟩ = cs[j]? := cell_of_row w g j cs _ (0, 0) h
theorem BL.below (h : BL w g cs) (hb : Below w.heap.size w w') : BL w' g cs := (hb.block g h.lt).trans h
theorem BL.belowB {B : Nat} (h : BL w g cs) (hb : Below B w w') (hg : g < B) : BL w' g cs := (hb.block g hg).trans h
theorem BL.alloc (h : BL w g cs) (ob : Obj) : BL (w.alloc ob) g cs := (Below.heap_alloc w ob g h.lt).trans h
theorem BL.drewN (h : BL w g cs) (n : Nat) : BL (w.drewN n) g cs := h
theorem BL.grown (h : BL w g cs) {row : Option Nat} (hg : w.grownBy w' row) (hr : some g ≠ row) : BL w' g cs := (hg.block g h.lt hr).trans h
theorem BL.load (h : BL w g cs) (hs : cs.size = 24) : (loadVar 58 ⟨g, 0, none⟩).run Tryz.prog w = .ok (.agg cs) w :=
  run_loadVar_row w g 58 58 cs (0, 0) _ h Tryz.underlying58 rfl (by rw [hs]; exact Tryz.size58)
theorem BL.ins {X : Nat → In6} (h : BL w g (bcs X)) (i : Nat) (hi : i < 4) : w.cell? ⟨g, i * 6, none⟩ = some (.int .i64 (X i).o) ∧ w.cell? ⟨g, i * 6 + 1, none⟩ = some (.int .i64 (X i).d) ∧ w.cell? ⟨g, i * 6 + 2, none⟩ = some (.int .i64 (X i).a) ∧ w.cell? ⟨g, i * 6 + 3, none⟩ = some (.int .i64 (X i).b) ∧ w.cell? ⟨g, i * 6 + 4, none⟩ = some (.int .i64 (X i).m) ∧ w.cell? ⟨g, i * 6 + 5, none⟩ = some (.string (X i).s) := by
  obtain ⟨e0, e1, e2, e3, e4, e5⟩ := bcs_at X i hi
  exact ⟨(h.cell _).trans e0, (h.cell _).trans e1, (h.cell _).trans e2, (h.cell _).trans e3, (h.cell _).trans e4, (h.cell _).trans e5⟩
theorem wpList_load_bl {ops : Array Oper} {rest : List Oper} {op : Oper} {a : Act} {Q : Exit → Act → World → Prop} (hgd : op.guard = none) (x : Operand) (ho : op.op = .load 58 x)
    (g : Nat) (cs : Array Value) (hx : a.eval x = .pointer (some ⟨g, 0, none⟩)) (hb : BL w g cs) (hs : cs.size = 24)
    (h : wpList Tryz.prog ops Q rest (a.put op.dst (.agg cs)) w) : wpList Tryz.prog ops Q (op :: rest) a w :=
  wpList_plain hgd fun _ hK => by
    unfold Oper.wp execOp
    simp only [ho, hx, Instr.loadAt, Instr.sureAddr, Sem.run_bind, Sem.run_pure, Result.andThen_ok, hb.load hs]
    exact hK _ _ h
/-- A bundle at a place. -/
def BAt (w : World) (ad : Addr) (X : Nat → In6) : Prop := ∀ j v, (bcs X)[j]? = some v → w.cell? (ad.add j) = some v
theorem BAt.keep {X : Nat → In6} {B : Nat} {ad : Addr} (h : BAt w ad X) (hb : Below B w w') (hl : ad.block < B) : BAt w' ad X := fun j u hu => (hb.cell (by rw [block_add]; exact hl)).trans (h j u hu)
theorem BAt.run {X : Nat → In6} {ad : Addr} (h : BAt w ad X) : (loadVar 58 ad).run Tryz.prog w = .ok (.agg (bcs X)) w := by
  have hl : (loadCells ad 24).run Tryz.prog w = .ok (bcs X) w := by
    have := run_loadCells_list (P := Tryz.prog) w ad (bcs X).toList (fun j v hv => h j v (by simpa using hv))
    simpa [bcs_size] using this
  have hi := Tryz.size58
  cases hq : Tryz.prog.info? 58 with
  | none => simp [hq] at hi
  | some i =>
    have hs : i.size = 24 := by simpa [hq] using hi
    have hagg : (isAgg 58).run Tryz.prog w = .ok true w := by
      unfold isAgg
      rw [Sem.run_bind, run_underlying Tryz.underlying58 w]
      rfl
    simp [loadVar, Sem.run_bind, hagg, sizeOf, typeInfo, hq, hs, hl]
theorem wpList_load_at {ops : Array Oper} {rest : List Oper} {op : Oper} {a : Act} {Q : Exit → Act → World → Prop} (hgd : op.guard = none) (x : Operand) (ho : op.op = .load 58 x)
    (ad : Addr) (X : Nat → In6) (hx : a.eval x = .pointer (some ad)) (hb : BAt w ad X)
    (h : wpList Tryz.prog ops Q rest (a.put op.dst (.agg (bcs X))) w) : wpList Tryz.prog ops Q (op :: rest) a w :=
  wpList_plain hgd fun _ hK => by
    unfold Oper.wp execOp
    simp only [ho, hx, Instr.loadAt, Instr.sureAddr, Sem.run_bind, Sem.run_pure, Result.andThen_ok, hb.run]
    exact hK _ _ h
/-- The four instructions of a bundle. -/
def bX (b : List In5) : Nat → In6 := fun k => (b.getD k zi).raw
/-- Code lies in memory below B. -/
def Cd (B : Nat) (w : World) (A : Option Addr) (C : List (List In5)) : Prop := ∀ i, i < C.length → ∃ ad, A = some ad ∧ ad.block < B ∧ BAt w (ad.add (i * 24)) (bX (C.getD i []))
theorem Cd.keep {B : Nat} {A : Option Addr} {C : List (List In5)} (h : Cd B w A C) (hb : Below B w w') : Cd B w' A C := by
  intro i hi
  obtain ⟨ad, ha, hl, hx⟩ := h i hi
  exact ⟨ad, ha, hl, hx.keep hb (by rw [block_add]; exact hl)⟩
theorem Cd.mono {B B' : Nat} {A : Option Addr} {C : List (List In5)} (h : Cd B w A C) (hb : B ≤ B') : Cd B' w A C := by
  intro i hi
  obtain ⟨ad, ha, hl, hx⟩ := h i hi
  exact ⟨ad, ha, by omega, hx⟩
end
end Go.Proofs.YtbgmdikcbglpiaaGreatDoor
