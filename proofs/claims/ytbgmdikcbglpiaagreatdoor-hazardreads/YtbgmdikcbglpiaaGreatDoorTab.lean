/-
  The two tables of package isa as Lean functions; what is known of a world in which they lie; that it stays so where memory only grows. No condition.
-/
import Derived.Test.YtbgmdikcbglpiaaGreatDoorRows
import Derived.WalkKit
import Derived.WalkSpells
import Derived.WalkLawsBesides
import Derived.Lib.Hide
import Derived.Below
import Derived.OpenShut
import Derived.LaidMore
namespace Go.Proofs.YtbgmdikcbglpiaaGreatDoor
open Go.RowKit

/-- The rows of the ops: name, form, latency, slots as bits. -/
def opRows : List (List UInt8 × Int × Int × Int) := [([110, 111, 112], 0, 1, 15), ([97, 100, 100], 1, 1, 3), ([115, 117, 98], 1, 1, 3), ([97, 110, 100], 1, 1, 3), ([111, 114], 1, 1, 3), ([120, 111, 114], 1, 1, 3), ([115, 104, 108], 1, 1, 3), ([115, 104, 114], 1, 1, 3), ([115, 97, 114], 1, 1, 3), ([115, 108, 116], 1, 1, 3), ([115, 108, 116, 117], 1, 1, 3), ([101, 113], 1, 1, 3), ([109, 105, 110], 1, 1, 3), ([109, 97, 120], 1, 1, 3), ([109, 117, 108], 1, 2, 8), ([109, 117, 108, 104], 1, 2, 8), ([100, 105, 118], 1, 4, 8), ([114, 101, 109], 1, 4, 8), ([99, 97, 100, 100], 1, 1, 2), ([99, 115, 117, 98], 1, 1, 2), ([99, 109, 117, 108], 1, 3, 8), ([99, 111, 110, 106], 2, 1, 2), ([97, 100, 100, 105], 3, 1, 3), ([108, 105], 4, 1, 3), ([108, 100], 3, 3, 4), ([115, 116], 5, 1, 4), ([105, 110], 6, 2, 4), ([111, 117, 116], 7, 1, 4), ([106, 109, 112], 8, 1, 1), ([98, 122], 9, 1, 1), ([98, 110, 122], 9, 1, 1), ([99, 97, 108, 108], 8, 1, 1), ([114, 101, 116], 0, 1, 1), ([104, 97, 108, 116], 0, 1, 1)]
/-- The rows of the forms: D, A, B, low, high, target. -/
def formRows : List (Bool × Bool × Bool × Int × Int × Bool) := [(false, false, false, 0, 0, false), (true, true, true, 0, 0, false), (true, true, false, 0, 0, false), (true, true, false, -8192, 8191, false), (true, false, false, -131072, 131071, false), (false, true, true, -8192, 8191, false), (true, false, false, 0, 0, false), (false, true, false, 0, 0, false), (false, false, false, 0, 1023, true), (false, true, false, 0, 1023, true)]
def nmL (n : Nat) : List UInt8 := (opRows.getD n ([], 0, 0, 0)).1
def nm (n : Nat) : ByteArray := ⟨(nmL n).toArray⟩
def fm (n : Nat) : Nat := (opRows.getD n ([], 0, 0, 0)).2.1.toNat
def lt (n : Nat) : Int := (opRows.getD n ([], 0, 0, 0)).2.2.1
def sl (n : Nat) : Int := (opRows.getD n ([], 0, 0, 0)).2.2.2
def sd (f : Nat) : Bool := (formRows.getD f (false, false, false, 0, 0, false)).1
def sa (f : Nat) : Bool := (formRows.getD f (false, false, false, 0, 0, false)).2.1
def sb (f : Nat) : Bool := (formRows.getD f (false, false, false, 0, 0, false)).2.2.1
def slo (f : Nat) : Int := (formRows.getD f (false, false, false, 0, 0, false)).2.2.2.1
def shi (f : Nat) : Int := (formRows.getD f (false, false, false, 0, 0, false)).2.2.2.2.1
def stg (f : Nat) : Bool := (formRows.getD f (false, false, false, 0, 0, false)).2.2.2.2.2
theorem fm_lt {n : Nat} (h : n < 34) : fm n < 10 := (by decide : ∀ n : Fin 34, fm n.1 < 10) ⟨n, h⟩
/-- The two tables lie in the world. -/
structure Tab (w : World) : Prop where
  ops : ∀ n, n < 34 → w.cell? ⟨0, n * 4, none⟩ = some (.string (nm n)) ∧ w.cell? ⟨0, n * 4 + 1, none⟩ = some (.int .i64 (fm n)) ∧ w.cell? ⟨0, n * 4 + 2, none⟩ = some (.int .i64 (lt n)) ∧ w.cell? ⟨0, n * 4 + 3, none⟩ = some (.int .i64 (sl n))
  forms : ∀ f, f < 10 → w.cell? ⟨1, f * 6, none⟩ = some (.bool (sd f)) ∧ w.cell? ⟨1, f * 6 + 1, none⟩ = some (.bool (sa f)) ∧ w.cell? ⟨1, f * 6 + 2, none⟩ = some (.bool (sb f)) ∧ w.cell? ⟨1, f * 6 + 3, none⟩ = some (.int .i64 (slo f)) ∧ w.cell? ⟨1, f * 6 + 4, none⟩ = some (.int .i64 (shi f)) ∧ w.cell? ⟨1, f * 6 + 5, none⟩ = some (.bool (stg f))
  big : 1 < w.heap.size

theorem Tab.same {w w' : World} (h : Tab w) (hs : w.heap.size ≤ w'.heap.size) (hc : ∀ p : Addr, p.block ≤ 1 → w'.cell? p = w.cell? p) : Tab w' := by
  have hb := h.big
  refine ⟨fun n hn => ?_, fun f hf => ?_, by omega⟩
  · rw [hc ⟨0, n * 4, none⟩ (by simp), hc ⟨0, n * 4 + 1, none⟩ (by simp), hc ⟨0, n * 4 + 2, none⟩ (by simp), hc ⟨0, n * 4 + 3, none⟩ (by simp)]
    exact h.ops n hn
  · rw [hc ⟨1, f * 6, none⟩ (by simp), hc ⟨1, f * 6 + 1, none⟩ (by simp), hc ⟨1, f * 6 + 2, none⟩ (by simp), hc ⟨1, f * 6 + 3, none⟩ (by simp), hc ⟨1, f * 6 + 4, none⟩ (by simp), hc ⟨1, f * 6 + 5, none⟩ (by simp)]
    exact h.forms f hf
theorem Tab.keep {w w' : World} (h : Tab w) (hs : w.heap.size ≤ w'.heap.size) (hk : ∀ k, k < w.heap.size → w'.heap[k]? = w.heap[k]?) : Tab w' :=
  h.same hs fun p hp => World.cell?_of_block (w := w) (hk p.block (by have := h.big; omega))
theorem Tab.below {w w' : World} (h : Tab w) (hb : Below w.heap.size w w') : Tab w' := h.keep hb.size hb.block
theorem Tab.alloc {w : World} (h : Tab w) (o : Obj) : Tab (w.alloc o) := h.keep (by simp) (fun k hk => Below.heap_alloc w o k hk)
theorem Tab.drewN {w : World} (h : Tab w) (n : Nat) : Tab (w.drewN n) := ⟨h.ops, h.forms, h.big⟩
theorem Tab.drew {w : World} (h : Tab w) : Tab w.drew := ⟨h.ops, h.forms, h.big⟩
theorem Tab.setCell {w : World} (h : Tab w) {p : Addr} (hp : 1 < p.block) (u : Value) : Tab (w.setCell p u) :=
  h.same (by simp) fun q hq => World.cell?_setCell_other w p q u (fun e => by subst e; omega)
theorem tab_below {B : Nat} {W0 wr : World} (hT : Tab W0) (hb : Below B W0 wr) (hB : 1 < B) : Tab wr :=
  hT.same hb.size fun p hp => hb.cell (by omega)

/-! ### Out of the row's condition -/
def opD (n : Nat) : DataW Unit := .agg [.lit (.string (nmL n)), .lit (.int .i64 (fm n)), .lit (.int .i64 (lt n)), .lit (.int .i64 (sl n))]
def formD (f : Nat) : DataW Unit := .agg [.lit (.bool (sd f)), .lit (.bool (sa f)), .lit (.bool (sb f)), .lit (.int .i64 (slo f)), .lit (.int .i64 (shi f)), .lit (.bool (stg f))]
theorem ops_data : Rows.laid_sledge_isa_ops = .agg ((List.range 34).map opD) := by kernel_rfl
theorem forms_data : Rows.laid_sledge_isa_shapes = .agg ((List.range 10).map formD) := by kernel_rfl
theorem Tryz.cells115 : Tryz.prog.cellsOf 115 = 4 := by kernel_rfl
theorem Tryz.cells109 : Tryz.prog.cellsOf 109 = 6 := by kernel_rfl
theorem Tryz.cells3 : Tryz.prog.cellsOf 3 = 1 := by kernel_rfl
theorem Tryz.cells4 : Tryz.prog.cellsOf 4 = 1 := by kernel_rfl
theorem Tryz.cells9 : Tryz.prog.cellsOf 9 = 1 := by kernel_rfl

theorem take_one {cs : List Value} {i : Nat} {v : Value} (h : (cs.drop i).take 1 = [v]) : cs[i]? = some v := by
  have := congrArg (·[0]?) h
  simpa [List.getElem?_take, List.getElem?_drop] using this

theorem take_at {cs : List Value} {i j m : Nat} {v : Value} (hj : j < m) (h : ((cs.drop i).take m)[j]? = some v) : cs[i + j]? = some v := by
  rw [List.getElem?_take, if_pos hj, List.getElem?_drop] at h
  exact h

theorem str_back (s : ByteArray) (l : List UInt8) (h : s.data.toList = l) : s = ⟨l.toArray⟩ := by
  subst h
  rfl

section
variable {W : World} {fuel : Nat} {cs : List Value} {p : List MemPlace}
theorem ops_cells (h : DataW.trod (fun _ => ()) Tryz.prog W 0 (fun _ => true) false fuel 116 cs = some (.agg ((List.range 34).map opD), p)) (n : Nat) (hn : n < 34) :
    cs[n * 4]? = some (.string (nm n)) ∧ cs[n * 4 + 1]? = some (.int .i64 (fm n)) ∧ cs[n * 4 + 2]? = some (.int .i64 (lt n)) ∧ cs[n * 4 + 3]? = some (.int .i64 (sl n)) := by
  obtain ⟨xs, m, _, hx, _, hl, hel⟩ := DataW.trod_array Tryz.underlying116 h
  have h1 := hel n hn
  have hxs : (xs.map (·.1))[n]? = some (opD n) := by
    have := congrArg Prod.fst hx
    simp only [DataW.agg.injEq] at this
    rw [← this, List.getElem?_map, List.getElem?_range hn]
    rfl
  rw [List.getElem?_map] at hxs
  obtain ⟨x, hx1, hx2⟩ := Option.map_eq_some_iff.1 hxs
  rw [hx1, Tryz.cells115] at h1
  obtain ⟨ys, k, _, hy, _, hyl, hf⟩ := DataW.trod_struct Tryz.underlying115 h1
  rw [hy] at hx2
  simp only [opD, DataW.agg.injEq] at hx2
  match ys, hyl, hx2, hf with
  | [y0, y1, y2, y3], _, hx2, hf =>
    simp only [List.map_cons, List.map_nil, List.cons.injEq, and_true] at hx2
    obtain ⟨e0, e1, e2, e3⟩ := hx2
    have f0 : DataW.trod (fun _ => ()) Tryz.prog W 0 (fun _ => true) false k 9 ((((cs.drop (n * 4)).take 4).drop 0).take (Tryz.prog.cellsOf 9)) = some y0 := hf 0 _ rfl
    have f1 : DataW.trod (fun _ => ()) Tryz.prog W 0 (fun _ => true) false k 3 ((((cs.drop (n * 4)).take 4).drop 1).take (Tryz.prog.cellsOf 3)) = some y1 := hf 1 _ rfl
    have f2 : DataW.trod (fun _ => ()) Tryz.prog W 0 (fun _ => true) false k 3 ((((cs.drop (n * 4)).take 4).drop 2).take (Tryz.prog.cellsOf 3)) = some y2 := hf 2 _ rfl
    have f3 : DataW.trod (fun _ => ()) Tryz.prog W 0 (fun _ => true) false k 3 ((((cs.drop (n * 4)).take 4).drop 3).take (Tryz.prog.cellsOf 3)) = some y3 := hf 3 _ rfl
    rw [Tryz.cells9] at f0
    rw [Tryz.cells3] at f1 f2 f3
    obtain ⟨s, g0, rfl, _⟩ := DataW.trod_string Tryz.underlying9 f0
    obtain ⟨z1, g1, rfl, _⟩ := DataW.trod_int Tryz.underlying3 f1
    obtain ⟨z2, g2, rfl, _⟩ := DataW.trod_int Tryz.underlying3 f2
    obtain ⟨z3, g3, rfl, _⟩ := DataW.trod_int Tryz.underlying3 f3
    simp only [DataW.lit.injEq, Lit.int.injEq, Lit.string.injEq, true_and] at e0 e1 e2 e3
    subst e1 e2 e3
    have e0' := str_back s _ e0
    subst e0'
    refine ⟨?_, ?_, ?_, ?_⟩
    · exact take_at (j := 0) (by decide) (take_one g0)
    · exact take_at (j := 1) (by decide) (take_one g1)
    · exact take_at (j := 2) (by decide) (take_one g2)
    · exact take_at (j := 3) (by decide) (take_one g3)

theorem forms_cells (h : DataW.trod (fun _ => ()) Tryz.prog W 0 (fun _ => true) false fuel 125 cs = some (.agg ((List.range 10).map formD), p)) (n : Nat) (hn : n < 10) :
    cs[n * 6]? = some (.bool (sd n)) ∧ cs[n * 6 + 1]? = some (.bool (sa n)) ∧ cs[n * 6 + 2]? = some (.bool (sb n)) ∧ cs[n * 6 + 3]? = some (.int .i64 (slo n)) ∧ cs[n * 6 + 4]? = some (.int .i64 (shi n)) ∧ cs[n * 6 + 5]? = some (.bool (stg n)) := by
  obtain ⟨xs, m, _, hx, _, hl, hel⟩ := DataW.trod_array Tryz.underlying125 h
  have h1 := hel n hn
  have hxs : (xs.map (·.1))[n]? = some (formD n) := by
    have := congrArg Prod.fst hx
    simp only [DataW.agg.injEq] at this
    rw [← this, List.getElem?_map, List.getElem?_range hn]
    rfl
  rw [List.getElem?_map] at hxs
  obtain ⟨x, hx1, hx2⟩ := Option.map_eq_some_iff.1 hxs
  rw [hx1, Tryz.cells109] at h1
  obtain ⟨ys, k, _, hy, _, hyl, hf⟩ := DataW.trod_struct Tryz.underlying109 h1
  rw [hy] at hx2
  simp only [formD, DataW.agg.injEq] at hx2
  match ys, hyl, hx2, hf with
  | [y0, y1, y2, y3, y4, y5], _, hx2, hf =>
    simp only [List.map_cons, List.map_nil, List.cons.injEq, and_true] at hx2
    obtain ⟨e0, e1, e2, e3, e4, e5⟩ := hx2
    have f0 : DataW.trod (fun _ => ()) Tryz.prog W 0 (fun _ => true) false k 4 ((((cs.drop (n * 6)).take 6).drop 0).take (Tryz.prog.cellsOf 4)) = some y0 := hf 0 _ rfl
    have f1 : DataW.trod (fun _ => ()) Tryz.prog W 0 (fun _ => true) false k 4 ((((cs.drop (n * 6)).take 6).drop 1).take (Tryz.prog.cellsOf 4)) = some y1 := hf 1 _ rfl
    have f2 : DataW.trod (fun _ => ()) Tryz.prog W 0 (fun _ => true) false k 4 ((((cs.drop (n * 6)).take 6).drop 2).take (Tryz.prog.cellsOf 4)) = some y2 := hf 2 _ rfl
    have f3 : DataW.trod (fun _ => ()) Tryz.prog W 0 (fun _ => true) false k 3 ((((cs.drop (n * 6)).take 6).drop 3).take (Tryz.prog.cellsOf 3)) = some y3 := hf 3 _ rfl
    have f4 : DataW.trod (fun _ => ()) Tryz.prog W 0 (fun _ => true) false k 3 ((((cs.drop (n * 6)).take 6).drop 4).take (Tryz.prog.cellsOf 3)) = some y4 := hf 4 _ rfl
    have f5 : DataW.trod (fun _ => ()) Tryz.prog W 0 (fun _ => true) false k 4 ((((cs.drop (n * 6)).take 6).drop 5).take (Tryz.prog.cellsOf 4)) = some y5 := hf 5 _ rfl
    rw [Tryz.cells4] at f0 f1 f2 f5
    rw [Tryz.cells3] at f3 f4
    obtain ⟨z0, g0, rfl⟩ := DataW.trod_bool Tryz.underlying4 f0
    obtain ⟨z1, g1, rfl⟩ := DataW.trod_bool Tryz.underlying4 f1
    obtain ⟨z2, g2, rfl⟩ := DataW.trod_bool Tryz.underlying4 f2
    obtain ⟨z3, g3, rfl, _⟩ := DataW.trod_int Tryz.underlying3 f3
    obtain ⟨z4, g4, rfl, _⟩ := DataW.trod_int Tryz.underlying3 f4
    obtain ⟨z5, g5, rfl⟩ := DataW.trod_bool Tryz.underlying4 f5
    simp only [DataW.lit.injEq, Lit.int.injEq, Lit.bool.injEq, true_and] at e0 e1 e2 e3 e4 e5
    subst e0 e1 e2 e3 e4 e5
    refine ⟨?_, ?_, ?_, ?_, ?_, ?_⟩
    · have := take_at (j := 0) (by decide) (take_one g0); simpa using this
    · exact take_at (j := 1) (by decide) (take_one g1)
    · exact take_at (j := 2) (by decide) (take_one g2)
    · exact take_at (j := 3) (by decide) (take_one g3)
    · exact take_at (j := 4) (by decide) (take_one g4)
    · exact take_at (j := 5) (by decide) (take_one g5)
end

def laid2 : List (String × DataW Unit) := [("sledge/isa.ops", Rows.laid_sledge_isa_ops), ("sledge/isa.shapes", Rows.laid_sledge_isa_shapes)]
theorem tab_of_laid {W : World} (h : laidMetH Tryz.prog laid2 W) : Tab W := by
  rw [MakeChecks.laidMetH_plain _ _ _ (by kernel_rfl)] at h
  obtain ⟨ps, ⟨g2, t2, cs2, f2, p2, q2, hg2, ht2, hv2, hd2, ⟨g3, t3, cs3, f3, p3, q3, hg3, ht3, hv3, hd3, _, _⟩, _⟩, _, _⟩ := h
  have G2 : Tryz.prog.globalNamed "sledge/isa.ops" = some 0 := by kernel_rfl
  have G3 : Tryz.prog.globalNamed "sledge/isa.shapes" = some 1 := by kernel_rfl
  have T2 : (Tryz.prog.globals[0]?).map (·.type) = some 116 := by kernel_rfl
  have T3 : (Tryz.prog.globals[1]?).map (·.type) = some 125 := by kernel_rfl
  obtain rfl := Option.some.inj (G2.symm.trans hg2)
  obtain rfl := Option.some.inj (G3.symm.trans hg3)
  obtain rfl := Option.some.inj (T2.symm.trans ht2)
  obtain rfl := Option.some.inj (T3.symm.trans ht3)
  rw [ops_data] at hd2
  rw [forms_data] at hd3
  have key : ∀ n, n < 34 → W.cell? ⟨0, n * 4, none⟩ = some (.string (nm n)) ∧ W.cell? ⟨0, n * 4 + 1, none⟩ = some (.int .i64 (fm n)) ∧ W.cell? ⟨0, n * 4 + 2, none⟩ = some (.int .i64 (lt n)) ∧ W.cell? ⟨0, n * 4 + 3, none⟩ = some (.int .i64 (sl n)) := by
    intro n hn
    obtain ⟨c0, c1, c2, c3⟩ := ops_cells hd2 n hn
    simp only [World.var?_cell hg2 hv2, ← Array.getElem?_toList]
    exact ⟨c0, c1, c2, c3⟩
  have key2 : ∀ n, n < 10 → W.cell? ⟨1, n * 6, none⟩ = some (.bool (sd n)) ∧ W.cell? ⟨1, n * 6 + 1, none⟩ = some (.bool (sa n)) ∧ W.cell? ⟨1, n * 6 + 2, none⟩ = some (.bool (sb n)) ∧ W.cell? ⟨1, n * 6 + 3, none⟩ = some (.int .i64 (slo n)) ∧ W.cell? ⟨1, n * 6 + 4, none⟩ = some (.int .i64 (shi n)) ∧ W.cell? ⟨1, n * 6 + 5, none⟩ = some (.bool (stg n)) := by
    intro n hn
    obtain ⟨c0, c1, c2, c3, c4, c5⟩ := forms_cells hd3 n hn
    simp only [World.var?_cell hg3 hv3, ← Array.getElem?_toList]
    exact ⟨c0, c1, c2, c3, c4, c5⟩
  exact ⟨key, key2, World.block_lt_of_cell? W _ (key2 0 (by decide)).1⟩
end Go.Proofs.YtbgmdikcbglpiaaGreatDoor
