/-
  Contracts of the page's call step: of a program whose instructions may be, at a state that may be, the state behind it is the one that the Lean function stepP tells. Conditions: the program lies in old memory; the state lies behind the pointer, and may be.
-/
import Derived.Test.YtpnmlednningkaaDoorPg2
import Derived.Deep.RegionHeld3
import Derived.Deep.RegionWith
import Derived.Deep.DeepCutAuto
namespace Go.Proofs.YtpnmlednningkaaDoor
open Go.RowKit

/-- All blocks of a state's type but its own are as they were. -/
def K27 (p : Nat) (w w' : World) : Prop := ∀ q cs, q ≠ p → w.heap[q]? = some (.cells cs 27 (0, 0)) → w'.heap[q]? = some (.cells cs 27 (0, 0))
def PStepPost (B p : Nat) (m' : M) (w : World) (e : Ending) (w' : World) : Prop := e = .returned (.tuple #[]) ∧ Goes B w p m' w' ∧ K27 p w w'
theorem K27.refl (p : Nat) (w : World) : K27 p w w := fun _ _ _ h => h
theorem K27.trans {p : Nat} {w w1 w2 : World} (h1 : K27 p w w1) (h2 : K27 p w1 w2) : K27 p w w2 := fun q cs hq h => h2 q cs hq (h1 q cs hq h)
theorem K27.below {p : Nat} {w w' : World} (h : Below w.heap.size w w') : K27 p w w' := fun q _ _ hq => (h.block q (lt_of_heap hq)).trans hq
theorem K27.alloc (p : Nat) (w : World) (o : Obj) : K27 p w (w.alloc o) := K27.below (below_new w o)
theorem row_ne27 {B e n : Nat} {w : World} {a : Option Addr} {k c : Nat} {xs : List Value} {g : Nat} {cs : Array Value} (h : w.ownsRow B e 1 (.slice a k c) n xs) (d : w.heap[g]? = some (.cells cs 27 (0, 0))) (he : e ≠ 27) : ob a ≠ some g := by
  rcases h.2 with ⟨h', _⟩ | ⟨g', cap', cur, h', _, hg, _⟩
  · simp only [Value.slice.injEq] at h'; obtain ⟨rfl, _⟩ := h'; simp [ob]
  · simp only [Value.slice.injEq] at h'
    obtain ⟨rfl, _⟩ := h'
    intro e2
    simp only [ob, Option.map_some, Option.some.injEq] at e2
    subst e2
    rw [d] at hg
    simp only [Option.some.injEq, Obj.cells.injEq] at hg
    exact he hg.2.1.symm
theorem K27.far {B p : Nat} {w w' : World} {m : M} {V : Vs} (f : Far p V w w') (S : SA B w p m V) : K27 p w w' := fun q cs hq h =>
  (f.2 q (lt_of_heap h) hq (fun e => row_ne27 S.hm h (by decide) (by rw [e]; rfl)) (row_ne27 S.ho h (by decide)) (row_ne27 S.hs h (by decide))).trans h
theorem K27.setP (p : Nat) (w : World) (j : Nat) (u : Value) : K27 p w (w.setCell ⟨p, j, none⟩ u) := fun q _ hq h => (heap_setCell_other w ⟨p, j, none⟩ q u hq).trans h
theorem K27.setR {B p : Nat} {w : World} {m : M} {V : Vs} (S : SA B w p m V) (j : Nat) (u : Value) : K27 p w (w.setCell ⟨V.gr, j, none⟩ u) := fun q _ _ h => (heap_setCell_other w ⟨V.gr, j, none⟩ q u (fun e => row_ne27 S.hr h (by decide) (by simp only at e; rw [e]; rfl))).trans h
theorem K27.set5 {p g : Nat} {w0 w : World} (h : K27 p w0 w) (hg : w0.heap.size ≤ g) (a b c d e : Value) : K27 p w0 (((((w.setCell ⟨g, 0, none⟩ a).setCell ⟨g, 1, none⟩ b).setCell ⟨g, 2, none⟩ c).setCell ⟨g, 3, none⟩ d).setCell ⟨g, 4, none⟩ e) := fun q cs hq hb => by
  have hl := lt_of_heap hb
  have k : ∀ (Y : World) (i : Nat) (u : Value), (Y.setCell ⟨g, i, none⟩ u).heap[q]? = Y.heap[q]? := fun Y i u => heap_setCell_other Y ⟨g, i, none⟩ q u (by simp only; omega)
  exact (k _ _ _).trans ((k _ _ _).trans ((k _ _ _).trans ((k _ _ _).trans ((k _ _ _).trans (h q cs hq hb)))))
set_option maxRecDepth 20000 in
set_option maxHeartbeats 2000000 in
theorem pstep_end (B p : Nat) (A : Option Addr) (n c : Nat) (m : M) (V : Vs) (w : World) (h : SA B w p m V) (hpc : n ≤ m.pc) : Calls Tryd.prog 48 #[.slice A n c, .pointer (some ⟨p, 0, none⟩)] w (PStepPost B p (stop m 5) w) := by
  have dpc : decide ((n : Int) ≤ (m.pc : Int)) = true := by simp; omega
  have c5 : w.cell? ⟨p, 5, none⟩ = some (.int .i64 m.pc) := h.cell 5
  have H := Lib.hid h
  have c7 : w.cell? ⟨p, 7, none⟩ = some (.int .i64 m.stop) := h.cell 7
  have f7 := h.frozen 7
  have hpw := h.lt
  clear h
  go_enter Tryd.func48, Tryd.ntmps48
  go_wp2
  go_end0
  exact ⟨rfl, ⟨fin_stop H.out 5, fin_b1 (Below.refl _ _) H.out.hp _⟩, K27.setP p _ _ _⟩
abbrev SPc (z p : Nat) (V : Vs) (x : In5) (m : M) (X : World) : Prop := X.cell? ⟨z, 0, none⟩ = some (.int .i64 x.o) ∧ X.cell? ⟨z, 1, none⟩ = some (.int .i64 x.d) ∧ X.cell? ⟨z, 2, none⟩ = some (.int .i64 x.a) ∧ X.cell? ⟨z, 3, none⟩ = some (.int .i64 x.b) ∧ X.cell? ⟨z, 4, none⟩ = some (.int .i64 x.m) ∧ X.cell? ⟨z, 5, none⟩ = some (.string ByteArray.empty) ∧ X.cell? ⟨p, 0, none⟩ = some (.slice (some ⟨V.gr, 0, none⟩) 16 V.cr) ∧ X.cell? ⟨p, 5, none⟩ = some (.int .i64 m.pc) ∧ X.cell? ⟨V.gr, x.a, none⟩ = some (.int .u32 (m.reg x.a)) ∧ X.cell? ⟨V.gr, x.b, none⟩ = some (.int .u32 (m.reg x.b))
theorem spc_same {z p : Nat} {V : Vs} {x : In5} {m : M} {X Y : World} (h : SPc z p V x m X) (hz : ∀ j, Y.cell? ⟨z, j, none⟩ = X.cell? ⟨z, j, none⟩) (hp : ∀ j, Y.cell? ⟨p, j, none⟩ = X.cell? ⟨p, j, none⟩) (hg : ∀ j, Y.cell? ⟨V.gr, j, none⟩ = X.cell? ⟨V.gr, j, none⟩) : SPc z p V x m Y := by
  obtain ⟨h0, h1, h2, h3, h4, h5, h6, h7, h8, h9⟩ := h
  exact ⟨(hz _).trans h0, (hz _).trans h1, (hz _).trans h2, (hz _).trans h3, (hz _).trans h4, (hz _).trans h5, (hp _).trans h6, (hp _).trans h7, (hg _).trans h8, (hg _).trans h9⟩
theorem spc_allocD {z p : Nat} {V : Vs} {x : In5} {m : M} {X : World} (h : SPc z p V x m X.drew) (o : Obj) (hz : z < X.heap.size) (hp : p < X.heap.size) (hg : V.gr < X.heap.size) : SPc z p V x m (X.alloc o).drew :=
  spc_same h (fun j => World.cell?_alloc_lt X o ⟨z, j, none⟩ hz) (fun j => World.cell?_alloc_lt X o ⟨p, j, none⟩ hp) (fun j => World.cell?_alloc_lt X o ⟨V.gr, j, none⟩ hg)
theorem spc_alloc {z p : Nat} {V : Vs} {x : In5} {m : M} {X : World} (h : SPc z p V x m X) (o : Obj) (hz : z < X.heap.size) (hp : p < X.heap.size) (hg : V.gr < X.heap.size) : SPc z p V x m (X.alloc o) :=
  spc_same h (fun j => World.cell?_alloc_lt X o ⟨z, j, none⟩ hz) (fun j => World.cell?_alloc_lt X o ⟨p, j, none⟩ hp) (fun j => World.cell?_alloc_lt X o ⟨V.gr, j, none⟩ hg)
theorem spc_set5 {z p g : Nat} {V : Vs} {x : In5} {m : M} {X : World} (h : SPc z p V x m X) (hz : g ≠ z) (hp : g ≠ p) (hg : g ≠ V.gr) (a b c d e : Value) : SPc z p V x m (((((X.setCell ⟨g, 0, none⟩ a).setCell ⟨g, 1, none⟩ b).setCell ⟨g, 2, none⟩ c).setCell ⟨g, 3, none⟩ d).setCell ⟨g, 4, none⟩ e) := by
  have k : ∀ (q : Nat), g ≠ q → ∀ j (Y : World) (i : Nat) (u : Value), (Y.setCell ⟨g, i, none⟩ u).cell? ⟨q, j, none⟩ = Y.cell? ⟨q, j, none⟩ := fun q hq j Y i u => World.cell?_setCell_other Y ⟨g, i, none⟩ ⟨q, j, none⟩ u (fun e => hq (by cases e; rfl))
  exact spc_same h (fun j => by rw [k z hz, k z hz, k z hz, k z hz, k z hz]) (fun j => by rw [k p hp, k p hp, k p hp, k p hp, k p hp]) (fun j => by rw [k _ hg, k _ hg, k _ hg, k _ hg, k _ hg])
/-- A block that is this deed. -/
def DB (w : World) (g : Nat) (has : Bool) (v : Int) (j : Bool) (tt st : Int) : Prop := w.heap[g]? = some (.cells #[.bool has, .int .u32 v, .bool j, .int .i64 tt, .int .i64 st] 79 (0, 0))
/-- Behind the call of do. -/
def PCut (B p z : Nat) (x : In5) (has : Bool) (v : Int) (j : Bool) (tt st : Int) (m' : M) (w : World) (s5 : Value) (wx : World) : Prop :=
  ∃ g V', s5 = .pointer (some ⟨g, 0, none⟩) ∧ DB wx g has v j tt st ∧ SA B wx p m' V' ∧ Fr g p V' ∧ Bx wx z x ∧ Below B w wx ∧ K27 p w wx
section
variable {B p g z : Nat} {w W X W2 : World} {m m' : M} {V V2 : Vs} {x : In5} {has j : Bool} {v tt st : Int}
theorem Far.dd (f : Far p V X W2) (d : Dd X g) (fr : Fr g p V) : Dd W2 g := by
  have hl := d.lt
  obtain ⟨a, b, c, d', e, hb⟩ := d
  exact ⟨a, b, c, d', e, (f.2 g hl fr.p fr.m fr.o fr.s).trans hb⟩
theorem Far.bx (f : Far p V X W2) (d : Bx X z x) (fr : Fr z p V) : Bx W2 z x := by
  have hl := d.lt
  obtain ⟨T, hb⟩ := d.blk
  exact ⟨T, (f.2 z hl fr.p fr.m fr.o fr.s).trans hb⟩
theorem Dd.new (W : World) (a b c d e : Value) : Dd (W.alloc (.cells #[a, b, c, d, e] 79)).drew W.heap.size := ⟨a, b, c, d, e, heap_alloc_new W _⟩
theorem db_set (h : Dd W2 g) : DB (((((W2.setCell ⟨g, 0, none⟩ (.bool has)).setCell ⟨g, 1, none⟩ (.int .u32 v)).setCell ⟨g, 2, none⟩ (.bool j)).setCell ⟨g, 3, none⟩ (.int .i64 tt)).setCell ⟨g, 4, none⟩ (.int .i64 st)) g has v j tt st := by
  obtain ⟨a, b, c, d, e, hb⟩ := h
  exact heap_setCell_same _ g 4 _ 79 _ (heap_setCell_same _ g 3 _ 79 _ (heap_setCell_same _ g 2 _ 79 _ (heap_setCell_same _ g 1 _ 79 _ (heap_setCell_same _ g 0 _ 79 _ hb))))
theorem Bx.set5 (h : Bx W2 z x) (hz : g ≠ z) (a b c d e : Value) : Bx (((((W2.setCell ⟨g, 0, none⟩ a).setCell ⟨g, 1, none⟩ b).setCell ⟨g, 2, none⟩ c).setCell ⟨g, 3, none⟩ d).setCell ⟨g, 4, none⟩ e) z x := by
  obtain ⟨T, hb⟩ := h.blk
  have k : ∀ (Y : World) (i : Nat) (u : Value), (Y.setCell ⟨g, i, none⟩ u).heap[z]? = Y.heap[z]? := fun Y i u => heap_setCell_other Y ⟨g, i, none⟩ z u (fun e => hz e.symm)
  exact ⟨T, (k _ _ _).trans ((k _ _ _).trans ((k _ _ _).trans ((k _ _ _).trans ((k _ _ _).trans hb))))⟩
theorem row_ne {B e n : Nat} {a : Option Addr} {k c : Nat} {xs : List Value} (h : W2.ownsRow B e 1 (.slice a k c) n xs) (d : Dd W2 g) (he : e ≠ 79) : ob a ≠ some g := by
  obtain ⟨_, _, _, _, _, hb⟩ := d
  rcases h.2 with ⟨h', _⟩ | ⟨g', cap', cur, h', _, hg, _⟩
  · simp only [Value.slice.injEq] at h'; obtain ⟨rfl, _⟩ := h'; simp [ob]
  · simp only [Value.slice.injEq] at h'
    obtain ⟨rfl, _⟩ := h'
    intro e2
    simp only [ob, Option.map_some, Option.some.injEq] at e2
    subst e2
    rw [hb] at hg
    simp only [Option.some.injEq, Obj.cells.injEq] at hg
    exact he hg.2.1.symm
theorem Dd.fr (d : Dd W2 g) (S : SA B W2 p m' V2) (hp : g ≠ p) : Fr g p V2 :=
  ⟨hp, fun e => row_ne S.hr d (by decide) (by rw [e]; rfl), fun e => row_ne S.hm d (by decide) (by rw [e]; rfl), row_ne S.hi d (by decide), row_ne S.ho d (by decide), row_ne S.hs d (by decide)⟩
/-- The call first, then the deed's block. -/
theorem pcut1 (S2 : SA B W2 p m' V2) (hx : Bx W2 z x) (hb : Below B w W2) (hk : K27 p w W2) : PCut B p z x has v j tt st m' w (.pointer (some ⟨W2.heap.size, 0, none⟩)) (W2.alloc (.cells #[.bool has, .int .u32 v, .bool j, .int .i64 tt, .int .i64 st] 79)) :=
  ⟨_, V2, rfl, heap_alloc_new W2 _, S2.alloc _, S2.fresh (Nat.le_refl _), hx.below (below_new _ _), hb.alloc S2.B_le _, hk.trans (K27.alloc _ _ _)⟩
/-- The block first. -/
theorem pcut2 (S2 : SA B W2 p m' V2) (hx : Bx W2 z x) (hb : Below B w W2) (dd : Dd W2 g) (hg : B ≤ g) (fr : Fr g p V2) (hz : g ≠ z) (hk : K27 p w W2) (hw : w.heap.size ≤ g) : PCut B p z x has v j tt st m' w (.pointer (some ⟨g, 0, none⟩)) (((((W2.setCell ⟨g, 0, none⟩ (.bool has)).setCell ⟨g, 1, none⟩ (.int .u32 v)).setCell ⟨g, 2, none⟩ (.bool j)).setCell ⟨g, 3, none⟩ (.int .i64 tt)).setCell ⟨g, 4, none⟩ (.int .i64 st)) :=
  ⟨g, V2, rfl, db_set dd, S2.set5 fr _ _ _ _ _, fr, hx.set5 hz _ _ _ _ _, bel_set5 hb hg _ _ _ _ _, hk.set5 hw _ _ _ _ _⟩
theorem SA.cp0 (S2 : SA B W2 p m' V2) (h1 : V2.gr = V.gr) (h2 : V2.cr = V.cr) : W2.cell? ⟨p, 0, none⟩ = some (.slice (some ⟨V.gr, 0, none⟩) 16 V.cr) := by rw [← h1, ← h2]; exact S2.cell 0
theorem SA.cp5 (S2 : SA B W2 p m' V2) (h1 : m'.pc = m.pc) : W2.cell? ⟨p, 5, none⟩ = some (.int .i64 m.pc) := by rw [← h1]; exact S2.cell 5
theorem SA.cr (S2 : SA B W2 p m' V2) (h1 : V2.gr = V.gr) (h2 : m'.R = m.R) (k : Ok m) {i : Nat} (hi : i < 16) : W2.cell? ⟨V.gr, i, none⟩ = some (.int .u32 (m.reg i)) := by
  have h := (S2.hr.cellAt i (by omega)).trans (map_at (l := m'.R) (by rw [h2, k.R]; exact hi))
  rw [h1, h2] at h
  exact h
theorem fin_pc (h : SA B W p m V) {y : Int} {n : Nat} (e : y = (n : Int)) : ∃ V, SA B (W.setCell ⟨p, 5, none⟩ (.int .i64 y)) p (goto m n) V := by
  subst e
  exact ⟨V, h.setPC n⟩
end
set_option maxRecDepth 20000 in
set_option maxHeartbeats 2000000 in
theorem pstep_stop (B p : Nat) (ad : Addr) (n c : Nat) (x : In5) (m : M) (V : Vs) (w : World) (hx : InAt w ad m.pc x) (hbl : ad.block < B) (h : SA B w p m V) (k : Ok m) (hpc : m.pc < n) (hn : n ≤ 1024) (ha : x.a < 16) (hb : x.b < 16) (kk : Int) (hkk : (kk != 0) = true) (m' : M) (hP : m'.pc = m.pc) (hR : m'.R = m.R) (C : ∀ W, SA B W p m V → Calls Tryd.prog 62 #[.pointer (some ⟨p, 0, none⟩), .agg x.cells, .int .u32 (m.reg x.a), .int .u32 (m.reg x.b), .int .i64 ((m.pc : Int) + 1)] W (DoPost B p V false 0 false 0 kk m' W)) : Calls Tryd.prog 48 #[.slice (some ad) n c, .pointer (some ⟨p, 0, none⟩)] w (PStepPost B p (stop m' kk) w) := by
  obtain ⟨k0, k1, k2, k3, k4, k5⟩ := hx.k
  simp only [In5.cells] at C
  have CC := Lib.hid C
  have HP := Lib.hid hP
  have HR := Lib.hid hR
  have dpc : decide ((n : Int) ≤ (m.pc : Int)) = false := by simp; omega
  have p0 : (0 : Int) ≤ (m.pc : Int) := by omega
  have p1 : (m.pc : Int) < (n : Int) := by omega
  have c5 : w.cell? ⟨p, 5, none⟩ = some (.int .i64 m.pc) := h.cell 5
  have hpw := h.lt
  have hadw : (ad.add (m.pc * 6)).block < w.heap.size := by rw [block_add]; have := h.B_le; omega
  clear hx C hP hR
  go_enter Tryd.func48, Tryd.ntmps48
  go_wp2_with fail
  generalize hW : w.alloc (.cells #[.int .i64 x.o, .int .i64 x.d, .int .i64 x.a, .int .i64 x.b, .int .i64 x.m, .string ByteArray.empty] 54) = W
  have BX := Lib.hid (show Bx W w.heap.size x by rw [← hW]; exact bx_new w x)
  have SW := Lib.hid (show SA B W p m V by rw [← hW]; exact h.alloc _)
  have KW := Lib.hid (show K27 p w W by rw [← hW]; exact K27.alloc p w _)
  have HB := Lib.hid (show Below B w W by rw [← hW]; exact (below_new w _).mono h.B_le)
  have hzz : w.heap.size < W.heap.size := BX.out.lt
  have hpl : p < W.heap.size := SW.out.lt
  have hpz : p ≠ w.heap.size := Nat.ne_of_lt h.lt
  have hrz : V.gr ≠ w.heap.size := Nat.ne_of_lt h.gr_lt.2
  clear hW k0 k1 k2 k3 k4 k5 c5 hpw hadw p0 p1 dpc
  have q0 : W.cell? ⟨w.heap.size, 0, none⟩ = some (.int .i64 x.o) := BX.out.c 0
  have q1 : W.cell? ⟨w.heap.size, 1, none⟩ = some (.int .i64 x.d) := BX.out.c 1
  have q2 : W.cell? ⟨w.heap.size, 2, none⟩ = some (.int .i64 x.a) := BX.out.c 2
  have q3 : W.cell? ⟨w.heap.size, 3, none⟩ = some (.int .i64 x.b) := BX.out.c 3
  have q4 : W.cell? ⟨w.heap.size, 4, none⟩ = some (.int .i64 x.m) := BX.out.c 4
  have q5 : W.cell? ⟨w.heap.size, 5, none⟩ = some (.string ByteArray.empty) := BX.out.c 5
  have d0 : W.cell? ⟨p, 0, none⟩ = some (.slice (some ⟨V.gr, 0, none⟩) 16 V.cr) := SW.out.cell 0
  have d5 : W.cell? ⟨p, 5, none⟩ = some (.int .i64 m.pc) := SW.out.cell 5
  have i0 : (0 : Int) ≤ (x.a : Int) := by omega
  have i1 : (x.a : Int) < 16 := by omega
  have i2 : (0 : Int) ≤ (x.b : Int) := by omega
  have i3 : (x.b : Int) < 16 := by omega
  have ra := SW.out.reg k ha
  have rb := SW.out.reg k hb
  have FZ := Lib.hid (show Fr w.heap.size p V from h.fresh (Nat.le_refl _))
  have e2 : IntKind.i64.wrap ((m.pc : Int) + 1) = (m.pc : Int) + 1 := by rw [wrap_i64 _ (by omega) (by omega)]
  have hgl : V.gr < W.heap.size := SW.out.gr_lt.2
  have FG := Lib.hid (show Fr W.heap.size p V from SW.out.fresh (Nat.le_refl _))
  have KD := Lib.hid (show SPc w.heap.size p V x m W.drew from ⟨q0, q1, q2, q3, q4, q5, d0, d5, ra, rb⟩)
  have gz : W.heap.size ≠ w.heap.size := by omega
  have gp : W.heap.size ≠ p := FG.out.p
  have gg : W.heap.size ≠ V.gr := FG.out.r
  clear q0 q1 q2 q3 q4 q5 d0 d5 ra rb
  go_upto_region 3 with fail
  go_cut [5] (fun s5 wx => PCut B p w.heap.size x false 0 false 0 kk m' w s5 wx)
  case first =>
    go_region_held3 (fun w' => w'.cell? ⟨w.heap.size, 0, none⟩ = some (.int .i64 x.o) ∧ w'.cell? ⟨w.heap.size, 1, none⟩ = some (.int .i64 x.d) ∧ w'.cell? ⟨w.heap.size, 2, none⟩ = some (.int .i64 x.a) ∧ w'.cell? ⟨w.heap.size, 3, none⟩ = some (.int .i64 x.b) ∧ w'.cell? ⟨w.heap.size, 4, none⟩ = some (.int .i64 x.m) ∧ w'.cell? ⟨w.heap.size, 5, none⟩ = some (.string ByteArray.empty) ∧ w'.cell? ⟨p, 0, none⟩ = some (.slice (some ⟨V.gr, 0, none⟩) 16 V.cr) ∧ w'.cell? ⟨p, 5, none⟩ = some (.int .i64 m.pc) ∧ w'.cell? ⟨V.gr, x.a, none⟩ = some (.int .u32 (m.reg x.a)) ∧ w'.cell? ⟨V.gr, x.b, none⟩ = some (.int .u32 (m.reg x.b))) (first | with_reducible exact KD.out | with_reducible exact spc_allocD KD.out _ hzz hpl hgl | with_reducible exact K2.out | with_reducible exact spc_alloc K2.out _ l2z l2p l2g | with_reducible exact spc_set5 K2.out gz gp gg _ _ _ _ _) (first | (go_at_call 62; (with_reducible refine (CC.out W.drew SW.out.drew).mono ?_); rintro e W2 ⟨rfl, ⟨V2, S2, hgr, hcr⟩, hb2, far2⟩; have XB := Lib.hid (far2.bx (z := w.heap.size) (x := x) BX.out.drew FZ.out); have xq0 : W2.cell? ⟨w.heap.size, 0, none⟩ = some (.int .i64 x.o) := XB.out.c 0; have xq1 : W2.cell? ⟨w.heap.size, 1, none⟩ = some (.int .i64 x.d) := XB.out.c 1; have xq2 : W2.cell? ⟨w.heap.size, 2, none⟩ = some (.int .i64 x.a) := XB.out.c 2; have xq3 : W2.cell? ⟨w.heap.size, 3, none⟩ = some (.int .i64 x.b) := XB.out.c 3; have xq4 : W2.cell? ⟨w.heap.size, 4, none⟩ = some (.int .i64 x.m) := XB.out.c 4; have xq5 : W2.cell? ⟨w.heap.size, 5, none⟩ = some (.string ByteArray.empty) := XB.out.c 5; have cp0 : W2.cell? ⟨p, 0, none⟩ = some (.slice (some ⟨V.gr, 0, none⟩) 16 V.cr) := S2.cp0 hgr hcr; have cp5 : W2.cell? ⟨p, 5, none⟩ = some (.int .i64 m.pc) := S2.cp5 HP.out; have cra : W2.cell? ⟨V.gr, x.a, none⟩ = some (.int .u32 (m.reg x.a)) := S2.cr hgr HR.out k ha; have crb : W2.cell? ⟨V.gr, x.b, none⟩ = some (.int .u32 (m.reg x.b)) := S2.cr hgr HR.out k hb; have K2 := Lib.hid (show SPc w.heap.size p V x m W2 from ⟨xq0, xq1, xq2, xq3, xq4, xq5, cp0, cp5, cra, crb⟩); have l2z := XB.out.lt; have l2p := S2.lt; have l2g : V.gr < W2.heap.size := hgr ▸ S2.gr_lt.2; have SS := Lib.hid S2; have GR := Lib.hid hgr; clear xq0 xq1 xq2 xq3 xq4 xq5 cp0 cp5 cra crb; have BB := Lib.hid (HB.out.drew.trans hb2); have KQ := Lib.hid (K27.trans KW.out (K27.far (w := W.drew) far2 SW.out.drew)); have DZ := Lib.hid True.intro; have SZ := Lib.hid far2.1; clear S2 hb2 far2 hgr hcr) | (go_at_call 62; (with_reducible refine (CC.out (W.alloc _).drew (SW.out.alloc _).drew).mono ?_); rintro e W2 ⟨rfl, ⟨V2, S2, hgr, hcr⟩, hb2, far2⟩; have XB := Lib.hid (far2.bx (z := w.heap.size) (x := x) (BX.out.below (below_new _ _)).drew FZ.out); have xq0 : W2.cell? ⟨w.heap.size, 0, none⟩ = some (.int .i64 x.o) := XB.out.c 0; have xq1 : W2.cell? ⟨w.heap.size, 1, none⟩ = some (.int .i64 x.d) := XB.out.c 1; have xq2 : W2.cell? ⟨w.heap.size, 2, none⟩ = some (.int .i64 x.a) := XB.out.c 2; have xq3 : W2.cell? ⟨w.heap.size, 3, none⟩ = some (.int .i64 x.b) := XB.out.c 3; have xq4 : W2.cell? ⟨w.heap.size, 4, none⟩ = some (.int .i64 x.m) := XB.out.c 4; have xq5 : W2.cell? ⟨w.heap.size, 5, none⟩ = some (.string ByteArray.empty) := XB.out.c 5; have cp0 : W2.cell? ⟨p, 0, none⟩ = some (.slice (some ⟨V.gr, 0, none⟩) 16 V.cr) := S2.cp0 hgr hcr; have cp5 : W2.cell? ⟨p, 5, none⟩ = some (.int .i64 m.pc) := S2.cp5 HP.out; have cra : W2.cell? ⟨V.gr, x.a, none⟩ = some (.int .u32 (m.reg x.a)) := S2.cr hgr HR.out k ha; have crb : W2.cell? ⟨V.gr, x.b, none⟩ = some (.int .u32 (m.reg x.b)) := S2.cr hgr HR.out k hb; have K2 := Lib.hid (show SPc w.heap.size p V x m W2 from ⟨xq0, xq1, xq2, xq3, xq4, xq5, cp0, cp5, cra, crb⟩); have l2z := XB.out.lt; have l2p := S2.lt; have l2g : V.gr < W2.heap.size := hgr ▸ S2.gr_lt.2; have SS := Lib.hid S2; have GR := Lib.hid hgr; clear xq0 xq1 xq2 xq3 xq4 xq5 cp0 cp5 cra crb; have BB := Lib.hid ((HB.out.alloc SW.out.B_le _).drew.trans hb2); have KQ := Lib.hid (K27.trans (K27.trans KW.out (K27.alloc p W _)) (K27.far (w := (W.alloc _).drew) far2 (SW.out.alloc _).drew)); have DZ := Lib.hid (far2.dd (Dd.new W _ _ _ _ _) FG.out); have dl := DZ.out.lt; obtain ⟨⟨v0, y0⟩, ⟨v1, y1⟩, ⟨v2, y2⟩, ⟨v3, y3⟩, ⟨v4, y4⟩⟩ := DZ.out.c; have z0 := DZ.out.f 0; have z1 := DZ.out.f 1; have z2 := DZ.out.f 2; have z3 := DZ.out.f 3; have z4 := DZ.out.f 4; have SZ := Lib.hid far2.1; clear S2 hb2 far2 hgr hcr))
    all_goals go_wp2_with fail
    · go_meet
      case rel => exact pcut1 SS.out XB.out BB.out KQ.out
    · go_meet
      case rel => exact pcut2 SS.out XB.out BB.out DZ.out SW.out.B_le (DZ.out.fr SS.out gp) gz KQ.out (by omega)
  case rest =>
  obtain ⟨g, V3, rfl, db, S3, fr, bx3, hb3, hk3⟩ := hcut
  have K4 := Lib.hid hk3
  have S4 := Lib.hid S3
  have B4 := Lib.hid hb3
  have g0 : wc.cell? ⟨g, 0, none⟩ = some (.bool false) := cell_of_row wc g 0 _ _ _ db
  have g1 : wc.cell? ⟨g, 1, none⟩ = some (.int .u32 0) := cell_of_row wc g 1 _ _ _ db
  have g2 : wc.cell? ⟨g, 2, none⟩ = some (.bool false) := cell_of_row wc g 2 _ _ _ db
  have g3 : wc.cell? ⟨g, 3, none⟩ = some (.int .i64 0) := cell_of_row wc g 3 _ _ _ db
  have g4 : wc.cell? ⟨g, 4, none⟩ = some (.int .i64 kk) := cell_of_row wc g 4 _ _ _ db
  have gl := lt_of_heap db
  have pl := S3.lt
  have gp3 := fr.p
  have gr3 := fr.r
  have gr4 : V3.gr ≠ g := fun e => fr.r e.symm
  have f7 := S3.frozen 7
  have f5 := S3.frozen 5
  have e7 : wc.cell? ⟨p, 7, none⟩ = some (.int .i64 m'.stop) := S3.cell 7
  have e5 : wc.cell? ⟨p, 5, none⟩ = some (.int .i64 m'.pc) := S3.cell 5
  clear db fr hb3 hk3 KD CC SW BX HB FG FZ
  clear S3 bx3
  go_wp2
  go_end0
  exact ⟨rfl, ⟨fin_stop S4.out _, fin_b1 B4.out S4.out.hp _⟩, K4.out.trans (K27.setP p _ _ _)⟩
set_option maxRecDepth 20000 in
set_option maxHeartbeats 2000000 in
theorem pstep_next (B p : Nat) (ad : Addr) (n c : Nat) (x : In5) (m : M) (V : Vs) (w : World) (hx : InAt w ad m.pc x) (hbl : ad.block < B) (h : SA B w p m V) (k : Ok m) (hpc : m.pc < n) (hn : n ≤ 1024) (ha : x.a < 16) (hb : x.b < 16) (tt : Int) (m' : M) (hP : m'.pc = m.pc) (hR : m'.R = m.R) (C : ∀ W, SA B W p m V → Calls Tryd.prog 62 #[.pointer (some ⟨p, 0, none⟩), .agg x.cells, .int .u32 (m.reg x.a), .int .u32 (m.reg x.b), .int .i64 ((m.pc : Int) + 1)] W (DoPost B p V false 0 false tt 0 m' W)) : Calls Tryd.prog 48 #[.slice (some ad) n c, .pointer (some ⟨p, 0, none⟩)] w (PStepPost B p (goto m' (m.pc + 1)) w) := by
  obtain ⟨k0, k1, k2, k3, k4, k5⟩ := hx.k
  simp only [In5.cells] at C
  have CC := Lib.hid C
  have HP := Lib.hid hP
  have HR := Lib.hid hR
  have dpc : decide ((n : Int) ≤ (m.pc : Int)) = false := by simp; omega
  have p0 : (0 : Int) ≤ (m.pc : Int) := by omega
  have p1 : (m.pc : Int) < (n : Int) := by omega
  have c5 : w.cell? ⟨p, 5, none⟩ = some (.int .i64 m.pc) := h.cell 5
  have hpw := h.lt
  have hadw : (ad.add (m.pc * 6)).block < w.heap.size := by rw [block_add]; have := h.B_le; omega
  clear hx C hP hR
  go_enter Tryd.func48, Tryd.ntmps48
  go_wp2_with fail
  generalize hW : w.alloc (.cells #[.int .i64 x.o, .int .i64 x.d, .int .i64 x.a, .int .i64 x.b, .int .i64 x.m, .string ByteArray.empty] 54) = W
  have BX := Lib.hid (show Bx W w.heap.size x by rw [← hW]; exact bx_new w x)
  have SW := Lib.hid (show SA B W p m V by rw [← hW]; exact h.alloc _)
  have KW := Lib.hid (show K27 p w W by rw [← hW]; exact K27.alloc p w _)
  have HB := Lib.hid (show Below B w W by rw [← hW]; exact (below_new w _).mono h.B_le)
  have hzz : w.heap.size < W.heap.size := BX.out.lt
  have hpl : p < W.heap.size := SW.out.lt
  have hpz : p ≠ w.heap.size := Nat.ne_of_lt h.lt
  have hrz : V.gr ≠ w.heap.size := Nat.ne_of_lt h.gr_lt.2
  clear hW k0 k1 k2 k3 k4 k5 c5 hpw hadw p0 p1 dpc
  have q0 : W.cell? ⟨w.heap.size, 0, none⟩ = some (.int .i64 x.o) := BX.out.c 0
  have q1 : W.cell? ⟨w.heap.size, 1, none⟩ = some (.int .i64 x.d) := BX.out.c 1
  have q2 : W.cell? ⟨w.heap.size, 2, none⟩ = some (.int .i64 x.a) := BX.out.c 2
  have q3 : W.cell? ⟨w.heap.size, 3, none⟩ = some (.int .i64 x.b) := BX.out.c 3
  have q4 : W.cell? ⟨w.heap.size, 4, none⟩ = some (.int .i64 x.m) := BX.out.c 4
  have q5 : W.cell? ⟨w.heap.size, 5, none⟩ = some (.string ByteArray.empty) := BX.out.c 5
  have d0 : W.cell? ⟨p, 0, none⟩ = some (.slice (some ⟨V.gr, 0, none⟩) 16 V.cr) := SW.out.cell 0
  have d5 : W.cell? ⟨p, 5, none⟩ = some (.int .i64 m.pc) := SW.out.cell 5
  have i0 : (0 : Int) ≤ (x.a : Int) := by omega
  have i1 : (x.a : Int) < 16 := by omega
  have i2 : (0 : Int) ≤ (x.b : Int) := by omega
  have i3 : (x.b : Int) < 16 := by omega
  have ra := SW.out.reg k ha
  have rb := SW.out.reg k hb
  have FZ := Lib.hid (show Fr w.heap.size p V from h.fresh (Nat.le_refl _))
  have e2 : IntKind.i64.wrap ((m.pc : Int) + 1) = (m.pc : Int) + 1 := by rw [wrap_i64 _ (by omega) (by omega)]
  have hgl : V.gr < W.heap.size := SW.out.gr_lt.2
  have FG := Lib.hid (show Fr W.heap.size p V from SW.out.fresh (Nat.le_refl _))
  have KD := Lib.hid (show SPc w.heap.size p V x m W.drew from ⟨q0, q1, q2, q3, q4, q5, d0, d5, ra, rb⟩)
  have gz : W.heap.size ≠ w.heap.size := by omega
  have gp : W.heap.size ≠ p := FG.out.p
  have gg : W.heap.size ≠ V.gr := FG.out.r
  clear q0 q1 q2 q3 q4 q5 d0 d5 ra rb
  go_upto_region 3 with fail
  go_cut [5] (fun s5 wx => PCut B p w.heap.size x false 0 false tt 0 m' w s5 wx)
  case first =>
    go_region_held3 (fun w' => w'.cell? ⟨w.heap.size, 0, none⟩ = some (.int .i64 x.o) ∧ w'.cell? ⟨w.heap.size, 1, none⟩ = some (.int .i64 x.d) ∧ w'.cell? ⟨w.heap.size, 2, none⟩ = some (.int .i64 x.a) ∧ w'.cell? ⟨w.heap.size, 3, none⟩ = some (.int .i64 x.b) ∧ w'.cell? ⟨w.heap.size, 4, none⟩ = some (.int .i64 x.m) ∧ w'.cell? ⟨w.heap.size, 5, none⟩ = some (.string ByteArray.empty) ∧ w'.cell? ⟨p, 0, none⟩ = some (.slice (some ⟨V.gr, 0, none⟩) 16 V.cr) ∧ w'.cell? ⟨p, 5, none⟩ = some (.int .i64 m.pc) ∧ w'.cell? ⟨V.gr, x.a, none⟩ = some (.int .u32 (m.reg x.a)) ∧ w'.cell? ⟨V.gr, x.b, none⟩ = some (.int .u32 (m.reg x.b))) (first | with_reducible exact KD.out | with_reducible exact spc_allocD KD.out _ hzz hpl hgl | with_reducible exact K2.out | with_reducible exact spc_alloc K2.out _ l2z l2p l2g | with_reducible exact spc_set5 K2.out gz gp gg _ _ _ _ _) (first | (go_at_call 62; (with_reducible refine (CC.out W.drew SW.out.drew).mono ?_); rintro e W2 ⟨rfl, ⟨V2, S2, hgr, hcr⟩, hb2, far2⟩; have XB := Lib.hid (far2.bx (z := w.heap.size) (x := x) BX.out.drew FZ.out); have xq0 : W2.cell? ⟨w.heap.size, 0, none⟩ = some (.int .i64 x.o) := XB.out.c 0; have xq1 : W2.cell? ⟨w.heap.size, 1, none⟩ = some (.int .i64 x.d) := XB.out.c 1; have xq2 : W2.cell? ⟨w.heap.size, 2, none⟩ = some (.int .i64 x.a) := XB.out.c 2; have xq3 : W2.cell? ⟨w.heap.size, 3, none⟩ = some (.int .i64 x.b) := XB.out.c 3; have xq4 : W2.cell? ⟨w.heap.size, 4, none⟩ = some (.int .i64 x.m) := XB.out.c 4; have xq5 : W2.cell? ⟨w.heap.size, 5, none⟩ = some (.string ByteArray.empty) := XB.out.c 5; have cp0 : W2.cell? ⟨p, 0, none⟩ = some (.slice (some ⟨V.gr, 0, none⟩) 16 V.cr) := S2.cp0 hgr hcr; have cp5 : W2.cell? ⟨p, 5, none⟩ = some (.int .i64 m.pc) := S2.cp5 HP.out; have cra : W2.cell? ⟨V.gr, x.a, none⟩ = some (.int .u32 (m.reg x.a)) := S2.cr hgr HR.out k ha; have crb : W2.cell? ⟨V.gr, x.b, none⟩ = some (.int .u32 (m.reg x.b)) := S2.cr hgr HR.out k hb; have K2 := Lib.hid (show SPc w.heap.size p V x m W2 from ⟨xq0, xq1, xq2, xq3, xq4, xq5, cp0, cp5, cra, crb⟩); have l2z := XB.out.lt; have l2p := S2.lt; have l2g : V.gr < W2.heap.size := hgr ▸ S2.gr_lt.2; have SS := Lib.hid S2; have GR := Lib.hid hgr; clear xq0 xq1 xq2 xq3 xq4 xq5 cp0 cp5 cra crb; have BB := Lib.hid (HB.out.drew.trans hb2); have KQ := Lib.hid (K27.trans KW.out (K27.far (w := W.drew) far2 SW.out.drew)); have DZ := Lib.hid True.intro; have SZ := Lib.hid far2.1; clear S2 hb2 far2 hgr hcr) | (go_at_call 62; (with_reducible refine (CC.out (W.alloc _).drew (SW.out.alloc _).drew).mono ?_); rintro e W2 ⟨rfl, ⟨V2, S2, hgr, hcr⟩, hb2, far2⟩; have XB := Lib.hid (far2.bx (z := w.heap.size) (x := x) (BX.out.below (below_new _ _)).drew FZ.out); have xq0 : W2.cell? ⟨w.heap.size, 0, none⟩ = some (.int .i64 x.o) := XB.out.c 0; have xq1 : W2.cell? ⟨w.heap.size, 1, none⟩ = some (.int .i64 x.d) := XB.out.c 1; have xq2 : W2.cell? ⟨w.heap.size, 2, none⟩ = some (.int .i64 x.a) := XB.out.c 2; have xq3 : W2.cell? ⟨w.heap.size, 3, none⟩ = some (.int .i64 x.b) := XB.out.c 3; have xq4 : W2.cell? ⟨w.heap.size, 4, none⟩ = some (.int .i64 x.m) := XB.out.c 4; have xq5 : W2.cell? ⟨w.heap.size, 5, none⟩ = some (.string ByteArray.empty) := XB.out.c 5; have cp0 : W2.cell? ⟨p, 0, none⟩ = some (.slice (some ⟨V.gr, 0, none⟩) 16 V.cr) := S2.cp0 hgr hcr; have cp5 : W2.cell? ⟨p, 5, none⟩ = some (.int .i64 m.pc) := S2.cp5 HP.out; have cra : W2.cell? ⟨V.gr, x.a, none⟩ = some (.int .u32 (m.reg x.a)) := S2.cr hgr HR.out k ha; have crb : W2.cell? ⟨V.gr, x.b, none⟩ = some (.int .u32 (m.reg x.b)) := S2.cr hgr HR.out k hb; have K2 := Lib.hid (show SPc w.heap.size p V x m W2 from ⟨xq0, xq1, xq2, xq3, xq4, xq5, cp0, cp5, cra, crb⟩); have l2z := XB.out.lt; have l2p := S2.lt; have l2g : V.gr < W2.heap.size := hgr ▸ S2.gr_lt.2; have SS := Lib.hid S2; have GR := Lib.hid hgr; clear xq0 xq1 xq2 xq3 xq4 xq5 cp0 cp5 cra crb; have BB := Lib.hid ((HB.out.alloc SW.out.B_le _).drew.trans hb2); have KQ := Lib.hid (K27.trans (K27.trans KW.out (K27.alloc p W _)) (K27.far (w := (W.alloc _).drew) far2 (SW.out.alloc _).drew)); have DZ := Lib.hid (far2.dd (Dd.new W _ _ _ _ _) FG.out); have dl := DZ.out.lt; obtain ⟨⟨v0, y0⟩, ⟨v1, y1⟩, ⟨v2, y2⟩, ⟨v3, y3⟩, ⟨v4, y4⟩⟩ := DZ.out.c; have z0 := DZ.out.f 0; have z1 := DZ.out.f 1; have z2 := DZ.out.f 2; have z3 := DZ.out.f 3; have z4 := DZ.out.f 4; have SZ := Lib.hid far2.1; clear S2 hb2 far2 hgr hcr))
    all_goals go_wp2_with fail
    · go_meet
      case rel => exact pcut1 SS.out XB.out BB.out KQ.out
    · go_meet
      case rel => exact pcut2 SS.out XB.out BB.out DZ.out SW.out.B_le (DZ.out.fr SS.out gp) gz KQ.out (by omega)
  case rest =>
  obtain ⟨g, V3, rfl, db, S3, fr, bx3, hb3, hk3⟩ := hcut
  have K4 := Lib.hid hk3
  have S4 := Lib.hid S3
  have B4 := Lib.hid hb3
  have g0 : wc.cell? ⟨g, 0, none⟩ = some (.bool false) := cell_of_row wc g 0 _ _ _ db
  have g1 : wc.cell? ⟨g, 1, none⟩ = some (.int .u32 0) := cell_of_row wc g 1 _ _ _ db
  have g2 : wc.cell? ⟨g, 2, none⟩ = some (.bool false) := cell_of_row wc g 2 _ _ _ db
  have g3 : wc.cell? ⟨g, 3, none⟩ = some (.int .i64 tt) := cell_of_row wc g 3 _ _ _ db
  have g4 : wc.cell? ⟨g, 4, none⟩ = some (.int .i64 0) := cell_of_row wc g 4 _ _ _ db
  have gl := lt_of_heap db
  have pl := S3.lt
  have gp3 := fr.p
  have gr3 := fr.r
  have gr4 : V3.gr ≠ g := fun e => fr.r e.symm
  have f7 := S3.frozen 7
  have f5 := S3.frozen 5
  have e7 : wc.cell? ⟨p, 7, none⟩ = some (.int .i64 m'.stop) := S3.cell 7
  have e5 : wc.cell? ⟨p, 5, none⟩ = some (.int .i64 m'.pc) := S3.cell 5
  clear db fr hb3 hk3 KD CC SW BX HB FG FZ
  have hpc3 : m'.pc ≤ 1024 := by have := HP.out; omega
  have EQ := Lib.hid (show (m'.pc : Int) + 1 = ((m.pc + 1 : Nat) : Int) by have := HP.out; omega)
  clear S3 bx3
  go_wp2
  go_end0
  exact ⟨rfl, ⟨fin_pc S4.out EQ.out, B4.out.setCell (p := ⟨p, 5, none⟩) (by exact S4.out.hp) _⟩, K4.out.trans (K27.setP p _ _ _)⟩
set_option maxRecDepth 20000 in
set_option maxHeartbeats 2000000 in
theorem pstep_jump (B p : Nat) (ad : Addr) (n c : Nat) (x : In5) (m : M) (V : Vs) (w : World) (hx : InAt w ad m.pc x) (hbl : ad.block < B) (h : SA B w p m V) (k : Ok m) (hpc : m.pc < n) (hn : n ≤ 1024) (ha : x.a < 16) (hb : x.b < 16) (nx : Nat) (m' : M) (hP : m'.pc = m.pc) (hR : m'.R = m.R) (C : ∀ W, SA B W p m V → Calls Tryd.prog 62 #[.pointer (some ⟨p, 0, none⟩), .agg x.cells, .int .u32 (m.reg x.a), .int .u32 (m.reg x.b), .int .i64 ((m.pc : Int) + 1)] W (DoPost B p V false 0 true nx 0 m' W)) : Calls Tryd.prog 48 #[.slice (some ad) n c, .pointer (some ⟨p, 0, none⟩)] w (PStepPost B p (goto m' nx) w) := by
  obtain ⟨k0, k1, k2, k3, k4, k5⟩ := hx.k
  simp only [In5.cells] at C
  have CC := Lib.hid C
  have HP := Lib.hid hP
  have HR := Lib.hid hR
  have dpc : decide ((n : Int) ≤ (m.pc : Int)) = false := by simp; omega
  have p0 : (0 : Int) ≤ (m.pc : Int) := by omega
  have p1 : (m.pc : Int) < (n : Int) := by omega
  have c5 : w.cell? ⟨p, 5, none⟩ = some (.int .i64 m.pc) := h.cell 5
  have hpw := h.lt
  have hadw : (ad.add (m.pc * 6)).block < w.heap.size := by rw [block_add]; have := h.B_le; omega
  clear hx C hP hR
  go_enter Tryd.func48, Tryd.ntmps48
  go_wp2_with fail
  generalize hW : w.alloc (.cells #[.int .i64 x.o, .int .i64 x.d, .int .i64 x.a, .int .i64 x.b, .int .i64 x.m, .string ByteArray.empty] 54) = W
  have BX := Lib.hid (show Bx W w.heap.size x by rw [← hW]; exact bx_new w x)
  have SW := Lib.hid (show SA B W p m V by rw [← hW]; exact h.alloc _)
  have KW := Lib.hid (show K27 p w W by rw [← hW]; exact K27.alloc p w _)
  have HB := Lib.hid (show Below B w W by rw [← hW]; exact (below_new w _).mono h.B_le)
  have hzz : w.heap.size < W.heap.size := BX.out.lt
  have hpl : p < W.heap.size := SW.out.lt
  have hpz : p ≠ w.heap.size := Nat.ne_of_lt h.lt
  have hrz : V.gr ≠ w.heap.size := Nat.ne_of_lt h.gr_lt.2
  clear hW k0 k1 k2 k3 k4 k5 c5 hpw hadw p0 p1 dpc
  have q0 : W.cell? ⟨w.heap.size, 0, none⟩ = some (.int .i64 x.o) := BX.out.c 0
  have q1 : W.cell? ⟨w.heap.size, 1, none⟩ = some (.int .i64 x.d) := BX.out.c 1
  have q2 : W.cell? ⟨w.heap.size, 2, none⟩ = some (.int .i64 x.a) := BX.out.c 2
  have q3 : W.cell? ⟨w.heap.size, 3, none⟩ = some (.int .i64 x.b) := BX.out.c 3
  have q4 : W.cell? ⟨w.heap.size, 4, none⟩ = some (.int .i64 x.m) := BX.out.c 4
  have q5 : W.cell? ⟨w.heap.size, 5, none⟩ = some (.string ByteArray.empty) := BX.out.c 5
  have d0 : W.cell? ⟨p, 0, none⟩ = some (.slice (some ⟨V.gr, 0, none⟩) 16 V.cr) := SW.out.cell 0
  have d5 : W.cell? ⟨p, 5, none⟩ = some (.int .i64 m.pc) := SW.out.cell 5
  have i0 : (0 : Int) ≤ (x.a : Int) := by omega
  have i1 : (x.a : Int) < 16 := by omega
  have i2 : (0 : Int) ≤ (x.b : Int) := by omega
  have i3 : (x.b : Int) < 16 := by omega
  have ra := SW.out.reg k ha
  have rb := SW.out.reg k hb
  have FZ := Lib.hid (show Fr w.heap.size p V from h.fresh (Nat.le_refl _))
  have e2 : IntKind.i64.wrap ((m.pc : Int) + 1) = (m.pc : Int) + 1 := by rw [wrap_i64 _ (by omega) (by omega)]
  have hgl : V.gr < W.heap.size := SW.out.gr_lt.2
  have FG := Lib.hid (show Fr W.heap.size p V from SW.out.fresh (Nat.le_refl _))
  have KD := Lib.hid (show SPc w.heap.size p V x m W.drew from ⟨q0, q1, q2, q3, q4, q5, d0, d5, ra, rb⟩)
  have gz : W.heap.size ≠ w.heap.size := by omega
  have gp : W.heap.size ≠ p := FG.out.p
  have gg : W.heap.size ≠ V.gr := FG.out.r
  clear q0 q1 q2 q3 q4 q5 d0 d5 ra rb
  go_upto_region 3 with fail
  go_cut [5] (fun s5 wx => PCut B p w.heap.size x false 0 true nx 0 m' w s5 wx)
  case first =>
    go_region_held3 (fun w' => w'.cell? ⟨w.heap.size, 0, none⟩ = some (.int .i64 x.o) ∧ w'.cell? ⟨w.heap.size, 1, none⟩ = some (.int .i64 x.d) ∧ w'.cell? ⟨w.heap.size, 2, none⟩ = some (.int .i64 x.a) ∧ w'.cell? ⟨w.heap.size, 3, none⟩ = some (.int .i64 x.b) ∧ w'.cell? ⟨w.heap.size, 4, none⟩ = some (.int .i64 x.m) ∧ w'.cell? ⟨w.heap.size, 5, none⟩ = some (.string ByteArray.empty) ∧ w'.cell? ⟨p, 0, none⟩ = some (.slice (some ⟨V.gr, 0, none⟩) 16 V.cr) ∧ w'.cell? ⟨p, 5, none⟩ = some (.int .i64 m.pc) ∧ w'.cell? ⟨V.gr, x.a, none⟩ = some (.int .u32 (m.reg x.a)) ∧ w'.cell? ⟨V.gr, x.b, none⟩ = some (.int .u32 (m.reg x.b))) (first | with_reducible exact KD.out | with_reducible exact spc_allocD KD.out _ hzz hpl hgl | with_reducible exact K2.out | with_reducible exact spc_alloc K2.out _ l2z l2p l2g | with_reducible exact spc_set5 K2.out gz gp gg _ _ _ _ _) (first | (go_at_call 62; (with_reducible refine (CC.out W.drew SW.out.drew).mono ?_); rintro e W2 ⟨rfl, ⟨V2, S2, hgr, hcr⟩, hb2, far2⟩; have XB := Lib.hid (far2.bx (z := w.heap.size) (x := x) BX.out.drew FZ.out); have xq0 : W2.cell? ⟨w.heap.size, 0, none⟩ = some (.int .i64 x.o) := XB.out.c 0; have xq1 : W2.cell? ⟨w.heap.size, 1, none⟩ = some (.int .i64 x.d) := XB.out.c 1; have xq2 : W2.cell? ⟨w.heap.size, 2, none⟩ = some (.int .i64 x.a) := XB.out.c 2; have xq3 : W2.cell? ⟨w.heap.size, 3, none⟩ = some (.int .i64 x.b) := XB.out.c 3; have xq4 : W2.cell? ⟨w.heap.size, 4, none⟩ = some (.int .i64 x.m) := XB.out.c 4; have xq5 : W2.cell? ⟨w.heap.size, 5, none⟩ = some (.string ByteArray.empty) := XB.out.c 5; have cp0 : W2.cell? ⟨p, 0, none⟩ = some (.slice (some ⟨V.gr, 0, none⟩) 16 V.cr) := S2.cp0 hgr hcr; have cp5 : W2.cell? ⟨p, 5, none⟩ = some (.int .i64 m.pc) := S2.cp5 HP.out; have cra : W2.cell? ⟨V.gr, x.a, none⟩ = some (.int .u32 (m.reg x.a)) := S2.cr hgr HR.out k ha; have crb : W2.cell? ⟨V.gr, x.b, none⟩ = some (.int .u32 (m.reg x.b)) := S2.cr hgr HR.out k hb; have K2 := Lib.hid (show SPc w.heap.size p V x m W2 from ⟨xq0, xq1, xq2, xq3, xq4, xq5, cp0, cp5, cra, crb⟩); have l2z := XB.out.lt; have l2p := S2.lt; have l2g : V.gr < W2.heap.size := hgr ▸ S2.gr_lt.2; have SS := Lib.hid S2; have GR := Lib.hid hgr; clear xq0 xq1 xq2 xq3 xq4 xq5 cp0 cp5 cra crb; have BB := Lib.hid (HB.out.drew.trans hb2); have KQ := Lib.hid (K27.trans KW.out (K27.far (w := W.drew) far2 SW.out.drew)); have DZ := Lib.hid True.intro; have SZ := Lib.hid far2.1; clear S2 hb2 far2 hgr hcr) | (go_at_call 62; (with_reducible refine (CC.out (W.alloc _).drew (SW.out.alloc _).drew).mono ?_); rintro e W2 ⟨rfl, ⟨V2, S2, hgr, hcr⟩, hb2, far2⟩; have XB := Lib.hid (far2.bx (z := w.heap.size) (x := x) (BX.out.below (below_new _ _)).drew FZ.out); have xq0 : W2.cell? ⟨w.heap.size, 0, none⟩ = some (.int .i64 x.o) := XB.out.c 0; have xq1 : W2.cell? ⟨w.heap.size, 1, none⟩ = some (.int .i64 x.d) := XB.out.c 1; have xq2 : W2.cell? ⟨w.heap.size, 2, none⟩ = some (.int .i64 x.a) := XB.out.c 2; have xq3 : W2.cell? ⟨w.heap.size, 3, none⟩ = some (.int .i64 x.b) := XB.out.c 3; have xq4 : W2.cell? ⟨w.heap.size, 4, none⟩ = some (.int .i64 x.m) := XB.out.c 4; have xq5 : W2.cell? ⟨w.heap.size, 5, none⟩ = some (.string ByteArray.empty) := XB.out.c 5; have cp0 : W2.cell? ⟨p, 0, none⟩ = some (.slice (some ⟨V.gr, 0, none⟩) 16 V.cr) := S2.cp0 hgr hcr; have cp5 : W2.cell? ⟨p, 5, none⟩ = some (.int .i64 m.pc) := S2.cp5 HP.out; have cra : W2.cell? ⟨V.gr, x.a, none⟩ = some (.int .u32 (m.reg x.a)) := S2.cr hgr HR.out k ha; have crb : W2.cell? ⟨V.gr, x.b, none⟩ = some (.int .u32 (m.reg x.b)) := S2.cr hgr HR.out k hb; have K2 := Lib.hid (show SPc w.heap.size p V x m W2 from ⟨xq0, xq1, xq2, xq3, xq4, xq5, cp0, cp5, cra, crb⟩); have l2z := XB.out.lt; have l2p := S2.lt; have l2g : V.gr < W2.heap.size := hgr ▸ S2.gr_lt.2; have SS := Lib.hid S2; have GR := Lib.hid hgr; clear xq0 xq1 xq2 xq3 xq4 xq5 cp0 cp5 cra crb; have BB := Lib.hid ((HB.out.alloc SW.out.B_le _).drew.trans hb2); have KQ := Lib.hid (K27.trans (K27.trans KW.out (K27.alloc p W _)) (K27.far (w := (W.alloc _).drew) far2 (SW.out.alloc _).drew)); have DZ := Lib.hid (far2.dd (Dd.new W _ _ _ _ _) FG.out); have dl := DZ.out.lt; obtain ⟨⟨v0, y0⟩, ⟨v1, y1⟩, ⟨v2, y2⟩, ⟨v3, y3⟩, ⟨v4, y4⟩⟩ := DZ.out.c; have z0 := DZ.out.f 0; have z1 := DZ.out.f 1; have z2 := DZ.out.f 2; have z3 := DZ.out.f 3; have z4 := DZ.out.f 4; have SZ := Lib.hid far2.1; clear S2 hb2 far2 hgr hcr))
    all_goals go_wp2_with fail
    · go_meet
      case rel => exact pcut1 SS.out XB.out BB.out KQ.out
    · go_meet
      case rel => exact pcut2 SS.out XB.out BB.out DZ.out SW.out.B_le (DZ.out.fr SS.out gp) gz KQ.out (by omega)
  case rest =>
  obtain ⟨g, V3, rfl, db, S3, fr, bx3, hb3, hk3⟩ := hcut
  have K4 := Lib.hid hk3
  have S4 := Lib.hid S3
  have B4 := Lib.hid hb3
  have g0 : wc.cell? ⟨g, 0, none⟩ = some (.bool false) := cell_of_row wc g 0 _ _ _ db
  have g1 : wc.cell? ⟨g, 1, none⟩ = some (.int .u32 0) := cell_of_row wc g 1 _ _ _ db
  have g2 : wc.cell? ⟨g, 2, none⟩ = some (.bool true) := cell_of_row wc g 2 _ _ _ db
  have g3 : wc.cell? ⟨g, 3, none⟩ = some (.int .i64 nx) := cell_of_row wc g 3 _ _ _ db
  have g4 : wc.cell? ⟨g, 4, none⟩ = some (.int .i64 0) := cell_of_row wc g 4 _ _ _ db
  have gl := lt_of_heap db
  have pl := S3.lt
  have gp3 := fr.p
  have gr3 := fr.r
  have gr4 : V3.gr ≠ g := fun e => fr.r e.symm
  have f7 := S3.frozen 7
  have f5 := S3.frozen 5
  have e7 : wc.cell? ⟨p, 7, none⟩ = some (.int .i64 m'.stop) := S3.cell 7
  have e5 : wc.cell? ⟨p, 5, none⟩ = some (.int .i64 m'.pc) := S3.cell 5
  clear db fr hb3 hk3 KD CC SW BX HB FG FZ
  clear S3 bx3
  go_wp2
  go_end0
  exact ⟨rfl, ⟨fin_pc S4.out rfl, B4.out.setCell (p := ⟨p, 5, none⟩) (by exact S4.out.hp) _⟩, K4.out.trans (K27.setP p _ _ _)⟩
set_option maxRecDepth 20000 in
set_option maxHeartbeats 2000000 in
theorem pstep_has (B p : Nat) (ad : Addr) (n c : Nat) (x : In5) (m : M) (V : Vs) (w : World) (hx : InAt w ad m.pc x) (hbl : ad.block < B) (h : SA B w p m V) (k : Ok m) (hpc : m.pc < n) (hn : n ≤ 1024) (ha : x.a < 16) (hb : x.b < 16) (v : Int) (hd : x.d < 16) (m' : M) (hP : m'.pc = m.pc) (hR : m'.R = m.R) (C : ∀ W, SA B W p m V → Calls Tryd.prog 62 #[.pointer (some ⟨p, 0, none⟩), .agg x.cells, .int .u32 (m.reg x.a), .int .u32 (m.reg x.b), .int .i64 ((m.pc : Int) + 1)] W (DoPost B p V true v false 0 0 m' W)) (k3 : Ok m') : Calls Tryd.prog 48 #[.slice (some ad) n c, .pointer (some ⟨p, 0, none⟩)] w (PStepPost B p (put m' x.d v) w) := by
  obtain ⟨k0, k1, k2, k3, k4, k5⟩ := hx.k
  simp only [In5.cells] at C
  have CC := Lib.hid C
  have HP := Lib.hid hP
  have HR := Lib.hid hR
  have dpc : decide ((n : Int) ≤ (m.pc : Int)) = false := by simp; omega
  have p0 : (0 : Int) ≤ (m.pc : Int) := by omega
  have p1 : (m.pc : Int) < (n : Int) := by omega
  have c5 : w.cell? ⟨p, 5, none⟩ = some (.int .i64 m.pc) := h.cell 5
  have hpw := h.lt
  have hadw : (ad.add (m.pc * 6)).block < w.heap.size := by rw [block_add]; have := h.B_le; omega
  clear hx C hP hR
  go_enter Tryd.func48, Tryd.ntmps48
  go_wp2_with fail
  generalize hW : w.alloc (.cells #[.int .i64 x.o, .int .i64 x.d, .int .i64 x.a, .int .i64 x.b, .int .i64 x.m, .string ByteArray.empty] 54) = W
  have BX := Lib.hid (show Bx W w.heap.size x by rw [← hW]; exact bx_new w x)
  have SW := Lib.hid (show SA B W p m V by rw [← hW]; exact h.alloc _)
  have KW := Lib.hid (show K27 p w W by rw [← hW]; exact K27.alloc p w _)
  have HB := Lib.hid (show Below B w W by rw [← hW]; exact (below_new w _).mono h.B_le)
  have hzz : w.heap.size < W.heap.size := BX.out.lt
  have hpl : p < W.heap.size := SW.out.lt
  have hpz : p ≠ w.heap.size := Nat.ne_of_lt h.lt
  have hrz : V.gr ≠ w.heap.size := Nat.ne_of_lt h.gr_lt.2
  clear hW k0 k1 k2 k3 k4 k5 c5 hpw hadw p0 p1 dpc
  have q0 : W.cell? ⟨w.heap.size, 0, none⟩ = some (.int .i64 x.o) := BX.out.c 0
  have q1 : W.cell? ⟨w.heap.size, 1, none⟩ = some (.int .i64 x.d) := BX.out.c 1
  have q2 : W.cell? ⟨w.heap.size, 2, none⟩ = some (.int .i64 x.a) := BX.out.c 2
  have q3 : W.cell? ⟨w.heap.size, 3, none⟩ = some (.int .i64 x.b) := BX.out.c 3
  have q4 : W.cell? ⟨w.heap.size, 4, none⟩ = some (.int .i64 x.m) := BX.out.c 4
  have q5 : W.cell? ⟨w.heap.size, 5, none⟩ = some (.string ByteArray.empty) := BX.out.c 5
  have d0 : W.cell? ⟨p, 0, none⟩ = some (.slice (some ⟨V.gr, 0, none⟩) 16 V.cr) := SW.out.cell 0
  have d5 : W.cell? ⟨p, 5, none⟩ = some (.int .i64 m.pc) := SW.out.cell 5
  have i0 : (0 : Int) ≤ (x.a : Int) := by omega
  have i1 : (x.a : Int) < 16 := by omega
  have i2 : (0 : Int) ≤ (x.b : Int) := by omega
  have i3 : (x.b : Int) < 16 := by omega
  have ra := SW.out.reg k ha
  have rb := SW.out.reg k hb
  have FZ := Lib.hid (show Fr w.heap.size p V from h.fresh (Nat.le_refl _))
  have e2 : IntKind.i64.wrap ((m.pc : Int) + 1) = (m.pc : Int) + 1 := by rw [wrap_i64 _ (by omega) (by omega)]
  have hgl : V.gr < W.heap.size := SW.out.gr_lt.2
  have FG := Lib.hid (show Fr W.heap.size p V from SW.out.fresh (Nat.le_refl _))
  have KD := Lib.hid (show SPc w.heap.size p V x m W.drew from ⟨q0, q1, q2, q3, q4, q5, d0, d5, ra, rb⟩)
  have gz : W.heap.size ≠ w.heap.size := by omega
  have gp : W.heap.size ≠ p := FG.out.p
  have gg : W.heap.size ≠ V.gr := FG.out.r
  clear q0 q1 q2 q3 q4 q5 d0 d5 ra rb
  go_upto_region 3 with fail
  go_cut [5] (fun s5 wx => PCut B p w.heap.size x true v false 0 0 m' w s5 wx)
  case first =>
    go_region_held3 (fun w' => w'.cell? ⟨w.heap.size, 0, none⟩ = some (.int .i64 x.o) ∧ w'.cell? ⟨w.heap.size, 1, none⟩ = some (.int .i64 x.d) ∧ w'.cell? ⟨w.heap.size, 2, none⟩ = some (.int .i64 x.a) ∧ w'.cell? ⟨w.heap.size, 3, none⟩ = some (.int .i64 x.b) ∧ w'.cell? ⟨w.heap.size, 4, none⟩ = some (.int .i64 x.m) ∧ w'.cell? ⟨w.heap.size, 5, none⟩ = some (.string ByteArray.empty) ∧ w'.cell? ⟨p, 0, none⟩ = some (.slice (some ⟨V.gr, 0, none⟩) 16 V.cr) ∧ w'.cell? ⟨p, 5, none⟩ = some (.int .i64 m.pc) ∧ w'.cell? ⟨V.gr, x.a, none⟩ = some (.int .u32 (m.reg x.a)) ∧ w'.cell? ⟨V.gr, x.b, none⟩ = some (.int .u32 (m.reg x.b))) (first | with_reducible exact KD.out | with_reducible exact spc_allocD KD.out _ hzz hpl hgl | with_reducible exact K2.out | with_reducible exact spc_alloc K2.out _ l2z l2p l2g | with_reducible exact spc_set5 K2.out gz gp gg _ _ _ _ _) (first | (go_at_call 62; (with_reducible refine (CC.out W.drew SW.out.drew).mono ?_); rintro e W2 ⟨rfl, ⟨V2, S2, hgr, hcr⟩, hb2, far2⟩; have XB := Lib.hid (far2.bx (z := w.heap.size) (x := x) BX.out.drew FZ.out); have xq0 : W2.cell? ⟨w.heap.size, 0, none⟩ = some (.int .i64 x.o) := XB.out.c 0; have xq1 : W2.cell? ⟨w.heap.size, 1, none⟩ = some (.int .i64 x.d) := XB.out.c 1; have xq2 : W2.cell? ⟨w.heap.size, 2, none⟩ = some (.int .i64 x.a) := XB.out.c 2; have xq3 : W2.cell? ⟨w.heap.size, 3, none⟩ = some (.int .i64 x.b) := XB.out.c 3; have xq4 : W2.cell? ⟨w.heap.size, 4, none⟩ = some (.int .i64 x.m) := XB.out.c 4; have xq5 : W2.cell? ⟨w.heap.size, 5, none⟩ = some (.string ByteArray.empty) := XB.out.c 5; have cp0 : W2.cell? ⟨p, 0, none⟩ = some (.slice (some ⟨V.gr, 0, none⟩) 16 V.cr) := S2.cp0 hgr hcr; have cp5 : W2.cell? ⟨p, 5, none⟩ = some (.int .i64 m.pc) := S2.cp5 HP.out; have cra : W2.cell? ⟨V.gr, x.a, none⟩ = some (.int .u32 (m.reg x.a)) := S2.cr hgr HR.out k ha; have crb : W2.cell? ⟨V.gr, x.b, none⟩ = some (.int .u32 (m.reg x.b)) := S2.cr hgr HR.out k hb; have K2 := Lib.hid (show SPc w.heap.size p V x m W2 from ⟨xq0, xq1, xq2, xq3, xq4, xq5, cp0, cp5, cra, crb⟩); have l2z := XB.out.lt; have l2p := S2.lt; have l2g : V.gr < W2.heap.size := hgr ▸ S2.gr_lt.2; have SS := Lib.hid S2; have GR := Lib.hid hgr; clear xq0 xq1 xq2 xq3 xq4 xq5 cp0 cp5 cra crb; have BB := Lib.hid (HB.out.drew.trans hb2); have KQ := Lib.hid (K27.trans KW.out (K27.far (w := W.drew) far2 SW.out.drew)); have DZ := Lib.hid True.intro; have SZ := Lib.hid far2.1; clear S2 hb2 far2 hgr hcr) | (go_at_call 62; (with_reducible refine (CC.out (W.alloc _).drew (SW.out.alloc _).drew).mono ?_); rintro e W2 ⟨rfl, ⟨V2, S2, hgr, hcr⟩, hb2, far2⟩; have XB := Lib.hid (far2.bx (z := w.heap.size) (x := x) (BX.out.below (below_new _ _)).drew FZ.out); have xq0 : W2.cell? ⟨w.heap.size, 0, none⟩ = some (.int .i64 x.o) := XB.out.c 0; have xq1 : W2.cell? ⟨w.heap.size, 1, none⟩ = some (.int .i64 x.d) := XB.out.c 1; have xq2 : W2.cell? ⟨w.heap.size, 2, none⟩ = some (.int .i64 x.a) := XB.out.c 2; have xq3 : W2.cell? ⟨w.heap.size, 3, none⟩ = some (.int .i64 x.b) := XB.out.c 3; have xq4 : W2.cell? ⟨w.heap.size, 4, none⟩ = some (.int .i64 x.m) := XB.out.c 4; have xq5 : W2.cell? ⟨w.heap.size, 5, none⟩ = some (.string ByteArray.empty) := XB.out.c 5; have cp0 : W2.cell? ⟨p, 0, none⟩ = some (.slice (some ⟨V.gr, 0, none⟩) 16 V.cr) := S2.cp0 hgr hcr; have cp5 : W2.cell? ⟨p, 5, none⟩ = some (.int .i64 m.pc) := S2.cp5 HP.out; have cra : W2.cell? ⟨V.gr, x.a, none⟩ = some (.int .u32 (m.reg x.a)) := S2.cr hgr HR.out k ha; have crb : W2.cell? ⟨V.gr, x.b, none⟩ = some (.int .u32 (m.reg x.b)) := S2.cr hgr HR.out k hb; have K2 := Lib.hid (show SPc w.heap.size p V x m W2 from ⟨xq0, xq1, xq2, xq3, xq4, xq5, cp0, cp5, cra, crb⟩); have l2z := XB.out.lt; have l2p := S2.lt; have l2g : V.gr < W2.heap.size := hgr ▸ S2.gr_lt.2; have SS := Lib.hid S2; have GR := Lib.hid hgr; clear xq0 xq1 xq2 xq3 xq4 xq5 cp0 cp5 cra crb; have BB := Lib.hid ((HB.out.alloc SW.out.B_le _).drew.trans hb2); have KQ := Lib.hid (K27.trans (K27.trans KW.out (K27.alloc p W _)) (K27.far (w := (W.alloc _).drew) far2 (SW.out.alloc _).drew)); have DZ := Lib.hid (far2.dd (Dd.new W _ _ _ _ _) FG.out); have dl := DZ.out.lt; obtain ⟨⟨v0, y0⟩, ⟨v1, y1⟩, ⟨v2, y2⟩, ⟨v3, y3⟩, ⟨v4, y4⟩⟩ := DZ.out.c; have z0 := DZ.out.f 0; have z1 := DZ.out.f 1; have z2 := DZ.out.f 2; have z3 := DZ.out.f 3; have z4 := DZ.out.f 4; have SZ := Lib.hid far2.1; clear S2 hb2 far2 hgr hcr))
    all_goals go_wp2_with fail
    · go_meet
      case rel => exact pcut1 SS.out XB.out BB.out KQ.out
    · go_meet
      case rel => exact pcut2 SS.out XB.out BB.out DZ.out SW.out.B_le (DZ.out.fr SS.out gp) gz KQ.out (by omega)
  case rest =>
  obtain ⟨g, V3, rfl, db, S3, fr, bx3, hb3, hk3⟩ := hcut
  have K4 := Lib.hid hk3
  have S4 := Lib.hid S3
  have B4 := Lib.hid hb3
  have g0 : wc.cell? ⟨g, 0, none⟩ = some (.bool true) := cell_of_row wc g 0 _ _ _ db
  have g1 : wc.cell? ⟨g, 1, none⟩ = some (.int .u32 v) := cell_of_row wc g 1 _ _ _ db
  have g2 : wc.cell? ⟨g, 2, none⟩ = some (.bool false) := cell_of_row wc g 2 _ _ _ db
  have g3 : wc.cell? ⟨g, 3, none⟩ = some (.int .i64 0) := cell_of_row wc g 3 _ _ _ db
  have g4 : wc.cell? ⟨g, 4, none⟩ = some (.int .i64 0) := cell_of_row wc g 4 _ _ _ db
  have gl := lt_of_heap db
  have pl := S3.lt
  have gp3 := fr.p
  have gr3 := fr.r
  have gr4 : V3.gr ≠ g := fun e => fr.r e.symm
  have f7 := S3.frozen 7
  have f5 := S3.frozen 5
  have e7 : wc.cell? ⟨p, 7, none⟩ = some (.int .i64 m'.stop) := S3.cell 7
  have e5 : wc.cell? ⟨p, 5, none⟩ = some (.int .i64 m'.pc) := S3.cell 5
  clear db fr hb3 hk3 KD CC SW BX HB FG FZ
  have hpc3 : m'.pc ≤ 1024 := by have := HP.out; omega
  have z1 : wc.cell? ⟨w.heap.size, 1, none⟩ = some (.int .i64 x.d) := bx3.c 1
  have zl := bx3.lt
  have d0 : wc.cell? ⟨p, 0, none⟩ = some (.slice (some ⟨V3.gr, 0, none⟩) 16 V3.cr) := S3.cell 0
  have j0 : (0 : Int) ≤ (x.d : Int) := by omega
  have j1 : (x.d : Int) < 16 := by omega
  have rd := S3.reg k3 hd
  have rf := S3.regF x.d
  have hgp : V3.gr ≠ p := S3.pr
  have hgl3 := S3.gr_lt.2
  have SX := Lib.hid (S3.drew.setR x.d v)
  clear S3 bx3
  go_wp2_with fail
  go_still_tail 9, (by kernel_rfl)
  change wpList _ _ _ _ _ wc.drew
  go_wp2
  go_end0
  exact ⟨rfl, ⟨fin_pc SX.out (show _ = ((m'.pc + 1 : Nat) : Int) by omega), (B4.out.drew.setCell (p := ⟨V3.gr, x.d, none⟩) (by exact S4.out.gr_lt.1) _).setCell (p := ⟨p, 5, none⟩) (by exact S4.out.hp) _⟩, (K4.out.trans (K27.setR (w := wc.drew) S4.out.drew _ _)).trans (K27.setP p _ _ _)⟩
end Go.Proofs.YtpnmlednningkaaDoor
