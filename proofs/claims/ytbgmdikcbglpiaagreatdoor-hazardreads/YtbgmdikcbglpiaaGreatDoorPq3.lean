/-
  How a deed's block is told, and which old blocks stay as they are behind a part of the page's issue. No condition.
-/
import Derived.Test.YtbgmdikcbglpiaaGreatDoorPq2
namespace Go.Proofs.YtbgmdikcbglpiaaGreatDoor
open Go.RowKit

/-- A block that is this deed. -/
def DB (w : World) (g : Nat) (has : Bool) (v : Int) (j : Bool) (tt st : Int) : Prop := w.heap[g]? = some (.cells #[.bool has, .int .u32 v, .bool j, .int .i64 tt, .int .i64 st] 91 (0, 0))
section
variable {B p g z : Nat} {w W X W2 : World} {m m' : M} {V V2 : Vs} {x : In5} {has j : Bool} {v tt st : Int}
theorem Far.dd (f : Far p V X W2) (d : Dd X g) (fr : Fr g p V) : Dd W2 g := by
  have hl := d.lt
  obtain ⟨a, b, c, d', e, hb⟩ := d
  exact ⟨a, b, c, d', e, (f.2 g hl fr.p fr.m fr.o fr.s).trans hb⟩
theorem Far.bx (f : Far p V X W2) (d : Bx X z x) (fr : Fr z p V) : Bx W2 z x := by
  have hl := d.lt
  obtain ⟨T, hb⟩ := d.blk
  exact ⟨T, (f.2 z hl fr.p fr.m fr.o fr.s).trans hb⟩
theorem Dd.new (W : World) (a b c d e : Value) : Dd (W.alloc (.cells #[a, b, c, d, e] 91)).drew W.heap.size := ⟨a, b, c, d, e, heap_alloc_new W _⟩
theorem db_set (h : Dd W2 g) : DB (((((W2.setCell ⟨g, 0, none⟩ (.bool has)).setCell ⟨g, 1, none⟩ (.int .u32 v)).setCell ⟨g, 2, none⟩ (.bool j)).setCell ⟨g, 3, none⟩ (.int .i64 tt)).setCell ⟨g, 4, none⟩ (.int .i64 st)) g has v j tt st := by
  obtain ⟨a, b, c, d, e, hb⟩ := h
  exact heap_setCell_same _ g 4 _ 91 _ (heap_setCell_same _ g 3 _ 91 _ (heap_setCell_same _ g 2 _ 91 _ (heap_setCell_same _ g 1 _ 91 _ (heap_setCell_same _ g 0 _ 91 _ hb))))
theorem Bx.set5 (h : Bx W2 z x) (hz : g ≠ z) (a b c d e : Value) : Bx (((((W2.setCell ⟨g, 0, none⟩ a).setCell ⟨g, 1, none⟩ b).setCell ⟨g, 2, none⟩ c).setCell ⟨g, 3, none⟩ d).setCell ⟨g, 4, none⟩ e) z x := by
  obtain ⟨T, hb⟩ := h.blk
  have k : ∀ (Y : World) (i : Nat) (u : Value), (Y.setCell ⟨g, i, none⟩ u).heap[z]? = Y.heap[z]? := fun Y i u => heap_setCell_other Y ⟨g, i, none⟩ z u (fun e => hz e.symm)
  exact ⟨T, (k _ _ _).trans ((k _ _ _).trans ((k _ _ _).trans ((k _ _ _).trans ((k _ _ _).trans hb))))⟩
end
theorem Bx.belowW {w w' : World} {z : Nat} {x : In5} (h : Bx w z x) (hg : ∀ g, g < w.heap.size → g = z → w'.heap[g]? = w.heap[g]?) : Bx w' z x := by obtain ⟨T, hz⟩ := h.blk; exact ⟨T, (hg z (lt_of_heap hz) rfl).trans hz⟩
theorem dd_row {B e z n : Nat} {W2 : World} {a : Option Addr} {k c g : Nat} {xs : List Value} (h : W2.ownsRow B e z (.slice a k c) n xs) (d : Dd W2 g) (he : e ≠ 91) : ob a ≠ some g := by
  obtain ⟨_, _, _, _, _, hb⟩ := d
  intro e2
  obtain ⟨cur, hc⟩ := own_type h g e2
  rw [hb] at hc
  simp only [Option.some.injEq, Obj.cells.injEq] at hc
  exact he hc.2.1.symm
theorem Dd.fr {B p g : Nat} {W2 : World} {m' : M} {V2 : Vs} (d : Dd W2 g) (S : SA B W2 p m' V2) (hp : g ≠ p) : Fr g p V2 :=
  ⟨hp, fun e => dd_row S.hr d (by decide) (by rw [e]; rfl), fun e => dd_row S.hm d (by decide) (by rw [e]; rfl), dd_row S.hi d (by decide), dd_row S.ho d (by decide), dd_row S.hs d (by decide), dd_row S.hf d (by decide)⟩
/-- Old blocks that are no part of the state stay as they are, and no part of it. -/
def KeepB (p : Nat) (w : World) (V : Vs) (w' : World) (V' : Vs) : Prop := w.heap.size ≤ w'.heap.size ∧ ∀ g, g < w.heap.size → Fr g p V → w'.heap[g]? = w.heap[g]? ∧ Fr g p V'
section
variable {B p g z : Nat} {w w' w2 W w7 : World} {m m' : M} {V V' V2 : Vs} {x : In5} {has j : Bool} {v tt st : Int}
theorem KeepB.refl : KeepB p w V w V := ⟨Nat.le_refl _, fun _ _ f => ⟨rfl, f⟩⟩
theorem KeepB.trans (h : KeepB p w V w' V') (h2 : KeepB p w' V' w2 V2) : KeepB p w V w2 V2 := ⟨Nat.le_trans h.1 h2.1, fun g hg f => by
  obtain ⟨e1, f1⟩ := h.2 g hg f
  obtain ⟨e2, f2⟩ := h2.2 g (Nat.lt_of_lt_of_le hg h.1) f1
  exact ⟨e2.trans e1, f2⟩⟩
theorem KeepB.below (hb : Below w.heap.size w w') : KeepB p w V w' V := ⟨hb.size, fun g hg f => ⟨hb.block g hg, f⟩⟩
theorem KeepB.alloc (o : Obj) : KeepB p w V (w.alloc o) V := KeepB.below (below_new _ _)
theorem KeepB.drew : KeepB p w V w.drew V := ⟨Nat.le_refl _, fun _ _ f => ⟨rfl, f⟩⟩
theorem KeepB.drewN (n : Nat) : KeepB p w V (w.drewN n) V := ⟨Nat.le_refl _, fun _ _ f => ⟨rfl, f⟩⟩
theorem KeepB.setP (k : Nat) (u : Value) : KeepB p w V (w.setCell ⟨p, k, none⟩ u) V := ⟨by simp, fun g _ f => ⟨heap_setCell_other w ⟨p, k, none⟩ g u f.p, f⟩⟩
theorem KeepB.setN (hg : w.heap.size ≤ g) (h : KeepB p w V w' V') (k : Nat) (u : Value) : KeepB p w V (w'.setCell ⟨g, k, none⟩ u) V' := ⟨by simpa using h.1, fun q hq f => by
  obtain ⟨e1, f1⟩ := h.2 q hq f
  exact ⟨(heap_setCell_other w' ⟨g, k, none⟩ q u (fun e => by simp at e; omega)).trans e1, f1⟩⟩
theorem KeepB.set5 (hg : w.heap.size ≤ g) (h : KeepB p w V w' V') (a b c d e : Value) : KeepB p w V (((((w'.setCell ⟨g, 0, none⟩ a).setCell ⟨g, 1, none⟩ b).setCell ⟨g, 2, none⟩ c).setCell ⟨g, 3, none⟩ d).setCell ⟨g, 4, none⟩ e) V' :=
  KeepB.setN hg (KeepB.setN hg (KeepB.setN hg (KeepB.setN hg (KeepB.setN hg h 0 a) 1 b) 2 c) 3 d) 4 e
theorem KeepB.deed (f : Far p V w w') (hgr : V'.gr = V.gr) (sh : Sh w V V') : KeepB p w V w' V' := ⟨f.1, fun g hg fr => ⟨f.2 g hg fr.p fr.m fr.o fr.s, { p := fr.p, r := by rw [hgr]; exact fr.r, m := by rw [sh.1]; exact fr.m, i := by rw [sh.2.1]; exact fr.i, o := fun e => fr.o (sh.2.2.2.1 g hg e), s := fun e => fr.s (sh.2.2.2.2 g hg e), f := by rw [sh.2.2.1]; exact fr.f }⟩⟩
theorem KeepB.fly7 {cap : Nat} (hg : W.grownBy w7 (ob V.af)) (hat : ob V.af = some g ∨ g = W.heap.size) (u : Value) : KeepB p W V (w7.setCell ⟨p, 8, none⟩ u) { V with af := some ⟨g, 0, none⟩, cf := cap } := by
  refine KeepB.trans (w' := w7) (V' := { V with af := some ⟨g, 0, none⟩, cf := cap }) ⟨hg.size, fun q hq f => ⟨hg.block q hq (fun e => f.f e.symm), { f with f := fun e => ?_ }⟩⟩ (KeepB.setP 8 u)
  simp [ob] at e
  subst e
  rcases hat with h | h
  · exact f.f h
  · omega
theorem K27.set5 {w0 : World} (h : K27 p w0 w) (hg : w0.heap.size ≤ g) (a b c d e : Value) : K27 p w0 (((((w.setCell ⟨g, 0, none⟩ a).setCell ⟨g, 1, none⟩ b).setCell ⟨g, 2, none⟩ c).setCell ⟨g, 3, none⟩ d).setCell ⟨g, 4, none⟩ e) := fun q cs hq hb => by
  have hne : ¬ q = g := by have := lt_of_heap hb; omega
  have k : ∀ (Y : World) (i : Nat) (u : Value), (Y.setCell ⟨g, i, none⟩ u).heap[q]? = Y.heap[q]? := fun Y i u => heap_setCell_other Y ⟨g, i, none⟩ q u hne
  exact ((k _ _ _).trans ((k _ _ _).trans ((k _ _ _).trans ((k _ _ _).trans (k _ _ _))))).trans (h q cs hq hb)
/-- Behind the call of do. -/
def PCut (B p z : Nat) (x : In5) (has : Bool) (v : Int) (j : Bool) (tt st : Int) (m' : M) (w : World) (V : Vs) (s5 : Value) (wx : World) : Prop :=
  ∃ g V', s5 = .pointer (some ⟨g, 0, none⟩) ∧ DB wx g has v j tt st ∧ SA B wx p m' V' ∧ Fr g p V' ∧ Bx wx z x ∧ Below B w wx ∧ K27 p w wx ∧ KeepB p w V wx V' ∧ w.heap.size ≤ g ∧ z < g
/-- The call first, then the deed's block. -/
theorem pcut1 {W2 : World} (S2 : SA B W2 p m' V2) (hx : Bx W2 z x) (hb : Below B w W2) (hk : K27 p w W2) (kb : KeepB p w V W2 V2) : PCut B p z x has v j tt st m' w V (.pointer (some ⟨W2.heap.size, 0, none⟩)) (W2.alloc (.cells #[.bool has, .int .u32 v, .bool j, .int .i64 tt, .int .i64 st] 91)) :=
  ⟨_, V2, rfl, heap_alloc_new W2 _, S2.alloc _, S2.fresh (Nat.le_refl _), hx.below (below_new _ _), hb.alloc S2.B_le _, hk.trans (K27.alloc _ _ _), kb.trans (KeepB.alloc _), kb.1, hx.lt⟩
/-- The block first. -/
theorem pcut2 {W2 : World} (S2 : SA B W2 p m' V2) (hx : Bx W2 z x) (hb : Below B w W2) (dd : Dd W2 g) (hg : B ≤ g) (fr : Fr g p V2) (hz : z < g) (hk : K27 p w W2) (hw : w.heap.size ≤ g) (kb : KeepB p w V W2 V2) : PCut B p z x has v j tt st m' w V (.pointer (some ⟨g, 0, none⟩)) (((((W2.setCell ⟨g, 0, none⟩ (.bool has)).setCell ⟨g, 1, none⟩ (.int .u32 v)).setCell ⟨g, 2, none⟩ (.bool j)).setCell ⟨g, 3, none⟩ (.int .i64 tt)).setCell ⟨g, 4, none⟩ (.int .i64 st)) :=
  ⟨g, V2, rfl, db_set dd, S2.set5 fr _ _ _ _ _, fr, hx.set5 (by omega) _ _ _ _ _, bel_set5 hb hg _ _ _ _ _, hk.set5 hw _ _ _ _ _, KeepB.set5 hw kb _ _ _ _ _, hw, hz⟩
theorem SA.cp5 {W2 : World} (S2 : SA B W2 p m' V2) (h1 : m'.pc = m.pc) : W2.cell? ⟨p, 5, none⟩ = some (.int .i64 m.pc) := by rw [← h1]; exact S2.cell 5
end
/-- The cells that the region of do reads. -/
abbrev SPd (z p q : Nat) (x : In5) (m : M) (X : World) : Prop := X.cell? ⟨z, 0, none⟩ = some (.int .i64 x.o) ∧ X.cell? ⟨z, 1, none⟩ = some (.int .i64 x.d) ∧ X.cell? ⟨z, 2, none⟩ = some (.int .i64 x.a) ∧ X.cell? ⟨z, 3, none⟩ = some (.int .i64 x.b) ∧ X.cell? ⟨z, 4, none⟩ = some (.int .i64 x.m) ∧ X.cell? ⟨z, 5, none⟩ = some (.string ByteArray.empty) ∧ X.cell? ⟨p, 5, none⟩ = some (.int .i64 m.pc) ∧ X.cell? ⟨q, x.a, none⟩ = some (.int .u32 (m.reg x.a)) ∧ X.cell? ⟨q, x.b, none⟩ = some (.int .u32 (m.reg x.b))
theorem spd_same {z p q : Nat} {x : In5} {m : M} {X Y : World} (h : SPd z p q x m X) (hz : ∀ j, Y.cell? ⟨z, j, none⟩ = X.cell? ⟨z, j, none⟩) (hp : ∀ j, Y.cell? ⟨p, j, none⟩ = X.cell? ⟨p, j, none⟩) (hg : ∀ j, Y.cell? ⟨q, j, none⟩ = X.cell? ⟨q, j, none⟩) : SPd z p q x m Y := by
  obtain ⟨h0, h1, h2, h3, h4, h5, h7, h8, h9⟩ := h
  exact ⟨(hz _).trans h0, (hz _).trans h1, (hz _).trans h2, (hz _).trans h3, (hz _).trans h4, (hz _).trans h5, (hp _).trans h7, (hg _).trans h8, (hg _).trans h9⟩
theorem spd_allocD {z p q : Nat} {x : In5} {m : M} {X : World} (h : SPd z p q x m X.drew) (o : Obj) (hz : z < X.heap.size) (hp : p < X.heap.size) (hg : q < X.heap.size) : SPd z p q x m (X.alloc o).drew :=
  spd_same h (fun j => World.cell?_alloc_lt X o ⟨z, j, none⟩ hz) (fun j => World.cell?_alloc_lt X o ⟨p, j, none⟩ hp) (fun j => World.cell?_alloc_lt X o ⟨q, j, none⟩ hg)
theorem spd_alloc {z p q : Nat} {x : In5} {m : M} {X : World} (h : SPd z p q x m X) (o : Obj) (hz : z < X.heap.size) (hp : p < X.heap.size) (hg : q < X.heap.size) : SPd z p q x m (X.alloc o) :=
  spd_same h (fun j => World.cell?_alloc_lt X o ⟨z, j, none⟩ hz) (fun j => World.cell?_alloc_lt X o ⟨p, j, none⟩ hp) (fun j => World.cell?_alloc_lt X o ⟨q, j, none⟩ hg)
theorem spd_set5 {z p q g : Nat} {x : In5} {m : M} {X : World} (h : SPd z p q x m X) (hz : g ≠ z) (hp : g ≠ p) (hg : g ≠ q) (a b c d e : Value) : SPd z p q x m (((((X.setCell ⟨g, 0, none⟩ a).setCell ⟨g, 1, none⟩ b).setCell ⟨g, 2, none⟩ c).setCell ⟨g, 3, none⟩ d).setCell ⟨g, 4, none⟩ e) := by
  have k : ∀ (q : Nat), g ≠ q → ∀ j (Y : World) (i : Nat) (u : Value), (Y.setCell ⟨g, i, none⟩ u).cell? ⟨q, j, none⟩ = Y.cell? ⟨q, j, none⟩ := fun q hq j Y i u => World.cell?_setCell_other Y ⟨g, i, none⟩ ⟨q, j, none⟩ u (fun e => hq (by cases e; rfl))
  exact spd_same h (fun j => by rw [k z hz, k z hz, k z hz, k z hz, k z hz]) (fun j => by rw [k p hp, k p hp, k p hp, k p hp, k p hp]) (fun j => by rw [k _ hg, k _ hg, k _ hg, k _ hg, k _ hg])
theorem min_form (n : Nat) : ((min (n + 3) 1024 : Nat) : Int) = (if (1024 : Int) < (n : Int) + 1 + 2 then 1024 else (n : Int) + 1 + 2) := by split <;> omega
/-- What the loop over the slots keeps. -/
structure PgR (B p : Nat) (b : List In5) (m0 : M) (w : World) (V0 : Vs) (w0 : World) (i : Nat) (m : M) (j : Bool) (V : Vs) (wr : World) : Prop where
  go : slots (b.drop i) m j = slots b m0 false
  ok : Ok m
  fb : Fb i m.fl
  out : m.out.length ≤ m0.out.length + i
  sa : SA B wr p m V
  be : Below B w wr
  st : m.stop = 0
  k : K27 p w wr
  kb : KeepB p w0 V0 wr V
  R : m.R = m0.R
section
variable {B p i : Nat} {b : List In5} {m0 m : M} {w w0 wr : World} {V0 V : Vs} {j : Bool}
theorem slots_cons (x : In5) (l : List In5) (m : M) (j : Bool) : slots (x :: l) m j = if (slot x m).2.2 = 0 then slots l (slot x m).1 (j || (slot x m).2.1) else (stop (slot x m).1 (slot x m).2.2, j) := rfl
theorem PgR.next (h : PgR B p b m0 w V0 w0 i m j V wr) (hi : i < b.length) (v : Vi (b.getD i zi)) (ho : m0.out.length + i < 1000000) (h16 : i < 4) {m3 : M} {j3 : Bool} (hs : slot (b.getD i zi) m = (m3, j3, 0)) {W : World} {V3 : Vs} (hS : SA B W p m3 V3) (hb : Below B w W) (hk : K27 p w W) (hkb : KeepB p wr V W V3) : PgR B p b m0 w V0 w0 (i + 1) m3 (j || j3) V3 W := by
  have h1 := slot_ok v h.ok (by have := h.fb.len; omega) (by have := h.out; omega)
  have h2 := slot_fb v h.ok h.fb
  have h3 := slot_out v h.ok
  have h4 := slot_same v h.ok
  have h5 := h.go
  rw [drop_at hi, slots_cons] at h5
  rw [hs] at h1 h2 h3 h4 h5
  rw [if_pos rfl] at h5
  simp only at h1 h2 h3 h4 h5
  exact ⟨h5, h1, h2, by have := h.out; omega, hS, hb, h4.2.2.1.trans h.st, hk, h.kb.trans hkb, h4.1.trans h.R⟩
theorem PgR.stops (h : PgR B p b m0 w V0 w0 i m j V wr) (hi : i < b.length) {m3 : M} {st : Int} (hs : slot (b.getD i zi) m = (m3, false, st)) (h0 : st ≠ 0) : slots b m0 false = (stop m3 st, j) := by
  have h5 := h.go
  rw [drop_at hi, slots_cons] at h5
  rw [hs] at h5
  rw [if_neg h0] at h5
  exact h5.symm
theorem PgR.blk (h : PgR B p b m0 w V0 w0 i m j V wr) {g : Nat} (hg : g < w0.heap.size) (f : Fr g p V0) : wr.heap[g]? = w0.heap[g]? ∧ Fr g p V := h.kb.2 g hg f
theorem bl_ins5 {w : World} {g : Nat} (h : BL w g (bcs (bX b))) (i : Nat) (hi : i < 4) : w.cell? ⟨g, i * 6, none⟩ = some (.int .i64 (b.getD i zi).o) ∧ w.cell? ⟨g, i * 6 + 1, none⟩ = some (.int .i64 (b.getD i zi).d) ∧ w.cell? ⟨g, i * 6 + 2, none⟩ = some (.int .i64 (b.getD i zi).a) ∧ w.cell? ⟨g, i * 6 + 3, none⟩ = some (.int .i64 (b.getD i zi).b) ∧ w.cell? ⟨g, i * 6 + 4, none⟩ = some (.int .i64 (b.getD i zi).m) ∧ w.cell? ⟨g, i * 6 + 5, none⟩ = some (.string ByteArray.empty) := BL.ins h i hi
end
end Go.Proofs.YtbgmdikcbglpiaaGreatDoor
