/-
  Contracts of the page's call do: loads, stores, inputs, outputs, calls, returns. Conditions: the state lies behind the pointer, and may be; the instruction may be.
-/
import Derived.Test.YtbgmdikcbglpiaaGreatDoorPg1
import Derived.Deep.AppendLies
import Derived.Deep.CutBlock
import Derived.Deep.Cut
namespace Go.Proofs.YtbgmdikcbglpiaaGreatDoor
open Go.RowKit

/-- A block apart from a state. -/
structure Fr (g p : Nat) (V : Vs) : Prop where
  p : g ≠ p
  r : g ≠ V.gr
  m : g ≠ V.gm
  i : ob V.ai ≠ some g
  o : ob V.ao ≠ some g
  s : ob V.az ≠ some g
  f : ob V.af ≠ some g
section
variable {B p g : Nat} {w w' X : World} {m : M} {V : Vs}
theorem SA.fresh (h : SA B w p m V) (hg : w.heap.size ≤ g) : Fr g p V := by
  have h1 := h.lt
  have h2 := h.gr_lt
  have h3 := h.gm_lt
  refine ⟨by omega, by omega, by omega, fun e => ?_, fun e => ?_, fun e => ?_, fun e => ?_⟩
  · have := h.hi.lt g (by rw [own_ob]; exact e); omega
  · have := h.ho.lt g (by rw [own_ob]; exact e); omega
  · have := h.hs.lt g (by rw [own_ob]; exact e); omega
  · have := h.hf.lt g (by rw [own_ob]; exact e); omega
theorem SA.setO (h : SA B X p m V) (f : Fr g p V) (j : Nat) (u : Value) : SA B (X.setCell ⟨g, j, none⟩ u) p m V := by
  obtain ⟨T, hb⟩ := h.blk
  have hg := grown_set X g j u
  exact { h with
    blk := ⟨T, (hg.block p (lt_of_heap hb) (by intro e; cases e; exact f.p rfl)).trans hb⟩
    hr := keep_row h.hr hg (ap_some (by simp [ob]; exact fun e => f.r e.symm)), hm := keep_row h.hm hg (ap_some (by simp [ob]; exact fun e => f.m e.symm)), hi := keep_row h.hi hg (ap_some f.i), ho := keep_row h.ho hg (ap_some f.o), hs := keep_row h.hs hg (ap_some f.s), hf := keep_row h.hf hg (ap_some f.f) }
theorem Far.setO (h : Far p V w w') (hg : w.heap.size ≤ g) (j : Nat) (u : Value) : Far p V w (w'.setCell ⟨g, j, none⟩ u) :=
  ⟨by simpa using h.1, fun k hk a b c d => (heap_setCell_other w' ⟨g, j, none⟩ k u (fun e => by simp at e; omega)).trans (h.2 k hk a b c d)⟩
theorem SA.set5 (h : SA B X p m V) (f : Fr g p V) (a b c d e : Value) : SA B (((((X.setCell ⟨g, 0, none⟩ a).setCell ⟨g, 1, none⟩ b).setCell ⟨g, 2, none⟩ c).setCell ⟨g, 3, none⟩ d).setCell ⟨g, 4, none⟩ e) p m V :=
  ((((h.setO f 0 a).setO f 1 b).setO f 2 c).setO f 3 d).setO f 4 e
theorem Far.set5 (h : Far p V w X) (hg : w.heap.size ≤ g) (a b c d e : Value) : Far p V w (((((X.setCell ⟨g, 0, none⟩ a).setCell ⟨g, 1, none⟩ b).setCell ⟨g, 2, none⟩ c).setCell ⟨g, 3, none⟩ d).setCell ⟨g, 4, none⟩ e) :=
  ((((h.setO hg 0 a).setO hg 1 b).setO hg 2 c).setO hg 3 d).setO hg 4 e
theorem bel_set5 (h : Below B w X) (hg : B ≤ g) (a b c d e : Value) : Below B w (((((X.setCell ⟨g, 0, none⟩ a).setCell ⟨g, 1, none⟩ b).setCell ⟨g, 2, none⟩ c).setCell ⟨g, 3, none⟩ d).setCell ⟨g, 4, none⟩ e) :=
  ((((h.setCell (by exact hg) a).setCell (by exact hg) b).setCell (by exact hg) c).setCell (by exact hg) d).setCell (by exact hg) e
/-- A block that is one deed. -/
def Dd (w : World) (g : Nat) : Prop := ∃ a b c d e, w.heap[g]? = some (.cells #[a, b, c, d, e] 91 (0, 0))
theorem Dd.c (h : Dd w g) : (∃ a, w.cell? ⟨g, 0, none⟩ = some a) ∧ (∃ a, w.cell? ⟨g, 1, none⟩ = some a) ∧ (∃ a, w.cell? ⟨g, 2, none⟩ = some a) ∧ (∃ a, w.cell? ⟨g, 3, none⟩ = some a) ∧ (∃ a, w.cell? ⟨g, 4, none⟩ = some a) := by
  obtain ⟨a, b, c, d, e, hb⟩ := h
  exact ⟨⟨_, cell_of_row w g 0 _ _ _ hb⟩, ⟨_, cell_of_row w g 1 _ _ _ hb⟩, ⟨_, cell_of_row w g 2 _ _ _ hb⟩, ⟨_, cell_of_row w g 3 _ _ _ hb⟩, ⟨_, cell_of_row w g 4 _ _ _ hb⟩⟩
theorem Dd.f (h : Dd w g) (j : Nat) : w.frozen? ⟨g, j, none⟩ = false := by obtain ⟨a, b, c, d, e, hb⟩ := h; exact frozen_of_row w g j _ _ hb
theorem Dd.keep (h : Dd w g) {r : Option Nat} (hg : w.grownBy w' r) (hr : r ≠ some g) : Dd w' g := by
  obtain ⟨a, b, c, d, e, hb⟩ := h
  exact ⟨a, b, c, d, e, (hg.block g (lt_of_heap hb) (fun e => hr e.symm)).trans hb⟩
theorem Dd.lt (h : Dd w g) : g < w.heap.size := by obtain ⟨a, b, c, d, e, hb⟩ := h; exact lt_of_heap hb
end
/-- append of one element to a row of one's own. -/
theorem app_lies (t e : TypeId) (bytes : Nat) (z : Value) (hinfo : (Tryz.prog.info? e).map (fun i => (i.zero, i.size, i.bytes)) = some (some z, 1, bytes)) (hzs : z.cells.size = 1) (hby : bytes ≤ 16) (ht : Tryz.prog.underlying t = some (.slice e))
    {ops : Array Oper} {rest : List Oper} {o : Oper} {a : Act} {Q : Exit → Act → World → Prop} (hgd : o.guard = none) (s x : Operand) (ho : o.op = .call { callee := .builtin .append, args := #[s, x], argTypes := #[t, t] })
    (W : World) (B n c : Nat) (va : Option Addr) (xs : List Value) (u : Value) (hs : a.eval s = .slice va n c) (hown : W.ownsRow B e 1 (.slice va n c) n xs) (hn : n ≤ 2000000) (hu : u.oneCell' = true) (g0 : Nat) (hx : a.eval x = .slice (some ⟨g0, 0, none⟩) 1 1) (hg0 : W.heap.size = g0) (hbase : B ≤ W.heap.size)
    (h : ∀ g cap w', w'.ownsRow B e 1 (.slice (some ⟨g, 0, none⟩) (n + 1) cap) (n + 1) (xs ++ [u]) → (W.alloc (.cells #[u] e)).grownBy w' (ob va) → (ob va = some g ∨ g = (W.alloc (.cells #[u] e)).heap.size) → g < w'.heap.size → wpList Tryz.prog ops Q rest (a.put o.dst (.slice (some ⟨g, 0, none⟩) (n + 1) cap)) w') :
    wpList Tryz.prog ops Q (o :: rest) a (W.alloc (.cells #[u] e)) := by
  subst hg0
  obtain ⟨i, hi, he⟩ := Option.map_eq_some_iff.1 hinfo
  simp only [Prod.mk.injEq] at he
  refine wpList_append_lies _ hgd s x t ho B e i z 1 bytes ht hi he.1 he.2.1 he.2.2 hzs (by decide) (.slice va n c) n xs hs (hown.alloc _) ⟨W.heap.size, 0, none⟩ 1 1 [u] hx rfl (World.news_of_block (heap_alloc_new W _)) (fun y hy => by simp at hy; subst hy; exact hu) (by decide) (by unfold maxLen; omega) ?_ (by simp; omega) _ rfl ?_
  · have : (n + 1) * bytes ≤ 2000001 * 16 := Nat.mul_le_mul (by omega) hby
    omega
  · rw [own_ob]
    exact h
section
variable {B p : Nat} {w W w7 : World} {m : M} {V : Vs}
theorem farO (h : SA B W p m V) (hg : W.grownBy w7 (ob V.ao)) (j : Nat) {u : Value} (hu : (stCells m V)[j]? = some u) : w7.cell? ⟨p, j, none⟩ = some u ∧ w7.frozen? ⟨p, j, none⟩ = false :=
  ⟨((hg.cell_far ⟨p, j, none⟩ h.lt (fun e => h.po e.symm)).trans (h.cell j)).trans hu, (hg.frozen_far ⟨p, j, none⟩ h.lt (fun e => h.po e.symm)).trans (h.frozen j)⟩
theorem farS (h : SA B W p m V) (hg : W.grownBy w7 (ob V.az)) (j : Nat) {u : Value} (hu : (stCells m V)[j]? = some u) : w7.cell? ⟨p, j, none⟩ = some u ∧ w7.frozen? ⟨p, j, none⟩ = false :=
  ⟨((hg.cell_far ⟨p, j, none⟩ h.lt (fun e => h.ps e.symm)).trans (h.cell j)).trans hu, (hg.frozen_far ⟨p, j, none⟩ h.lt (fun e => h.ps e.symm)).trans (h.frozen j)⟩
theorem belO {o : Obj} (hb : Below B w W) (h : SA B W p m V) (hg : (W.alloc o).grownBy w7 (ob V.ao)) : Below B w w7 :=
  (hb.alloc h.B_le o).grown hg (by have := h.B_le; simp; omega) (fun k hk => (h.ho.lt k (by rw [own_ob]; exact hk)).1)
theorem belS {o : Obj} (hb : Below B w W) (h : SA B W p m V) (hg : (W.alloc o).grownBy w7 (ob V.az)) : Below B w w7 :=
  (hb.alloc h.B_le o).grown hg (by have := h.B_le; simp; omega) (fun k hk => (h.hs.lt k (by rw [own_ob]; exact hk)).1)
end
set_option maxRecDepth 20000 in
set_option maxHeartbeats 1000000 in
theorem do_ldbad (B p : Nat) (x : In5) (a b back : Int) (m : M) (V : Vs) (w : World) (h : SA B w p m V) (ho : x.o = 24) (n : Nat) (e1 : (a + x.m % 4294967296) % 4294967296 = (n : Int)) (hn : 256 ≤ n) : Calls Tryz.prog 78 #[.pointer (some ⟨p, 0, none⟩), .agg x.cells, .int .u32 a, .int .u32 b, .int .i64 back] w (DoPost B p V false 0 false 0 2 m w) := by
  have t22 : ((x.o : Int) == 22) = false := by simp; omega
  have t23 : ((x.o : Int) == 23) = false := by simp; omega
  have t24 : ((x.o : Int) == 24) = true := by simp; omega
  have t25 : ((x.o : Int) == 25) = false := by simp; omega
  have t26 : ((x.o : Int) == 26) = false := by simp; omega
  have t27 : ((x.o : Int) == 27) = false := by simp; omega
  have t28 : ((x.o : Int) == 28) = false := by simp; omega
  have t29 : ((x.o : Int) == 29) = false := by simp; omega
  have t30 : ((x.o : Int) == 30) = false := by simp; omega
  have t31 : ((x.o : Int) == 31) = false := by simp; omega
  have t32 : ((x.o : Int) == 32) = false := by simp; omega
  have t33 : ((x.o : Int) == 33) = false := by simp; omega
  have dd : decide ((256 : Int) ≤ (n : Int)) = true := by simp; omega
  have H := Lib.hid h
  clear h
  simp only [In5.cells]
  go_enter Tryz.func78, Tryz.ntmps78
  go_wp2_with (first | (go_at_call 93; refine (Wo.has_no _ _ (by omega)).mono ?_; rintro e w' ⟨rfl, rfl⟩) | (go_at_call 95; refine (Pa.refhas_no _ _ (by omega)).mono ?_; rintro e w' ⟨rfl, rfl⟩))
  exact bodyPost_ret (v := .agg #[.bool false, .int .u32 0, .bool false, .int .i64 0, .int .i64 2]) (by simp [results, Tryz.results78, go_sem]) rfl ⟨rfl, ⟨_, (H.out.alloc _).alloc _, rfl, rfl, Sh.refl _ _⟩, (below_two _ _ _).mono H.out.B_le, (Far.refl.alloc _).alloc _⟩
set_option maxRecDepth 20000 in
set_option maxHeartbeats 1000000 in
theorem do_stbad (B p : Nat) (x : In5) (a b back : Int) (m : M) (V : Vs) (w : World) (h : SA B w p m V) (ho : x.o = 25) (n : Nat) (e1 : (a + x.m % 4294967296) % 4294967296 = (n : Int)) (hn : 256 ≤ n) : Calls Tryz.prog 78 #[.pointer (some ⟨p, 0, none⟩), .agg x.cells, .int .u32 a, .int .u32 b, .int .i64 back] w (DoPost B p V false 0 false 0 2 m w) := by
  have t22 : ((x.o : Int) == 22) = false := by simp; omega
  have t23 : ((x.o : Int) == 23) = false := by simp; omega
  have t24 : ((x.o : Int) == 24) = false := by simp; omega
  have t25 : ((x.o : Int) == 25) = true := by simp; omega
  have t26 : ((x.o : Int) == 26) = false := by simp; omega
  have t27 : ((x.o : Int) == 27) = false := by simp; omega
  have t28 : ((x.o : Int) == 28) = false := by simp; omega
  have t29 : ((x.o : Int) == 29) = false := by simp; omega
  have t30 : ((x.o : Int) == 30) = false := by simp; omega
  have t31 : ((x.o : Int) == 31) = false := by simp; omega
  have t32 : ((x.o : Int) == 32) = false := by simp; omega
  have t33 : ((x.o : Int) == 33) = false := by simp; omega
  have dd : decide ((256 : Int) ≤ (n : Int)) = true := by simp; omega
  have H := Lib.hid h
  clear h
  simp only [In5.cells]
  go_enter Tryz.func78, Tryz.ntmps78
  go_wp2_with (first | (go_at_call 93; refine (Wo.has_no _ _ (by omega)).mono ?_; rintro e w' ⟨rfl, rfl⟩) | (go_at_call 95; refine (Pa.refhas_no _ _ (by omega)).mono ?_; rintro e w' ⟨rfl, rfl⟩))
  exact bodyPost_ret (v := .agg #[.bool false, .int .u32 0, .bool false, .int .i64 0, .int .i64 2]) (by simp [results, Tryz.results78, go_sem]) rfl ⟨rfl, ⟨_, (H.out.alloc _).alloc _, rfl, rfl, Sh.refl _ _⟩, (below_two _ _ _).mono H.out.B_le, (Far.refl.alloc _).alloc _⟩
set_option maxRecDepth 20000 in
set_option maxHeartbeats 1000000 in
theorem do_ld (B p : Nat) (x : In5) (a b back : Int) (m : M) (V : Vs) (w : World) (h : SA B w p m V) (k : Ok m) (ho : x.o = 24) (n : Nat) (e1 : (a + x.m % 4294967296) % 4294967296 = (n : Int)) (hn : n < 256) : Calls Tryz.prog 78 #[.pointer (some ⟨p, 0, none⟩), .agg x.cells, .int .u32 a, .int .u32 b, .int .i64 back] w (DoPost B p V true (m.word n) false 0 0 m w) := by
  have t22 : ((x.o : Int) == 22) = false := by simp; omega
  have t23 : ((x.o : Int) == 23) = false := by simp; omega
  have t24 : ((x.o : Int) == 24) = true := by simp; omega
  have t25 : ((x.o : Int) == 25) = false := by simp; omega
  have t26 : ((x.o : Int) == 26) = false := by simp; omega
  have t27 : ((x.o : Int) == 27) = false := by simp; omega
  have t28 : ((x.o : Int) == 28) = false := by simp; omega
  have t29 : ((x.o : Int) == 29) = false := by simp; omega
  have t30 : ((x.o : Int) == 30) = false := by simp; omega
  have t31 : ((x.o : Int) == 31) = false := by simp; omega
  have t32 : ((x.o : Int) == 32) = false := by simp; omega
  have t33 : ((x.o : Int) == 33) = false := by simp; omega
  have dd : decide ((256 : Int) ≤ (n : Int)) = false := by simp; omega
  have i0 : (0 : Int) ≤ (n : Int) := by omega
  have i1 : (n : Int) < 256 := by omega
  have rm := h.word k hn
  have rf := h.wordF n
  have hgm := h.gm_lt.2
  have hpl := h.lt
  have c1 : w.cell? ⟨p, 1, none⟩ = some (.slice (some ⟨V.gm, 0, none⟩) 256 V.cm) := h.cell 1
  have H := Lib.hid h
  clear h
  simp only [In5.cells]
  go_enter Tryz.func78, Tryz.ntmps78
  go_wp2_with (first | (go_at_call 93; refine (Wo.has_no _ _ (by omega)).mono ?_; rintro e w' ⟨rfl, rfl⟩) | (go_at_call 95; refine (Pa.refhas_no _ _ (by omega)).mono ?_; rintro e w' ⟨rfl, rfl⟩))
  exact bodyPost_ret (v := .agg #[.bool true, .int .u32 (m.word n), .bool false, .int .i64 0, .int .i64 0]) (by simp [results, Tryz.results78, go_sem]) rfl ⟨rfl, ⟨_, (H.out.alloc _).alloc _, rfl, rfl, Sh.refl _ _⟩, (below_two _ _ _).mono H.out.B_le, (Far.refl.alloc _).alloc _⟩
set_option maxRecDepth 20000 in
set_option maxHeartbeats 1000000 in
theorem do_st (B p : Nat) (x : In5) (a b back : Int) (m : M) (V : Vs) (w : World) (h : SA B w p m V) (k : Ok m) (ho : x.o = 25) (n : Nat) (e1 : (a + x.m % 4294967296) % 4294967296 = (n : Int)) (hn : n < 256) : Calls Tryz.prog 78 #[.pointer (some ⟨p, 0, none⟩), .agg x.cells, .int .u32 a, .int .u32 b, .int .i64 back] w (DoPost B p V false 0 false 0 0 { m with mem := m.mem.set n b } w) := by
  have t22 : ((x.o : Int) == 22) = false := by simp; omega
  have t23 : ((x.o : Int) == 23) = false := by simp; omega
  have t24 : ((x.o : Int) == 24) = false := by simp; omega
  have t25 : ((x.o : Int) == 25) = true := by simp; omega
  have t26 : ((x.o : Int) == 26) = false := by simp; omega
  have t27 : ((x.o : Int) == 27) = false := by simp; omega
  have t28 : ((x.o : Int) == 28) = false := by simp; omega
  have t29 : ((x.o : Int) == 29) = false := by simp; omega
  have t30 : ((x.o : Int) == 30) = false := by simp; omega
  have t31 : ((x.o : Int) == 31) = false := by simp; omega
  have t32 : ((x.o : Int) == 32) = false := by simp; omega
  have t33 : ((x.o : Int) == 33) = false := by simp; omega
  have dd : decide ((256 : Int) ≤ (n : Int)) = false := by simp; omega
  have i0 : (0 : Int) ≤ (n : Int) := by omega
  have i1 : (n : Int) < 256 := by omega
  have rm := h.word k hn
  have rf := h.wordF n
  have hgm := h.gm_lt.2
  have hpl := h.lt
  have c1 : w.cell? ⟨p, 1, none⟩ = some (.slice (some ⟨V.gm, 0, none⟩) 256 V.cm) := h.cell 1
  have H := Lib.hid h
  clear h
  simp only [In5.cells]
  go_enter Tryz.func78, Tryz.ntmps78
  go_wp2_with (first | (go_at_call 93; refine (Wo.has_no _ _ (by omega)).mono ?_; rintro e w' ⟨rfl, rfl⟩) | (go_at_call 95; refine (Pa.refhas_no _ _ (by omega)).mono ?_; rintro e w' ⟨rfl, rfl⟩))
  refine bodyPost_ret (v := .agg #[.bool false, .int .u32 0, .bool false, .int .i64 0, .int .i64 0]) (by simp [results, Tryz.results78, go_sem]) rfl ⟨rfl, ⟨V, ?_, rfl, rfl, Sh.refl _ _⟩, ?_, ?_⟩
  · exact ((H.out.setM n b).alloc _).alloc _
  · exact (((Below.refl B w).setCell (p := ⟨V.gm, n, none⟩) (by exact H.out.gm_lt.1) _).alloc (by simp; exact H.out.B_le) _).alloc (by simp; have := H.out.B_le; omega) _
  · exact ((Far.refl.setM n (.int .u32 b)).alloc _).alloc _
set_option maxRecDepth 20000 in
set_option maxHeartbeats 1000000 in
theorem do_callfull (B p : Nat) (x : In5) (a b back : Int) (m : M) (V : Vs) (w : World) (h : SA B w p m V) (ho : x.o = 31) (hf : m.st.length = 16) : Calls Tryz.prog 78 #[.pointer (some ⟨p, 0, none⟩), .agg x.cells, .int .u32 a, .int .u32 b, .int .i64 back] w (DoPost B p V false 0 false 0 4 m w) := by
  have t22 : ((x.o : Int) == 22) = false := by simp; omega
  have t23 : ((x.o : Int) == 23) = false := by simp; omega
  have t24 : ((x.o : Int) == 24) = false := by simp; omega
  have t25 : ((x.o : Int) == 25) = false := by simp; omega
  have t26 : ((x.o : Int) == 26) = false := by simp; omega
  have t27 : ((x.o : Int) == 27) = false := by simp; omega
  have t28 : ((x.o : Int) == 28) = false := by simp; omega
  have t29 : ((x.o : Int) == 29) = false := by simp; omega
  have t30 : ((x.o : Int) == 30) = false := by simp; omega
  have t31 : ((x.o : Int) == 31) = true := by simp; omega
  have t32 : ((x.o : Int) == 32) = false := by simp; omega
  have t33 : ((x.o : Int) == 33) = false := by simp; omega
  have hpl := h.lt
  have c6 : w.cell? ⟨p, 6, none⟩ = some (.slice V.az m.st.length V.cs) := h.cell 6
  rw [hf] at c6
  generalize V.az = az at c6
  generalize V.cs = cs at c6
  clear hf
  have H := Lib.hid h
  clear h
  simp only [In5.cells]
  go_enter Tryz.func78, Tryz.ntmps78
  go_wp2_with (first | (go_at_call 93; refine (Wo.has_no _ _ (by omega)).mono ?_; rintro e w' ⟨rfl, rfl⟩) | (go_at_call 95; refine (Pa.refhas_no _ _ (by omega)).mono ?_; rintro e w' ⟨rfl, rfl⟩))
  exact bodyPost_ret (v := .agg #[.bool false, .int .u32 0, .bool false, .int .i64 0, .int .i64 4]) (by simp [results, Tryz.results78, go_sem]) rfl ⟨rfl, ⟨_, (H.out.alloc _).alloc _, rfl, rfl, Sh.refl _ _⟩, (below_two _ _ _).mono H.out.B_le, (Far.refl.alloc _).alloc _⟩
set_option maxRecDepth 20000 in
set_option maxHeartbeats 1000000 in
theorem do_retnone (B p : Nat) (x : In5) (a b back : Int) (m : M) (V : Vs) (w : World) (h : SA B w p m V) (ho : x.o = 32) (hf : m.st = []) : Calls Tryz.prog 78 #[.pointer (some ⟨p, 0, none⟩), .agg x.cells, .int .u32 a, .int .u32 b, .int .i64 back] w (DoPost B p V false 0 false 0 4 m w) := by
  have t22 : ((x.o : Int) == 22) = false := by simp; omega
  have t23 : ((x.o : Int) == 23) = false := by simp; omega
  have t24 : ((x.o : Int) == 24) = false := by simp; omega
  have t25 : ((x.o : Int) == 25) = false := by simp; omega
  have t26 : ((x.o : Int) == 26) = false := by simp; omega
  have t27 : ((x.o : Int) == 27) = false := by simp; omega
  have t28 : ((x.o : Int) == 28) = false := by simp; omega
  have t29 : ((x.o : Int) == 29) = false := by simp; omega
  have t30 : ((x.o : Int) == 30) = false := by simp; omega
  have t31 : ((x.o : Int) == 31) = false := by simp; omega
  have t32 : ((x.o : Int) == 32) = true := by simp; omega
  have t33 : ((x.o : Int) == 33) = false := by simp; omega
  have hpl := h.lt
  have c6 : w.cell? ⟨p, 6, none⟩ = some (.slice V.az m.st.length V.cs) := h.cell 6
  rw [hf] at c6
  simp only [List.length_nil] at c6
  generalize V.az = az at c6
  generalize V.cs = cs at c6
  clear hf
  have H := Lib.hid h
  clear h
  simp only [In5.cells]
  go_enter Tryz.func78, Tryz.ntmps78
  go_wp2_with (first | (go_at_call 93; refine (Wo.has_no _ _ (by omega)).mono ?_; rintro e w' ⟨rfl, rfl⟩) | (go_at_call 95; refine (Pa.refhas_no _ _ (by omega)).mono ?_; rintro e w' ⟨rfl, rfl⟩))
  exact bodyPost_ret (v := .agg #[.bool false, .int .u32 0, .bool false, .int .i64 0, .int .i64 4]) (by simp [results, Tryz.results78, go_sem]) rfl ⟨rfl, ⟨_, (H.out.alloc _).alloc _, rfl, rfl, Sh.refl _ _⟩, (below_two _ _ _).mono H.out.B_le, (Far.refl.alloc _).alloc _⟩
set_option maxRecDepth 20000 in
set_option maxHeartbeats 1000000 in
theorem do_in0 (B p : Nat) (x : In5) (a b back : Int) (m : M) (V : Vs) (w : World) (h : SA B w p m V) (ho : x.o = 26) (hk : m.tk = m.inp.length) : Calls Tryz.prog 78 #[.pointer (some ⟨p, 0, none⟩), .agg x.cells, .int .u32 a, .int .u32 b, .int .i64 back] w (DoPost B p V true 0 false 0 0 m w) := by
  have t22 : ((x.o : Int) == 22) = false := by simp; omega
  have t23 : ((x.o : Int) == 23) = false := by simp; omega
  have t24 : ((x.o : Int) == 24) = false := by simp; omega
  have t25 : ((x.o : Int) == 25) = false := by simp; omega
  have t26 : ((x.o : Int) == 26) = true := by simp; omega
  have t27 : ((x.o : Int) == 27) = false := by simp; omega
  have t28 : ((x.o : Int) == 28) = false := by simp; omega
  have t29 : ((x.o : Int) == 29) = false := by simp; omega
  have t30 : ((x.o : Int) == 30) = false := by simp; omega
  have t31 : ((x.o : Int) == 31) = false := by simp; omega
  have t32 : ((x.o : Int) == 32) = false := by simp; omega
  have t33 : ((x.o : Int) == 33) = false := by simp; omega
  have HW1 := Lib.hid (fun W => Wo.has_no (x.o : Int) W (by omega))
  have HW2 := Lib.hid (fun W => Pa.refhas_no (x.o : Int) W (by omega))
  clear ho
  have H := Lib.hid h
  clear h
  simp only [In5.cells]
  go_enter Tryz.func78, Tryz.ntmps78
  go_wp2_with (first | (go_at_call 93; refine (HW1.out _).mono ?_; rintro e w' ⟨rfl, rfl⟩) | (go_at_call 95; refine (HW2.out _).mono ?_; rintro e w' ⟨rfl, rfl⟩))
  generalize hW : (w.alloc (.cells #[.int .i64 x.o, .int .i64 x.d, .int .i64 x.a, .int .i64 x.b, .int .i64 x.m, .string ByteArray.empty] 55)).alloc (.cells #[.bool false, .int .u32 0, .bool false, .int .i64 0, .int .i64 0] 91) = W
  have SW := Lib.hid (show SA B W p m V by rw [← hW]; exact (H.out.alloc _).alloc _)
  have HB := Lib.hid (show Below B w W by rw [← hW]; exact (below_two _ _ _).mono H.out.B_le)
  have FW := Lib.hid (show Far p V w W by rw [← hW]; exact (Far.refl.alloc _).alloc _)
  have DW := Lib.hid (show Dd W (w.heap.size + 1) by rw [← hW]; exact ⟨_, _, _, _, _, by have h0 := heap_alloc_new (w.alloc (.cells #[.int .i64 x.o, .int .i64 x.d, .int .i64 x.a, .int .i64 x.b, .int .i64 x.m, .string ByteArray.empty] 55)) (.cells #[.bool false, .int .u32 0, .bool false, .int .i64 0, .int .i64 0] 91); simpa using h0⟩)
  have xm : W.cell? ⟨w.heap.size, 4, none⟩ = some (.int .i64 x.m) := by rw [← hW]; simp [go_sem]
  have FR := Lib.hid (show Fr (w.heap.size + 1) p V from H.out.fresh (by omega))
  have BG := Lib.hid (show B ≤ w.heap.size + 1 by have := H.out.B_le; omega)
  have gl : w.heap.size + 1 < W.heap.size := DW.out.lt
  have gp : w.heap.size + 1 ≠ p := FR.out.p
  have pl : p < W.heap.size := SW.out.lt
  have ep : w.heap.size ≠ p := by have := H.out.lt; omega
  clear hW
  have c2 : W.cell? ⟨p, 2, none⟩ = some (.slice V.ai m.inp.length V.ci) := SW.out.cell 2
  have c3 : W.cell? ⟨p, 3, none⟩ = some (.int .i64 m.tk) := SW.out.cell 3
  rw [hk] at c3
  have dd : decide ((m.inp.length : Int) < (m.inp.length : Int)) = false := by simp
  generalize V.ai = ai at c2
  generalize V.ci = ci at c2
  generalize m.inp.length = n at c2 c3 dd
  clear hk
  obtain ⟨⟨v0, y0⟩, ⟨v1, y1⟩, ⟨v2, y2⟩, ⟨v3, y3⟩, ⟨v4, y4⟩⟩ := DW.out.c
  have z0 := DW.out.f 0
  have z1 := DW.out.f 1
  have z2 := DW.out.f 2
  have z3 := DW.out.f 3
  have z4 := DW.out.f 4
  go_quiet (fail)
  go_wp2
  refine bodyPost_ret (v := .agg #[.bool true, .int .u32 0, .bool false, .int .i64 0, .int .i64 0]) (by simp [results, Tryz.results78, go_sem, y0, y1, y2, y3, y4]) rfl ⟨rfl, ⟨_, ?_, rfl, rfl, Sh.refl _ _⟩, ?_, ?_⟩
  · exact (SW.out.drewN _).set5 FR.out _ _ _ _ _
  · exact bel_set5 (below_drewN HB.out _) BG.out _ _ _ _ _
  · exact (FW.out.drewN _).set5 (by omega) _ _ _ _ _
set_option maxRecDepth 20000 in
set_option maxHeartbeats 1000000 in
theorem do_in1 (B p : Nat) (x : In5) (a b back : Int) (m : M) (V : Vs) (w : World) (h : SA B w p m V) (k : Ok m) (ho : x.o = 26) (hk : m.tk < m.inp.length) : Calls Tryz.prog 78 #[.pointer (some ⟨p, 0, none⟩), .agg x.cells, .int .u32 a, .int .u32 b, .int .i64 back] w (DoPost B p V true (m.input m.tk) false 0 0 { m with tk := m.tk + 1 } w) := by
  have t22 : ((x.o : Int) == 22) = false := by simp; omega
  have t23 : ((x.o : Int) == 23) = false := by simp; omega
  have t24 : ((x.o : Int) == 24) = false := by simp; omega
  have t25 : ((x.o : Int) == 25) = false := by simp; omega
  have t26 : ((x.o : Int) == 26) = true := by simp; omega
  have t27 : ((x.o : Int) == 27) = false := by simp; omega
  have t28 : ((x.o : Int) == 28) = false := by simp; omega
  have t29 : ((x.o : Int) == 29) = false := by simp; omega
  have t30 : ((x.o : Int) == 30) = false := by simp; omega
  have t31 : ((x.o : Int) == 31) = false := by simp; omega
  have t32 : ((x.o : Int) == 32) = false := by simp; omega
  have t33 : ((x.o : Int) == 33) = false := by simp; omega
  have HW1 := Lib.hid (fun W => Wo.has_no (x.o : Int) W (by omega))
  have HW2 := Lib.hid (fun W => Pa.refhas_no (x.o : Int) W (by omega))
  clear ho
  have H := Lib.hid h
  clear h
  simp only [In5.cells]
  go_enter Tryz.func78, Tryz.ntmps78
  go_wp2_with (first | (go_at_call 93; refine (HW1.out _).mono ?_; rintro e w' ⟨rfl, rfl⟩) | (go_at_call 95; refine (HW2.out _).mono ?_; rintro e w' ⟨rfl, rfl⟩))
  generalize hW : (w.alloc (.cells #[.int .i64 x.o, .int .i64 x.d, .int .i64 x.a, .int .i64 x.b, .int .i64 x.m, .string ByteArray.empty] 55)).alloc (.cells #[.bool false, .int .u32 0, .bool false, .int .i64 0, .int .i64 0] 91) = W
  have SW := Lib.hid (show SA B W p m V by rw [← hW]; exact (H.out.alloc _).alloc _)
  have HB := Lib.hid (show Below B w W by rw [← hW]; exact (below_two _ _ _).mono H.out.B_le)
  have FW := Lib.hid (show Far p V w W by rw [← hW]; exact (Far.refl.alloc _).alloc _)
  have DW := Lib.hid (show Dd W (w.heap.size + 1) by rw [← hW]; exact ⟨_, _, _, _, _, by have h0 := heap_alloc_new (w.alloc (.cells #[.int .i64 x.o, .int .i64 x.d, .int .i64 x.a, .int .i64 x.b, .int .i64 x.m, .string ByteArray.empty] 55)) (.cells #[.bool false, .int .u32 0, .bool false, .int .i64 0, .int .i64 0] 91); simpa using h0⟩)
  have xm : W.cell? ⟨w.heap.size, 4, none⟩ = some (.int .i64 x.m) := by rw [← hW]; simp [go_sem]
  have FR := Lib.hid (show Fr (w.heap.size + 1) p V from H.out.fresh (by omega))
  have BG := Lib.hid (show B ≤ w.heap.size + 1 by have := H.out.B_le; omega)
  have gl : w.heap.size + 1 < W.heap.size := DW.out.lt
  have gp : w.heap.size + 1 ≠ p := FR.out.p
  have pl : p < W.heap.size := SW.out.lt
  have ep : w.heap.size ≠ p := by have := H.out.lt; omega
  clear hW
  have c2 : W.cell? ⟨p, 2, none⟩ = some (.slice V.ai m.inp.length V.ci) := SW.out.cell 2
  have c3 : W.cell? ⟨p, 3, none⟩ = some (.int .i64 m.tk) := SW.out.cell 3
  have f3 := SW.out.frozen 3
  have hpb := SW.out.hp
  obtain ⟨g, hg, hgl, hgc⟩ := SW.out.input hk
  have hgp : g ≠ p := by intro e; subst e; exact SW.out.pi (by rw [hg]; rfl)
  rw [hg] at c2
  have hn := k.inp
  have dd : decide ((m.tk : Int) < (m.inp.length : Int)) = true := by simp; omega
  generalize V.ci = ci at c2
  have hk2 : (m.tk : Int) < (m.inp.length : Int) := by omega
  generalize m.inp.length = n at c2 dd hn hk hk2
  have i0 : (0 : Int) ≤ (m.tk : Int) := by omega
  clear hg
  obtain ⟨⟨v0, y0⟩, ⟨v1, y1⟩, ⟨v2, y2⟩, ⟨v3, y3⟩, ⟨v4, y4⟩⟩ := DW.out.c
  have z0 := DW.out.f 0
  have z1 := DW.out.f 1
  have z2 := DW.out.f 2
  have z3 := DW.out.f 3
  have z4 := DW.out.f 4
  go_quiet (fail)
  go_wp2_with fail
  go_quiet (fail)
  go_wp2
  refine bodyPost_ret (v := .agg #[.bool true, .int .u32 (m.input m.tk), .bool false, .int .i64 0, .int .i64 0]) (by simp [results, Tryz.results78, go_sem, y0, y1, y2, y3, y4]) rfl ⟨rfl, ⟨_, ?_, rfl, rfl, Sh.refl _ _⟩, ?_, ?_⟩
  · rename_i nq1
    exact ((SW.out.drewN (nq1 + nq)).setTk (m.tk + 1)).set5 FR.out _ _ _ _ _
  · exact bel_set5 ((below_drewN HB.out _).setCell (p := ⟨p, 3, none⟩) (by exact hpb) _) BG.out _ _ _ _ _
  · exact ((FW.out.drewN _).setP 3 _).set5 (by omega) _ _ _ _ _
set_option maxRecDepth 20000 in
set_option maxHeartbeats 1000000 in
theorem do_ret (B p : Nat) (x : In5) (a b back : Int) (m : M) (V : Vs) (w : World) (h : SA B w p m V) (k : Ok m) (ho : x.o = 32) (n v : Nat) (hk : m.st.length = n + 1) (hv : m.st.getD n 0 = v) : Calls Tryz.prog 78 #[.pointer (some ⟨p, 0, none⟩), .agg x.cells, .int .u32 a, .int .u32 b, .int .i64 back] w (DoPost B p V false 0 true v 0 { m with st := m.st.take n } w) := by
  have t22 : ((x.o : Int) == 22) = false := by simp; omega
  have t23 : ((x.o : Int) == 23) = false := by simp; omega
  have t24 : ((x.o : Int) == 24) = false := by simp; omega
  have t25 : ((x.o : Int) == 25) = false := by simp; omega
  have t26 : ((x.o : Int) == 26) = false := by simp; omega
  have t27 : ((x.o : Int) == 27) = false := by simp; omega
  have t28 : ((x.o : Int) == 28) = false := by simp; omega
  have t29 : ((x.o : Int) == 29) = false := by simp; omega
  have t30 : ((x.o : Int) == 30) = false := by simp; omega
  have t31 : ((x.o : Int) == 31) = false := by simp; omega
  have t32 : ((x.o : Int) == 32) = true := by simp; omega
  have t33 : ((x.o : Int) == 33) = false := by simp; omega
  have HW1 := Lib.hid (fun W => Wo.has_no (x.o : Int) W (by omega))
  have HW2 := Lib.hid (fun W => Pa.refhas_no (x.o : Int) W (by omega))
  clear ho
  have b6 : w.cell? ⟨p, 6, none⟩ = some (.slice V.az m.st.length V.cs) := h.cell 6
  rw [hk] at b6
  have hpl := h.lt
  have HK := Lib.hid hk
  have HV := Lib.hid hv
  have hn := k.st
  rw [hk] at hn
  have hq : (((n + 1 : Nat) : Int) == 0) = false := by simp; omega
  have hq2 : ((n : Int) + 1 == 0) = false := by simp; omega
  clear hk hv k
  have H := Lib.hid h
  clear h
  simp only [In5.cells]
  go_enter Tryz.func78, Tryz.ntmps78
  go_wp2_with (first | (go_at_call 93; refine (HW1.out _).mono ?_; rintro e w' ⟨rfl, rfl⟩) | (go_at_call 95; refine (HW2.out _).mono ?_; rintro e w' ⟨rfl, rfl⟩))
  generalize hW : (w.alloc (.cells #[.int .i64 x.o, .int .i64 x.d, .int .i64 x.a, .int .i64 x.b, .int .i64 x.m, .string ByteArray.empty] 55)).alloc (.cells #[.bool false, .int .u32 0, .bool false, .int .i64 0, .int .i64 0] 91) = W
  have SW := Lib.hid (show SA B W p m V by rw [← hW]; exact (H.out.alloc _).alloc _)
  have HB := Lib.hid (show Below B w W by rw [← hW]; exact (below_two _ _ _).mono H.out.B_le)
  have FW := Lib.hid (show Far p V w W by rw [← hW]; exact (Far.refl.alloc _).alloc _)
  have DW := Lib.hid (show Dd W (w.heap.size + 1) by rw [← hW]; exact ⟨_, _, _, _, _, by have h0 := heap_alloc_new (w.alloc (.cells #[.int .i64 x.o, .int .i64 x.d, .int .i64 x.a, .int .i64 x.b, .int .i64 x.m, .string ByteArray.empty] 55)) (.cells #[.bool false, .int .u32 0, .bool false, .int .i64 0, .int .i64 0] 91); simpa using h0⟩)
  have xm : W.cell? ⟨w.heap.size, 4, none⟩ = some (.int .i64 x.m) := by rw [← hW]; simp [go_sem]
  have FR := Lib.hid (show Fr (w.heap.size + 1) p V from H.out.fresh (by omega))
  have BG := Lib.hid (show B ≤ w.heap.size + 1 by have := H.out.B_le; omega)
  have gl : w.heap.size + 1 < W.heap.size := DW.out.lt
  have gp : w.heap.size + 1 ≠ p := FR.out.p
  have pl : p < W.heap.size := SW.out.lt
  have ep : w.heap.size ≠ p := by have := H.out.lt; omega
  clear hW
  have c6 : W.cell? ⟨p, 6, none⟩ = some (.slice V.az m.st.length V.cs) := SW.out.cell 6
  have f6 := SW.out.frozen 6
  have hpb := SW.out.hp
  obtain ⟨g, hg, hgl, hgc⟩ := SW.out.ret (i := n) (by have := HK.out; omega)
  have hgp : g ≠ p := by intro e; subst e; exact SW.out.ps (by rw [hg]; rfl)
  rw [HV.out] at hgc
  rw [hg, HK.out] at c6
  have hcs := SW.out.caps
  have POP := Lib.hid (fun (X : World) (S : SA B X p m V) => S.pop hg HK.out)
  generalize V.cs = cs at c6 hcs POP
  rw [HK.out] at hcs
  obtain ⟨hc1, hc2⟩ := hcs
  have e1 : wrap64 ((n + 1 : Nat) - 1 : Int) = (n : Int) := by unfold wrap64; omega
  have e2 : IntKind.i64.wrap ((n : Int) + 1 - 1) = (n : Int) := by rw [wrap_i64 _ (by omega) (by omega)]; omega
  have i0 : (0 : Int) ≤ (n : Int) := by omega
  have i1 : (n : Int) < (n : Int) + 1 := by omega
  have i2 : (n : Int) ≤ (cs : Int) := by omega
  clear hg b6 hpl
  go_quiet (fail)
  go_wp2_with fail
  generalize hW2 : W.drewN nq = W2
  have S2 := Lib.hid (show SA B W2 p m V by rw [← hW2]; exact SW.out.drewN _)
  have B2 := Lib.hid (show Below B w W2 by rw [← hW2]; exact below_drewN HB.out _)
  have F2 := Lib.hid (show Far p V w W2 by rw [← hW2]; exact FW.out.drewN _)
  have D2 := Lib.hid (show Dd W2 (w.heap.size + 1) by rw [← hW2]; exact DW.out)
  have d6 : W2.cell? ⟨p, 6, none⟩ = some (.slice (some ⟨g, 0, none⟩) (n + 1) cs) := by rw [← hW2]; exact c6
  have g6 := S2.out.frozen 6
  have pl2 : p < W2.heap.size := S2.out.lt
  have gl2 := D2.out.lt
  clear hW2 c6 f6 hgc hgl xm gl pl
  obtain ⟨⟨v0, y0⟩, ⟨v1, y1⟩, ⟨v2, y2⟩, ⟨v3, y3⟩, ⟨v4, y4⟩⟩ := D2.out.c
  have z0 := D2.out.f 0
  have z1 := D2.out.f 1
  have z2 := D2.out.f 2
  have z3 := D2.out.f 3
  have z4 := D2.out.f 4
  go_region
  go_wp2
  refine bodyPost_ret (v := .agg #[.bool false, .int .u32 0, .bool true, .int .i64 v, .int .i64 0]) (by simp [results, Tryz.results78, go_sem, y0, y1, y2, y3, y4]) rfl ⟨rfl, ⟨_, ?_, rfl, rfl, Sh.refl _ _⟩, ?_, ?_⟩
  · exact ((POP.out _ S2.out).set5 FR.out _ _ _ _ _).drew
  · exact (bel_set5 (B2.out.setCell (p := ⟨p, 6, none⟩) (by exact hpb) _) BG.out _ _ _ _ _).drew
  · exact ((F2.out.setP 6 _).set5 (by omega) _ _ _ _ _).drew
set_option maxRecDepth 20000 in
set_option maxHeartbeats 1000000 in
theorem do_out (B p : Nat) (x : In5) (a b back : Int) (m : M) (V : Vs) (w : World) (h : SA B w p m V) (k : Ok m) (ho : x.o = 27) : Calls Tryz.prog 78 #[.pointer (some ⟨p, 0, none⟩), .agg x.cells, .int .u32 a, .int .u32 b, .int .i64 back] w (DoPost B p V false 0 false 0 0 { m with out := m.out ++ [a] } w) := by
  have t22 : ((x.o : Int) == 22) = false := by simp; omega
  have t23 : ((x.o : Int) == 23) = false := by simp; omega
  have t24 : ((x.o : Int) == 24) = false := by simp; omega
  have t25 : ((x.o : Int) == 25) = false := by simp; omega
  have t26 : ((x.o : Int) == 26) = false := by simp; omega
  have t27 : ((x.o : Int) == 27) = true := by simp; omega
  have t28 : ((x.o : Int) == 28) = false := by simp; omega
  have t29 : ((x.o : Int) == 29) = false := by simp; omega
  have t30 : ((x.o : Int) == 30) = false := by simp; omega
  have t31 : ((x.o : Int) == 31) = false := by simp; omega
  have t32 : ((x.o : Int) == 32) = false := by simp; omega
  have t33 : ((x.o : Int) == 33) = false := by simp; omega
  have HW1 := Lib.hid (fun W => Wo.has_no (x.o : Int) W (by omega))
  have HW2 := Lib.hid (fun W => Pa.refhas_no (x.o : Int) W (by omega))
  clear ho
  have hol := k.out
  have H := Lib.hid h
  clear h
  simp only [In5.cells]
  go_enter Tryz.func78, Tryz.ntmps78
  go_upto_region 28 with (first | (go_at_call 93; refine (HW1.out _).mono ?_; rintro e w' ⟨rfl, rfl⟩) | (go_at_call 95; refine (HW2.out _).mono ?_; rintro e w' ⟨rfl, rfl⟩))
  generalize hW : (w.alloc (.cells #[.int .i64 x.o, .int .i64 x.d, .int .i64 x.a, .int .i64 x.b, .int .i64 x.m, .string ByteArray.empty] 55)).alloc (.cells #[.bool false, .int .u32 0, .bool false, .int .i64 0, .int .i64 0] 91) = W
  have SW := Lib.hid (show SA B W p m V by rw [← hW]; exact (H.out.alloc _).alloc _)
  have HB := Lib.hid (show Below B w W by rw [← hW]; exact (below_two _ _ _).mono H.out.B_le)
  have FW := Lib.hid (show Far p V w W by rw [← hW]; exact (Far.refl.alloc _).alloc _)
  have DW := Lib.hid (show Dd W (w.heap.size + 1) by rw [← hW]; exact ⟨_, _, _, _, _, by have h0 := heap_alloc_new (w.alloc (.cells #[.int .i64 x.o, .int .i64 x.d, .int .i64 x.a, .int .i64 x.b, .int .i64 x.m, .string ByteArray.empty] 55)) (.cells #[.bool false, .int .u32 0, .bool false, .int .i64 0, .int .i64 0] 91); simpa using h0⟩)
  have xm : W.cell? ⟨w.heap.size, 4, none⟩ = some (.int .i64 x.m) := by rw [← hW]; simp [go_sem]
  have FR := Lib.hid (show Fr (w.heap.size + 1) p V from H.out.fresh (by omega))
  have BG := Lib.hid (show B ≤ w.heap.size + 1 by have := H.out.B_le; omega)
  have gl : w.heap.size + 1 < W.heap.size := DW.out.lt
  have gp : w.heap.size + 1 ≠ p := FR.out.p
  have pl : p < W.heap.size := SW.out.lt
  have ep : w.heap.size ≠ p := by have := H.out.lt; omega
  clear hW
  have c4 : W.cell? ⟨p, 4, none⟩ = some (.slice V.ao m.out.length V.co) := SW.out.cell 4
  have f4 := SW.out.frozen 4
  have OWN := Lib.hid SW.out.ho
  go_wp2_with (at_builtin; refine app_lies 23 69 4 (.int .u32 0) Tryz.info69 rfl (by decide) Tryz.underlying23 (by rfl) _ _ (by rfl) W B m.out.length V.co V.ao (m.out.map ui) (.int .u32 a) (by rfl) OWN.out (by omega) (by rfl) _ (by rfl) (by simp) ?hb ?_)
  case hb => exact SW.out.B_le
  intro g cap w7 hown7 hg7 hat7 hlt7
  have F4 := farO (SW.out.alloc _) hg7 4 rfl
  obtain ⟨x4, y9⟩ := F4
  have L7 : p < w7.heap.size := World.block_lt_of_cell? w7 _ x4
  have P7 := Lib.hid ((SW.out.alloc _).app hg7 hown7 (by simpa using hat7))
  have B7 := Lib.hid (belO HB.out SW.out hg7)
  have D7 := Lib.hid ((DW.out.keep (World.grownBy_alloc W _ none) (by simp)).keep hg7 FR.out.o)
  have FX := Lib.hid ((FW.out.alloc _).grown hg7 (fun _ hg => .inr (.inr (.inl hg))))
  have xm7 : w7.cell? ⟨w.heap.size, 4, none⟩ = some (.int .i64 x.m) := (hg7.cell_far ⟨w.heap.size, 4, none⟩ (by simp; omega) (fun e => (H.out.fresh (Nat.le_refl _)).o e.symm)).trans ((World.cell?_alloc_lt W _ _ (by simp; omega)).trans xm)
  have gl7 := D7.out.lt
  have FN := Lib.hid (show Fr (w.heap.size + 1) p { V with ao := some ⟨g, 0, none⟩, co := cap } from { FR.out with o := fun e => by simp [ob] at e; subst e; rcases hat7 with h | h; exact FR.out.o h; simp at h; omega })
  have KN := Lib.hid (show Sh w V { V with ao := some ⟨g, 0, none⟩, co := cap } from ⟨rfl, rfl, rfl, fun q hq e => by simp [ob] at e; subst e; rcases hat7 with h | h; exact h; (try simp at h); omega, fun _ _ h => h⟩)
  clear hown7 hg7 hat7 gl pl xm
  obtain ⟨⟨v0, y0⟩, ⟨v1, y1⟩, ⟨v2, y2⟩, ⟨v3, y3⟩, ⟨v4, y4⟩⟩ := D7.out.c
  have z0 := D7.out.f 0
  have z1 := D7.out.f 1
  have z2 := D7.out.f 2
  have z3 := D7.out.f 3
  have z4 := D7.out.f 4
  go_wp2
  refine bodyPost_ret (v := .agg #[.bool false, .int .u32 0, .bool false, .int .i64 0, .int .i64 0]) (by simp [results, Tryz.results78, go_sem, y0, y1, y2, y3, y4]) rfl ⟨rfl, ⟨{ V with ao := some ⟨g, 0, none⟩, co := cap }, ?_, rfl, rfl, KN.out⟩, ?_, ?_⟩
  · exact P7.out.set5 FN.out _ _ _ _ _
  · exact bel_set5 (B7.out.setCell (p := ⟨p, 4, none⟩) (by exact SW.out.hp) _) BG.out _ _ _ _ _
  · exact (FX.out.setP 4 _).set5 (by omega) _ _ _ _ _
set_option maxRecDepth 20000 in
set_option maxHeartbeats 1000000 in
theorem do_call (B p : Nat) (x : In5) (a b back : Int) (m : M) (V : Vs) (w : World) (h : SA B w p m V) (k : Ok m) (ho : x.o = 31) (hf : m.st.length < 16) (bn : Nat) (hbn : back = bn) : Calls Tryz.prog 78 #[.pointer (some ⟨p, 0, none⟩), .agg x.cells, .int .u32 a, .int .u32 b, .int .i64 back] w (DoPost B p V false 0 true x.m 0 { m with st := m.st ++ [bn] } w) := by
  have t22 : ((x.o : Int) == 22) = false := by simp; omega
  have t23 : ((x.o : Int) == 23) = false := by simp; omega
  have t24 : ((x.o : Int) == 24) = false := by simp; omega
  have t25 : ((x.o : Int) == 25) = false := by simp; omega
  have t26 : ((x.o : Int) == 26) = false := by simp; omega
  have t27 : ((x.o : Int) == 27) = false := by simp; omega
  have t28 : ((x.o : Int) == 28) = false := by simp; omega
  have t29 : ((x.o : Int) == 29) = false := by simp; omega
  have t30 : ((x.o : Int) == 30) = false := by simp; omega
  have t31 : ((x.o : Int) == 31) = true := by simp; omega
  have t32 : ((x.o : Int) == 32) = false := by simp; omega
  have t33 : ((x.o : Int) == 33) = false := by simp; omega
  have HW1 := Lib.hid (fun W => Wo.has_no (x.o : Int) W (by omega))
  have HW2 := Lib.hid (fun W => Pa.refhas_no (x.o : Int) W (by omega))
  clear ho
  subst hbn
  have hol := k.st
  have H := Lib.hid h
  clear h
  simp only [In5.cells]
  go_enter Tryz.func78, Tryz.ntmps78
  go_upto_region 36 with (first | (go_at_call 93; refine (HW1.out _).mono ?_; rintro e w' ⟨rfl, rfl⟩) | (go_at_call 95; refine (HW2.out _).mono ?_; rintro e w' ⟨rfl, rfl⟩))
  generalize hW : (w.alloc (.cells #[.int .i64 x.o, .int .i64 x.d, .int .i64 x.a, .int .i64 x.b, .int .i64 x.m, .string ByteArray.empty] 55)).alloc (.cells #[.bool false, .int .u32 0, .bool false, .int .i64 0, .int .i64 0] 91) = W
  have SW := Lib.hid (show SA B W p m V by rw [← hW]; exact (H.out.alloc _).alloc _)
  have HB := Lib.hid (show Below B w W by rw [← hW]; exact (below_two _ _ _).mono H.out.B_le)
  have FW := Lib.hid (show Far p V w W by rw [← hW]; exact (Far.refl.alloc _).alloc _)
  have DW := Lib.hid (show Dd W (w.heap.size + 1) by rw [← hW]; exact ⟨_, _, _, _, _, by have h0 := heap_alloc_new (w.alloc (.cells #[.int .i64 x.o, .int .i64 x.d, .int .i64 x.a, .int .i64 x.b, .int .i64 x.m, .string ByteArray.empty] 55)) (.cells #[.bool false, .int .u32 0, .bool false, .int .i64 0, .int .i64 0] 91); simpa using h0⟩)
  have xm : W.cell? ⟨w.heap.size, 4, none⟩ = some (.int .i64 x.m) := by rw [← hW]; simp [go_sem]
  have FR := Lib.hid (show Fr (w.heap.size + 1) p V from H.out.fresh (by omega))
  have BG := Lib.hid (show B ≤ w.heap.size + 1 by have := H.out.B_le; omega)
  have gl : w.heap.size + 1 < W.heap.size := DW.out.lt
  have gp : w.heap.size + 1 ≠ p := FR.out.p
  have pl : p < W.heap.size := SW.out.lt
  have ep : w.heap.size ≠ p := by have := H.out.lt; omega
  clear hW
  have c6 : W.cell? ⟨p, 6, none⟩ = some (.slice V.az m.st.length V.cs) := SW.out.cell 6
  have f6 := SW.out.frozen 6
  have hd16 : decide ((16 : Int) ≤ (m.st.length : Int)) = false := by simp; omega
  have OWN := Lib.hid SW.out.hs
  go_wp2_with (at_builtin; refine app_lies 24 3 8 (.int .i64 0) Tryz.info3 rfl (by decide) Tryz.underlying24 (by rfl) _ _ (by rfl) W B m.st.length V.cs V.az (m.st.map ni) (.int .i64 (bn : Int)) (by rfl) OWN.out (by omega) (by rfl) _ (by rfl) (by simp) ?hb ?_)
  case hb => exact SW.out.B_le
  intro g cap w7 hown7 hg7 hat7 hlt7
  have F6 := farS (SW.out.alloc _) hg7 6 rfl
  obtain ⟨x4, y9⟩ := F6
  have L7 : p < w7.heap.size := World.block_lt_of_cell? w7 _ x4
  have P7 := Lib.hid ((SW.out.alloc _).push hg7 hown7 (by simpa using hat7))
  have B7 := Lib.hid (belS HB.out SW.out hg7)
  have D7 := Lib.hid ((DW.out.keep (World.grownBy_alloc W _ none) (by simp)).keep hg7 FR.out.s)
  have FX := Lib.hid ((FW.out.alloc _).grown hg7 (fun _ hg => .inr (.inr (.inr hg))))
  have xm7 : w7.cell? ⟨w.heap.size, 4, none⟩ = some (.int .i64 x.m) := (hg7.cell_far ⟨w.heap.size, 4, none⟩ (by simp; omega) (fun e => (H.out.fresh (Nat.le_refl _)).s e.symm)).trans ((World.cell?_alloc_lt W _ _ (by simp; omega)).trans xm)
  have gl7 := D7.out.lt
  have FN := Lib.hid (show Fr (w.heap.size + 1) p { V with az := some ⟨g, 0, none⟩, cs := cap } from { FR.out with s := fun e => by simp [ob] at e; subst e; rcases hat7 with h | h; exact FR.out.s h; simp at h; omega })
  have KN := Lib.hid (show Sh w V { V with az := some ⟨g, 0, none⟩, cs := cap } from ⟨rfl, rfl, rfl, fun _ _ h => h, fun q hq e => by simp [ob] at e; subst e; rcases hat7 with h | h; exact h; (try simp at h); omega⟩)
  clear hown7 hg7 hat7 gl pl xm
  obtain ⟨⟨v0, y0⟩, ⟨v1, y1⟩, ⟨v2, y2⟩, ⟨v3, y3⟩, ⟨v4, y4⟩⟩ := D7.out.c
  have z0 := D7.out.f 0
  have z1 := D7.out.f 1
  have z2 := D7.out.f 2
  have z3 := D7.out.f 3
  have z4 := D7.out.f 4
  go_wp2
  refine bodyPost_ret (v := .agg #[.bool false, .int .u32 0, .bool true, .int .i64 x.m, .int .i64 0]) (by simp [results, Tryz.results78, go_sem, y0, y1, y2, y3, y4]) rfl ⟨rfl, ⟨{ V with az := some ⟨g, 0, none⟩, cs := cap }, ?_, rfl, rfl, KN.out⟩, ?_, ?_⟩
  · exact P7.out.set5 FN.out _ _ _ _ _
  · exact bel_set5 (B7.out.setCell (p := ⟨p, 6, none⟩) (by exact SW.out.hp) _) BG.out _ _ _ _ _
  · exact (FX.out.setP 6 _).set5 (by omega) _ _ _ _ _
end Go.Proofs.YtbgmdikcbglpiaaGreatDoor
