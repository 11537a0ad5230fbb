/-
  Contracts of package seq's calls: call. Conditions: the state lies behind the pointer, and may be.
-/
import Derived.Test.YtpnmlednningkaaDoorSq2
import Derived.Deep.RegionLaw
import Derived.Deep.RegionHeld3
namespace Go.Proofs.YtpnmlednningkaaDoor
open Go.RowKit

theorem Tryd.info3 : (Tryd.prog.info? 3).map (fun i => (i.zero, i.size, i.bytes)) = some (some (.int .i64 0), 1, 8) := by kernel_rfl
theorem Tryd.info60 : (Tryd.prog.info? 60).map (fun i => (i.zero, i.size, i.bytes)) = some (some (.int .u32 0), 1, 4) := by kernel_rfl
/-- append of one element to a row of one's own, as a step of a drawn region. -/
theorem step_app (t e : TypeId) (bytes : Nat) (z : Value) (hinfo : (Tryd.prog.info? e).map (fun i => (i.zero, i.size, i.bytes)) = some (some z, 1, bytes)) (hzs : z.cells.size = 1) (hby : bytes ≤ 16) (ht : Tryd.prog.underlying t = some (.slice e))
    {ops : Array Oper} {o : Oper} {a : Act} {K : Act → World → Prop} {Q : Exit → Act → World → Prop} {E : Prop} {W : World} {B n c : Nat} {va : Option Addr} {xs : List Value} {u : Value} (hu : u.oneCell' = true) (hgd : o.guard = none) (s x : Operand)
    (ho : o.op = .call { callee := .builtin .append, args := #[s, x], argTypes := #[t, t] }) (hs : a.eval s = .slice va n c) (gx : Nat) (hx : a.eval x = .slice (some ⟨gx, 0, none⟩) 1 1)
    (hnews : W.heap[gx]? = some (.cells #[u] e (0, 0))) (hown : W.ownsRow B e 1 (.slice va n c) n xs) (hn : n ≤ 2000000) (hB : B ≤ W.heap.size)
    (h : ∀ g cap w', w'.ownsRow B e 1 (.slice (some ⟨g, 0, none⟩) (n + 1) cap) (n + 1) (xs ++ [u]) → W.grownBy w' (ob va) → (ob va = some g ∨ g = W.heap.size) → g < w'.heap.size → K (a.put o.dst (.slice (some ⟨g, 0, none⟩) (n + 1) cap)) w') :
    if Region.wanted o (yielded ops a.tmps) = true then Oper.wp Tryd.prog o a W K Q else E := by
  obtain ⟨i, hi, he⟩ := Option.map_eq_some_iff.1 hinfo
  simp only [Prod.mk.injEq] at he
  refine step_append_lies W hgd s x t ho B e i _ 1 bytes ht hi he.1 he.2.1 he.2.2 hzs (by decide) (.slice va n c) n xs hs hown ⟨gx, 0, none⟩ 1 1 [u] hx rfl (World.news_of_block hnews) (fun y hy => by simp at hy; subst hy; exact hu) (by decide) (by unfold maxLen; omega) ?_ hB _ rfl ?_
  · have : (n + 1) * bytes ≤ 2000001 * 16 := Nat.mul_le_mul (by omega) hby
    omega
  · rw [own_ob]
    exact h
section
variable {B p g cap : Nat} {w W w7 : World} {m : M} {V : Vs}
theorem wrap_i64 (x : Int) (h1 : -9223372036854775808 ≤ x) (h2 : x ≤ 9223372036854775807) : IntKind.i64.wrap x = x := by
  simp only [IntKind.wrap, IntKind.bits, IntKind.signed]
  simp
  omega
theorem far7 (h : SA B W p m V) (hg : W.grownBy w7 (ob V.az)) : w7.cell? ⟨p, 6, none⟩ = some (.slice V.az m.st.length V.cs) ∧ w7.frozen? ⟨p, 6, none⟩ = false :=
  ⟨(hg.cell_far ⟨p, 6, none⟩ h.lt (fun e => h.ps e.symm)).trans (h.cell 6), (hg.frozen_far ⟨p, 6, none⟩ h.lt (fun e => h.ps e.symm)).trans (h.frozen 6)⟩
theorem push7 (h : SA B W p m V) {y : Int} {x : Nat} (e : y = (x : Int)) (hg : W.grownBy w7 (ob V.az)) (hr : w7.ownsRow B 3 1 (.slice (some ⟨g, 0, none⟩) (m.st.length + 1) cap) (m.st.length + 1) (m.st.map ni ++ [.int .i64 y])) (hat : ob V.az = some g ∨ g = W.heap.size) :
    SA B (w7.setCell ⟨p, 6, none⟩ (.slice (some ⟨g, 0, none⟩) (m.st.length + 1) cap)) p { m with st := m.st ++ [x] } { V with az := some ⟨g, 0, none⟩, cs := cap } := by
  subst e
  exact h.push hg hr hat
theorem below7 {o : Obj} (hb : Below B w W) (h : SA B W p m V) (hg : (W.alloc o).drew.grownBy w7 (ob V.az)) : Below B w w7 :=
  ((hb.alloc h.B_le o).drew).grown hg (by have := h.B_le; simp; omega) (fun k hk => (h.hs.lt k (by rw [own_ob]; exact hk)).1)
theorem faro7 (h : SA B W p m V) (hg : W.grownBy w7 (ob V.ao)) : w7.cell? ⟨p, 4, none⟩ = some (.slice V.ao m.out.length V.co) ∧ w7.frozen? ⟨p, 4, none⟩ = false :=
  ⟨(hg.cell_far ⟨p, 4, none⟩ h.lt (fun e => h.po e.symm)).trans (h.cell 4), (hg.frozen_far ⟨p, 4, none⟩ h.lt (fun e => h.po e.symm)).trans (h.frozen 4)⟩
theorem belowo7 {o : Obj} (hb : Below B w W) (h : SA B W p m V) (hg : (W.alloc o).drew.grownBy w7 (ob V.ao)) : Below B w w7 :=
  ((hb.alloc h.B_le o).drew).grown hg (by have := h.B_le; simp; omega) (fun k hk => (h.ho.lt k (by rw [own_ob]; exact hk)).1)
end
set_option maxHeartbeats 400000 in
theorem call_full (B p : Nat) (x : In5) (m : M) (V : Vs) (w : World) (h : SA B w p m V) (hf : m.st.length = 16) : Calls Tryd.prog 79 #[.agg x.cells, .pointer (some ⟨p, 0, none⟩)] w (RetPost B p 0 4 m w) := by
  have H := Lib.hid h
  have c6 : w.cell? ⟨p, 6, none⟩ = some (.slice V.az m.st.length V.cs) := h.cell 6
  rw [hf] at c6
  have hl := h.lt
  generalize V.az = az at c6
  generalize V.cs = cs at c6
  clear h hf
  go_enter Tryd.func79, Tryd.ntmps79
  simp only [In5.cells]
  go_wp2
  go_ret2
  exact ⟨rfl, ⟨_, H.out.alloc _⟩, (below_new _ _).mono H.out.B_le⟩
set_option maxRecDepth 20000 in
set_option maxHeartbeats 1000000 in
theorem call_ok (B p : Nat) (x : In5) (m : M) (V : Vs) (w : World) (h : SA B w p m V) (k : Ok m) (hf : m.st.length < 16) : Calls Tryd.prog 79 #[.agg x.cells, .pointer (some ⟨p, 0, none⟩)] w (RetPost B p x.m 0 { m with st := m.st ++ [m.pc + 1] } w) := by
  have hq : ((m.st.length : Int) == 16) = false := by simp; omega
  have hpc := k.pc
  have c6 : w.cell? ⟨p, 6, none⟩ = some (.slice V.az m.st.length V.cs) := h.cell 6
  have hl := h.lt
  go_enter Tryd.func79, Tryd.ntmps79
  simp only [In5.cells]
  go_wp2_with fail
  generalize hW : w.alloc (.cells #[.int .i64 x.o, .int .i64 x.d, .int .i64 x.a, .int .i64 x.b, .int .i64 x.m, .string ByteArray.empty] 54) = W
  have BX := Lib.hid (show Bx W w.heap.size x by rw [← hW]; exact bx_new w x)
  have SW := Lib.hid (show SA B W p m V by rw [← hW]; exact h.alloc _)
  have HB := Lib.hid (show Below B w W by rw [← hW]; exact (below_new w _).mono h.B_le)
  have hz : w.heap.size < W.heap.size := BX.out.lt
  have hpl : p < W.heap.size := SW.out.lt
  have hpz : p ≠ w.heap.size := Nat.ne_of_lt h.lt
  have hrz : V.gr ≠ w.heap.size := Nat.ne_of_lt h.gr_lt.2
  clear hW
  have q0 : W.cell? ⟨w.heap.size, 0, none⟩ = some (.int .i64 x.o) := BX.out.c 0
  have q1 : W.cell? ⟨w.heap.size, 1, none⟩ = some (.int .i64 x.d) := BX.out.c 1
  have q2 : W.cell? ⟨w.heap.size, 2, none⟩ = some (.int .i64 x.a) := BX.out.c 2
  have q3 : W.cell? ⟨w.heap.size, 3, none⟩ = some (.int .i64 x.b) := BX.out.c 3
  have q4 : W.cell? ⟨w.heap.size, 4, none⟩ = some (.int .i64 x.m) := BX.out.c 4
  have q5 : W.cell? ⟨w.heap.size, 5, none⟩ = some (.string ByteArray.empty) := BX.out.c 5
  have d5 : W.cell? ⟨p, 5, none⟩ = some (.int .i64 m.pc) := SW.out.cell 5
  have d6 : W.cell? ⟨p, 6, none⟩ = some (.slice V.az m.st.length V.cs) := SW.out.cell 6
  have e1 : wrap64 ((m.pc : Int) + 1) = ((m.pc + 1 : Nat) : Int) := by unfold wrap64; omega
  have f6 := SW.out.frozen 6
  have HSZ := Lib.hid (show ob V.az ≠ some w.heap.size from fun e => by have := (h.hs.lt _ (by rw [own_ob]; exact e)).2; omega)
  clear q0 q1 q2 q3 q5 c6 hl
  have e2 : IntKind.i64.wrap ((m.pc : Int) + 1) = (m.pc : Int) + 1 := by rw [wrap_i64 _ (by omega) (by omega)]
  have e3 := Lib.hid (show (m.pc : Int) + 1 = ((m.pc + 1 : Nat) : Int) by omega)
  clear e1
  go_region_law ((with_reducible refine step_app 24 3 8 (.int .i64 0) Tryd.info3 rfl (by decide) Tryd.underlying24 (o := ⟨some 23, _, _, _, _, none⟩) (B := B) (n := m.st.length) (c := V.cs) (va := V.az) (xs := m.st.map ni) (u := .int .i64 ((m.pc : Int) + 1)) rfl rfl _ _ rfl ?_ ?_ ?_ ?_ ?_ ?_ ?_ ?_); (· rfl); rotate_left; (· rfl); (· exact heap_alloc_new W _); (· exact (SW.out.alloc _).drew.hs); (· omega); (· exact (SW.out.alloc _).drew.B_le); intro g cap w7 hown7 hg7 hat7 hlt7; have F7 := Lib.hid (far7 (SW.out.alloc _).drew hg7); have C7 : w7.cell? ⟨p, 6, none⟩ = some (.slice V.az m.st.length V.cs) := F7.out.1; have D7 := F7.out.2; have L7 : p < w7.heap.size := World.block_lt_of_cell? w7 _ C7; have Z7 : w7.cell? ⟨w.heap.size, 4, none⟩ = some (.int .i64 x.m) := (hg7.cell_far ⟨w.heap.size, 4, none⟩ (by simp; omega) (fun e => HSZ.out e.symm)).trans ((World.cell?_alloc_lt W _ _ hz).trans q4); have P7 := Lib.hid (push7 (SW.out.alloc _).drew e3.out hg7 hown7 hat7); have B7 := Lib.hid (below7 HB.out SW.out hg7); clear hown7 hg7 hat7)
  all_goals go_wp2
  all_goals go_ret2
  all_goals exact ⟨rfl, ⟨_, P7.out⟩, B7.out.setCell (by exact SW.out.hp) _⟩
end Go.Proofs.YtpnmlednningkaaDoor
