/-
  Contracts of package pipe's call launch: a result is sent off, or it stops. Conditions: the state lies behind the pointer, and may be; the instruction may be.
-/
import Derived.Test.YtbgmdikcbglpiaaGreatDoorPp3
namespace Go.Proofs.YtbgmdikcbglpiaaGreatDoor
open Go.RowKit

theorem Tryz.info71 : (Tryz.prog.info? 71).map (fun i => ((i.zero.map fun z => z.cells.size), i.size, i.bytes)) = some (some 3, 3, 24) := by kernel_rfl
theorem infoW_parts : ∃ i z, Tryz.prog.info? 71 = some i ∧ i.zero = some z ∧ i.size = 3 ∧ i.bytes = 24 ∧ z.cells.size = 3 := by
  obtain ⟨i, hi, he⟩ := Option.map_eq_some_iff.1 Tryz.info71
  simp only [Prod.mk.injEq] at he
  obtain ⟨z, hz, hc⟩ := Option.map_eq_some_iff.1 he.1
  exact ⟨i, z, hi, hz, he.2.1, he.2.2, hc⟩
theorem fl_one (f : Fl) : ∀ u ∈ f.list, u.oneCell' = true := by
  intro u hu
  simp only [Fl.list, List.mem_cons, List.not_mem_nil, or_false] at hu
  rcases hu with rfl | rfl | rfl <;> rfl
/-- append of one result to a row of one's own, as a step of a drawn region. -/
theorem step_app3 {ops : Array Oper} {o : Oper} {a : Act} {K : Act → World → Prop} {Q : Exit → Act → World → Prop} {E : Prop} {W : World} {B n c : Nat} {va : Option Addr} {xs : List Fl} (f : Fl) (hgd : o.guard = none) (s x : Operand)
    (ho : o.op = .call { callee := .builtin .append, args := #[s, x], argTypes := #[25, 25] }) (hs : a.eval s = .slice va n c) (gx : Nat) (hx : a.eval x = .slice (some ⟨gx, 0, none⟩) 1 1)
    (cs : Array Value) (hnews : W.heap[gx]? = some (.cells cs 71 (0, 0))) (hcs : cs.toList = f.list) (hown : W.ownsRow B 71 3 (.slice va n c) n (flat3 xs)) (hn : n ≤ 1000000) (hB : B ≤ W.heap.size)
    (h : ∀ g cap w', w'.ownsRow B 71 3 (.slice (some ⟨g, 0, none⟩) (n + 1) cap) (n + 1) (flat3 (xs ++ [f])) → W.grownBy w' (ob va) → (ob va = some g ∨ g = W.heap.size) → g < w'.heap.size → K (a.put o.dst (.slice (some ⟨g, 0, none⟩) (n + 1) cap)) w') :
    if Region.wanted o (yielded ops a.tmps) = true then Oper.wp Tryz.prog o a W K Q else E := by
  obtain ⟨i, z, hi, hz, h1, h2, h3⟩ := infoW_parts
  refine step_append_lies W hgd s x 25 ho B 71 i z 3 24 Tryz.underlying25 hi hz h1 h2 h3 (by decide) (.slice va n c) n (flat3 xs) hs hown ⟨gx, 0, none⟩ 1 1 f.list hx rfl (fun j u hu => World.news_of_block hnews j u (by rw [hcs]; exact hu)) (fl_one f) (by decide) (by unfold maxLen; omega) (by omega) hB _ rfl ?_
  intro g cap w' o1 o2 o3 o4
  refine h g cap w' ?_ (by rw [own_ob] at o2; exact o2) (by rw [own_ob] at o3; exact o3) o4
  rw [flat3_app]
  have e : flat3 [f] = f.list := by simp [flat3]
  rw [e]
  exact o1
section
variable {B p g cap : Nat} {w W w7 : World} {m : M} {V : Vs}
theorem farF (h : SA B W p m V) (hg : W.grownBy w7 (ob V.af)) : w7.cell? ⟨p, 8, none⟩ = some (.slice V.af m.fl.length V.cf) ∧ w7.frozen? ⟨p, 8, none⟩ = false :=
  ⟨(hg.cell_far ⟨p, 8, none⟩ h.lt (fun e => h.pf e.symm)).trans (h.cell 8), (hg.frozen_far ⟨p, 8, none⟩ h.lt (fun e => h.pf e.symm)).trans (h.frozen 8)⟩
theorem fly7 (h : SA B W p m V) {f : Fl} (hg : W.grownBy w7 (ob V.af)) (hr : w7.ownsRow B 71 3 (.slice (some ⟨g, 0, none⟩) (m.fl.length + 1) cap) (m.fl.length + 1) (flat3 (m.fl ++ [f]))) (hat : ob V.af = some g ∨ g = W.heap.size) :
    SA B (w7.setCell ⟨p, 8, none⟩ (.slice (some ⟨g, 0, none⟩) (m.fl.length + 1) cap)) p { m with fl := m.fl ++ [f] } { V with af := some ⟨g, 0, none⟩, cf := cap } := by
  have hl : (m.fl ++ [f]).length = m.fl.length + 1 := by simp
  have := h.setF (l := m.fl ++ [f]) (A := some ⟨g, 0, none⟩) (c := cap) hg (by rw [hl]; exact hr) (by
    rcases hat with e | e
    · exact .inl (by rw [e]; rfl)
    · exact .inr fun j hj => by simp [ob] at hj; omega)
  rw [hl] at this
  exact this
theorem belowf7 {o : Obj} (hb : Below B w W) (h : SA B W p m V) (hg : (W.alloc o).drew.grownBy w7 (ob V.af)) : Below B w w7 :=
  ((hb.alloc h.B_le o).drew).grown hg (by have := h.B_le; simp; omega) (fun k hk => (h.hf.lt k (by rw [own_ob]; exact hk)).1)
end
set_option maxRecDepth 20000 in
set_option maxHeartbeats 1000000 in
theorem launch_stop (B p : Nat) (x : In5) (m : M) (V : Vs) (w : World) (h : SA B w p m V) (v st : Int) (m2 : M) (C : ∀ W, SA B W p m V → Calls Tryz.prog 120 #[.agg x.cells, .pointer (some ⟨p, 0, none⟩)] W (RPost B p v st m2 W)) (hst : (st != 0) = true) : Calls Tryz.prog 106 #[.agg x.cells, .pointer (some ⟨p, 0, none⟩)] w (StopPost B p st m2 w) := by
  have H := Lib.hid (h.alloc (.cells x.cells 55))
  have HB := Lib.hid ((below_new w (.cells x.cells 55)).mono h.B_le)
  have CC := Lib.hid (C _ H.out)
  have HP := Lib.hid h.hp
  clear h C
  obtain ⟨o, d, a, b, im⟩ := x
  simp only [In5.cells] at *
  go_enter Tryz.func106, Tryz.ntmps106
  go_wp2_with fail
  refine CC.out.mono ?_
  rintro e W3 ⟨rfl, S3, hg3⟩
  have SS := Lib.hid S3
  have GG := Lib.hid (HB.out.trans (gb_below hg3 HP.out H.out.B_le))
  clear S3 hg3
  go_wp2
  go_ret
  exact ⟨rfl, SS.out, GG.out⟩
set_option maxRecDepth 20000 in
set_option maxHeartbeats 2000000 in
theorem launch_go (B p : Nat) (x : In5) (m : M) (V : Vs) (w : World) (h : SA B w p m V) (T : Tab w) (hB1 : 1 < B) (ho : x.o < 34) (v : Int) (m2 : M) (hfl : m2.fl.length < 1000) (C : ∀ W, SA B W p m V → Calls Tryz.prog 120 #[.agg x.cells, .pointer (some ⟨p, 0, none⟩)] W (RPost B p v 0 m2 W)) : Calls Tryz.prog 106 #[.agg x.cells, .pointer (some ⟨p, 0, none⟩)] w (StopPost B p 0 (fly m2 x v) w) := by
  have H := Lib.hid (h.alloc (.cells x.cells 55))
  have HB := Lib.hid ((below_new w (.cells x.cells 55)).mono h.B_le)
  have CC := Lib.hid (C _ H.out)
  have HP := Lib.hid h.hp
  have HL := Lib.hid h.lt
  have BX := Lib.hid (bx_new w x)
  have hl := lt_le ⟨x.o, ho⟩
  simp only at hl
  have TT := Lib.hid T
  have HF := Lib.hid hfl
  clear C
  go_enter Tryz.func106, Tryz.ntmps106
  simp only [In5.cells]
  go_wp2_with fail
  refine CC.out.mono ?_
  rintro e W3 ⟨rfl, ⟨V3, S3⟩, hg3⟩
  have S := Lib.hid S3
  have hbB := HB.out.trans (gb_below hg3 HP.out H.out.B_le)
  have BB := Lib.hid hbB
  have T3 := Lib.hid (tab_below TT.out hbB hB1)
  have X3 := Lib.hid (show Bx W3 w.heap.size x by
    obtain ⟨Ty, hz⟩ := BX.out.blk
    exact ⟨Ty, (hg3.block _ (lt_of_heap hz) (by have := HL.out; intro e; cases e; omega)).trans hz⟩)
  have LAT := Lib.hid (fun W (TW : Tab W) => lat_yes x.o W ho TW)
  clear S3 hg3 hbB h T hfl
  have q0 : W3.cell? ⟨w.heap.size, 0, none⟩ = some (.int .i64 x.o) := X3.out.c 0
  have q1 : W3.cell? ⟨w.heap.size, 1, none⟩ = some (.int .i64 x.d) := X3.out.c 1
  have hz : w.heap.size < W3.heap.size := X3.out.lt
  have hpl : p < W3.heap.size := S.out.lt
  have hpz : p ≠ w.heap.size := Nat.ne_of_lt HL.out
  have d8 : W3.cell? ⟨p, 8, none⟩ = some (.slice V3.af m2.fl.length V3.cf) := S.out.cell 8
  have f8 := S.out.frozen 8
  have e5 : IntKind.i64.wrap (lt x.o - 1) = lt x.o - 1 := by rw [wrap_i64 _ (by omega) (by omega)]
  have EF := Lib.hid (show ([.int .i64 x.d, .int .u32 v, .int .i64 (lt x.o - 1)] : List Value) = Fl.list ⟨x.d, v, (lt x.o - 1).toNat⟩ by simp only [Fl.list]; rw [show (((lt x.o - 1).toNat : Nat) : Int) = lt x.o - 1 by omega])
  go_wp2_with (go_at_call 121; refine (LAT.out _ T3.out).mono ?_; rintro e W4 ⟨rfl, rfl⟩)
  go_region_law ((with_reducible refine step_app3 (o := ⟨some 36, _, _, _, _, none⟩) (B := B) (n := m2.fl.length) (c := V3.cf) (va := V3.af) (xs := m2.fl) ⟨x.d, v, (lt x.o - 1).toNat⟩ rfl _ _ rfl ?_ ?_ ?_ ?_ ?_ ?_ ?_ ?_ ?_ ?_); (· rfl); rotate_left; (· rfl); rotate_left; (· exact heap_alloc_new W3 _); (· exact EF.out); (· exact (S.out.alloc _).drew.hf); (· have := HF.out; omega); (· exact (S.out.alloc _).drew.B_le); intro g cap w7 hown7 hg7 hat7 hlt7; have F7 := Lib.hid (farF (S.out.alloc _).drew hg7); have C7 : w7.cell? ⟨p, 8, none⟩ = some (.slice V3.af m2.fl.length V3.cf) := F7.out.1; have D7 := F7.out.2; have L7 : p < w7.heap.size := World.block_lt_of_cell? w7 _ C7; have P7 := Lib.hid (fly7 (S.out.alloc _).drew hg7 hown7 hat7); have B7 := Lib.hid (belowf7 BB.out S.out hg7); clear hown7 hg7 hat7)
  all_goals go_wp2
  all_goals go_ret
  all_goals exact ⟨rfl, ⟨_, P7.out⟩, B7.out.setCell (by exact S.out.hp) _⟩
end Go.Proofs.YtbgmdikcbglpiaaGreatDoor
