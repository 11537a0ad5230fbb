/-
  Contract of the page's call issue: what a bundle does is what the Lean function issue tells. Conditions: the state lies behind the pointer, and may be; so may the code, which lies in old memory.
-/
import Derived.Test.YtbgmdikcbglpiaaGreatDoorPq3
import Derived.Test.YtbgmdikcbglpiaaGreatDoorCp
import Derived.Test.YtbgmdikcbglpiaaGreatDoorPe
import Derived.Deep.DeepCutAuto
import Derived.Deep.CutBlock
namespace Go.Proofs.YtbgmdikcbglpiaaGreatDoor
open Go.RowKit

theorem app3h {ops : Array Oper} {rest : List Oper} {o : Oper} {a : Act} {Q : Exit → Act → World → Prop} (hgd : o.guard = none) (s x : Operand) (ho : o.op = .call { callee := .builtin .append, args := #[s, x], argTypes := #[25, 25] })
    (W : World) (B n c : Nat) (va : Option Addr) (xs : List Fl) (f : Fl) (hs : a.eval s = .slice va n c) (hown : W.ownsRow B 71 3 (.slice va n c) n (flat3 xs)) (hn : n ≤ 1000000) (g0 : Nat) (hx : a.eval x = .slice (some ⟨g0, 0, none⟩) 1 1) (cs : Array Value) (hg0 : W.heap[g0]? = some (.cells cs 71 (0, 0))) (hcs : cs.toList = f.list) (hB : B ≤ W.heap.size)
    (h : ∀ g cap w', w'.ownsRow B 71 3 (.slice (some ⟨g, 0, none⟩) (n + 1) cap) (n + 1) (flat3 (xs ++ [f])) → W.grownBy w' (ob va) → (ob va = some g ∨ g = W.heap.size) → wpList Tryz.prog ops Q rest (a.put o.dst (.slice (some ⟨g, 0, none⟩) (n + 1) cap)) w') :
    wpList Tryz.prog ops Q (o :: rest) a W := by
  obtain ⟨i, z, hi, hz, h1, h2, h3⟩ := infoW_parts
  refine wpList_append_lies W hgd s x 25 ho B 71 i z 3 24 Tryz.underlying25 hi hz h1 h2 h3 (by decide) (.slice va n c) n (flat3 xs) hs hown ⟨g0, 0, none⟩ 1 1 f.list hx rfl (fun j u hu => World.news_of_block hg0 j u (by rw [hcs]; exact hu)) (fl_one f) (by decide) (by unfold maxLen; omega) (by omega) hB _ rfl ?_
  intro g cap w' o1 o2 o3 _
  refine h g cap w' ?_ (by rw [own_ob] at o2; exact o2) (by rw [own_ob] at o3; exact o3)
  rw [flat3_app]
  have e : flat3 [f] = f.list := by simp [flat3]
  rw [e]
  exact o1
theorem issue_halt {b : List In5} {m m3 : M} {st : Int} {j : Bool} (h : slots b m false = (stop m3 st, j)) (h0 : ¬ st = 0) (h1 : st = 1) : issue b m = drain (stop m3 st) := by
  unfold issue
  rw [h]
  exact (if_neg (c := (stop m3 st).stop = 0) h0).trans (if_pos h1)
theorem issue_stop {b : List In5} {m m3 : M} {st : Int} {j : Bool} (h : slots b m false = (stop m3 st, j)) (h0 : ¬ st = 0) (h1 : ¬ st = 1) : issue b m = stop m3 st := by
  unfold issue
  rw [h]
  exact (if_neg (c := (stop m3 st).stop = 0) h0).trans (if_neg h1)
theorem issue_next {b : List In5} {m m3 : M} {j : Bool} (h : slots b m false = (m3, j)) (h0 : m3.stop = 0) : issue b m = adv j m3 := by
  unfold issue
  rw [h]
  exact if_pos h0
theorem step_app3w {ops : Array Oper} {o : Oper} {a : Act} {K : Act → World → Prop} {Q : Exit → Act → World → Prop} {E : Prop} {W : World} {B n c : Nat} {va : Option Addr} {xs : List Fl} (f : Fl) (hw : Region.wanted o (yielded ops a.tmps) = true) (s x : Operand)
    (ho : o.op = .call { callee := .builtin .append, args := #[s, x], argTypes := #[25, 25] }) (hs : a.eval s = .slice va n c) (gx : Nat) (hx : a.eval x = .slice (some ⟨gx, 0, none⟩) 1 1)
    (cs : Array Value) (hnews : W.heap[gx]? = some (.cells cs 71 (0, 0))) (hcs : cs.toList = f.list) (hown : W.ownsRow B 71 3 (.slice va n c) n (flat3 xs)) (hn : n ≤ 1000000) (hB : B ≤ W.heap.size)
    (h : ∀ g cap w', w'.ownsRow B 71 3 (.slice (some ⟨g, 0, none⟩) (n + 1) cap) (n + 1) (flat3 (xs ++ [f])) → W.grownBy w' (ob va) → (ob va = some g ∨ g = W.heap.size) → K (a.put o.dst (.slice (some ⟨g, 0, none⟩) (n + 1) cap)) w') :
    if Region.wanted o (yielded ops a.tmps) = true then Oper.wp Tryz.prog o a W K Q else E := by
  obtain ⟨i, z, hi, hz, h1, h2, h3⟩ := infoW_parts
  rw [if_pos hw]
  refine wp_append_lies W s x 25 ho B 71 i z 3 24 Tryz.underlying25 hi hz h1 h2 h3 (by decide) (.slice va n c) n (flat3 xs) hs hown ⟨gx, 0, none⟩ 1 1 f.list hx rfl (fun j u hu => World.news_of_block hnews j u (by rw [hcs]; exact hu)) (fl_one f) (by decide) (by unfold maxLen; omega) (by omega) hB _ rfl ?_
  intro g cap w' o1 o2 o3 _
  refine h g cap w' ?_ (by rw [own_ob] at o2; exact o2) (by rw [own_ob] at o3; exact o3)
  rw [flat3_app]
  have e : flat3 [f] = f.list := by simp [flat3]
  rw [e]
  exact o1
/-- The cells that the region of append reads. -/
abbrev SPe (p z g : Nat) (x : In5) (m : M) (V : Vs) (v : Int) (X : World) : Prop := X.cell? ⟨p, 8, none⟩ = some (.slice V.af m.fl.length V.cf) ∧ X.cell? ⟨z, 0, none⟩ = some (.int .i64 x.o) ∧ X.cell? ⟨z, 1, none⟩ = some (.int .i64 x.d) ∧ X.cell? ⟨g, 1, none⟩ = some (.int .u32 v)
theorem spe_allocD {p z g : Nat} {x : In5} {m : M} {V : Vs} {v : Int} {X : World} (h : SPe p z g x m V v X.drew) (o : Obj) (hp : p < X.heap.size) (hz : z < X.heap.size) (hg : g < X.heap.size) : SPe p z g x m V v (X.alloc o).drew := by
  obtain ⟨h0, h1, h2, h3⟩ := h
  exact ⟨(World.cell?_alloc_lt X o ⟨p, 8, none⟩ hp).trans h0, (World.cell?_alloc_lt X o ⟨z, 0, none⟩ hz).trans h1, (World.cell?_alloc_lt X o ⟨z, 1, none⟩ hz).trans h2, (World.cell?_alloc_lt X o ⟨g, 1, none⟩ hg).trans h3⟩
theorem spe_grown {p z g : Nat} {x : In5} {m : M} {V : Vs} {v : Int} {X Y : World} (h : SPe p z g x m V v X) {r : Option Nat} (hg : X.grownBy Y r) (lp : p < X.heap.size) (lz : z < X.heap.size) (lg : g < X.heap.size) (np : r ≠ some p) (nz : r ≠ some z) (ng : r ≠ some g) : SPe p z g x m V v Y := by
  obtain ⟨h0, h1, h2, h3⟩ := h
  exact ⟨(hg.cell_far ⟨p, 8, none⟩ lp (fun e => np e.symm)).trans h0, (hg.cell_far ⟨z, 0, none⟩ lz (fun e => nz e.symm)).trans h1, (hg.cell_far ⟨z, 1, none⟩ lz (fun e => nz e.symm)).trans h2, (hg.cell_far ⟨g, 1, none⟩ lg (fun e => ng e.symm)).trans h3⟩
theorem SA.fdeed {B p g : Nat} {w : World} {m : M} {V : Vs} {cs : Array Value} (h : SA B w p m V) (_hl : g < w.heap.size) (hb : w.heap[g]? = some (.cells cs 91 (0, 0))) : ob V.af ≠ some g := by
  intro e2
  obtain ⟨cur, hc⟩ := own_type h.hf g e2
  rw [hb] at hc
  simp only [Option.some.injEq, Obj.cells.injEq] at hc
  exact absurd hc.2.1 (by decide)
theorem spd_far {z p q : Nat} {x : In5} {m : M} {V : Vs} {X W2 : World} (h : SPd z p q x m X) (f : Far p V X W2) (hz : z < X.heap.size) (hq : q < X.heap.size) (fz : Fr z p V) (fq : Fr q p V) (h5 : W2.cell? ⟨p, 5, none⟩ = some (.int .i64 m.pc)) : SPd z p q x m W2 := by
  obtain ⟨h0, h1, h2, h3, h4, h5', h7, h8, h9⟩ := h
  have ez := f.2 z hz fz.p fz.m fz.o fz.s
  have eq := f.2 q hq fq.p fq.m fq.o fq.s
  have cz : ∀ j, W2.cell? ⟨z, j, none⟩ = X.cell? ⟨z, j, none⟩ := fun j => World.cell?_of_block (a := ⟨z, j, none⟩) ez
  have cq : ∀ j, W2.cell? ⟨q, j, none⟩ = X.cell? ⟨q, j, none⟩ := fun j => World.cell?_of_block (a := ⟨q, j, none⟩) eq
  exact ⟨(cz _).trans h0, (cz _).trans h1, (cz _).trans h2, (cz _).trans h3, (cz _).trans h4, (cz _).trans h5', h5, (cq _).trans h8, (cq _).trans h9⟩
theorem wpList_store_bl {w : World} {ops : Array Oper} {rest : List Oper} {op : Oper} {a : Act} {Q : Exit → Act → World → Prop} (hgd : op.guard = none) (x y : Operand) (ho : op.op = .store 58 x y)
    (g : Nat) (cs cs' : Array Value) (hx : a.eval x = .pointer (some ⟨g, 0, none⟩)) (hy : a.eval y = .agg cs') (hb : BL w g cs) (hs : cs.size = 24) (hs' : cs'.size = 24) (h1 : cs'.all (·.oneCell') = true)
    (h : ∀ w', BL w' g cs' → w.grownBy w' (some g) → w'.heap.size = w.heap.size → wpList Tryz.prog ops Q rest (a.put op.dst undef) w') : wpList Tryz.prog ops Q (op :: rest) a w :=
  wpList_plain hgd fun _ hK => by
    obtain ⟨p1, p2, p3⟩ := setRow_at hb cs'
    unfold Oper.wp execOp
    simp only [ho, hx, hy, Instr.storeAt, Instr.sureAddr, Sem.run_bind, Sem.run_pure, Result.andThen_ok, run_storeVar_row (P := Tryz.prog) w g 58 58 cs cs' hb (by rw [hs']; exact Tryz.size58) (by rw [hs, hs']) h1]
    exact hK _ _ (h _ p1 p2 p3)
def ZB : Array Value := #[.int .i64 0, .int .i64 0, .int .i64 0, .int .i64 0, .int .i64 0, .string ⟨#[]⟩, .int .i64 0, .int .i64 0, .int .i64 0, .int .i64 0, .int .i64 0, .string ⟨#[]⟩, .int .i64 0, .int .i64 0, .int .i64 0, .int .i64 0, .int .i64 0, .string ⟨#[]⟩, .int .i64 0, .int .i64 0, .int .i64 0, .int .i64 0, .int .i64 0, .string ⟨#[]⟩]
theorem rd_own16 {B : Nat} {w : World} {g c : Nat} {R : List Int} (hR : R.length = 16) (h : w.ownsRow B 69 1 (.slice (some ⟨g, 0, none⟩) 16 c) 16 (R.map ui)) : Rd .u32 w (.slice (some ⟨g, 0, none⟩) 16 c) R := by
  rw [← hR] at h ⊢
  exact Rd.of_own h
set_option maxRecDepth 100000 in
set_option maxHeartbeats 8000000 in
theorem issue_go (B p : Nat) (ad : Addr) (n c : Nat) (b : List In5) (m : M) (V : Vs) (w : World) (h : SA B w p m V) (k : Ok m) (f : Fb 0 m.fl) (hb4 : b.length = 4) (hv : ∀ x ∈ b, Vi x) (hp : m.pc < n) (hn : n ≤ 1024) (_hbl : ad.block < B) (hx : BAt w (ad.add (m.pc * 24)) (bX b)) (ho : m.out.length + 4 ≤ 1000000) (hs : m.stop = 0) : Calls Tryz.prog 53 #[.slice (some ad) n c, .pointer (some ⟨p, 0, none⟩)] w (PStepP B p (issue b m) w) := by
  have hd : ¬ (n : Int) ≤ (m.pc : Int) := by omega
  have hdn : ¬ n ≤ m.pc := by omega
  have hdb : decide ((n : Int) ≤ (m.pc : Int)) = false := by simp; omega
  have p0 : (0 : Int) ≤ (m.pc : Int) := by omega
  have p1 : (m.pc : Int) < (n : Int) := by omega
  have hpc10 : m.pc < 1024 := by omega
  have HX := Lib.hid hx
  have H := Lib.hid h
  have KK := Lib.hid k
  have FF := Lib.hid f
  have HS := Lib.hid hs
  have HV := Lib.hid (fun i (hi : i < 4) => (show Vi (b.getD i zi) by rw [List.getD_eq_getElem?_getD, List.getElem?_eq_getElem (by omega)]; exact hv _ (List.getElem_mem _)))
  have SO := Lib.hid (slots_ok b m false 0 hv k f (by omega) (by omega) hs)
  have c5 : w.cell? ⟨p, 5, none⟩ = some (.int .i64 m.pc) := h.cell 5
  have hpl0 := h.lt
  clear h k f hv hx hs
  go_enter Tryz.func53, Tryz.ntmps53
  go_wp2_with (first | ((with_reducible refine wpList_load_at (op := ⟨_, .load 58 _, _, _, _, none⟩) rfl _ rfl (ad.add (m.pc * 24)) (bX b) ?hx2 HX.out ?_); (case hx2 => rfl)) | ((with_reducible refine wpList_store_bl (op := ⟨none, .store 58 _ _, _, _, _, none⟩) rfl _ _ rfl w.heap.size ZB (bcs (bX b)) ?sx ?sy ?sb ?s1 ?s2 ?s3 ?_); (case sx => rfl); (case sy => rfl); (case s1 => rfl); (case s2 => rfl); (case s3 => kernel_rfl)))
  case sb => exact heap_alloc_new _ _
  intro W1 hbl1 hg1 hsz1
  have SA1 := Lib.hid (show SA B W1 p m V from (H.out.alloc _).keepN (H.out.bd) hg1 (fun g hg => by cases hg; exact Nat.le_refl _))
  have B1 := Lib.hid (show Below B w W1 from ((Below.refl B w).alloc H.out.B_le _).grown hg1 (by have := H.out.B_le; simp; omega) (fun g hg => by cases hg; exact H.out.B_le))
  have K1 := Lib.hid (show K27 p w W1 from fun q cs hq hb => by
    have hl := lt_of_heap hb
    exact (hg1.block q (by simp; omega) (fun e => absurd hl (by cases e; exact Nat.lt_irrefl _))).trans ((Below.heap_alloc w _ q hl).trans hb))
  have BL1 := Lib.hid hbl1
  have hsz2 : W1.heap.size = w.heap.size + 1 := by simpa using hsz1
  have d0 : W1.cell? ⟨p, 0, none⟩ = some (.slice (some ⟨V.gr, 0, none⟩) 16 V.cr) := SA1.out.cell 0
  have hpl1 := SA1.out.lt
  clear hbl1 hg1 hsz1 c5 hpl0
  go_wp2_with fail
  refine (copy_w m.R _ W1 (rd_own16 KK.out.R SA1.out.hr) (by have := KK.out.R; omega)).mono ?_
  rintro e W2 ⟨A2, c2, rfl, own2, hb2⟩
  have hRl := KK.out.R
  obtain ⟨g2, c2', hv2, hgb2, hgl2⟩ := own2.form (by omega)
  simp only [Value.slice.injEq, true_and] at hv2
  obtain ⟨rfl, rfl⟩ := hv2
  have S2 := SA1.out.below hb2
  have B2 := B1.out.trans (hb2.mono SA1.out.B_le)
  have RG := Lib.hid (fun j (hj : j < 16) => (show W2.cell? ⟨g2, j, none⟩ = some (.int .u32 (m.reg j)) from (own2.cellAt j (by omega)).trans (map_at (by omega))))
  have BL2 := Lib.hid (BL1.out.below hb2)
  have START := Lib.hid (show PgR B p b m w V W2 0 m false V W2 from ⟨rfl, KK.out, FF.out, Nat.le_refl _, S2, B2, HS.out, K1.out.trans (K27.below hb2), KeepB.refl, rfl⟩)
  have FZ4 := Lib.hid (show Fr w.heap.size p V from H.out.fresh (Nat.le_refl _))
  have FG2 := Lib.hid (show Fr g2 p V from H.out.fresh (by omega))
  have hz4l : w.heap.size < W2.heap.size := by have := hb2.size; omega
  rw [hRl]
  clear own2 hb2 S2 B2 d0 hpl1 hsz2 hgb2
  go_wp2_with fail
  go_loopg [6, 7] 4 (fun gk q o wr2 => ∃ (i : Nat) (m2 : M) (j : Bool) (V2 : Vs), i ≤ 4 ∧ gk = 4 - i ∧ o = .int .i64 i ∧ q = .bool j ∧ PgR B p b m w V W2 i m2 j V2 wr2)
  case atStart => exact ⟨0, m, false, V, by omega, rfl, rfl, rfl, START.out⟩
  case round =>
    obtain ⟨i, m2, j, V2, hi, rfl, rfl, rfl, hR⟩ := hrel
    have RR := Lib.hid hR
    have SS := Lib.hid hR.sa
    obtain ⟨ez, fz⟩ := hR.blk hz4l FZ4.out
    obtain ⟨eg, fg⟩ := hR.blk hgl2 FG2.out
    have hgw : g2 < wr.heap.size := Nat.lt_of_lt_of_le hgl2 hR.kb.1
    have hzw : w.heap.size < wr.heap.size := Nat.lt_of_lt_of_le hz4l hR.kb.1
    by_cases hlt : i < 4
    · as_aux_lemma =>
        have hd : decide ((i : Int) < 4) = true := by simp; omega
        have I0 : (0 : Int) ≤ (i : Int) := by omega
        have I1 : (i : Int) < 4 := by omega
        obtain ⟨y0, y1, y2, y3, y4, y5⟩ := bl_ins5 (b := b) (show BL wr w.heap.size (bcs (bX b)) from ez.trans BL2.out) i hlt
        obtain ⟨has, vv, jj, tt, st, m3, DE0⟩ := deed_any B p (b.getD i zi) m2 hR.ok (HV.out i hlt)
        have DE := Lib.hid DE0
        have VX := Lib.hid (HV.out i hlt)
        have NEXT := Lib.hid (fun (m4 : M) (j4 : Bool) (hs : slot (b.getD i zi) m2 = (m4, j4, 0)) (W : World) (V4 : Vs) (a1 : SA B W p m4 V4) (a2 : Below B w W) (a3 : K27 p w W) (a4 : KeepB p wr V2 W V4) => RR.out.next (by omega) (HV.out i hlt) (by omega) hlt hs a1 a2 a3 a4)
        have STOPS := Lib.hid (fun (hs : slot (b.getD i zi) m2 = (m3, false, st)) (h0 : st ≠ 0) => RR.out.stops (by omega) hs h0)
        clear DE0
        generalize b.getD i zi = x at *
        have hreg : ∀ q, q < 16 → wr.cell? ⟨g2, q, none⟩ = some (.int .u32 (m2.reg q)) := fun q hq => by
          have h1 := (World.cell?_of_block (a := ⟨g2, q, none⟩) eg).trans (RG.out q hq)
          have h2 : m2.reg q = m.reg q := by unfold M.reg; rw [hR.R]
          rw [h2]
          exact h1
        have c5 : wr.cell? ⟨p, 5, none⟩ = some (.int .i64 m2.pc) := SS.out.cell 5
        have hxa := VX.out.a
        have hxb := VX.out.b
        have hpc2 := hR.ok.pc
        have hfl2 := hR.fb.len
        have ha0 := hreg x.a hxa
        have hb0 := hreg x.b hxb
        have FQ := Lib.hid fg
        clear hR eg ez hreg fz fg
        go_wp2_with fail
        generalize hW : wr.alloc (.cells #[.int .i64 x.o, .int .i64 x.d, .int .i64 x.a, .int .i64 x.b, .int .i64 x.m, .string ByteArray.empty] 55) = W
        have BX := Lib.hid (show Bx W wr.heap.size x by rw [← hW]; exact bx_new wr x)
        have SW := Lib.hid (show SA B W p m2 V2 by rw [← hW]; exact SS.out.alloc _)
        have KW := Lib.hid (show K27 p wr W by rw [← hW]; exact K27.alloc p wr _)
        have HB := Lib.hid (show Below B w W by rw [← hW]; exact RR.out.be.alloc SS.out.B_le _)
        have KBW := Lib.hid (show KeepB p wr V2 W V2 by rw [← hW]; exact KeepB.alloc _)
        have hzz : wr.heap.size < W.heap.size := BX.out.lt
        have hpl : p < W.heap.size := SW.out.lt
        have hgl : g2 < W.heap.size := by omega
        have FZ := Lib.hid (show Fr wr.heap.size p V2 from SS.out.fresh (Nat.le_refl _))
        have FG := Lib.hid (show Fr W.heap.size p V2 from SW.out.fresh (Nat.le_refl _))
        have q0 : W.cell? ⟨wr.heap.size, 0, none⟩ = some (.int .i64 x.o) := BX.out.c 0
        have q1 : W.cell? ⟨wr.heap.size, 1, none⟩ = some (.int .i64 x.d) := BX.out.c 1
        have q2 : W.cell? ⟨wr.heap.size, 2, none⟩ = some (.int .i64 x.a) := BX.out.c 2
        have q3 : W.cell? ⟨wr.heap.size, 3, none⟩ = some (.int .i64 x.b) := BX.out.c 3
        have q4 : W.cell? ⟨wr.heap.size, 4, none⟩ = some (.int .i64 x.m) := BX.out.c 4
        have q5 : W.cell? ⟨wr.heap.size, 5, none⟩ = some (.string ByteArray.empty) := BX.out.c 5
        have d5 : W.cell? ⟨p, 5, none⟩ = some (.int .i64 m2.pc) := SW.out.cell 5
        have ra : W.cell? ⟨g2, x.a, none⟩ = some (.int .u32 (m2.reg x.a)) := by rw [← hW]; exact (World.cell?_alloc_lt wr _ ⟨g2, x.a, none⟩ hgw).trans ha0
        have rb : W.cell? ⟨g2, x.b, none⟩ = some (.int .u32 (m2.reg x.b)) := by rw [← hW]; exact (World.cell?_alloc_lt wr _ ⟨g2, x.b, none⟩ hgw).trans hb0
        have KD := Lib.hid (show SPd wr.heap.size p g2 x m2 W.drew from ⟨q0, q1, q2, q3, q4, q5, d5, ra, rb⟩)
        have CC0 := DE.out.c
        rw [min_form] at CC0
        simp only [In5.cells] at CC0
        have CCH := Lib.hid CC0
        have HP := Lib.hid DE.out.pc
        have i0 : (0 : Int) ≤ (x.a : Int) := by omega
        have i1 : (x.a : Int) < 16 := by omega
        have i2 : (0 : Int) ≤ (x.b : Int) := by omega
        have i3 : (x.b : Int) < 16 := by omega
        have e2 : IntKind.i64.wrap ((m2.pc : Int) + 1) = (m2.pc : Int) + 1 := by rw [wrap_i64 _ (by omega) (by omega)]
        have e4 : IntKind.i64.wrap ((m2.pc : Int) + 1 + 2) = (m2.pc : Int) + 1 + 2 := by rw [wrap_i64 _ (by omega) (by omega)]
        have gz : W.heap.size ≠ wr.heap.size := by omega
        have gp : W.heap.size ≠ p := FG.out.p
        have gg : W.heap.size ≠ g2 := by omega
        clear CC0 hW q0 q1 q2 q3 q4 q5 d5 ra rb y0 y1 y2 y3 y4 y5 ha0 hb0 c5
        go_upto_region 9 with fail
        go_cut [9] (fun s9 wx => PCut B p wr.heap.size x has vv jj tt st m3 W V2 s9 wx)
        case first =>
          by_cases hmn : (1024 : Int) < (m2.pc : Int) + 1 + 2
          · have CC0 := CCH.out
            rw [if_pos hmn] at CC0
            have CC := Lib.hid CC0
            clear CC0
            go_region_held3 (fun w' => w'.cell? ⟨wr.heap.size, 0, none⟩ = some (.int .i64 x.o) ∧ w'.cell? ⟨wr.heap.size, 1, none⟩ = some (.int .i64 x.d) ∧ w'.cell? ⟨wr.heap.size, 2, none⟩ = some (.int .i64 x.a) ∧ w'.cell? ⟨wr.heap.size, 3, none⟩ = some (.int .i64 x.b) ∧ w'.cell? ⟨wr.heap.size, 4, none⟩ = some (.int .i64 x.m) ∧ w'.cell? ⟨wr.heap.size, 5, none⟩ = some (.string ByteArray.empty) ∧ w'.cell? ⟨p, 5, none⟩ = some (.int .i64 m2.pc) ∧ w'.cell? ⟨g2, x.a, none⟩ = some (.int .u32 (m2.reg x.a)) ∧ w'.cell? ⟨g2, x.b, none⟩ = some (.int .u32 (m2.reg x.b))) (first | with_reducible exact KD.out | with_reducible exact spd_allocD KD.out _ hzz hpl hgl | with_reducible exact K2.out | with_reducible exact spd_alloc K2.out _ l2z l2p l2g | with_reducible exact spd_set5 K2.out gz gp gg _ _ _ _ _) (first | (go_at_call 78; (with_reducible refine (CC.out W.drew V2 SW.out.drew).mono ?_); rintro e W2 ⟨rfl, ⟨V3, S2, hgr, hcr, hsh⟩, hb2, far2⟩; have XB := Lib.hid (far2.bx (z := wr.heap.size) (x := x) BX.out.drew FZ.out); have K2 := Lib.hid (spd_far KD.out far2 hzz hgl FZ.out FQ.out (S2.cp5 HP.out)); obtain ⟨xq0, xq1, xq2, xq3, xq4, xq5, cp5, cra, crb⟩ := K2.out; have l2z := XB.out.lt; have l2p := S2.lt; have l2g : g2 < W2.heap.size := Nat.lt_of_lt_of_le hgl far2.1; have S9 := Lib.hid S2; have BB := Lib.hid ((Below.refl B W).drew.trans hb2); have KQ := Lib.hid (K27.trans (K27.drew p W) (K27.far far2 SW.out.drew)); have KB := Lib.hid (KeepB.trans KeepB.drew (KeepB.deed far2 hgr hsh)); have DZ := Lib.hid True.intro; clear xq0 xq1 xq2 xq3 xq4 xq5 cp5 cra crb S2 hb2 far2 hgr hcr hsh) | (go_at_call 78; (with_reducible refine (CC.out (W.alloc _).drew V2 (SW.out.alloc _).drew).mono ?_); rintro e W2 ⟨rfl, ⟨V3, S2, hgr, hcr, hsh⟩, hb2, far2⟩; have XB := Lib.hid (far2.bx (z := wr.heap.size) (x := x) (BX.out.below (below_new _ _)).drew FZ.out); have K2 := Lib.hid (spd_far (spd_allocD KD.out _ hzz hpl hgl) far2 (show wr.heap.size < (W.alloc _).drew.heap.size by simp; omega) (show g2 < (W.alloc _).drew.heap.size by simp; omega) FZ.out FQ.out (S2.cp5 HP.out)); have l2z := XB.out.lt; have l2p := S2.lt; have l2g : g2 < W2.heap.size := Nat.lt_of_lt_of_le (show g2 < (W.alloc _).drew.heap.size by simp; omega) far2.1; have S9 := Lib.hid S2; have BB := Lib.hid (((Below.refl B W).alloc SW.out.B_le _).drew.trans hb2); have KQ := Lib.hid (K27.trans (K27.trans (K27.alloc p W _) (K27.drew p _)) (K27.far (w := (W.alloc _).drew) far2 (SW.out.alloc _).drew)); have KB := Lib.hid (KeepB.trans (KeepB.trans (KeepB.alloc _) KeepB.drew) (KeepB.deed far2 hgr hsh)); have DZ := Lib.hid (far2.dd (Dd.new W _ _ _ _ _) FG.out); have dl := DZ.out.lt; obtain ⟨⟨v0, y0⟩, ⟨v1, y1⟩, ⟨v2, y2⟩, ⟨v3, y3⟩, ⟨v4, y4⟩⟩ := DZ.out.c; have z0 := DZ.out.f 0; have z1 := DZ.out.f 1; have z2 := DZ.out.f 2; have z3 := DZ.out.f 3; have z4 := DZ.out.f 4; clear S2 hb2 far2 hgr hcr hsh))
            all_goals go_wp2_with fail
            · go_meet
              case rel => exact pcut1 S9.out XB.out BB.out KQ.out KB.out
            all_goals go_meet
            all_goals exact pcut2 S9.out XB.out BB.out DZ.out SW.out.B_le (DZ.out.fr S9.out gp) hzz KQ.out (Nat.le_refl _) KB.out
          · have CC0 := CCH.out
            rw [if_neg hmn] at CC0
            have CC := Lib.hid CC0
            clear CC0
            go_region_held3 (fun w' => w'.cell? ⟨wr.heap.size, 0, none⟩ = some (.int .i64 x.o) ∧ w'.cell? ⟨wr.heap.size, 1, none⟩ = some (.int .i64 x.d) ∧ w'.cell? ⟨wr.heap.size, 2, none⟩ = some (.int .i64 x.a) ∧ w'.cell? ⟨wr.heap.size, 3, none⟩ = some (.int .i64 x.b) ∧ w'.cell? ⟨wr.heap.size, 4, none⟩ = some (.int .i64 x.m) ∧ w'.cell? ⟨wr.heap.size, 5, none⟩ = some (.string ByteArray.empty) ∧ w'.cell? ⟨p, 5, none⟩ = some (.int .i64 m2.pc) ∧ w'.cell? ⟨g2, x.a, none⟩ = some (.int .u32 (m2.reg x.a)) ∧ w'.cell? ⟨g2, x.b, none⟩ = some (.int .u32 (m2.reg x.b))) (first | with_reducible exact KD.out | with_reducible exact spd_allocD KD.out _ hzz hpl hgl | with_reducible exact K2.out | with_reducible exact spd_alloc K2.out _ l2z l2p l2g | with_reducible exact spd_set5 K2.out gz gp gg _ _ _ _ _) (first | (go_at_call 78; (with_reducible refine (CC.out W.drew V2 SW.out.drew).mono ?_); rintro e W2 ⟨rfl, ⟨V3, S2, hgr, hcr, hsh⟩, hb2, far2⟩; have XB := Lib.hid (far2.bx (z := wr.heap.size) (x := x) BX.out.drew FZ.out); have K2 := Lib.hid (spd_far KD.out far2 hzz hgl FZ.out FQ.out (S2.cp5 HP.out)); obtain ⟨xq0, xq1, xq2, xq3, xq4, xq5, cp5, cra, crb⟩ := K2.out; have l2z := XB.out.lt; have l2p := S2.lt; have l2g : g2 < W2.heap.size := Nat.lt_of_lt_of_le hgl far2.1; have S9 := Lib.hid S2; have BB := Lib.hid ((Below.refl B W).drew.trans hb2); have KQ := Lib.hid (K27.trans (K27.drew p W) (K27.far far2 SW.out.drew)); have KB := Lib.hid (KeepB.trans KeepB.drew (KeepB.deed far2 hgr hsh)); have DZ := Lib.hid True.intro; clear xq0 xq1 xq2 xq3 xq4 xq5 cp5 cra crb S2 hb2 far2 hgr hcr hsh) | (go_at_call 78; (with_reducible refine (CC.out (W.alloc _).drew V2 (SW.out.alloc _).drew).mono ?_); rintro e W2 ⟨rfl, ⟨V3, S2, hgr, hcr, hsh⟩, hb2, far2⟩; have XB := Lib.hid (far2.bx (z := wr.heap.size) (x := x) (BX.out.below (below_new _ _)).drew FZ.out); have K2 := Lib.hid (spd_far (spd_allocD KD.out _ hzz hpl hgl) far2 (show wr.heap.size < (W.alloc _).drew.heap.size by simp; omega) (show g2 < (W.alloc _).drew.heap.size by simp; omega) FZ.out FQ.out (S2.cp5 HP.out)); have l2z := XB.out.lt; have l2p := S2.lt; have l2g : g2 < W2.heap.size := Nat.lt_of_lt_of_le (show g2 < (W.alloc _).drew.heap.size by simp; omega) far2.1; have S9 := Lib.hid S2; have BB := Lib.hid (((Below.refl B W).alloc SW.out.B_le _).drew.trans hb2); have KQ := Lib.hid (K27.trans (K27.trans (K27.alloc p W _) (K27.drew p _)) (K27.far (w := (W.alloc _).drew) far2 (SW.out.alloc _).drew)); have KB := Lib.hid (KeepB.trans (KeepB.trans (KeepB.alloc _) KeepB.drew) (KeepB.deed far2 hgr hsh)); have DZ := Lib.hid (far2.dd (Dd.new W _ _ _ _ _) FG.out); have dl := DZ.out.lt; obtain ⟨⟨v0, y0⟩, ⟨v1, y1⟩, ⟨v2, y2⟩, ⟨v3, y3⟩, ⟨v4, y4⟩⟩ := DZ.out.c; have z0 := DZ.out.f 0; have z1 := DZ.out.f 1; have z2 := DZ.out.f 2; have z3 := DZ.out.f 3; have z4 := DZ.out.f 4; clear S2 hb2 far2 hgr hcr hsh))
            all_goals go_wp2_with fail
            · go_meet
              case rel => exact pcut1 S9.out XB.out BB.out KQ.out KB.out
            all_goals go_meet
            all_goals exact pcut2 S9.out XB.out BB.out DZ.out SW.out.B_le (DZ.out.fr S9.out gp) hzz KQ.out (Nat.le_refl _) KB.out
        case rest =>
        obtain ⟨g, V3, rfl, db, S3, fr, bx3, hb3, hk3, kb3, hgW, hzg⟩ := hcut
        have K4 := Lib.hid (RR.out.k.trans (KW.out.trans hk3))
        have KB4 := Lib.hid (KBW.out.trans kb3)
        have FZ3 := Lib.hid (kb3.2 _ hzz FZ.out).2
        have S4 := Lib.hid S3
        have B4 := Lib.hid (HB.out.trans hb3)
        have BX3 := Lib.hid bx3
        have DBG := Lib.hid db
        have g0 : wc.cell? ⟨g, 0, none⟩ = some (.bool has) := cell_of_row wc g 0 _ _ _ db
        have g1 : wc.cell? ⟨g, 1, none⟩ = some (.int .u32 vv) := cell_of_row wc g 1 _ _ _ db
        have g2' : wc.cell? ⟨g, 2, none⟩ = some (.bool jj) := cell_of_row wc g 2 _ _ _ db
        have g3 : wc.cell? ⟨g, 3, none⟩ = some (.int .i64 tt) := cell_of_row wc g 3 _ _ _ db
        have g4 : wc.cell? ⟨g, 4, none⟩ = some (.int .i64 st) := cell_of_row wc g 4 _ _ _ db
        have gl := lt_of_heap db
        have pl := S3.lt
        have gp3 := fr.p
        have HPP := Lib.hid S3.hp
        have HFL := Lib.hid (show m3.fl.length < 1000 by rw [DE.out.fl]; omega)
        clear db fr hb3 hk3 kb3 KD CCH SW BX HB FG FZ KW KBW S3 bx3 gz gp gg hzz hpl hgl
        by_cases hst : st = 0
        · subst hst
          cases has
          · cases jj
            · have e0 : slot x m2 = (m3, false, 0) := DE.out.goo rfl
              have N := Lib.hid (NEXT.out m3 false e0 wc V3 S4.out B4.out K4.out KB4.out)
              clear e0
              go_wp2_with fail
              go_roundg (4 - (i + 1))
              case measure => omega
              case rel => exact ⟨i + 1, m3, j, V3, by omega, rfl, by go_num, rfl, by have := N.out; rwa [Bool.or_false] at this⟩
            · have e0 : slot x m2 = (jmp m3 tt.toNat, true, 0) := DE.out.goo rfl
              have ht := DE.out.jj rfl
              have f9 := S4.out.frozen 9
              have f10 := S4.out.frozen 10
              have c9 : wc.cell? ⟨p, 9, none⟩ = some (.int .i64 m3.jp) := S4.out.cell 9
              have c10 : wc.cell? ⟨p, 10, none⟩ = some (.int .i64 m3.dl) := S4.out.cell 10
              have N := Lib.hid (NEXT.out (jmp m3 tt.toNat) true e0 ((wc.setCell ⟨p, 9, none⟩ (.int .i64 tt)).setCell ⟨p, 10, none⟩ (.int .i64 2)) V3 (S4.out.setJmp (by omega)) (bel2 B4.out HPP.out _ _ _ _) (K4.out.trans ((K27.setP p _ 9 _).trans (K27.setP p _ 10 _))) (KB4.out.trans ((KeepB.setP 9 _).trans (KeepB.setP 10 _))))
              clear e0 ht
              go_wp2_with fail
              go_roundg (4 - (i + 1))
              case measure => omega
              case rel => exact ⟨i + 1, jmp m3 tt.toNat, true, V3, by omega, rfl, by go_num, rfl, by have := N.out; rwa [Bool.or_true] at this⟩
          · have hjj := DE.out.hj rfl
            subst hjj
            have e0 : slot x m2 = (fly m3 x vv, false, 0) := DE.out.goo rfl
            have E0 := Lib.hid e0
            have LAT := Lib.hid (fun W => rlat_any x.o W VX.out.o)
            have hl := lt_le ⟨x.o, VX.out.o⟩
            simp only at hl
            have d8 : wc.cell? ⟨p, 8, none⟩ = some (.slice V3.af m3.fl.length V3.cf) := S4.out.cell 8
            have f8 := S4.out.frozen 8
            have z0 : wc.cell? ⟨wr.heap.size, 0, none⟩ = some (.int .i64 x.o) := BX3.out.c 0
            have z1 : wc.cell? ⟨wr.heap.size, 1, none⟩ = some (.int .i64 x.d) := BX3.out.c 1
            have zl := BX3.out.lt
            have e5 : IntKind.i64.wrap (lt x.o - 1) = lt x.o - 1 := by rw [wrap_i64 _ (by omega) (by omega)]
            have EF := Lib.hid (show ([.int .i64 x.d, .int .u32 vv, .int .i64 (lt x.o - 1)] : List Value) = Fl.list ⟨x.d, vv, (lt x.o - 1).toNat⟩ by simp only [Fl.list]; rw [show (((lt x.o - 1).toNat : Nat) : Int) = lt x.o - 1 by omega])
            clear e0
            go_upto_region 13 with fail
            have A0 := Lib.hid (show SPe p wr.heap.size g x m3 V3 vv wc.drew from ⟨d8, z0, z1, g1⟩)
            have A1 := Lib.hid (spe_allocD (X := wc) A0.out (.cells #[.int .i64 x.d, .int .u32 vv, .int .i64 (lt x.o - 1)] 71) pl zl gl)
            refine AnyE.begin (fun w9 => SPe p wr.heap.size g x m3 V3 vv w9) 18 (by kernel_rfl) ?_
            refine AnyE.take (i := 0) (oi := { dst := some 69, op := Op.move (Operand.tmp 1), type := 73, pos := "sledgeref5.go:191", after := #[], guard := none }) (v := ?_) rfl (by kernel_rfl) (by kernel_rfl) (by kernel_rfl) (by kernel_rfl) (fun _ _ _ h => h) (Or.inl ⟨by rfl, ?_⟩) A0.out ?_
            rotate_left
            · intro w5 hSw
              obtain ⟨s0, s1, s2, s3⟩ := hSw
              go_simp
              try with_reducible rfl
            try simp only [Act.put, List.setIfInBounds_toArray, List.set_cons_zero, List.set_cons_succ]
            refine AnyE.take (i := 1) (oi := { dst := some 70, op := Op.move (Operand.tmp 1), type := 73, pos := "sledgeref5.go:191", after := #[], guard := none }) (v := ?_) rfl (by kernel_rfl) (by kernel_rfl) (by kernel_rfl) (by kernel_rfl) (fun _ _ _ h => h) (Or.inl ⟨by rfl, ?_⟩) A0.out ?_
            rotate_left
            · intro w5 hSw
              obtain ⟨s0, s1, s2, s3⟩ := hSw
              go_simp
              try with_reducible rfl
            try simp only [Act.put, List.setIfInBounds_toArray, List.set_cons_zero, List.set_cons_succ]
            refine AnyE.take (i := 2) (oi := { dst := some 71, op := Op.nilCheck (Operand.tmp 70), type := 0, pos := "sledgeref5.go:191", after := #[{ on := 1, ground := Ground.data }], guard := none }) (v := ?_) rfl (by kernel_rfl) (by kernel_rfl) (by kernel_rfl) (by kernel_rfl) (fun _ _ _ h => h) (Or.inl ⟨by rfl, ?_⟩) A0.out ?_
            rotate_left
            · intro w5 hSw
              obtain ⟨s0, s1, s2, s3⟩ := hSw
              go_simp
              try with_reducible rfl
            try simp only [Act.put, List.setIfInBounds_toArray, List.set_cons_zero, List.set_cons_succ]
            refine AnyE.take (i := 3) (oi := { dst := some 72, op := Op.fieldAddr 27 (Operand.tmp 71) 8, type := 0, pos := "sledgeref5.go:191", after := #[{ on := 2, ground := Ground.data }], guard := none }) (v := ?_) rfl (by kernel_rfl) (by kernel_rfl) (by kernel_rfl) (by kernel_rfl) (fun _ _ _ h => h) (Or.inl ⟨by rfl, ?_⟩) A0.out ?_
            rotate_left
            · intro w5 hSw
              obtain ⟨s0, s1, s2, s3⟩ := hSw
              go_simp
              try with_reducible rfl
            try simp only [Act.put, List.setIfInBounds_toArray, List.set_cons_zero, List.set_cons_succ]
            refine AnyE.take (i := 4) (oi := { dst := some 73, op := Op.load 25 (Operand.tmp 72), type := 25, pos := "sledgeref5.go:191", after := #[{ on := 3, ground := Ground.data }], guard := none }) (v := ?_) rfl (by kernel_rfl) (by kernel_rfl) (by kernel_rfl) (by kernel_rfl) (fun _ _ _ h => h) (Or.inl ⟨by rfl, ?_⟩) A0.out ?_
            rotate_left
            · intro w5 hSw
              obtain ⟨s0, s1, s2, s3⟩ := hSw
              go_simp
              try with_reducible rfl
            try simp only [Act.put, List.setIfInBounds_toArray, List.set_cons_zero, List.set_cons_succ]
            refine AnyE.take (i := 5) (oi := { dst := some 74, op := Op.fieldAddr 55 (Operand.tmp 8) 1, type := 0, pos := "sledgeref5.go:191", after := #[], guard := none }) (v := ?_) rfl (by kernel_rfl) (by kernel_rfl) (by kernel_rfl) (by kernel_rfl) (fun _ _ _ h => h) (Or.inl ⟨by rfl, ?_⟩) A0.out ?_
            rotate_left
            · intro w5 hSw
              obtain ⟨s0, s1, s2, s3⟩ := hSw
              go_simp
              try with_reducible rfl
            try simp only [Act.put, List.setIfInBounds_toArray, List.set_cons_zero, List.set_cons_succ]
            refine AnyE.take (i := 6) (oi := { dst := some 75, op := Op.load 3 (Operand.tmp 74), type := 3, pos := "sledgeref5.go:191", after := #[{ on := 5, ground := Ground.data }], guard := none }) (v := ?_) rfl (by kernel_rfl) (by kernel_rfl) (by kernel_rfl) (by kernel_rfl) (fun _ _ _ h => h) (Or.inl ⟨by rfl, ?_⟩) A0.out ?_
            rotate_left
            · intro w5 hSw
              obtain ⟨s0, s1, s2, s3⟩ := hSw
              go_simp
              try with_reducible rfl
            try simp only [Act.put, List.setIfInBounds_toArray, List.set_cons_zero, List.set_cons_succ]
            refine AnyE.take (i := 7) (oi := { dst := some 76, op := Op.fieldAddr 91 (Operand.tmp 9) 1, type := 0, pos := "sledgeref5.go:191", after := #[], guard := none }) (v := ?_) rfl (by kernel_rfl) (by kernel_rfl) (by kernel_rfl) (by kernel_rfl) (fun _ _ _ h => h) (Or.inl ⟨by rfl, ?_⟩) A0.out ?_
            rotate_left
            · intro w5 hSw
              obtain ⟨s0, s1, s2, s3⟩ := hSw
              go_simp
              try with_reducible rfl
            try simp only [Act.put, List.setIfInBounds_toArray, List.set_cons_zero, List.set_cons_succ]
            refine AnyE.take (i := 8) (oi := { dst := some 77, op := Op.load 69 (Operand.tmp 76), type := 69, pos := "sledgeref5.go:191", after := #[{ on := 7, ground := Ground.data }], guard := none }) (v := ?_) rfl (by kernel_rfl) (by kernel_rfl) (by kernel_rfl) (by kernel_rfl) (fun _ _ _ h => h) (Or.inl ⟨by rfl, ?_⟩) A0.out ?_
            rotate_left
            · intro w5 hSw
              obtain ⟨s0, s1, s2, s3⟩ := hSw
              go_simp
              try with_reducible rfl
            try simp only [Act.put, List.setIfInBounds_toArray, List.set_cons_zero, List.set_cons_succ]
            refine AnyE.take (i := 9) (oi := { dst := some 78, op := Op.fieldAddr 55 (Operand.tmp 8) 0, type := 0, pos := "sledgeref5.go:191", after := #[], guard := none }) (v := ?_) rfl (by kernel_rfl) (by kernel_rfl) (by kernel_rfl) (by kernel_rfl) (fun _ _ _ h => h) (Or.inl ⟨by rfl, ?_⟩) A0.out ?_
            rotate_left
            · intro w5 hSw
              obtain ⟨s0, s1, s2, s3⟩ := hSw
              go_simp
              try with_reducible rfl
            try simp only [Act.put, List.setIfInBounds_toArray, List.set_cons_zero, List.set_cons_succ]
            refine AnyE.take (i := 10) (oi := { dst := some 79, op := Op.load 3 (Operand.tmp 78), type := 3, pos := "sledgeref5.go:191", after := #[{ on := 9, ground := Ground.data }], guard := none }) (v := ?_) rfl (by kernel_rfl) (by kernel_rfl) (by kernel_rfl) (by kernel_rfl) (fun _ _ _ h => h) (Or.inl ⟨by rfl, ?_⟩) A0.out ?_
            rotate_left
            · intro w5 hSw
              obtain ⟨s0, s1, s2, s3⟩ := hSw
              go_simp
              try with_reducible rfl
            try simp only [Act.put, List.setIfInBounds_toArray, List.set_cons_zero, List.set_cons_succ]
            refine AnyE.one (i := 11) (o := { dst := some 80, op := Op.call { callee := Callee.value (Operand.func 38), args := #[Operand.tmp 79], argTypes := #[3] }, type := 3, pos := "sledgeref5.go:191", after := #[{ on := 10, ground := Ground.data }], guard := none }) rfl (by kernel_rfl) (fun K hK => ?_)
            go_simp
            go_at_call 38
            refine (LAT.out _).mono ?_
            rintro e w5 ⟨rfl, rfl⟩
            refine hK.out _ _ (.inl A0.out) ?_
            clear hK K
            try simp only [Act.put, List.setIfInBounds_toArray, List.set_cons_zero, List.set_cons_succ]
            refine AnyE.take (i := 12) (oi := { dst := some 81, op := Op.binOp BinOp.sub 3 (Operand.tmp 80) (Operand.const (Value.int IntKind.i64 1)) 3, type := 3, pos := "sledgeref5.go:191", after := #[{ on := 11, ground := Ground.data }], guard := none }) (v := ?_) rfl (by kernel_rfl) (by kernel_rfl) (by kernel_rfl) (by kernel_rfl) (fun _ _ _ h => h) (Or.inl ⟨by rfl, ?_⟩) A0.out ?_
            rotate_left
            · intro w5 hSw
              obtain ⟨s0, s1, s2, s3⟩ := hSw
              go_simp
              try with_reducible rfl
            try simp only [Act.put, List.setIfInBounds_toArray, List.set_cons_zero, List.set_cons_succ]
            refine AnyE.take (i := 13) (oi := { dst := some 82, op := Op.build 71 #[(0, Operand.tmp 75), (1, Operand.tmp 77), (2, Operand.tmp 81)], type := 71, pos := "sledgeref5.go:191", after := #[{ on := 6, ground := Ground.data }, { on := 8, ground := Ground.data }, { on := 12, ground := Ground.data }], guard := none }) (v := ?_) rfl (by kernel_rfl) (by kernel_rfl) (by kernel_rfl) (by kernel_rfl) (fun _ _ _ h => h) (Or.inl ⟨by rfl, ?_⟩) A0.out ?_
            rotate_left
            · intro w5 hSw
              obtain ⟨s0, s1, s2, s3⟩ := hSw
              go_simp
              try with_reducible rfl
            try simp only [Act.put, List.setIfInBounds_toArray, List.set_cons_zero, List.set_cons_succ]
            refine AnyE.one (i := 14) (o := { dst := some 83, op := Op.buildSlice 25 1 #[(0, Operand.tmp 82)], type := 25, pos := "sledgeref5.go:191", after := #[{ on := 13, ground := Ground.data }], guard := none }) rfl (by kernel_rfl) (fun K hK => ?_)
            go_simp
            refine hK.out _ _ (.inl A1.out) ?_
            clear hK K
            try simp only [Act.put, List.setIfInBounds_toArray, List.set_cons_zero, List.set_cons_succ]
            refine AnyE.one (i := 15) (o := { dst := some 84, op := Op.call { callee := Callee.builtin Builtin.append, args := #[Operand.tmp 73, Operand.tmp 83], argTypes := #[25, 25] }, type := 25, pos := "sledgeref5.go:191", after := #[{ on := 4, ground := Ground.data }, { on := 14, ground := Ground.data }, { on := 11, ground := Ground.chain }], guard := none }) rfl (by kernel_rfl) (fun K hK => ?_)
            refine step_app3 (B := B) (n := m3.fl.length) (c := V3.cf) (va := V3.af) (xs := m3.fl) ⟨x.d, vv, (lt x.o - 1).toNat⟩ rfl _ _ rfl (by rfl) wc.heap.size (by rfl) #[.int .i64 x.d, .int .u32 vv, .int .i64 (lt x.o - 1)] (heap_alloc_new wc _) EF.out (S4.out.alloc _).drew.hf (by have := HFL.out; omega) (S4.out.alloc _).drew.B_le ?_
            intro g9 cap9 w7 hown7 hg7 hat7 hlt7
            have F7 := Lib.hid (farF (S4.out.alloc _).drew hg7)
            have C7 : w7.cell? ⟨p, 8, none⟩ = some (.slice V3.af m3.fl.length V3.cf) := F7.out.1
            have D7 := F7.out.2
            have L7 : p < w7.heap.size := World.block_lt_of_cell? w7 _ C7
            have A7 := Lib.hid (spe_grown A1.out hg7 (show p < ((wc.alloc _).drew).heap.size by simp; omega) (show wr.heap.size < ((wc.alloc _).drew).heap.size by simp; omega) (show g < ((wc.alloc _).drew).heap.size by simp; omega) S4.out.pf FZ3.out.f (S4.out.fdeed gl DBG.out))
            have G7 : w7.cell? ⟨g, 2, none⟩ = some (.bool false) := (hg7.cell_far ⟨g, 2, none⟩ (by simp; omega) (fun e => S4.out.fdeed gl DBG.out e.symm)).trans ((World.cell?_alloc_lt wc _ ⟨g, 2, none⟩ gl).trans g2')
            have GL7 : g < w7.heap.size := World.block_lt_of_cell? w7 _ G7
            have N := Lib.hid (NEXT.out (fly m3 x vv) false E0.out _ _ (fly7 (S4.out.alloc _).drew hg7 hown7 hat7) ((belowf7 B4.out S4.out hg7).setCell (by exact HPP.out) _) ((K4.out.trans ((K27.alloc p wc _).trans (K27.drew p _))).trans ((K27.grown (S4.out.alloc _).drew.hf (by decide) hg7).trans (K27.setP p _ 8 _))) (KB4.out.trans (((KeepB.alloc _).trans KeepB.drew).trans (KeepB.fly7 hg7 hat7 _))))
            clear hown7 hg7 hat7 d8 f8 z0 z1 zl g0 g1 g3 g4 gl pl
            refine hK.out _ _ (.inl A7.out) ?_
            clear hK K
            try simp only [Act.put, List.setIfInBounds_toArray, List.set_cons_zero, List.set_cons_succ]
            refine AnyE.one (i := 16) (o := { dst := some 85, op := Op.nilCheck (Operand.tmp 69), type := 0, pos := "sledgeref5.go:191", after := #[{ on := 0, ground := Ground.data }, { on := 0, ground := Ground.phase }, { on := 1, ground := Ground.phase }, { on := 2, ground := Ground.phase }, { on := 3, ground := Ground.phase }, { on := 4, ground := Ground.phase }, { on := 5, ground := Ground.phase }, { on := 6, ground := Ground.phase }, { on := 7, ground := Ground.phase }, { on := 8, ground := Ground.phase }, { on := 9, ground := Ground.phase }, { on := 10, ground := Ground.phase }, { on := 11, ground := Ground.phase }, { on := 12, ground := Ground.phase }, { on := 13, ground := Ground.phase }, { on := 14, ground := Ground.phase }, { on := 15, ground := Ground.phase }], guard := none }) rfl (by kernel_rfl) (fun K hK => ?_)
            go_simp
            refine hK.out _ _ (.inl A7.out) ?_
            clear hK K
            try simp only [Act.put, List.setIfInBounds_toArray, List.set_cons_zero, List.set_cons_succ]
            refine AnyE.one (i := 17) (o := { dst := some 86, op := Op.fieldAddr 27 (Operand.tmp 85) 8, type := 0, pos := "sledgeref5.go:191", after := #[{ on := 16, ground := Ground.data }, { on := 0, ground := Ground.phase }, { on := 1, ground := Ground.phase }, { on := 2, ground := Ground.phase }, { on := 3, ground := Ground.phase }, { on := 4, ground := Ground.phase }, { on := 5, ground := Ground.phase }, { on := 6, ground := Ground.phase }, { on := 7, ground := Ground.phase }, { on := 8, ground := Ground.phase }, { on := 9, ground := Ground.phase }, { on := 10, ground := Ground.phase }, { on := 11, ground := Ground.phase }, { on := 12, ground := Ground.phase }, { on := 13, ground := Ground.phase }, { on := 14, ground := Ground.phase }, { on := 15, ground := Ground.phase }], guard := none }) rfl (by kernel_rfl) (fun K hK => ?_)
            go_simp
            refine hK.out _ _ (.inl A7.out) ?_
            clear hK K
            try simp only [Act.put, List.setIfInBounds_toArray, List.set_cons_zero, List.set_cons_succ]
            refine AnyE.one (i := 18) (o := { dst := none, op := Op.store 25 (Operand.tmp 86) (Operand.tmp 84), type := 0, pos := "sledgeref5.go:191", after := #[{ on := 17, ground := Ground.data }, { on := 15, ground := Ground.data }, { on := 15, ground := Ground.chain }, { on := 0, ground := Ground.phase }, { on := 1, ground := Ground.phase }, { on := 2, ground := Ground.phase }, { on := 3, ground := Ground.phase }, { on := 4, ground := Ground.phase }, { on := 5, ground := Ground.phase }, { on := 6, ground := Ground.phase }, { on := 7, ground := Ground.phase }, { on := 8, ground := Ground.phase }, { on := 9, ground := Ground.phase }, { on := 10, ground := Ground.phase }, { on := 11, ground := Ground.phase }, { on := 12, ground := Ground.phase }, { on := 13, ground := Ground.phase }, { on := 14, ground := Ground.phase }, { on := 15, ground := Ground.phase }], guard := none }) rfl (by kernel_rfl) (fun K hK => ?_)
            go_simp
            refine hK.out _ _ (.inr rfl) ?_
            clear hK K
            refine AnyE.done (by kernel_rfl) ?_ _
            try simp only [Act.put, List.setIfInBounds_toArray, List.set_cons_zero, List.set_cons_succ]
            go_wp2_with fail
            go_roundg (4 - (i + 1))
            case measure => omega
            case rel => exact ⟨i + 1, fly m3 x vv, j, _, by omega, rfl, by go_num, rfl, by have := N.out; rwa [Bool.or_false] at this⟩
        · have hne : (st != 0) = true := by simpa using hst
          have e0 := DE.out.stp hst
          have ES := STOPS.out e0 hst
          have f7 := S4.out.frozen 7
          have c7 : wc.cell? ⟨p, 7, none⟩ = some (.int .i64 m3.stop) := S4.out.cell 7
          have S5 := Lib.hid (S4.out.setStop st)
          have B5 := Lib.hid (B4.out.setCell (p := ⟨p, 7, none⟩) (by exact HPP.out) (.int .i64 st))
          have K5 := Lib.hid (K4.out.trans (K27.setP p _ 7 (.int .i64 st)))
          have SO2 := SO.out
          rw [ES] at SO2
          have SO3 := Lib.hid SO2
          by_cases h1 : st = 1
          · have t1 : (st == 1) = true := by simpa using h1
            have EI := Lib.hid (issue_halt ES hst h1)
            clear e0 ES SO2 hst h1
            go_wp2_with fail
            go_loopg [] 6 (fun gk wr3 => ∃ (n2 : Nat) (V5 : Vs), n2 + gk = 6 ∧ 1 ≤ gk ∧ Ok (lands n2 (stop m3 st)) ∧ SA B wr3 p (lands n2 (stop m3 st)) V5 ∧ Below B w wr3 ∧ K27 p w wr3)
            case atStart => exact ⟨0, V3, by omega, by omega, SO3.out.1, S5.out, B5.out, K5.out⟩
            case round =>
              obtain ⟨n2, V5, hn2, hgk, ok5, S6, hb6, hk6⟩ := hrel
              have OK := Lib.hid ok5
              have S7 := Lib.hid S6
              have HB7 := Lib.hid hb6
              have HK7 := Lib.hid hk6
              have d8 : wr.cell? ⟨p, 8, none⟩ = some (.slice V5.af (lands n2 (stop m3 st)).fl.length V5.cf) := S6.cell 8
              have hpl7 := S6.lt
              have HLO := Lib.hid (lands_lo (n := n2) SO3.out.2.1.lo (by omega))
              clear ok5 S6 hb6 hk6
              by_cases he : (lands n2 (stop m3 st)).fl = []
              · have hd2 : ¬ 0 < (lands n2 (stop m3 st)).fl.length := by rw [he]; simp
                have DR := Lib.hid (drain_of (n := n2) (m := stop m3 st) (by omega) he)
                clear he
                go_wp2_with fail
                go_end0
                rw [EI.out, ← DR.out]
                exact ⟨rfl, ⟨⟨V5, S7.out⟩, HB7.out⟩, HK7.out⟩
              · have hd2 : 0 < (lands n2 (stop m3 st)).fl.length := List.length_pos_iff.2 he
                have hn5 : n2 < 5 := by
                  rcases Nat.lt_or_ge n2 5 with h5 | h5
                  · exact h5
                  · obtain rfl : n2 = 5 := by omega
                    exact absurd (HLO.out.zero) he
                clear he
                go_wp2_with fail
                refine (lands_pg B p (lands n2 (stop m3 st)) V5 wr S7.out OK.out).mono ?_
                rintro e W8 ⟨rfl, ⟨⟨V8, S8⟩, hb8⟩, hk8⟩
                have S9 := Lib.hid (show SA B W8 p (lands (n2 + 1) (stop m3 st)) V8 by rw [lands_succ]; exact S8)
                have O9 := Lib.hid (show Ok (lands (n2 + 1) (stop m3 st)) by rw [lands_succ]; exact OK.out.land)
                have B9 := Lib.hid (HB7.out.trans hb8)
                have K9 := Lib.hid (HK7.out.trans hk8)
                clear S8 hb8 hk8
                go_wp2_with fail
                go_roundg (gk - 1)
                case measure => omega
                case rel => exact ⟨n2 + 1, V8, by omega, by omega, O9.out, S9.out, B9.out, K9.out⟩
          · have t1 : (st == 1) = false := by simpa using h1
            have EI := Lib.hid (issue_stop ES hst h1)
            clear e0 ES SO2 hst h1
            go_wp2_with fail
            go_end0
            rw [EI.out]
            exact ⟨rfl, ⟨⟨_, S5.out⟩, B5.out⟩, K5.out⟩
    · as_aux_lemma =>
        have hd : decide ((i : Int) < 4) = false := by simp; omega
        obtain rfl : i = 4 := by omega
        have hE := hR.go
        rw [List.drop_of_length_le (by omega)] at hE
        have EI := Lib.hid (issue_next hE.symm hR.st)
        have HPP := Lib.hid hR.sa.hp
        have ok2 := hR.ok
        have c5 : wr.cell? ⟨p, 5, none⟩ = some (.int .i64 m2.pc) := SS.out.cell 5
        have c7 : wr.cell? ⟨p, 7, none⟩ = some (.int .i64 0) := by have := SS.out.cell 7; rw [this]; simp [stCells, hR.st]
        have c9 : wr.cell? ⟨p, 9, none⟩ = some (.int .i64 m2.jp) := SS.out.cell 9
        have c10 : wr.cell? ⟨p, 10, none⟩ = some (.int .i64 m2.dl) := SS.out.cell 10
        have f5 := SS.out.frozen 5
        have f9 := SS.out.frozen 9
        have f10 := SS.out.frozen 10
        have hpl := SS.out.lt
        have hpc2 := ok2.pc
        have hdl2 := ok2.dl
        have e5 : IntKind.i64.wrap ((m2.pc : Int) + 1) = (m2.pc : Int) + 1 := by rw [wrap_i64 _ (by omega) (by omega)]
        have e6 : IntKind.i64.wrap ((m2.dl : Int) - 1) = (m2.dl : Int) - 1 := by rw [wrap_i64 _ (by omega) (by omega)]
        clear hR hE ok2 ez eg fz fg
        by_cases hz : j = true ∨ m2.dl = 0
        · have EA := Lib.hid (show issue b m = { m2 with pc := m2.pc + 1 } by rw [EI.out]; unfold adv; rw [if_pos hz])
          rcases hz with hz | hz
          · subst hz
            go_wp2_with fail
            go_end0
            rw [EA.out]
            exact ⟨rfl, ⟨⟨_, SS.out.setPC (m2.pc + 1)⟩, RR.out.be.setCell (by exact HPP.out) _⟩, RR.out.k.trans (K27.setP p _ 5 _)⟩
          · have t1 : ¬ 0 < m2.dl := by omega
            have t2 : decide ((0 : Int) < (m2.dl : Int)) = false := by simp; omega
            clear hz
            cases j
            · go_wp2_with fail
              go_end0
              rw [EA.out]
              exact ⟨rfl, ⟨⟨_, SS.out.setPC (m2.pc + 1)⟩, RR.out.be.setCell (by exact HPP.out) _⟩, RR.out.k.trans (K27.setP p _ 5 _)⟩
            · go_wp2_with fail
              go_end0
              rw [EA.out]
              exact ⟨rfl, ⟨⟨_, SS.out.setPC (m2.pc + 1)⟩, RR.out.be.setCell (by exact HPP.out) _⟩, RR.out.k.trans (K27.setP p _ 5 _)⟩
        · have hjf : j = false := by cases j; rfl; exact absurd (.inl rfl) hz
          subst hjf
          have t1 : 0 < m2.dl := by rcases Nat.eq_zero_or_pos m2.dl with h | h; exact absurd (.inr h) hz; exact h
          have t2 : decide ((0 : Int) < (m2.dl : Int)) = true := by simp; omega
          by_cases h1 : m2.dl = 1
          · have t3 : ((m2.dl : Int) - 1 == 0) = true := by simp; omega
            have EA := Lib.hid (show issue b m = { m2 with pc := m2.jp, dl := 0, jp := 0 } by rw [EI.out]; unfold adv; rw [if_neg hz, if_pos h1])
            have H1 := Lib.hid h1
            clear hz h1
            go_wp2_with fail
            go_end0
            rw [EA.out]
            refine ⟨rfl, ⟨⟨V2, ?_⟩, (((RR.out.be.setCell (by exact HPP.out) _).setCell (by exact HPP.out) _).setCell (by exact HPP.out) _).setCell (by exact HPP.out) _⟩, RR.out.k.trans ((((K27.setP p _ _ _).trans (K27.setP p _ _ _)).trans (K27.setP p _ _ _)).trans (K27.setP p _ _ _))⟩
            rw [show (m2.dl : Int) - 1 = ((0 : Nat) : Int) by have := H1.out; omega]
            exact (((SS.out.setPC (m2.pc + 1)).setDl 0).setPC m2.jp).setJp 0
          · have t3 : ((m2.dl : Int) - 1 == 0) = false := by simp; omega
            have EA := Lib.hid (show issue b m = { m2 with pc := m2.pc + 1, dl := m2.dl - 1 } by rw [EI.out]; unfold adv; rw [if_neg hz, if_neg h1])
            have H1 := Lib.hid t1
            clear hz h1
            go_wp2_with fail
            go_end0
            rw [EA.out]
            refine ⟨rfl, ⟨⟨V2, ?_⟩, (RR.out.be.setCell (by exact HPP.out) _).setCell (by exact HPP.out) _⟩, RR.out.k.trans ((K27.setP p _ _ _).trans (K27.setP p _ _ _))⟩
            rw [show (m2.dl : Int) - 1 = ((m2.dl - 1 : Nat) : Int) by have := H1.out; omega]
            exact (SS.out.setPC (m2.pc + 1)).setDl (m2.dl - 1)
set_option maxRecDepth 20000 in
set_option maxHeartbeats 2000000 in
theorem issue_end (B p : Nat) (A : Option Addr) (n c : Nat) (m : M) (V : Vs) (w : World) (h : SA B w p m V) (hp : n ≤ m.pc) : Calls Tryz.prog 53 #[.slice A n c, .pointer (some ⟨p, 0, none⟩)] w (PStepP B p (stop m 5) w) := by
  have hd : (n : Int) ≤ (m.pc : Int) := by omega
  have hdb : decide ((n : Int) ≤ (m.pc : Int)) = true := by simp; omega
  have c5 : w.cell? ⟨p, 5, none⟩ = some (.int .i64 m.pc) := h.cell 5
  have c7 : w.cell? ⟨p, 7, none⟩ = some (.int .i64 m.stop) := h.cell 7
  have f7 := h.frozen 7
  have hpl := h.lt
  have H := Lib.hid h
  clear h
  go_enter Tryz.func53, Tryz.ntmps53
  go_wp2_with fail
  go_end0
  exact ⟨rfl, ⟨⟨_, H.out.setStop 5⟩, (Below.refl _ _).setCell (by exact H.out.hp) _⟩, K27.setP p _ 7 _⟩
theorem issue_pg (B p : Nat) (A : Option Addr) (c : Nat) (C : List (List In5)) (m : M) (V : Vs) (w : World) (h : SA B w p (land m) V) (k : Okc m) (v : Vc C) (hC : Cd B w A C) (ho : m.out.length + 4 ≤ 1000000) (hs : m.stop = 0) : Calls Tryz.prog 53 #[.slice A C.length c, .pointer (some ⟨p, 0, none⟩)] w (PStepP B p (cyc C m) w) := by
  unfold cyc
  by_cases hp : C.length ≤ m.pc
  · rw [if_pos hp]; exact issue_end B p A C.length c (land m) V w h hp
  · rw [if_neg hp]
    obtain ⟨ad, rfl, hbl, hx⟩ := hC m.pc (by omega)
    obtain ⟨hb4, hbv⟩ := v.at_ (by omega : m.pc < C.length)
    exact issue_go B p ad C.length c (C.getD m.pc []) (land m) V w h k.ok.land k.fb.later hb4 hbv (by show m.pc < C.length; omega) v.1 hbl hx ho hs
end Go.Proofs.YtbgmdikcbglpiaaGreatDoor
