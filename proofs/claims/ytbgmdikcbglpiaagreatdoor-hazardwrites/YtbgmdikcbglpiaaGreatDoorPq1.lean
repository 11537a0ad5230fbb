/-
  Contract of the page's call lands: what flies comes nearer, or is written. Conditions: the state lies behind the pointer, and may be.
-/
import Derived.Test.YtbgmdikcbglpiaaGreatDoorPp11
import Derived.Test.YtbgmdikcbglpiaaGreatDoorPg2
import Derived.Deep.Onto
namespace Go.Proofs.YtbgmdikcbglpiaaGreatDoor
open Go.RowKit

/-- All blocks of a state's type but one are as they were. -/
def K27 (p : Nat) (w w' : World) : Prop := ∀ q cs, q ≠ p → w.heap[q]? = some (.cells cs 27 (0, 0)) → w'.heap[q]? = some (.cells cs 27 (0, 0))
def PStepP (B p : Nat) (m' : M) (w : World) (e : Ending) (w' : World) : Prop := e = .returned (.tuple #[]) ∧ Goes B w p m' w' ∧ K27 p w w'
theorem K27.refl (p : Nat) (w : World) : K27 p w w := fun _ _ _ h => h
theorem K27.trans {p : Nat} {w w1 w2 : World} (h1 : K27 p w w1) (h2 : K27 p w1 w2) : K27 p w w2 := fun q cs hq h => h2 q cs hq (h1 q cs hq h)
theorem K27.below {p : Nat} {w w' : World} (h : Below w.heap.size w w') : K27 p w w' := fun q _ _ hq => (h.block q (lt_of_heap hq)).trans hq
theorem K27.alloc (p : Nat) (w : World) (o : Obj) : K27 p w (w.alloc o) := K27.below (below_new w o)
theorem row_ne27 {B e z n : Nat} {w : World} {a : Option Addr} {k c : Nat} {xs : List Value} {g : Nat} {cs : Array Value} (h : w.ownsRow B e z (.slice a k c) n xs) (d : w.heap[g]? = some (.cells cs 27 (0, 0))) (he : e ≠ 27) : ob a ≠ some g := by
  intro e2
  obtain ⟨cur, hc⟩ := own_type h g e2
  rw [d] at hc
  simp only [Option.some.injEq, Obj.cells.injEq] at hc
  exact he hc.2.1.symm
theorem K27.far {B p : Nat} {w w' : World} {m : M} {V : Vs} (f : Far p V w w') (S : SA B w p m V) : K27 p w w' := fun q cs hq h =>
  (f.2 q (lt_of_heap h) hq (fun e => row_ne27 S.hm h (by decide) (by rw [e]; rfl)) (row_ne27 S.ho h (by decide)) (row_ne27 S.hs h (by decide))).trans h
theorem K27.setP (p : Nat) (w : World) (j : Nat) (u : Value) : K27 p w (w.setCell ⟨p, j, none⟩ u) := fun q _ hq h => (heap_setCell_other w ⟨p, j, none⟩ q u hq).trans h
theorem K27.setR {B p : Nat} {w : World} {m : M} {V : Vs} (S : SA B w p m V) (j : Nat) (u : Value) : K27 p w (w.setCell ⟨V.gr, j, none⟩ u) := fun q _ _ h => (heap_setCell_other w ⟨V.gr, j, none⟩ q u (fun e => row_ne27 S.hr h (by decide) (by simp only at e; rw [e]; rfl))).trans h
theorem K27.grown {p : Nat} {w w' : World} {B e z n : Nat} {a : Option Addr} {k c : Nat} {xs : List Value} (h : w.ownsRow B e z (.slice a k c) n xs) (he : e ≠ 27) (hg : w.grownBy w' (ob a)) : K27 p w w' := fun q _ _ hq => (hg.block q (lt_of_heap hq) (fun e2 => row_ne27 h hq he e2.symm)).trans hq
theorem K27.drewN (p : Nat) (w : World) (n : Nat) : K27 p w (w.drewN n) := fun _ _ _ h => h
theorem K27.drew (p : Nat) (w : World) : K27 p w w.drew := fun _ _ _ h => h
/-- append of one result to a row of one's own. -/
theorem app3 {ops : Array Oper} {rest : List Oper} {o : Oper} {a : Act} {Q : Exit → Act → World → Prop} (hgd : o.guard = none) (s x : Operand) (ho : o.op = .call { callee := .builtin .append, args := #[s, x], argTypes := #[25, 25] })
    (W : World) (B n c : Nat) (va : Option Addr) (xs : List Fl) (f : Fl) (hs : a.eval s = .slice va n c) (hown : W.ownsRow B 71 3 (.slice va n c) n (flat3 xs)) (hn : n ≤ 1000000) (g0 : Nat) (hx : a.eval x = .slice (some ⟨g0, 0, none⟩) 1 1) (cs : Array Value) (hg0 : W.heap[g0]? = some (.cells cs 71 (0, 0))) (hcs : cs.toList = f.list) (hB : B ≤ W.heap.size)
    (h : ∀ g cap w', w'.ownsRow B 71 3 (.slice (some ⟨g, 0, none⟩) (n + 1) cap) (n + 1) (flat3 (xs ++ [f])) → W.grownBy w' (ob va) → wpList Tryz.prog ops Q rest (a.put o.dst (.slice (some ⟨g, 0, none⟩) (n + 1) cap)) w') :
    wpList Tryz.prog ops Q (o :: rest) a W := by
  obtain ⟨i, z, hi, hz, h1, h2, h3⟩ := infoW_parts
  refine wpList_append_lies W hgd s x 25 ho B 71 i z 3 24 Tryz.underlying25 hi hz h1 h2 h3 (by decide) (.slice va n c) n (flat3 xs) hs hown ⟨g0, 0, none⟩ 1 1 f.list hx rfl (fun j u hu => World.news_of_block hg0 j u (by rw [hcs]; exact hu)) (fl_one f) (by decide) (by unfold maxLen; omega) (by omega) hB _ rfl ?_
  intro g cap w' o1 o2 _ _
  refine h g cap w' ?_ (by rw [own_ob] at o2; exact o2)
  rw [flat3_app]
  have e : flat3 [f] = f.list := by simp [flat3]
  rw [e]
  exact o1
/-- All of a state's blocks lie below N. -/
structure Bd (N p : Nat) (V : Vs) : Prop where
  p : p < N
  r : V.gr < N
  m : V.gm < N
  i : ∀ g, ob V.ai = some g → g < N
  o : ∀ g, ob V.ao = some g → g < N
  s : ∀ g, ob V.az = some g → g < N
  f : ∀ g, ob V.af = some g → g < N
section
variable {B N p : Nat} {w w' : World} {m : M} {V : Vs}
theorem SA.bd (h : SA B w p m V) : Bd w.heap.size p V :=
  ⟨h.lt, h.gr_lt.2, h.gm_lt.2, fun g e => (h.hi.lt g (by rw [own_ob]; exact e)).2, fun g e => (h.ho.lt g (by rw [own_ob]; exact e)).2, fun g e => (h.hs.lt g (by rw [own_ob]; exact e)).2, fun g e => (h.hf.lt g (by rw [own_ob]; exact e)).2⟩
theorem SA.keepN (h : SA B w p m V) (b : Bd N p V) {r : Option Nat} (hg : w.grownBy w' r) (hr : ∀ g, r = some g → N ≤ g) : SA B w' p m V := by
  obtain ⟨T, hb⟩ := h.blk
  have a : ∀ {A : Option Addr}, (∀ g, ob A = some g → g < N) → Ap r (ob A) := fun hA k hk e => by have := hr k hk; have := hA k e; omega
  exact { h with
    blk := ⟨T, (hg.block p (lt_of_heap hb) (fun e => by have := hr p e.symm; have := b.p; omega)).trans hb⟩
    hr := keep_row h.hr hg (fun k hk e => by simp [ob] at e; have := hr k hk; have := b.r; omega), hm := keep_row h.hm hg (fun k hk e => by simp [ob] at e; have := hr k hk; have := b.m; omega), hi := keep_row h.hi hg (a b.i), ho := keep_row h.ho hg (a b.o), hs := keep_row h.hs hg (a b.s), hf := keep_row h.hf hg (a b.f) }
/-- Another row of what flies. -/
theorem SA.putL (h : SA B w p m V) {l : List Fl} {A : Option Addr} {c : Nat} (hr : w.ownsRow B 71 3 (.slice A l.length c) l.length (flat3 l)) (gp : ob A ≠ some p) :
    SA B (w.setCell ⟨p, 8, none⟩ (.slice A l.length c)) p { m with fl := l } { V with af := A, cf := c } := by
  obtain ⟨T, hb⟩ := h.blk
  have hg2 := grown_set w p 8 (.slice A l.length c)
  have h0 := heap_setCell_same w p 8 _ T (.slice A l.length c) hb
  exact { h with
    blk := ⟨T, by rw [h0]; simp [stCells]⟩
    hr := keep_row h.hr hg2 (ap_some (by simp [ob]; exact h.pr))
    hm := keep_row h.hm hg2 (ap_some (by simp [ob]; exact h.pm))
    hi := keep_row h.hi hg2 (ap_some h.pi)
    ho := keep_row h.ho hg2 (ap_some h.po)
    hs := keep_row h.hs hg2 (ap_some h.ps)
    hf := keep_row hr hg2 (ap_some gp)
    pf := gp }
/-- What the loop keeps. -/
structure LanR (B p N : Nat) (m : M) (V : Vs) (w : World) (i : Nat) (l : List Fl) (A : Option Addr) (c : Nat) (wr : World) : Prop where
  lt : l = later (m.fl.take i)
  sa : SA B wr p { m with R := land1 m.R (m.fl.take i) } V
  own : wr.ownsRow N 71 3 (.slice A l.length c) l.length (flat3 l)
  be : Below B w wr
  k : K27 p w wr
  le : N ≤ wr.heap.size
variable {i c : Nat} {l : List Fl} {A : Option Addr} {wr wr' : World}
theorem own_far {e z n k c : Nat} {xs : List Value} {A : Option Addr} (h : w.ownsRow N e z (.slice A k c) n xs) {g : Nat} (hg : g < N) : ob A ≠ some g := fun e2 => by have := (h.lt g (by rw [own_ob]; exact e2)).1; omega
theorem LanR.hit (h : LanR B p N m V w i l A c wr) (b : Bd N p V) (f : Fl) (hf : m.fl[i]? = some f) (hk : f.k = 0) (o : Obj) : LanR B p N m V w (i + 1) l A c (((wr.alloc o).setCell ⟨V.gr, f.r, none⟩ (.int .u32 f.v)).drew) := by
  have hil : i < m.fl.length := (List.getElem?_eq_some_iff.1 hf).1
  have e : m.fl[i] = f := by rw [List.getElem?_eq_getElem hil] at hf; exact Option.some.inj hf
  have ht := take_succ_fl hil
  rw [e] at ht
  have S := h.sa.alloc o
  have O := (h.own.alloc o)
  refine ⟨by rw [ht, later_app, if_pos hk]; exact h.lt, ?_, ?_, ?_, ?_, ?_⟩
  · rw [ht, land1_app, if_pos hk]; exact (S.setR f.r f.v).drew
  · exact keep_row (keep_row O (grown_set _ _ _ _) (ap_some (own_far O b.r))) (gb_drew _ none) (ap_none _)
  · exact ((h.be.alloc h.sa.B_le o).setCell (by exact h.sa.gr_lt.1) _).drew
  · exact ((h.k.trans (K27.alloc p wr o)).trans (K27.setR S f.r _)).trans (K27.drew _ _)
  · have := h.le; simp; omega
theorem LanR.miss (h : LanR B p N m V w i l A c wr) (b : Bd N p V) (hBN : B ≤ N) (f : Fl) (hf : m.fl[i]? = some f) (hk : f.k ≠ 0) {W : World} (hW : Below wr.heap.size wr W) {g cap : Nat} (hr : wr'.ownsRow N 71 3 (.slice (some ⟨g, 0, none⟩) (l.length + 1) cap) (l.length + 1) (flat3 (l ++ [⟨f.r, f.v, f.k - 1⟩]))) (hg : W.grownBy wr' (ob A)) : LanR B p N m V w (i + 1) (l ++ [⟨f.r, f.v, f.k - 1⟩]) (some ⟨g, 0, none⟩) cap wr' := by
  have hil : i < m.fl.length := (List.getElem?_eq_some_iff.1 hf).1
  have e : m.fl[i] = f := by rw [List.getElem?_eq_getElem hil] at hf; exact Option.some.inj hf
  have ht := take_succ_fl hil
  rw [e] at ht
  have S := h.sa.below hW
  have O : W.ownsRow N 71 3 (.slice A l.length c) l.length (flat3 l) := keep_row h.own (grown_below hW) (ap_none _)
  have fa : ∀ g, ob A = some g → N ≤ g := fun g e2 => (O.lt g (by rw [own_ob]; exact e2)).1
  refine ⟨by rw [ht, later_app, if_neg hk, ← h.lt], ?_, ?_, ?_, ?_, ?_⟩
  · rw [ht, land1_app, if_neg hk]; exact S.keepN b hg fa
  · rw [show (l ++ [(⟨f.r, f.v, f.k - 1⟩ : Fl)]).length = l.length + 1 by simp]; exact hr
  · have h1 := h.be.trans (hW.mono h.sa.B_le)
    exact h1.grown hg S.B_le (fun k hk' => by have := fa k hk'; omega)
  · exact (h.k.trans (K27.below hW)).trans (K27.grown O (by decide) hg)
  · have := h.le; have := hW.size; have := hg.size; omega
theorem LanR.fin (h : LanR B p N m V w m.fl.length l A c wr) (b : Bd N p V) (hBN : B ≤ N) : Goes B w p (land m) (wr.setCell ⟨p, 8, none⟩ (.slice A l.length c)) ∧ K27 p w (wr.setCell ⟨p, 8, none⟩ (.slice A l.length c)) := by
  have h1 := h.sa.putL (h.own.mono hBN) (own_far h.own b.p)
  rw [List.take_of_length_le (Nat.le_refl _)] at h1
  have hl := h.lt
  rw [List.take_of_length_le (Nat.le_refl _)] at hl
  refine ⟨⟨⟨{ V with af := A, cf := c }, ?_⟩, h.be.setCell (by exact h.sa.hp) _⟩, h.k.trans (K27.setP p _ _ _)⟩
  · have e : ({ R := land1 m.R m.fl, mem := m.mem, inp := m.inp, tk := m.tk, out := m.out, pc := m.pc, st := m.st, stop := m.stop, fl := l, jp := m.jp, dl := m.dl } : M) = land m := by rw [hl]; rfl
    rw [← e]
    exact h1
end
set_option maxRecDepth 20000 in
set_option maxHeartbeats 2000000 in
theorem lands_pg (B p : Nat) (m : M) (V : Vs) (w : World) (h : SA B w p m V) (k : Ok m) : Calls Tryz.prog 51 #[.pointer (some ⟨p, 0, none⟩)] w (PStepP B p (land m) w) := by
  have hfl := k.fl
  have WF := Lib.hid k.wF
  have WR := Lib.hid k.R
  have BN := Lib.hid h.B_le
  have BD := Lib.hid h.bd
  generalize hn : m.fl.length = n at *
  have HN := Lib.hid hn
  have START := Lib.hid (show LanR B p w.heap.size m V w 0 [] none 0 w from ⟨rfl, h, World.ownsRow_nil _ _ _ _, Below.refl _ _, K27.refl _ _, Nat.le_refl _⟩)
  clear h k hn
  go_enter Tryz.func51, Tryz.ntmps51
  go_wp2_with fail
  go_loopg [2, 3] n (fun gk q o wr2 => ∃ (i : Nat) (l : List Fl) (A : Option Addr) (c : Nat), i ≤ n ∧ gk = n - i ∧ o = .int .i64 i ∧ q = .slice A l.length c ∧ LanR B p w.heap.size m V w i l A c wr2)
  case atStart => exact ⟨0, [], none, 0, by omega, rfl, rfl, rfl, START.out⟩
  case round =>
    obtain ⟨i, l, A, c, hi, rfl, rfl, rfl, hR⟩ := hrel
    have RR := Lib.hid hR
    have SS := Lib.hid hR.sa
    have hll : l.length ≤ 1000 := by
      have h1 := later_len (m.fl.take i)
      rw [← hR.lt, List.length_take] at h1
      have := HN.out
      omega
    have d8 : wr.cell? ⟨p, 8, none⟩ = some (.slice V.af m.fl.length V.cf) := hR.sa.cell 8
    rw [HN.out] at d8
    clear hR
    have hpw := SS.out.lt
    by_cases hlt : i < n
    · have hd : decide ((i : Int) < (n : Int)) = true := by simpa using hlt
      have i0 : (0 : Int) ≤ (i : Int) := by omega
      have i1 : (i : Int) < (n : Int) := by omega
      obtain ⟨f, hf⟩ : ∃ f, m.fl[i]? = some f := ⟨_, List.getElem?_eq_getElem (by rw [HN.out]; exact hlt)⟩
      have FF := Lib.hid hf
      obtain ⟨hfr, hfv0, hfv1, hfk⟩ := WF.out f (List.mem_of_getElem? hf)
      obtain ⟨g', hg', hgl, y0, y1, y2⟩ := SS.out.flyAt (i := i) (by simp only; rw [HN.out]; exact hlt)
      simp only at y0 y1 y2
      have hXe : m.fl[i]'(by rw [HN.out]; exact hlt) = f := by rw [List.getElem?_eq_getElem (by rw [HN.out]; exact hlt)] at hf; exact Option.some.inj hf
      rw [hXe] at y0 y1 y2
      rw [hg'] at d8
      clear hXe hf
      have d0 : wr.cell? ⟨p, 0, none⟩ = some (.slice (some ⟨V.gr, 0, none⟩) 16 V.cr) := SS.out.cell 0
      have hgrl := SS.out.gr_lt.2
      have j0 : (0 : Int) ≤ (f.r : Int) := by omega
      have j1 : (f.r : Int) < 16 := by omega
      by_cases hz : f.k = 0
      · have hz2 : ((f.k : Int) == 0) = true := by simp; omega
        have HIT := Lib.hid (RR.out.hit BD.out f FF.out hz (.cells #[.int .i64 f.r, .int .u32 f.v, .int .i64 f.k] 71))
        clear hz hfk
        go_wp2_with fail
        generalize hW : wr.alloc (.cells #[.int .i64 f.r, .int .u32 f.v, .int .i64 f.k] 71) = W at HIT ⊢
        have HB0 := Lib.hid (show W.heap[wr.heap.size]? = some (.cells #[.int .i64 f.r, .int .u32 f.v, .int .i64 f.k] 71 (0, 0)) by rw [← hW]; exact heap_alloc_new wr _)
        have q0 : W.cell? ⟨wr.heap.size, 0, none⟩ = some (.int .i64 f.r) := cell_of_row _ _ 0 _ _ _ HB0.out
        have q1 : W.cell? ⟨wr.heap.size, 1, none⟩ = some (.int .u32 f.v) := cell_of_row _ _ 1 _ _ _ HB0.out
        have SW := Lib.hid (show SA B W p { m with R := land1 m.R (m.fl.take i) } V by rw [← hW]; exact SS.out.alloc _)
        have hzl : wr.heap.size < W.heap.size := lt_of_heap HB0.out
        have hpl2 : p < W.heap.size := SW.out.lt
        have hgl2 : V.gr < W.heap.size := SW.out.gr_lt.2
        have e0 : W.cell? ⟨p, 0, none⟩ = some (.slice (some ⟨V.gr, 0, none⟩) 16 V.cr) := SW.out.cell 0
        have rf2 := SW.out.regF f.r
        have rd2 : W.cell? ⟨V.gr, f.r, none⟩ = some (.int .u32 ((land1 m.R (m.fl.take i)).getD f.r 0)) := (SW.out.hr.cellAt f.r (by omega)).trans (map_at (by rw [land1_len, WR.out]; exact hfr))
        clear hW y0 y1 y2 d0 hgl hpw hgrl d8
        go_still_tail 9, (by kernel_rfl)
        change wpList _ _ _ _ _ W.drew
        go_wp2_with fail
        go_roundg (n - (i + 1))
        case measure => omega
        case rel => exact ⟨i + 1, l, A, c, by omega, rfl, by go_num, rfl, HIT.out⟩
      · have hz2 : ((f.k : Int) == 0) = false := by simp; omega
        have e5 : IntKind.i64.wrap ((f.k : Int) - 1) = (f.k : Int) - 1 := by rw [wrap_i64 _ (by omega) (by omega)]
        have EF := Lib.hid (show ([.int .i64 f.r, .int .u32 f.v, .int .i64 ((f.k : Int) - 1)] : List Value) = Fl.list ⟨f.r, f.v, f.k - 1⟩ by simp only [Fl.list]; rw [show ((f.k - 1 : Nat) : Int) = (f.k : Int) - 1 by omega])
        go_wp2_with (at_builtin; refine app3 rfl _ _ rfl ((wr.alloc (.cells #[.int .i64 f.r, .int .u32 f.v, .int .i64 f.k] 71)).alloc (.cells #[.int .i64 f.r, .int .u32 f.v, .int .i64 ((f.k : Int) - 1)] 71)) w.heap.size l.length c A l ⟨f.r, f.v, f.k - 1⟩ rfl ((RR.out.own.alloc _).alloc _) (by omega) (wr.heap.size + 1) rfl #[.int .i64 f.r, .int .u32 f.v, .int .i64 ((f.k : Int) - 1)] ?_ EF.out (by have := RR.out.le; simp; omega) ?_; (· simpa using heap_alloc_new (wr.alloc (.cells #[.int .i64 f.r, .int .u32 f.v, .int .i64 f.k] 71)) (.cells #[.int .i64 f.r, .int .u32 f.v, .int .i64 ((f.k : Int) - 1)] 71)); intro g9 cap9 w9 hown9 hg9; have MISS := Lib.hid (RR.out.miss BD.out BN.out f FF.out hz (below_two wr _ _) hown9 hg9); clear hown9 hg9)
        go_roundg (n - (i + 1))
        case measure => omega
        case rel => exact ⟨i + 1, _, _, _, by omega, rfl, by go_num, by rw [List.length_append]; rfl, MISS.out⟩
    · have hd : decide ((i : Int) < (n : Int)) = false := by simp; omega
      obtain rfl : i = n := by omega
      have f8 := SS.out.frozen 8
      have hN := HN.out
      subst hN
      go_wp2_with fail
      go_end0
      have := RR.out.fin BD.out BN.out
      exact ⟨rfl, this.1, this.2⟩
end Go.Proofs.YtbgmdikcbglpiaaGreatDoor
