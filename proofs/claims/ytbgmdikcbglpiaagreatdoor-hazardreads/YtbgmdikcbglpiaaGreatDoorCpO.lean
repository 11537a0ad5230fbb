/-
  Contracts of the calls that copy a state: copyOf of package pipe, the page's CopyState. Conditions: the value reads as a state that may be.
-/
import Derived.Test.YtbgmdikcbglpiaaGreatDoorBk
namespace Go.Proofs.YtbgmdikcbglpiaaGreatDoor
open Go.RowKit

def ZS : Array Value := #[.slice none 0 0, .slice none 0 0, .slice none 0 0, .int .i64 0, .slice none 0 0, .int .i64 0, .slice none 0 0, .int .i64 0, .slice none 0 0, .int .i64 0, .int .i64 0]
/-- A copy of a state: rows of the call's own. -/
def CpyPost (m : M) (w : World) (e : Ending) (w' : World) : Prop := ∃ V, e = .returned (.agg (stCells m V)) ∧ SR w.heap.size w' m V ∧ Below w.heap.size w w'
theorem own_lt {w W : World} {B e z n k c : Nat} {A : Option Addr} {xs : List Value} (h : w.ownsRow B e z (.slice A k c) n xs) (hs : w.heap.size ≤ W.heap.size) : ∀ j, ob A = some j → B ≤ j ∧ j < W.heap.size := fun j hj => by
  have := h.lt j (by rw [own_ob]; exact hj)
  omega
theorem sr_mk {B : Nat} {W : World} {m : M} (hR : m.R.length = 16) (hM : m.mem.length = 256) {sl : List Int} (hs : m.st.map Int.ofNat = sl) {A1 A2 A3 A4 A5 : Option Addr} {c1 c2 c3 c4 c5 b1 b2 b3 b4 b5 : Nat}
    (k1 : W.ownsRow b1 69 1 (.slice A1 m.R.length c1) m.R.length (m.R.map (Value.int .u32))) (k2 : W.ownsRow b2 69 1 (.slice A2 m.mem.length c2) m.mem.length (m.mem.map (Value.int .u32)))
    (k3 : W.ownsRow b3 69 1 (.slice A3 m.inp.length c3) m.inp.length (m.inp.map (Value.int .u32))) (k4 : W.ownsRow b4 69 1 (.slice A4 m.out.length c4) m.out.length (m.out.map (Value.int .u32)))
    (k5 : W.ownsRow b5 3 1 (.slice A5 sl.length c5) sl.length (sl.map (Value.int .i64)))
    {A6 : Option Addr} {c6 b6 : Nat} (k6 : W.ownsRow b6 71 3 (.slice A6 m.fl.length c6) m.fl.length (flat3 m.fl)) (h6 : B ≤ b6)
    (l1 : ∀ k, ob A1 = some k → k < b2) (l2 : ∀ k, ob A2 = some k → k < b3) (l3 : ∀ k, ob A3 = some k → k < b4) (l4 : ∀ k, ob A4 = some k → k < b5)
    (h1 : B ≤ b1) (h2 : b1 ≤ b2) (h3 : b2 ≤ b3) (h4 : b3 ≤ b4) (h5 : b4 ≤ b5) :
    ∃ V, stCells m V = #[.slice A1 m.R.length c1, .slice A2 m.mem.length c2, .slice A3 m.inp.length c3, .int .i64 m.tk, .slice A4 m.out.length c4, .int .i64 m.pc, .slice A5 sl.length c5, .int .i64 m.stop, .slice A6 m.fl.length c6, .int .i64 m.jp, .int .i64 m.dl] ∧ SR B W m V := by
  subst hs
  obtain ⟨g1, d1, e1, _, _⟩ := k1.form (by omega)
  obtain ⟨g2, d2, e2, _, _⟩ := k2.form (by omega)
  simp only [Value.slice.injEq, true_and] at e1 e2
  obtain ⟨rfl, rfl⟩ := e1
  obtain ⟨rfl, rfl⟩ := e2
  have x1 := l1 g1 rfl
  have x2 := l2 g2 rfl
  have y2 : b2 ≤ g2 := (k2.lt g2 rfl).1
  have y3 : ∀ k, ob A3 = some k → b3 ≤ k := fun k hk => (k3.lt k (by rw [own_ob]; exact hk)).1
  have y4 : ∀ k, ob A4 = some k → b4 ≤ k := fun k hk => (k4.lt k (by rw [own_ob]; exact hk)).1
  have y5 : ∀ k, ob A5 = some k → b5 ≤ k := fun k hk => (k5.lt k (by rw [own_ob]; exact hk)).1
  have hl : (m.st.map Int.ofNat).length = m.st.length := List.length_map ..
  rw [hl] at k5 ⊢
  rw [← ni_eq] at k5
  have r1 := k1
  have r2 := k2
  rw [hR] at r1
  rw [hM] at r2
  refine ⟨⟨g1, c1, g2, c2, A3, c3, A4, c4, A5, c5, A6, c6⟩, by simp [stCells, hR, hM], ?_⟩
  exact { hr := r1.mono (by omega), hm := r2.mono (by omega), hi := k3.mono (by omega), ho := k4.mono (by omega), hs := k5.mono (by omega), hf := k6.mono h6
          rm := by simp only; omega
          ri := fun e => by have := y3 _ e; simp only at this; omega
          ro := fun e => by have := y4 _ e; simp only at this; omega
          rs := fun e => by have := y5 _ e; simp only at this; omega
          mi := fun e => by have := y3 _ e; simp only at this; omega
          mo := fun e => by have := y4 _ e; simp only at this; omega
          ms := fun e => by have := y5 _ e; simp only at this; omega
          io := fun k hk e => by have := l3 _ hk; have := y4 _ e; omega
          is := fun k hk e => by have := l3 _ hk; have := y5 _ e; omega
          os := fun k hk e => by have := l4 _ hk; have := y5 _ e; omega }
theorem keep_z {w w' : World} {B e y n k c z : Nat} {A : Option Addr} {xs : List Value} (h : w.ownsRow B e y (.slice A k c) n xs) (hg : w.grownBy w' (some z)) (hz : z < B) : w'.ownsRow B e y (.slice A k c) n xs :=
  keep_row h hg (ap_some fun e2 => by have := (h.lt z (by rw [own_ob]; exact e2)).1; omega)
theorem Rd.one {k : IntKind} {w : World} {v : Value} {xs : List Int} (h : Rd k w v xs) : v.oneCell' = true := by
  obtain ⟨A, c, rfl, _⟩ := h
  rfl
theorem RdF.one {w : World} {v : Value} {xs : List Fl} (h : RdF w v xs) : v.oneCell' = true := by
  obtain ⟨A, c, rfl, _⟩ := h
  rfl
theorem one11 {r q i o z y : Value} {a b s j d : Int} (h1 : r.oneCell' = true) (h2 : q.oneCell' = true) (h3 : i.oneCell' = true) (h4 : o.oneCell' = true) (h5 : z.oneCell' = true) (h6 : y.oneCell' = true) :
    (#[r, q, i, .int .i64 a, o, .int .i64 b, z, .int .i64 s, y, .int .i64 j, .int .i64 d] : Array Value).all (·.oneCell') = true := by
  have e1 : ∀ x : Int, (Value.int .i64 x).oneCell' = true := fun _ => rfl
  simp [h1, h2, h3, h4, h5, h6, e1]
theorem alloc3 (w : World) (a b c : Obj) : (((w.alloc a).alloc b).alloc c).heap[w.heap.size + 1 + 1]? = some c := by
  have h := heap_alloc_new ((w.alloc a).alloc b) c
  rw [show ((w.alloc a).alloc b).heap.size = w.heap.size + 1 + 1 by simp] at h
  exact h
set_option maxRecDepth 20000 in
set_option maxHeartbeats 4000000 in
theorem copyOf_any (m : M) (v : Value) (w : World) (h : SV w v m) (k : Ok m) : Calls Tryz.prog 48 #[v] w (CpyPost m w) := by
  obtain ⟨r, q, i, o, z, y, rfl, a1, a2, a3, a4, a5, a6⟩ := h
  have HR := Lib.hid k.R
  have HM := Lib.hid k.mem
  generalize hsl : m.st.map Int.ofNat = sl at a5
  have HS := Lib.hid hsl
  have C1 := Lib.hid (fun W (x : Rd .u32 W r m.R) => clone_w m.R r W x (by have := k.R; omega))
  have D1 := Lib.hid a1
  have C2 := Lib.hid (fun W (x : Rd .u32 W q m.mem) => clone_w m.mem q W x (by have := k.mem; omega))
  have D2 := Lib.hid a2
  have C3 := Lib.hid (fun W (x : Rd .u32 W i m.inp) => clone_w m.inp i W x (by have := k.inp; omega))
  have D3 := Lib.hid a3
  have C4 := Lib.hid (fun W (x : Rd .u32 W o m.out) => clone_w m.out o W x (by exact k.out))
  have D4 := Lib.hid a4
  have C5 := Lib.hid (fun W (x : Rd .i64 W z sl) => clone_n sl z W x (by have := k.st; rw [← hsl, List.length_map]; omega))
  have D5 := Lib.hid a5
  have C6 := Lib.hid (fun W (x : RdF W y m.fl) => clone_f m.fl y W x (by exact k.fl))
  have D6 := Lib.hid a6
  clear a1 a2 a3 a4 a5 a6 k hsl
  go_enter Tryz.func48, Tryz.ntmps48
  go_wp2_with fail
  have z0 : ((w.alloc (.cells #[r, q, i, .int .i64 m.tk, o, .int .i64 m.pc, z, .int .i64 m.stop, y, .int .i64 m.jp, .int .i64 m.dl] 27)).alloc (.cells ZS 27)).heap.size = w.heap.size + 2 := by simp
  have X0 := Lib.hid (show BK 27 ((w.alloc (.cells #[r, q, i, .int .i64 m.tk, o, .int .i64 m.pc, z, .int .i64 m.stop, y, .int .i64 m.jp, .int .i64 m.dl] 27)).alloc (.cells ZS 27)) w.heap.size #[r, q, i, .int .i64 m.tk, o, .int .i64 m.pc, z, .int .i64 m.stop, y, .int .i64 m.jp, .int .i64 m.dl] from BK.alloc (heap_alloc_new w _) _)
  have Y0 := Lib.hid (show BK 27 ((w.alloc (.cells #[r, q, i, .int .i64 m.tk, o, .int .i64 m.pc, z, .int .i64 m.stop, y, .int .i64 m.jp, .int .i64 m.dl] 27)).alloc (.cells ZS 27)) (w.heap.size + 1) ZS from by have h := heap_alloc_new (w.alloc (.cells #[r, q, i, .int .i64 m.tk, o, .int .i64 m.pc, z, .int .i64 m.stop, y, .int .i64 m.jp, .int .i64 m.dl] 27)) (.cells ZS 27); simpa [BK] using h)
  have G0 := Lib.hid (below_two w (.cells #[r, q, i, .int .i64 m.tk, o, .int .i64 m.pc, z, .int .i64 m.stop, y, .int .i64 m.jp, .int .i64 m.dl] 27) (.cells ZS 27))
  have S1 := Lib.hid z0
  clear z0
  refine (C1.out _ (D1.out.below G0.out)).mono ?_
  rintro e W1 ⟨A1, c1, rfl, o1, b1⟩
  rw [S1.out] at o1
  have T1 := Lib.hid (show w.heap.size + 2 ≤ W1.heap.size by have := b1.size; have := S1.out; omega)
  have X1 := Lib.hid (X0.out.below b1)
  have Y1 := Lib.hid (Y0.out.below b1)
  have G1 := Lib.hid (G0.out.trans (b1.mono (by have := S1.out; omega)))
  have O1 := Lib.hid o1
  clear o1 b1
  have E1 := Lib.hid (G1.out.setCell (p := ⟨w.heap.size, 0, none⟩) (by simp) (.slice A1 m.R.length c1))
  have f1 := X1.out.frozen 0
  have hl1 := X1.out.lt
  have g1 : W1.cell? ⟨w.heap.size, 0, none⟩ = some r := X1.out.cell 0
  have d1 : W1.cell? ⟨w.heap.size, 1, none⟩ = some q := X1.out.cell 1
  go_wp2_with fail
  clear f1 hl1 d1 g1
  refine (C2.out _ (D2.out.below E1.out)).mono ?_
  rintro e W2 ⟨A2, c2, rfl, o2, b2⟩
  have bs2 : W1.heap.size = (W1.setCell ⟨w.heap.size, 0, none⟩ (.slice A1 m.R.length c1)).heap.size := by simp
  rw [← bs2] at o2
  have U2 := Lib.hid (show W1.heap.size ≤ W2.heap.size by have := b2.size; omega)
  have T2 := Lib.hid (show w.heap.size + 2 ≤ W2.heap.size by have := T1.out; have := U2.out; omega)
  have X2 := Lib.hid ((X1.out.set 0 (.slice A1 m.R.length c1)).below b2)
  have Y2 := Lib.hid ((Y1.out.grown (grown_set W1 w.heap.size 0 (.slice A1 m.R.length c1)) (by simp)).below b2)
  have G2 := Lib.hid (E1.out.trans (b2.mono (by have := T1.out; simp; omega)))
  have H2 := Lib.hid (gb_trans (grown_set W1 w.heap.size 0 (.slice A1 m.R.length c1)) (gb_weak (some w.heap.size) (grown_below b2)))
  have O2 := Lib.hid o2
  clear o2 b2 bs2
  have E2 := Lib.hid (G2.out.setCell (p := ⟨w.heap.size, 1, none⟩) (by simp) (.slice A2 m.mem.length c2))
  have f2 := X2.out.frozen 1
  have hl2 := X2.out.lt
  have g2 : W2.cell? ⟨w.heap.size, 1, none⟩ = some q := X2.out.cell 1
  have d2 : W2.cell? ⟨w.heap.size, 2, none⟩ = some i := X2.out.cell 2
  go_wp2_with fail
  clear f2 hl2 d2 g2
  refine (C3.out _ (D3.out.below E2.out)).mono ?_
  rintro e W3 ⟨A3, c3, rfl, o3, b3⟩
  have bs3 : W2.heap.size = (W2.setCell ⟨w.heap.size, 1, none⟩ (.slice A2 m.mem.length c2)).heap.size := by simp
  rw [← bs3] at o3
  have U3 := Lib.hid (show W2.heap.size ≤ W3.heap.size by have := b3.size; omega)
  have T3 := Lib.hid (show w.heap.size + 2 ≤ W3.heap.size by have := T2.out; have := U3.out; omega)
  have X3 := Lib.hid ((X2.out.set 1 (.slice A2 m.mem.length c2)).below b3)
  have Y3 := Lib.hid ((Y2.out.grown (grown_set W2 w.heap.size 1 (.slice A2 m.mem.length c2)) (by simp)).below b3)
  have G3 := Lib.hid (E2.out.trans (b3.mono (by have := T2.out; simp; omega)))
  have H3 := Lib.hid (gb_trans (grown_set W2 w.heap.size 1 (.slice A2 m.mem.length c2)) (gb_weak (some w.heap.size) (grown_below b3)))
  have O3 := Lib.hid o3
  clear o3 b3 bs3
  have E3 := Lib.hid (G3.out.setCell (p := ⟨w.heap.size, 2, none⟩) (by simp) (.slice A3 m.inp.length c3))
  have f3 := X3.out.frozen 2
  have hl3 := X3.out.lt
  have g3 : W3.cell? ⟨w.heap.size, 2, none⟩ = some i := X3.out.cell 2
  have d3 : W3.cell? ⟨w.heap.size, 4, none⟩ = some o := X3.out.cell 4
  go_wp2_with fail
  clear f3 hl3 d3 g3
  refine (C4.out _ (D4.out.below E3.out)).mono ?_
  rintro e W4 ⟨A4, c4, rfl, o4, b4⟩
  have bs4 : W3.heap.size = (W3.setCell ⟨w.heap.size, 2, none⟩ (.slice A3 m.inp.length c3)).heap.size := by simp
  rw [← bs4] at o4
  have U4 := Lib.hid (show W3.heap.size ≤ W4.heap.size by have := b4.size; omega)
  have T4 := Lib.hid (show w.heap.size + 2 ≤ W4.heap.size by have := T3.out; have := U4.out; omega)
  have X4 := Lib.hid ((X3.out.set 2 (.slice A3 m.inp.length c3)).below b4)
  have Y4 := Lib.hid ((Y3.out.grown (grown_set W3 w.heap.size 2 (.slice A3 m.inp.length c3)) (by simp)).below b4)
  have G4 := Lib.hid (E3.out.trans (b4.mono (by have := T3.out; simp; omega)))
  have H4 := Lib.hid (gb_trans (grown_set W3 w.heap.size 2 (.slice A3 m.inp.length c3)) (gb_weak (some w.heap.size) (grown_below b4)))
  have O4 := Lib.hid o4
  clear o4 b4 bs4
  have E4 := Lib.hid (G4.out.setCell (p := ⟨w.heap.size, 4, none⟩) (by simp) (.slice A4 m.out.length c4))
  have f4 := X4.out.frozen 4
  have hl4 := X4.out.lt
  have g4 : W4.cell? ⟨w.heap.size, 4, none⟩ = some o := X4.out.cell 4
  have d4 : W4.cell? ⟨w.heap.size, 6, none⟩ = some z := X4.out.cell 6
  go_wp2_with fail
  clear f4 hl4 d4 g4
  refine (C5.out _ (D5.out.below E4.out)).mono ?_
  rintro e W5 ⟨A5, c5, rfl, o5, b5⟩
  have bs5 : W4.heap.size = (W4.setCell ⟨w.heap.size, 4, none⟩ (.slice A4 m.out.length c4)).heap.size := by simp
  rw [← bs5] at o5
  have U5 := Lib.hid (show W4.heap.size ≤ W5.heap.size by have := b5.size; omega)
  have T5 := Lib.hid (show w.heap.size + 2 ≤ W5.heap.size by have := T4.out; have := U5.out; omega)
  have X5 := Lib.hid ((X4.out.set 4 (.slice A4 m.out.length c4)).below b5)
  have Y5 := Lib.hid ((Y4.out.grown (grown_set W4 w.heap.size 4 (.slice A4 m.out.length c4)) (by simp)).below b5)
  have G5 := Lib.hid (E4.out.trans (b5.mono (by have := T4.out; simp; omega)))
  have H5 := Lib.hid (gb_trans (grown_set W4 w.heap.size 4 (.slice A4 m.out.length c4)) (gb_weak (some w.heap.size) (grown_below b5)))
  have O5 := Lib.hid o5
  clear o5 b5 bs5
  have E5 := Lib.hid (G5.out.setCell (p := ⟨w.heap.size, 6, none⟩) (by simp) (.slice A5 sl.length c5))
  have f5 := X5.out.frozen 6
  have hl5 := X5.out.lt
  have g5 : W5.cell? ⟨w.heap.size, 6, none⟩ = some z := X5.out.cell 6
  have d5 : W5.cell? ⟨w.heap.size, 8, none⟩ = some y := X5.out.cell 8
  go_wp2_with fail
  clear f5 hl5 d5 g5
  refine (C6.out _ (D6.out.below E5.out)).mono ?_
  rintro e W6 ⟨A6, c6, rfl, o6, b6⟩
  have bs6 : W5.heap.size = (W5.setCell ⟨w.heap.size, 6, none⟩ (.slice A5 sl.length c5)).heap.size := by simp
  rw [← bs6] at o6
  have U6 := Lib.hid (show W5.heap.size ≤ W6.heap.size by have := b6.size; omega)
  have T6 := Lib.hid (show w.heap.size + 2 ≤ W6.heap.size by have := T5.out; have := U6.out; omega)
  have X6 := Lib.hid ((X5.out.set 6 (.slice A5 sl.length c5)).below b6)
  have Y6 := Lib.hid ((Y5.out.grown (grown_set W5 w.heap.size 6 (.slice A5 sl.length c5)) (by simp)).below b6)
  have G6 := Lib.hid (E5.out.trans (b6.mono (by have := T5.out; simp; omega)))
  have H6 := Lib.hid (gb_trans (grown_set W5 w.heap.size 6 (.slice A5 sl.length c5)) (gb_weak (some w.heap.size) (grown_below b6)))
  have O6 := Lib.hid o6
  clear o6 b6 bs6
  have E6 := Lib.hid (G6.out.setCell (p := ⟨w.heap.size, 8, none⟩) (by simp) (.slice A6 m.fl.length c6))
  have f6 := X6.out.frozen 8
  have hl6 := X6.out.lt
  have g6 : W6.cell? ⟨w.heap.size, 8, none⟩ = some y := X6.out.cell 8
  have XF := Lib.hid (show BK 27 (W6.setCell ⟨w.heap.size, 8, none⟩ (.slice A6 m.fl.length c6)) w.heap.size #[.slice A1 m.R.length c1, .slice A2 m.mem.length c2, .slice A3 m.inp.length c3, .int .i64 m.tk, .slice A4 m.out.length c4, .int .i64 m.pc, .slice A5 sl.length c5, .int .i64 m.stop, .slice A6 m.fl.length c6, .int .i64 m.jp, .int .i64 m.dl] from X6.out.set 8 _)
  have YF := Lib.hid (Y6.out.grown (grown_set W6 w.heap.size 8 (.slice A6 m.fl.length c6)) (by simp))
  have HF := Lib.hid (grown_set W6 w.heap.size 8 (.slice A6 m.fl.length c6))
  go_wp2_with (((with_reducible refine wpList_load_bk (T := 27) (op := ⟨some 27, .load 27 _, _, _, _, none⟩) rfl _ rfl Tryz.underlying27 Tryz.size27 w.heap.size #[.slice A1 m.R.length c1, .slice A2 m.mem.length c2, .slice A3 m.inp.length c3, .int .i64 m.tk, .slice A4 m.out.length c4, .int .i64 m.pc, .slice A5 sl.length c5, .int .i64 m.stop, .slice A6 m.fl.length c6, .int .i64 m.jp, .int .i64 m.dl] ?lx ?lb ?l1 ?_); (case lx => rfl); (case l1 => rfl); (case lb => exact XF.out); (with_reducible refine wpList_store_bk (T := 27) (op := ⟨none, .store 27 _ _, _, _, _, none⟩) rfl _ _ rfl Tryz.size27 (w.heap.size + 1) ZS #[.slice A1 m.R.length c1, .slice A2 m.mem.length c2, .slice A3 m.inp.length c3, .int .i64 m.tk, .slice A4 m.out.length c4, .int .i64 m.pc, .slice A5 sl.length c5, .int .i64 m.stop, .slice A6 m.fl.length c6, .int .i64 m.jp, .int .i64 m.dl] ?sx ?sy ?sb ?s1 ?s2 ?s3 ?_); (case sx => rfl); (case sy => rfl); (case s1 => rfl); (case s2 => rfl); (case s3 => kernel_rfl)))
  case sb => exact YF.out
  intro W9 hbl hg hsz
  have LD := Lib.hid (hbl.load Tryz.underlying27 Tryz.size27 rfl)
  have BF := Lib.hid (E6.out.grown hg (by have := T6.out; simp; omega) (by intro k hk; cases hk; omega))
  have HG := Lib.hid hg
  clear hbl hg hsz
  go_wp2_with fail
  have hg := HG.out
  have K6 := keep_z (keep_z O6.out HF.out (by have := T5.out; omega)) hg (by have := T5.out; omega)
  have K5 := keep_z (keep_z (keep_z O5.out H6.out (by have := T4.out; omega)) HF.out (by have := T4.out; omega)) hg (by have := T4.out; omega)
  have K4 := keep_z (keep_z (keep_z (keep_z O4.out H5.out (by have := T3.out; omega)) H6.out (by have := T3.out; omega)) HF.out (by have := T3.out; omega)) hg (by have := T3.out; omega)
  have K3 := keep_z (keep_z (keep_z (keep_z (keep_z O3.out H4.out (by have := T2.out; omega)) H5.out (by have := T2.out; omega)) H6.out (by have := T2.out; omega)) HF.out (by have := T2.out; omega)) hg (by have := T2.out; omega)
  have K2 := keep_z (keep_z (keep_z (keep_z (keep_z (keep_z O2.out H3.out (by have := T1.out; omega)) H4.out (by have := T1.out; omega)) H5.out (by have := T1.out; omega)) H6.out (by have := T1.out; omega)) HF.out (by have := T1.out; omega)) hg (by have := T1.out; omega)
  have K1 := keep_z (keep_z (keep_z (keep_z (keep_z (keep_z (keep_z O1.out H2.out (by omega)) H3.out (by omega)) H4.out (by omega)) H5.out (by omega)) H6.out (by omega)) HF.out (by omega)) hg (by omega)
  obtain ⟨V, hV, hSR⟩ := sr_mk HR.out HM.out HS.out K1 K2 K3 K4 K5 K6 (by have := T5.out; omega) (fun k hk => (own_lt O1.out (Nat.le_refl _) k hk).2) (fun k hk => (own_lt O2.out (Nat.le_refl _) k hk).2) (fun k hk => (own_lt O3.out (Nat.le_refl _) k hk).2) (fun k hk => (own_lt O4.out (Nat.le_refl _) k hk).2) (B := w.heap.size) (by omega) (T1.out) U2.out U3.out U4.out
  refine bodyPost_ret (v := .agg #[.slice A1 m.R.length c1, .slice A2 m.mem.length c2, .slice A3 m.inp.length c3, .int .i64 m.tk, .slice A4 m.out.length c4, .int .i64 m.pc, .slice A5 sl.length c5, .int .i64 m.stop, .slice A6 m.fl.length c6, .int .i64 m.jp, .int .i64 m.dl]) ?_ rfl ⟨V, by rw [hV], hSR, BF.out⟩
  rw [results_cell_one Tryz.results48]
  simp [asAddr, Result.andThen, LD.out]
set_option maxRecDepth 20000 in
set_option maxHeartbeats 4000000 in
theorem copyState_any (m : M) (v : Value) (w : World) (h : SV w v m) (k : Ok m) : Calls Tryz.prog 10 #[v] w (CpyPost m w) := by
  obtain ⟨r, q, i, o, z, y, rfl, a1, a2, a3, a4, a5, a6⟩ := h
  have HR := Lib.hid k.R
  have HM := Lib.hid k.mem
  generalize hsl : m.st.map Int.ofNat = sl at a5
  have HS := Lib.hid hsl
  have C1 := Lib.hid (fun W (x : Rd .u32 W r m.R) => copy_w m.R r W x (by have := k.R; omega))
  have D1 := Lib.hid a1
  have C2 := Lib.hid (fun W (x : Rd .u32 W q m.mem) => copy_w m.mem q W x (by have := k.mem; omega))
  have D2 := Lib.hid a2
  have C3 := Lib.hid (fun W (x : Rd .u32 W i m.inp) => copy_w m.inp i W x (by have := k.inp; omega))
  have D3 := Lib.hid a3
  have C4 := Lib.hid (fun W (x : Rd .u32 W o m.out) => copy_w m.out o W x (by exact k.out))
  have D4 := Lib.hid a4
  have C5 := Lib.hid (fun W (x : Rd .i64 W z sl) => copy_n sl z W x (by have := k.st; rw [← hsl, List.length_map]; omega))
  have D5 := Lib.hid a5
  have C6 := Lib.hid (fun W (x : RdF W y m.fl) => copy_f m.fl y W x (by exact k.fl))
  have D6 := Lib.hid a6
  clear a1 a2 a3 a4 a5 a6 k hsl
  go_enter Tryz.func10, Tryz.ntmps10
  go_wp2_with (((with_reducible refine wpList_store_bk (T := 27) (op := ⟨none, .store 27 _ _, _, _, _, none⟩) rfl _ _ rfl Tryz.size27 (w.heap.size + 1 + 1) ZS #[r, q, i, .int .i64 m.tk, o, .int .i64 m.pc, z, .int .i64 m.stop, y, .int .i64 m.jp, .int .i64 m.dl] ?sx ?sy ?sb ?s1 ?s2 ?s3 ?_); (case sx => rfl); (case sy => rfl); (case s1 => rfl); (case s2 => rfl)))
  case sb => exact alloc3 w _ _ _
  case s3 => exact one11 D1.out.one D2.out.one D3.out.one D4.out.one D5.out.one D6.out.one
  intro W0 hbl hg hsz
  have z0 : W0.heap.size = w.heap.size + 3 := by rw [hsz]
  have X0 := Lib.hid hbl
  have L0 := Lib.hid (show BK 27 W0 w.heap.size #[r, q, i, .int .i64 m.tk, o, .int .i64 m.pc, z, .int .i64 m.stop, y, .int .i64 m.jp, .int .i64 m.dl] from ((BK.alloc (BK.alloc (heap_alloc_new w _) _) _).grown hg (by intro h; injection h; omega)))
  have Y0 := Lib.hid (show BK 27 W0 (w.heap.size + 1) ZS from (BK.alloc (show BK 27 ((w.alloc (.cells #[r, q, i, .int .i64 m.tk, o, .int .i64 m.pc, z, .int .i64 m.stop, y, .int .i64 m.jp, .int .i64 m.dl] 27)).alloc (.cells ZS 27)) (w.heap.size + 1) ZS from by have h := heap_alloc_new (w.alloc (.cells #[r, q, i, .int .i64 m.tk, o, .int .i64 m.pc, z, .int .i64 m.stop, y, .int .i64 m.jp, .int .i64 m.dl] 27)) (.cells ZS 27); simpa [BK] using h) _).grown hg (by intro h; injection h; omega))
  have G0 := Lib.hid ((((below_two w (.cells #[r, q, i, .int .i64 m.tk, o, .int .i64 m.pc, z, .int .i64 m.stop, y, .int .i64 m.jp, .int .i64 m.dl] 27) (.cells ZS 27)).alloc (by simp; omega) (.cells ZS 27)).grown hg (by simp; omega) (by intro k hk; cases hk; omega)))
  clear hbl hg hsz
  have f0 := L0.out.cell 0
  have hl0 := L0.out.lt
  go_wp2_with fail
  clear f0 hl0
  have S1 := Lib.hid z0
  clear z0
  refine (C1.out _ (D1.out.below G0.out)).mono ?_
  rintro e W1 ⟨A1, c1, rfl, o1, b1⟩
  rw [S1.out] at o1
  have T1 := Lib.hid (show w.heap.size + 3 ≤ W1.heap.size by have := b1.size; have := S1.out; omega)
  have X1 := Lib.hid (X0.out.below b1)
  have Y1 := Lib.hid (Y0.out.below b1)
  have L1 := Lib.hid (L0.out.below b1)
  have G1 := Lib.hid (G0.out.trans (b1.mono (by have := S1.out; omega)))
  have O1 := Lib.hid o1
  clear o1 b1
  have E1 := Lib.hid (G1.out.setCell (p := ⟨(w.heap.size + 1 + 1), 0, none⟩) (by show w.heap.size ≤ w.heap.size + 1 + 1; omega) (.slice A1 m.R.length c1))
  have f1 := X1.out.frozen 0
  have hl1 := X1.out.lt
  have g1 : W1.cell? ⟨w.heap.size + 1 + 1, 0, none⟩ = some r := X1.out.cell 0
  have hk1 := L1.out.lt
  have hq1 : w.heap.size + 1 + 1 ≠ w.heap.size := by omega
  have d1 : W1.cell? ⟨w.heap.size, 1, none⟩ = some q := L1.out.cell 1
  go_wp2_with fail
  clear f1 hl1 d1 g1
  clear hk1 hq1
  refine (C2.out _ (D2.out.below E1.out)).mono ?_
  rintro e W2 ⟨A2, c2, rfl, o2, b2⟩
  have bs2 : W1.heap.size = (W1.setCell ⟨(w.heap.size + 1 + 1), 0, none⟩ (.slice A1 m.R.length c1)).heap.size := by simp
  rw [← bs2] at o2
  have U2 := Lib.hid (show W1.heap.size ≤ W2.heap.size by have := b2.size; omega)
  have T2 := Lib.hid (show w.heap.size + 3 ≤ W2.heap.size by have := T1.out; have := U2.out; omega)
  have X2 := Lib.hid ((X1.out.set 0 (.slice A1 m.R.length c1)).below b2)
  have Y2 := Lib.hid ((Y1.out.grown (grown_set W1 (w.heap.size + 1 + 1) 0 (.slice A1 m.R.length c1)) (by intro h; injection h; omega)).below b2)
  have L2 := Lib.hid ((L1.out.grown (grown_set W1 (w.heap.size + 1 + 1) 0 (.slice A1 m.R.length c1)) (by intro h; injection h; omega)).below b2)
  have G2 := Lib.hid (E1.out.trans (b2.mono (by have := T1.out; simp; omega)))
  have H2 := Lib.hid (gb_trans (grown_set W1 (w.heap.size + 1 + 1) 0 (.slice A1 m.R.length c1)) (gb_weak (some (w.heap.size + 1 + 1)) (grown_below b2)))
  have O2 := Lib.hid o2
  clear o2 b2 bs2
  have E2 := Lib.hid (G2.out.setCell (p := ⟨(w.heap.size + 1 + 1), 1, none⟩) (by show w.heap.size ≤ w.heap.size + 1 + 1; omega) (.slice A2 m.mem.length c2))
  have f2 := X2.out.frozen 1
  have hl2 := X2.out.lt
  have g2 : W2.cell? ⟨w.heap.size + 1 + 1, 1, none⟩ = some q := X2.out.cell 1
  have hk2 := L2.out.lt
  have hq2 : w.heap.size + 1 + 1 ≠ w.heap.size := by omega
  have d2 : W2.cell? ⟨w.heap.size, 2, none⟩ = some i := L2.out.cell 2
  go_wp2_with fail
  clear f2 hl2 d2 g2
  clear hk2 hq2
  refine (C3.out _ (D3.out.below E2.out)).mono ?_
  rintro e W3 ⟨A3, c3, rfl, o3, b3⟩
  have bs3 : W2.heap.size = (W2.setCell ⟨(w.heap.size + 1 + 1), 1, none⟩ (.slice A2 m.mem.length c2)).heap.size := by simp
  rw [← bs3] at o3
  have U3 := Lib.hid (show W2.heap.size ≤ W3.heap.size by have := b3.size; omega)
  have T3 := Lib.hid (show w.heap.size + 3 ≤ W3.heap.size by have := T2.out; have := U3.out; omega)
  have X3 := Lib.hid ((X2.out.set 1 (.slice A2 m.mem.length c2)).below b3)
  have Y3 := Lib.hid ((Y2.out.grown (grown_set W2 (w.heap.size + 1 + 1) 1 (.slice A2 m.mem.length c2)) (by intro h; injection h; omega)).below b3)
  have L3 := Lib.hid ((L2.out.grown (grown_set W2 (w.heap.size + 1 + 1) 1 (.slice A2 m.mem.length c2)) (by intro h; injection h; omega)).below b3)
  have G3 := Lib.hid (E2.out.trans (b3.mono (by have := T2.out; simp; omega)))
  have H3 := Lib.hid (gb_trans (grown_set W2 (w.heap.size + 1 + 1) 1 (.slice A2 m.mem.length c2)) (gb_weak (some (w.heap.size + 1 + 1)) (grown_below b3)))
  have O3 := Lib.hid o3
  clear o3 b3 bs3
  have E3 := Lib.hid (G3.out.setCell (p := ⟨(w.heap.size + 1 + 1), 2, none⟩) (by show w.heap.size ≤ w.heap.size + 1 + 1; omega) (.slice A3 m.inp.length c3))
  have f3 := X3.out.frozen 2
  have hl3 := X3.out.lt
  have g3 : W3.cell? ⟨w.heap.size + 1 + 1, 2, none⟩ = some i := X3.out.cell 2
  have hk3 := L3.out.lt
  have hq3 : w.heap.size + 1 + 1 ≠ w.heap.size := by omega
  have d3 : W3.cell? ⟨w.heap.size, 4, none⟩ = some o := L3.out.cell 4
  go_wp2_with fail
  clear f3 hl3 d3 g3
  clear hk3 hq3
  refine (C4.out _ (D4.out.below E3.out)).mono ?_
  rintro e W4 ⟨A4, c4, rfl, o4, b4⟩
  have bs4 : W3.heap.size = (W3.setCell ⟨(w.heap.size + 1 + 1), 2, none⟩ (.slice A3 m.inp.length c3)).heap.size := by simp
  rw [← bs4] at o4
  have U4 := Lib.hid (show W3.heap.size ≤ W4.heap.size by have := b4.size; omega)
  have T4 := Lib.hid (show w.heap.size + 3 ≤ W4.heap.size by have := T3.out; have := U4.out; omega)
  have X4 := Lib.hid ((X3.out.set 2 (.slice A3 m.inp.length c3)).below b4)
  have Y4 := Lib.hid ((Y3.out.grown (grown_set W3 (w.heap.size + 1 + 1) 2 (.slice A3 m.inp.length c3)) (by intro h; injection h; omega)).below b4)
  have L4 := Lib.hid ((L3.out.grown (grown_set W3 (w.heap.size + 1 + 1) 2 (.slice A3 m.inp.length c3)) (by intro h; injection h; omega)).below b4)
  have G4 := Lib.hid (E3.out.trans (b4.mono (by have := T3.out; simp; omega)))
  have H4 := Lib.hid (gb_trans (grown_set W3 (w.heap.size + 1 + 1) 2 (.slice A3 m.inp.length c3)) (gb_weak (some (w.heap.size + 1 + 1)) (grown_below b4)))
  have O4 := Lib.hid o4
  clear o4 b4 bs4
  have E4 := Lib.hid (G4.out.setCell (p := ⟨(w.heap.size + 1 + 1), 4, none⟩) (by show w.heap.size ≤ w.heap.size + 1 + 1; omega) (.slice A4 m.out.length c4))
  have f4 := X4.out.frozen 4
  have hl4 := X4.out.lt
  have g4 : W4.cell? ⟨w.heap.size + 1 + 1, 4, none⟩ = some o := X4.out.cell 4
  have hk4 := L4.out.lt
  have hq4 : w.heap.size + 1 + 1 ≠ w.heap.size := by omega
  have d4 : W4.cell? ⟨w.heap.size, 6, none⟩ = some z := L4.out.cell 6
  go_wp2_with fail
  clear f4 hl4 d4 g4
  clear hk4 hq4
  refine (C5.out _ (D5.out.below E4.out)).mono ?_
  rintro e W5 ⟨A5, c5, rfl, o5, b5⟩
  have bs5 : W4.heap.size = (W4.setCell ⟨(w.heap.size + 1 + 1), 4, none⟩ (.slice A4 m.out.length c4)).heap.size := by simp
  rw [← bs5] at o5
  have U5 := Lib.hid (show W4.heap.size ≤ W5.heap.size by have := b5.size; omega)
  have T5 := Lib.hid (show w.heap.size + 3 ≤ W5.heap.size by have := T4.out; have := U5.out; omega)
  have X5 := Lib.hid ((X4.out.set 4 (.slice A4 m.out.length c4)).below b5)
  have Y5 := Lib.hid ((Y4.out.grown (grown_set W4 (w.heap.size + 1 + 1) 4 (.slice A4 m.out.length c4)) (by intro h; injection h; omega)).below b5)
  have L5 := Lib.hid ((L4.out.grown (grown_set W4 (w.heap.size + 1 + 1) 4 (.slice A4 m.out.length c4)) (by intro h; injection h; omega)).below b5)
  have G5 := Lib.hid (E4.out.trans (b5.mono (by have := T4.out; simp; omega)))
  have H5 := Lib.hid (gb_trans (grown_set W4 (w.heap.size + 1 + 1) 4 (.slice A4 m.out.length c4)) (gb_weak (some (w.heap.size + 1 + 1)) (grown_below b5)))
  have O5 := Lib.hid o5
  clear o5 b5 bs5
  have E5 := Lib.hid (G5.out.setCell (p := ⟨(w.heap.size + 1 + 1), 6, none⟩) (by show w.heap.size ≤ w.heap.size + 1 + 1; omega) (.slice A5 sl.length c5))
  have f5 := X5.out.frozen 6
  have hl5 := X5.out.lt
  have g5 : W5.cell? ⟨w.heap.size + 1 + 1, 6, none⟩ = some z := X5.out.cell 6
  have hk5 := L5.out.lt
  have hq5 : w.heap.size + 1 + 1 ≠ w.heap.size := by omega
  have d5 : W5.cell? ⟨w.heap.size, 8, none⟩ = some y := L5.out.cell 8
  go_wp2_with fail
  clear f5 hl5 d5 g5
  clear hk5 hq5
  refine (C6.out _ (D6.out.below E5.out)).mono ?_
  rintro e W6 ⟨A6, c6, rfl, o6, b6⟩
  have bs6 : W5.heap.size = (W5.setCell ⟨(w.heap.size + 1 + 1), 6, none⟩ (.slice A5 sl.length c5)).heap.size := by simp
  rw [← bs6] at o6
  have U6 := Lib.hid (show W5.heap.size ≤ W6.heap.size by have := b6.size; omega)
  have T6 := Lib.hid (show w.heap.size + 3 ≤ W6.heap.size by have := T5.out; have := U6.out; omega)
  have X6 := Lib.hid ((X5.out.set 6 (.slice A5 sl.length c5)).below b6)
  have Y6 := Lib.hid ((Y5.out.grown (grown_set W5 (w.heap.size + 1 + 1) 6 (.slice A5 sl.length c5)) (by intro h; injection h; omega)).below b6)
  have L6 := Lib.hid ((L5.out.grown (grown_set W5 (w.heap.size + 1 + 1) 6 (.slice A5 sl.length c5)) (by intro h; injection h; omega)).below b6)
  have G6 := Lib.hid (E5.out.trans (b6.mono (by have := T5.out; simp; omega)))
  have H6 := Lib.hid (gb_trans (grown_set W5 (w.heap.size + 1 + 1) 6 (.slice A5 sl.length c5)) (gb_weak (some (w.heap.size + 1 + 1)) (grown_below b6)))
  have O6 := Lib.hid o6
  clear o6 b6 bs6
  have E6 := Lib.hid (G6.out.setCell (p := ⟨(w.heap.size + 1 + 1), 8, none⟩) (by show w.heap.size ≤ w.heap.size + 1 + 1; omega) (.slice A6 m.fl.length c6))
  have f6 := X6.out.frozen 8
  have hl6 := X6.out.lt
  have g6 : W6.cell? ⟨w.heap.size + 1 + 1, 8, none⟩ = some y := X6.out.cell 8
  have hk6 := L6.out.lt
  have hq6 : w.heap.size + 1 + 1 ≠ w.heap.size := by omega
  have XF := Lib.hid (show BK 27 (W6.setCell ⟨(w.heap.size + 1 + 1), 8, none⟩ (.slice A6 m.fl.length c6)) (w.heap.size + 1 + 1) #[.slice A1 m.R.length c1, .slice A2 m.mem.length c2, .slice A3 m.inp.length c3, .int .i64 m.tk, .slice A4 m.out.length c4, .int .i64 m.pc, .slice A5 sl.length c5, .int .i64 m.stop, .slice A6 m.fl.length c6, .int .i64 m.jp, .int .i64 m.dl] from X6.out.set 8 _)
  have YF := Lib.hid (Y6.out.grown (grown_set W6 (w.heap.size + 1 + 1) 8 (.slice A6 m.fl.length c6)) (by intro h; injection h; omega))
  have HF := Lib.hid (grown_set W6 (w.heap.size + 1 + 1) 8 (.slice A6 m.fl.length c6))
  go_wp2_with (((with_reducible refine wpList_load_bk (T := 27) (op := ⟨some 29, .load 27 _, _, _, _, none⟩) rfl _ rfl Tryz.underlying27 Tryz.size27 (w.heap.size + 1 + 1) #[.slice A1 m.R.length c1, .slice A2 m.mem.length c2, .slice A3 m.inp.length c3, .int .i64 m.tk, .slice A4 m.out.length c4, .int .i64 m.pc, .slice A5 sl.length c5, .int .i64 m.stop, .slice A6 m.fl.length c6, .int .i64 m.jp, .int .i64 m.dl] ?lx ?lb ?l1 ?_); (case lx => rfl); (case l1 => rfl); (case lb => exact XF.out); (with_reducible refine wpList_store_bk (T := 27) (op := ⟨none, .store 27 _ _, _, _, _, none⟩) rfl _ _ rfl Tryz.size27 (w.heap.size + 1) ZS #[.slice A1 m.R.length c1, .slice A2 m.mem.length c2, .slice A3 m.inp.length c3, .int .i64 m.tk, .slice A4 m.out.length c4, .int .i64 m.pc, .slice A5 sl.length c5, .int .i64 m.stop, .slice A6 m.fl.length c6, .int .i64 m.jp, .int .i64 m.dl] ?sx ?sy ?sb ?s1 ?s2 ?s3 ?_); (case sx => rfl); (case sy => rfl); (case s1 => rfl); (case s2 => rfl); (case s3 => kernel_rfl)))
  case sb => exact YF.out
  intro W9 hbl hg hsz
  have LD := Lib.hid (hbl.load Tryz.underlying27 Tryz.size27 rfl)
  have BF := Lib.hid (E6.out.grown hg (by have := T6.out; simp; omega) (by intro k hk; cases hk; omega))
  have HG := Lib.hid hg
  clear hbl hg hsz
  go_wp2_with fail
  have hg := HG.out
  have K6 := keep_z (keep_z O6.out HF.out (by have := T5.out; omega)) hg (by have := T5.out; omega)
  have K5 := keep_z (keep_z (keep_z O5.out H6.out (by have := T4.out; omega)) HF.out (by have := T4.out; omega)) hg (by have := T4.out; omega)
  have K4 := keep_z (keep_z (keep_z (keep_z O4.out H5.out (by have := T3.out; omega)) H6.out (by have := T3.out; omega)) HF.out (by have := T3.out; omega)) hg (by have := T3.out; omega)
  have K3 := keep_z (keep_z (keep_z (keep_z (keep_z O3.out H4.out (by have := T2.out; omega)) H5.out (by have := T2.out; omega)) H6.out (by have := T2.out; omega)) HF.out (by have := T2.out; omega)) hg (by have := T2.out; omega)
  have K2 := keep_z (keep_z (keep_z (keep_z (keep_z (keep_z O2.out H3.out (by have := T1.out; omega)) H4.out (by have := T1.out; omega)) H5.out (by have := T1.out; omega)) H6.out (by have := T1.out; omega)) HF.out (by have := T1.out; omega)) hg (by have := T1.out; omega)
  have K1 := keep_z (keep_z (keep_z (keep_z (keep_z (keep_z (keep_z O1.out H2.out (by omega)) H3.out (by omega)) H4.out (by omega)) H5.out (by omega)) H6.out (by omega)) HF.out (by omega)) hg (by omega)
  obtain ⟨V, hV, hSR⟩ := sr_mk HR.out HM.out HS.out K1 K2 K3 K4 K5 K6 (by have := T5.out; omega) (fun k hk => (own_lt O1.out (Nat.le_refl _) k hk).2) (fun k hk => (own_lt O2.out (Nat.le_refl _) k hk).2) (fun k hk => (own_lt O3.out (Nat.le_refl _) k hk).2) (fun k hk => (own_lt O4.out (Nat.le_refl _) k hk).2) (B := w.heap.size) (by omega) (T1.out) U2.out U3.out U4.out
  refine bodyPost_ret (v := .agg #[.slice A1 m.R.length c1, .slice A2 m.mem.length c2, .slice A3 m.inp.length c3, .int .i64 m.tk, .slice A4 m.out.length c4, .int .i64 m.pc, .slice A5 sl.length c5, .int .i64 m.stop, .slice A6 m.fl.length c6, .int .i64 m.jp, .int .i64 m.dl]) ?_ rfl ⟨V, by rw [hV], hSR, BF.out⟩
  rw [results_cell_one Tryz.results10]
  simp [asAddr, Result.andThen, LD.out]
end Go.Proofs.YtbgmdikcbglpiaaGreatDoor
