/-
  Contract of Ins of package bits: which instruction a word is of. Conditions: the tables lie in the world; the word is one of 32 bits.
-/
import Derived.Test.YtlhdmdhecamlfaaDoorWordOf
namespace Go.Proofs.YtlhdmdhecamlfaaDoor
open Go.RowKit

/-- Is the word one of an instruction that may be? -/
def okB (w : Int) (n : Nat) : Bool := insB n (ur (ld (fm n)) w) (ur (la (fm n)) w) (ur (lb (fm n)) w) (uim (fm n) w) ⟨#[]⟩ && decide (wd n (ur (ld (fm n)) w) (ur (la (fm n)) w) (ur (lb (fm n)) w) (uim (fm n) w) = w)
def okW (w : Int) : Bool := decide (opW w < 34) && okB w (opW w)
def xo (w : Int) : Int := if okW w then opW w else 0
def xd (w : Int) : Int := if okW w then ur (ld (fm (opW w))) w else 0
def xa (w : Int) : Int := if okW w then ur (la (fm (opW w))) w else 0
def xb (w : Int) : Int := if okW w then ur (lb (fm (opW w))) w else 0
def xm (w : Int) : Int := if okW w then uim (fm (opW w)) w else 0
theorem op_eq {x : Int} (h0 : 0 ≤ x) : x / 67108864 = (opW x : Int) := by unfold opW; omega
def ZeroTwo (c : Int) (w : World) (e : Ending) (w' : World) : Prop := InsTwo 0 0 0 0 0 c w e w'
set_option maxHeartbeats 1000000 in
theorem bins_noop (x : Int) (w : World) (x0 : 0 ≤ x) (x1 : x ≤ 4294967295) (h : 33 < x / 67108864) : Calls Tryd.prog 12 #[.int .u32 x] w (ZeroTwo 8 w) := by
  have FN := Lib.hid (fun W => form_no (x / 67108864) W (.inr h))
  go_enter Tryd.func12, Tryd.ntmps12
  go_wp2_with (go_at_call 29; refine (FN.out _).mono ?_; rintro e w' ⟨rfl, rfl⟩)
  exact bodyPost_ret (v := .tuple #[.agg #[.int .i64 0, .int .i64 0, .int .i64 0, .int .i64 0, .int .i64 0, .string ⟨#[]⟩], .int .i64 8]) (by simp [results, Tryd.results12, go_sem]) rfl ⟨rfl, below_new _ _⟩
set_option maxHeartbeats 1000000 in
theorem bins_bad (n f : Nat) (x : Int) (w : World) (H : Tab w) (x0 : 0 ≤ x) (x1 : x ≤ 4294967295) (hn : n < 34) (hx : x / 67108864 = (n : Int)) (hfm : fm n = f) (hi : insB n (ur (ld f) x) (ur (la f) x) (ur (lb f) x) (uim f x) ⟨#[]⟩ = false) : Calls Tryd.prog 12 #[.int .u32 x] w (ZeroTwo 8 w) := by
  have T := Lib.hid H
  have HI := Lib.hid hi
  have hf : f < 10 := hfm ▸ fm_lt hn
  have FY := Lib.hid (fun W (h : Tab W) => hfm ▸ form_yes n W hn h)
  have big : 0 < w.heap.size := by have := H.big; omega
  obtain ⟨l0, l1, l2, l3, l4⟩ := H.lays f hf
  have f0 : (0 : Int) ≤ (f : Int) := by omega
  have f1 : (f : Int) < 10 := by omega
  clear H hi hfm
  go_enter Tryd.func12, Tryd.ntmps12
  go_wp2_with (go_at_call 29; refine (FY.out _ (T.out.alloc _)).mono ?_; rintro e w' ⟨rfl, rfl⟩)
  clear l0 l1 l2 l3 l4
  refine (unpack_any n f x _ hf x0 x1).mono ?_
  rintro e w1 ⟨rfl, hb⟩
  have hX : XB w1 w.heap.size 0 0 0 0 0 ⟨#[]⟩ := XB.below (heap_alloc_new _ _) hb
  have T1 := Lib.hid ((T.out.alloc _).below hb)
  obtain ⟨_, hz, hB⟩ := box_cells hb
  have HX := Lib.hid hX
  have HB := Lib.hid hB
  clear hX hb hB
  go_wp2_with fail
  refine (word_bad _ _ _ _ _ _ _ (T1.out.alloc _) (by decide) (.inr ⟨n, hn, rfl, HI.out⟩)).mono ?_
  rintro e w2 ⟨rfl, hb2⟩
  obtain ⟨q, hz2, hB2⟩ := box_cells hb2
  have hX2 := HX.out.below hB2
  have k0 : w2.cell? ⟨w1.heap.size, 0, none⟩ = some (.int .i64 n) := q 0
  have k1 : w2.cell? ⟨w1.heap.size, 1, none⟩ = some (.int .i64 (ur (ld f) x)) := q 1
  have k2 : w2.cell? ⟨w1.heap.size, 2, none⟩ = some (.int .i64 (ur (la f) x)) := q 2
  have k3 : w2.cell? ⟨w1.heap.size, 3, none⟩ = some (.int .i64 (ur (lb f) x)) := q 3
  have k4 : w2.cell? ⟨w1.heap.size, 4, none⟩ = some (.int .i64 (uim f x)) := q 4
  have k5 : w2.cell? ⟨w1.heap.size, 5, none⟩ = some (.string ⟨#[]⟩) := q 5
  obtain ⟨c0, c1, c2, c3, c4, c5⟩ := hX2.cells
  have g0 := hX2.frozen 0
  have g1 := hX2.frozen 1
  have g2 := hX2.frozen 2
  have g3 := hX2.frozen 3
  have g4 := hX2.frozen 4
  have g5 := hX2.frozen 5
  have hl := hX2.lt
  have HB2 := Lib.hid (HB.out.trans (hB2.mono (by omega)))
  clear hX2 q hb2 hB2 hz
  go_wp2
  exact bodyPost_ret (v := .tuple #[.agg #[.int .i64 0, .int .i64 0, .int .i64 0, .int .i64 0, .int .i64 0, .string ⟨#[]⟩], .int .i64 8]) (by simp [results, Tryd.results12, go_sem, c0, c1, c2, c3, c4, c5]) rfl ⟨rfl, (((((HB2.out.setCell (Nat.le_refl _) _).setCell (Nat.le_refl _) _).setCell (Nat.le_refl _) _).setCell (Nat.le_refl _) _).setCell (Nat.le_refl _) _).setCell (Nat.le_refl _) _⟩
set_option maxHeartbeats 1000000 in
theorem bins_far (n f : Nat) (x : Int) (w : World) (H : Tab w) (x0 : 0 ≤ x) (x1 : x ≤ 4294967295) (hn : n < 34) (hx : x / 67108864 = (n : Int)) (hfm : fm n = f) (hi : insB n (ur (ld f) x) (ur (la f) x) (ur (lb f) x) (uim f x) ⟨#[]⟩ = true) (hw : (wd n (ur (ld f) x) (ur (la f) x) (ur (lb f) x) (uim f x)) ≠ x) : Calls Tryd.prog 12 #[.int .u32 x] w (ZeroTwo 8 w) := by
  have T := Lib.hid H
  have HI := Lib.hid hi
  have hf : f < 10 := hfm ▸ fm_lt hn
  have FY := Lib.hid (fun W (h : Tab W) => hfm ▸ form_yes n W hn h)
  have big : 0 < w.heap.size := by have := H.big; omega
  obtain ⟨l0, l1, l2, l3, l4⟩ := H.lays f hf
  have f0 : (0 : Int) ≤ (f : Int) := by omega
  have f1 : (f : Int) < 10 := by omega
  have hq : ((wd n (ur (ld f) x) (ur (la f) x) (ur (lb f) x) (uim f x)) != x) = true := by simpa using hw
  clear hw
  clear H hi hfm
  go_enter Tryd.func12, Tryd.ntmps12
  go_wp2_with (go_at_call 29; refine (FY.out _ (T.out.alloc _)).mono ?_; rintro e w' ⟨rfl, rfl⟩)
  clear l0 l1 l2 l3 l4
  refine (unpack_any n f x _ hf x0 x1).mono ?_
  rintro e w1 ⟨rfl, hb⟩
  have hX : XB w1 w.heap.size 0 0 0 0 0 ⟨#[]⟩ := XB.below (heap_alloc_new _ _) hb
  have T1 := Lib.hid ((T.out.alloc _).below hb)
  obtain ⟨_, hz, hB⟩ := box_cells hb
  have HX := Lib.hid hX
  have HB := Lib.hid hB
  clear hX hb hB
  go_wp2_with fail
  refine (word_good _ _ _ _ _ _ _ hn (T1.out.alloc _) HI.out rfl).mono ?_
  rintro e w2 ⟨rfl, hb2⟩
  obtain ⟨q, hz2, hB2⟩ := box_cells hb2
  have hX2 := HX.out.below hB2
  have k0 : w2.cell? ⟨w1.heap.size, 0, none⟩ = some (.int .i64 n) := q 0
  have k1 : w2.cell? ⟨w1.heap.size, 1, none⟩ = some (.int .i64 (ur (ld f) x)) := q 1
  have k2 : w2.cell? ⟨w1.heap.size, 2, none⟩ = some (.int .i64 (ur (la f) x)) := q 2
  have k3 : w2.cell? ⟨w1.heap.size, 3, none⟩ = some (.int .i64 (ur (lb f) x)) := q 3
  have k4 : w2.cell? ⟨w1.heap.size, 4, none⟩ = some (.int .i64 (uim f x)) := q 4
  have k5 : w2.cell? ⟨w1.heap.size, 5, none⟩ = some (.string ⟨#[]⟩) := q 5
  obtain ⟨c0, c1, c2, c3, c4, c5⟩ := hX2.cells
  have g0 := hX2.frozen 0
  have g1 := hX2.frozen 1
  have g2 := hX2.frozen 2
  have g3 := hX2.frozen 3
  have g4 := hX2.frozen 4
  have g5 := hX2.frozen 5
  have hl := hX2.lt
  have HB2 := Lib.hid (HB.out.trans (hB2.mono (by omega)))
  clear hX2 q hb2 hB2 hz
  go_wp2
  exact bodyPost_ret (v := .tuple #[.agg #[.int .i64 0, .int .i64 0, .int .i64 0, .int .i64 0, .int .i64 0, .string ⟨#[]⟩], .int .i64 8]) (by simp [results, Tryd.results12, go_sem, c0, c1, c2, c3, c4, c5]) rfl ⟨rfl, (((((HB2.out.setCell (Nat.le_refl _) _).setCell (Nat.le_refl _) _).setCell (Nat.le_refl _) _).setCell (Nat.le_refl _) _).setCell (Nat.le_refl _) _).setCell (Nat.le_refl _) _⟩
set_option maxHeartbeats 1000000 in
theorem bins_good (n f : Nat) (x : Int) (w : World) (H : Tab w) (x0 : 0 ≤ x) (x1 : x ≤ 4294967295) (hn : n < 34) (hx : x / 67108864 = (n : Int)) (hfm : fm n = f) (hi : insB n (ur (ld f) x) (ur (la f) x) (ur (lb f) x) (uim f x) ⟨#[]⟩ = true) (hw : (wd n (ur (ld f) x) (ur (la f) x) (ur (lb f) x) (uim f x)) = x) : Calls Tryd.prog 12 #[.int .u32 x] w (InsTwo n (ur (ld f) x) (ur (la f) x) (ur (lb f) x) (uim f x) 0 w) := by
  have T := Lib.hid H
  have HI := Lib.hid hi
  have hf : f < 10 := hfm ▸ fm_lt hn
  have FY := Lib.hid (fun W (h : Tab W) => hfm ▸ form_yes n W hn h)
  have big : 0 < w.heap.size := by have := H.big; omega
  obtain ⟨l0, l1, l2, l3, l4⟩ := H.lays f hf
  have f0 : (0 : Int) ≤ (f : Int) := by omega
  have f1 : (f : Int) < 10 := by omega
  have hq : ((wd n (ur (ld f) x) (ur (la f) x) (ur (lb f) x) (uim f x)) != x) = false := by simpa using hw
  clear hw
  clear H hi hfm
  go_enter Tryd.func12, Tryd.ntmps12
  go_wp2_with (go_at_call 29; refine (FY.out _ (T.out.alloc _)).mono ?_; rintro e w' ⟨rfl, rfl⟩)
  clear l0 l1 l2 l3 l4
  refine (unpack_any n f x _ hf x0 x1).mono ?_
  rintro e w1 ⟨rfl, hb⟩
  have hX : XB w1 w.heap.size 0 0 0 0 0 ⟨#[]⟩ := XB.below (heap_alloc_new _ _) hb
  have T1 := Lib.hid ((T.out.alloc _).below hb)
  obtain ⟨_, hz, hB⟩ := box_cells hb
  have HX := Lib.hid hX
  have HB := Lib.hid hB
  clear hX hb hB
  go_wp2_with fail
  refine (word_good _ _ _ _ _ _ _ hn (T1.out.alloc _) HI.out rfl).mono ?_
  rintro e w2 ⟨rfl, hb2⟩
  obtain ⟨q, hz2, hB2⟩ := box_cells hb2
  have hX2 := HX.out.below hB2
  have k0 : w2.cell? ⟨w1.heap.size, 0, none⟩ = some (.int .i64 n) := q 0
  have k1 : w2.cell? ⟨w1.heap.size, 1, none⟩ = some (.int .i64 (ur (ld f) x)) := q 1
  have k2 : w2.cell? ⟨w1.heap.size, 2, none⟩ = some (.int .i64 (ur (la f) x)) := q 2
  have k3 : w2.cell? ⟨w1.heap.size, 3, none⟩ = some (.int .i64 (ur (lb f) x)) := q 3
  have k4 : w2.cell? ⟨w1.heap.size, 4, none⟩ = some (.int .i64 (uim f x)) := q 4
  have k5 : w2.cell? ⟨w1.heap.size, 5, none⟩ = some (.string ⟨#[]⟩) := q 5
  obtain ⟨c0, c1, c2, c3, c4, c5⟩ := hX2.cells
  have g0 := hX2.frozen 0
  have g1 := hX2.frozen 1
  have g2 := hX2.frozen 2
  have g3 := hX2.frozen 3
  have g4 := hX2.frozen 4
  have g5 := hX2.frozen 5
  have hl := hX2.lt
  have HB2 := Lib.hid (HB.out.trans (hB2.mono (by omega)))
  clear hX2 q hb2 hB2 hz
  go_wp2
  exact bodyPost_ret (v := .tuple #[.agg #[.int .i64 n, .int .i64 (ur (ld f) x), .int .i64 (ur (la f) x), .int .i64 (ur (lb f) x), .int .i64 (uim f x), .string ⟨#[]⟩], .int .i64 0]) (by simp [results, Tryd.results12, go_sem, c0, c1, c2, c3, c4, c5]) rfl ⟨rfl, (((((HB2.out.setCell (Nat.le_refl _) _).setCell (Nat.le_refl _) _).setCell (Nat.le_refl _) _).setCell (Nat.le_refl _) _).setCell (Nat.le_refl _) _).setCell (Nat.le_refl _) _⟩
def InsOfPost (x : Int) (w : World) (e : Ending) (w' : World) : Prop := InsTwo (xo x) (xd x) (xa x) (xb x) (xm x) (if okW x then 0 else 8) w e w'
theorem x_no {x : Int} (h : okW x = false) : xo x = 0 ∧ xd x = 0 ∧ xa x = 0 ∧ xb x = 0 ∧ xm x = 0 := by simp [xo, xd, xa, xb, xm, h]
theorem x_yes {x : Int} (h : okW x = true) : xo x = opW x ∧ xd x = ur (ld (fm (opW x))) x ∧ xa x = ur (la (fm (opW x))) x ∧ xb x = ur (lb (fm (opW x))) x ∧ xm x = uim (fm (opW x)) x := by simp [xo, xd, xa, xb, xm, h]
theorem post_no {x : Int} {w w' : World} {e : Ending} (h : okW x = false) (hz : ZeroTwo 8 w e w') : InsOfPost x w e w' := by
  obtain ⟨e1, e2, e3, e4, e5⟩ := x_no h
  unfold InsOfPost
  rw [e1, e2, e3, e4, e5, h]
  exact hz
theorem post_yes {x : Int} {w w' : World} {e : Ending} (h : okW x = true) (hz : InsTwo (opW x) (ur (ld (fm (opW x))) x) (ur (la (fm (opW x))) x) (ur (lb (fm (opW x))) x) (uim (fm (opW x)) x) 0 w e w') : InsOfPost x w e w' := by
  obtain ⟨e1, e2, e3, e4, e5⟩ := x_yes h
  unfold InsOfPost
  rw [e1, e2, e3, e4, e5, h]
  exact hz
theorem ok_far {x : Int} (h : ¬ opW x < 34) : okW x = false := by unfold okW; simp [h]
theorem ok_near {x : Int} (h : opW x < 34) : okW x = okB x (opW x) := by unfold okW; simp [h]
/-- Which instruction a word is of. -/
theorem bins_any (x : Int) (w : World) (H : Tab w) (x0 : 0 ≤ x) (x1 : x ≤ 4294967295) : Calls Tryd.prog 12 #[.int .u32 x] w (InsOfPost x w) := by
  have e := op_eq x0
  by_cases h : opW x < 34
  · have hk := ok_near h
    unfold okB at hk
    cases hi : insB (opW x) (ur (ld (fm (opW x))) x) (ur (la (fm (opW x))) x) (ur (lb (fm (opW x))) x) (uim (fm (opW x)) x) ⟨#[]⟩
    · exact (bins_bad (opW x) _ x w H x0 x1 h e rfl hi).mono fun _ _ hz => post_no (by rw [hk, hi]; rfl) hz
    · by_cases hw : wd (opW x) (ur (ld (fm (opW x))) x) (ur (la (fm (opW x))) x) (ur (lb (fm (opW x))) x) (uim (fm (opW x)) x) = x
      · exact (bins_good (opW x) _ x w H x0 x1 h e rfl hi hw).mono fun _ _ hz => post_yes (by rw [hk, hi, decide_eq_true hw]; rfl) hz
      · exact (bins_far (opW x) _ x w H x0 x1 h e rfl hi hw).mono fun _ _ hz => post_no (by rw [hk, hi, decide_eq_false hw]; rfl) hz
  · exact (bins_noop x w x0 x1 (by rw [e]; omega)).mono fun _ _ hz => post_no (ok_far h) hz
end Go.Proofs.YtlhdmdhecamlfaaDoor
