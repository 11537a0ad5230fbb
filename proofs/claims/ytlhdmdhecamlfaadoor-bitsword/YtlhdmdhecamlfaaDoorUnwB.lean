/-
  Contract of the page's Unword (forms 7, 8, 9): which instruction a word is of. Conditions: the word is one of 32 bits.
-/
import Derived.Test.YtlhdmdhecamlfaaDoorUnw
namespace Go.Proofs.YtlhdmdhecamlfaaDoor
open Go.RowKit

set_option maxHeartbeats 4000000 in
theorem unw7_bad (n : Nat) (x : Int) (w : World) (x0 : 0 ≤ x) (x1 : x ≤ 4294967295) (hn : n < 34) (hx : x / 67108864 = (n : Int)) (hfm : fm n = 7) (hi : insB n 0 (ur 18 x) 0 0 ⟨#[]⟩ = false) : Calls Tryd.prog 13 #[.int .u32 x] w (ZeroFalse w) := by
  have HI := Lib.hid hi
  have RF := Lib.hid (fun W => rform_at n 7 W hn hfm)
  have BT := Lib.hid (fun W => bits_at 7 0 W (by decide) rfl)
  have CD := Lib.hid (fun W => (hasD_any 7 W (by decide) : Calls Tryd.prog 23 #[.int .i64 ((7 : Nat) : Int)] W (BoolPost false W)))
  have CA := Lib.hid (fun W => (hasA_any 7 W (by decide) : Calls Tryd.prog 24 #[.int .i64 ((7 : Nat) : Int)] W (BoolPost true W)))
  have e22 := and15 22 x (x / 4194304) x0 x1 rfl (by decide)
  have e18 := and15 18 x (x / 262144) x0 x1 rfl (by decide)
  have e14 := and15 14 x (x / 16384) x0 x1 rfl (by decide)
  obtain ⟨u22, v22⟩ := ur_bd 22 x
  obtain ⟨u18, v18⟩ := ur_bd 18 x
  obtain ⟨u14, v14⟩ := ur_bd 14 x
  clear hi hfm
  go_enter Tryd.func13, Tryd.ntmps13
  go_wp2_with (go_at_call 31; refine (valid_yes _ _ hn).mono ?_; rintro e w' ⟨rfl, rfl⟩)
  refine (RF.out _).mono ?_
  rintro e w1 ⟨rfl, hb⟩
  have ez : (w.alloc (.cells #[.int .i64 0, .int .i64 0, .int .i64 0, .int .i64 0, .int .i64 0, .string ⟨#[]⟩] 35)).heap.size = w.heap.size + 1 := by simp
  have hY : XB w1 (w.heap.size + 1) n 0 0 0 0 ⟨#[]⟩ := XB.below (by rw [← ez]; exact heap_alloc_new _ _) hb
  obtain ⟨_, hz, hB⟩ := box_cells hb
  have hX : XB w1 w.heap.size 0 0 0 0 0 ⟨#[]⟩ := XB.below (heap_alloc_new _ _) hB
  obtain ⟨_, hz', hB'⟩ := box_cells hB
  have hgl := hY.lt
  obtain ⟨k0, k1, k2, k3, k4, k5⟩ := hY.cells
  have f1 := hY.frozen 1
  have f2 := hY.frozen 2
  have f3 := hY.frozen 3
  have f4 := hY.frozen 4
  have HX := Lib.hid hX
  have HY := Lib.hid hY
  have HB := Lib.hid hB'
  clear hX hY hb hB hB' hz hz' ez
  go_wp2_with (first | (go_at_call 23; refine (CD.out _).mono ?_; rintro e w' ⟨rfl, rfl⟩) | (go_at_call 24; refine (CA.out _).mono ?_; rintro e w' ⟨rfl, rfl⟩) | (go_at_call 26; refine (BT.out _).mono ?_; rintro e w' ⟨rfl, rfl⟩))
  refine (ins_bad _ _ _ _ _ _ _ (by decide) (.inr ⟨n, hn, rfl, HI.out⟩)).mono ?_
  rintro e w2 ⟨rfl, hb2⟩
  have hY2 : XB w2 (w.heap.size + 1) n 0 (ur 18 x) 0 0 ⟨#[]⟩ := XB.below (HY.out.set2 _) hb2
  have hX2 : XB w2 w.heap.size 0 0 0 0 0 ⟨#[]⟩ := XB.below (HX.out.other (by simp) _) hb2
  have hB2 : Below w.heap.size w w2 := Below.trans (HB.out.setCell (by simp) _) (hb2.mono (Nat.le_of_lt (XB.lt (HX.out.other (by simp) _))))
  clear hb2 k0 k1 k2 k3 k4 k5 f4 hgl
  obtain ⟨k0, k1, k2, k3, k4, k5⟩ := hY2.cells
  obtain ⟨c0, c1, c2, c3, c4, c5⟩ := hX2.cells
  have g0 := hX2.frozen 0
  have g1 := hX2.frozen 1
  have g2 := hX2.frozen 2
  have g3 := hX2.frozen 3
  have g4 := hX2.frozen 4
  have g5 := hX2.frozen 5
  have hl := hX2.lt
  have HB9 := Lib.hid hB2
  clear hX2 hY2 hB2
  go_wp2
  exact bodyPost_ret (v := .tuple #[.agg #[.int .i64 0, .int .i64 0, .int .i64 0, .int .i64 0, .int .i64 0, .string ⟨#[]⟩], .bool false]) (by simp [results, Tryd.results13, go_sem, c0, c1, c2, c3, c4, c5]) rfl ⟨rfl, (((((HB9.out.setCell (Nat.le_refl _) _).setCell (Nat.le_refl _) _).setCell (Nat.le_refl _) _).setCell (Nat.le_refl _) _).setCell (Nat.le_refl _) _).setCell (Nat.le_refl _) _⟩
set_option maxHeartbeats 4000000 in
theorem unw7_far (n : Nat) (x : Int) (w : World) (x0 : 0 ≤ x) (x1 : x ≤ 4294967295) (hn : n < 34) (hx : x / 67108864 = (n : Int)) (hfm : fm n = 7) (hi : insB n 0 (ur 18 x) 0 0 ⟨#[]⟩ = true) (hw : wd n 0 (ur 18 x) 0 0 ≠ x) : Calls Tryd.prog 13 #[.int .u32 x] w (ZeroFalse w) := by
  have HI := Lib.hid hi
  have FI := Lib.hid (ins_fit hi rfl)
  have RF := Lib.hid (fun W => rform_at n 7 W hn hfm)
  have BT := Lib.hid (fun W => bits_at 7 0 W (by decide) rfl)
  have CD := Lib.hid (fun W => (hasD_any 7 W (by decide) : Calls Tryd.prog 23 #[.int .i64 ((7 : Nat) : Int)] W (BoolPost false W)))
  have CA := Lib.hid (fun W => (hasA_any 7 W (by decide) : Calls Tryd.prog 24 #[.int .i64 ((7 : Nat) : Int)] W (BoolPost true W)))
  have e22 := and15 22 x (x / 4194304) x0 x1 rfl (by decide)
  have e18 := and15 18 x (x / 262144) x0 x1 rfl (by decide)
  have e14 := and15 14 x (x / 16384) x0 x1 rfl (by decide)
  obtain ⟨u22, v22⟩ := ur_bd 22 x
  obtain ⟨u18, v18⟩ := ur_bd 18 x
  obtain ⟨u14, v14⟩ := ur_bd 14 x
  have hq : (wd n 0 (ur 18 x) 0 0 != x) = true := by simpa using hw
  clear hw
  clear hi hfm
  go_enter Tryd.func13, Tryd.ntmps13
  go_wp2_with (go_at_call 31; refine (valid_yes _ _ hn).mono ?_; rintro e w' ⟨rfl, rfl⟩)
  refine (RF.out _).mono ?_
  rintro e w1 ⟨rfl, hb⟩
  have ez : (w.alloc (.cells #[.int .i64 0, .int .i64 0, .int .i64 0, .int .i64 0, .int .i64 0, .string ⟨#[]⟩] 35)).heap.size = w.heap.size + 1 := by simp
  have hY : XB w1 (w.heap.size + 1) n 0 0 0 0 ⟨#[]⟩ := XB.below (by rw [← ez]; exact heap_alloc_new _ _) hb
  obtain ⟨_, hz, hB⟩ := box_cells hb
  have hX : XB w1 w.heap.size 0 0 0 0 0 ⟨#[]⟩ := XB.below (heap_alloc_new _ _) hB
  obtain ⟨_, hz', hB'⟩ := box_cells hB
  have hgl := hY.lt
  obtain ⟨k0, k1, k2, k3, k4, k5⟩ := hY.cells
  have f1 := hY.frozen 1
  have f2 := hY.frozen 2
  have f3 := hY.frozen 3
  have f4 := hY.frozen 4
  have HX := Lib.hid hX
  have HY := Lib.hid hY
  have HB := Lib.hid hB'
  clear hX hY hb hB hB' hz hz' ez
  go_wp2_with (first | (go_at_call 23; refine (CD.out _).mono ?_; rintro e w' ⟨rfl, rfl⟩) | (go_at_call 24; refine (CA.out _).mono ?_; rintro e w' ⟨rfl, rfl⟩) | (go_at_call 26; refine (BT.out _).mono ?_; rintro e w' ⟨rfl, rfl⟩))
  refine (ins_good _ _ _ _ _ _ _ hn (by decide) HI.out).mono ?_
  rintro e w2 ⟨rfl, hb2⟩
  have hY2 : XB w2 (w.heap.size + 1) n 0 (ur 18 x) 0 0 ⟨#[]⟩ := XB.below (HY.out.set2 _) hb2
  have hX2 : XB w2 w.heap.size 0 0 0 0 0 ⟨#[]⟩ := XB.below (HX.out.other (by simp) _) hb2
  have hB2 : Below w.heap.size w w2 := Below.trans (HB.out.setCell (by simp) _) (hb2.mono (Nat.le_of_lt (XB.lt (HX.out.other (by simp) _))))
  clear hb2 k0 k1 k2 k3 k4 k5 f4 hgl
  obtain ⟨k0, k1, k2, k3, k4, k5⟩ := hY2.cells
  have HX2 := Lib.hid hX2
  have HY2 := Lib.hid hY2
  have HB2 := Lib.hid hB2
  clear hX2 hY2 hB2
  go_wp2_with fail
  refine (rword_any _ _ _ _ _ _ _ hn FI.out).mono ?_
  rintro e w3 ⟨rfl, hb3⟩
  have hY3 := HY2.out.below hb3
  have hX3 := HX2.out.below hb3
  have hB3 := HB2.out.trans (hb3.mono (Nat.le_of_lt HX2.out.lt))
  clear hb3 k0 k1 k2 k3 k4 k5
  obtain ⟨k0, k1, k2, k3, k4, k5⟩ := hY3.cells
  obtain ⟨c0, c1, c2, c3, c4, c5⟩ := hX3.cells
  have g0 := hX3.frozen 0
  have g1 := hX3.frozen 1
  have g2 := hX3.frozen 2
  have g3 := hX3.frozen 3
  have g4 := hX3.frozen 4
  have g5 := hX3.frozen 5
  have hl := hX3.lt
  have HB9 := Lib.hid hB3
  clear hX3 hY3 hB3
  go_wp2
  exact bodyPost_ret (v := .tuple #[.agg #[.int .i64 0, .int .i64 0, .int .i64 0, .int .i64 0, .int .i64 0, .string ⟨#[]⟩], .bool false]) (by simp [results, Tryd.results13, go_sem, c0, c1, c2, c3, c4, c5]) rfl ⟨rfl, (((((HB9.out.setCell (Nat.le_refl _) _).setCell (Nat.le_refl _) _).setCell (Nat.le_refl _) _).setCell (Nat.le_refl _) _).setCell (Nat.le_refl _) _).setCell (Nat.le_refl _) _⟩
set_option maxHeartbeats 4000000 in
theorem unw7_good (n : Nat) (x : Int) (w : World) (x0 : 0 ≤ x) (x1 : x ≤ 4294967295) (hn : n < 34) (hx : x / 67108864 = (n : Int)) (hfm : fm n = 7) (hi : insB n 0 (ur 18 x) 0 0 ⟨#[]⟩ = true) (hw : wd n 0 (ur 18 x) 0 0 = x) : Calls Tryd.prog 13 #[.int .u32 x] w (InsBool n 0 (ur 18 x) 0 0 true w) := by
  have HI := Lib.hid hi
  have FI := Lib.hid (ins_fit hi rfl)
  have RF := Lib.hid (fun W => rform_at n 7 W hn hfm)
  have BT := Lib.hid (fun W => bits_at 7 0 W (by decide) rfl)
  have CD := Lib.hid (fun W => (hasD_any 7 W (by decide) : Calls Tryd.prog 23 #[.int .i64 ((7 : Nat) : Int)] W (BoolPost false W)))
  have CA := Lib.hid (fun W => (hasA_any 7 W (by decide) : Calls Tryd.prog 24 #[.int .i64 ((7 : Nat) : Int)] W (BoolPost true W)))
  have e22 := and15 22 x (x / 4194304) x0 x1 rfl (by decide)
  have e18 := and15 18 x (x / 262144) x0 x1 rfl (by decide)
  have e14 := and15 14 x (x / 16384) x0 x1 rfl (by decide)
  obtain ⟨u22, v22⟩ := ur_bd 22 x
  obtain ⟨u18, v18⟩ := ur_bd 18 x
  obtain ⟨u14, v14⟩ := ur_bd 14 x
  have hq : (wd n 0 (ur 18 x) 0 0 != x) = false := by simpa using hw
  clear hw
  clear hi hfm
  go_enter Tryd.func13, Tryd.ntmps13
  go_wp2_with (go_at_call 31; refine (valid_yes _ _ hn).mono ?_; rintro e w' ⟨rfl, rfl⟩)
  refine (RF.out _).mono ?_
  rintro e w1 ⟨rfl, hb⟩
  have ez : (w.alloc (.cells #[.int .i64 0, .int .i64 0, .int .i64 0, .int .i64 0, .int .i64 0, .string ⟨#[]⟩] 35)).heap.size = w.heap.size + 1 := by simp
  have hY : XB w1 (w.heap.size + 1) n 0 0 0 0 ⟨#[]⟩ := XB.below (by rw [← ez]; exact heap_alloc_new _ _) hb
  obtain ⟨_, hz, hB⟩ := box_cells hb
  have hX : XB w1 w.heap.size 0 0 0 0 0 ⟨#[]⟩ := XB.below (heap_alloc_new _ _) hB
  obtain ⟨_, hz', hB'⟩ := box_cells hB
  have hgl := hY.lt
  obtain ⟨k0, k1, k2, k3, k4, k5⟩ := hY.cells
  have f1 := hY.frozen 1
  have f2 := hY.frozen 2
  have f3 := hY.frozen 3
  have f4 := hY.frozen 4
  have HX := Lib.hid hX
  have HY := Lib.hid hY
  have HB := Lib.hid hB'
  clear hX hY hb hB hB' hz hz' ez
  go_wp2_with (first | (go_at_call 23; refine (CD.out _).mono ?_; rintro e w' ⟨rfl, rfl⟩) | (go_at_call 24; refine (CA.out _).mono ?_; rintro e w' ⟨rfl, rfl⟩) | (go_at_call 26; refine (BT.out _).mono ?_; rintro e w' ⟨rfl, rfl⟩))
  refine (ins_good _ _ _ _ _ _ _ hn (by decide) HI.out).mono ?_
  rintro e w2 ⟨rfl, hb2⟩
  have hY2 : XB w2 (w.heap.size + 1) n 0 (ur 18 x) 0 0 ⟨#[]⟩ := XB.below (HY.out.set2 _) hb2
  have hX2 : XB w2 w.heap.size 0 0 0 0 0 ⟨#[]⟩ := XB.below (HX.out.other (by simp) _) hb2
  have hB2 : Below w.heap.size w w2 := Below.trans (HB.out.setCell (by simp) _) (hb2.mono (Nat.le_of_lt (XB.lt (HX.out.other (by simp) _))))
  clear hb2 k0 k1 k2 k3 k4 k5 f4 hgl
  obtain ⟨k0, k1, k2, k3, k4, k5⟩ := hY2.cells
  have HX2 := Lib.hid hX2
  have HY2 := Lib.hid hY2
  have HB2 := Lib.hid hB2
  clear hX2 hY2 hB2
  go_wp2_with fail
  refine (rword_any _ _ _ _ _ _ _ hn FI.out).mono ?_
  rintro e w3 ⟨rfl, hb3⟩
  have hY3 := HY2.out.below hb3
  have hX3 := HX2.out.below hb3
  have hB3 := HB2.out.trans (hb3.mono (Nat.le_of_lt HX2.out.lt))
  clear hb3 k0 k1 k2 k3 k4 k5
  obtain ⟨k0, k1, k2, k3, k4, k5⟩ := hY3.cells
  obtain ⟨c0, c1, c2, c3, c4, c5⟩ := hX3.cells
  have g0 := hX3.frozen 0
  have g1 := hX3.frozen 1
  have g2 := hX3.frozen 2
  have g3 := hX3.frozen 3
  have g4 := hX3.frozen 4
  have g5 := hX3.frozen 5
  have hl := hX3.lt
  have HB9 := Lib.hid hB3
  clear hX3 hY3 hB3
  go_wp2
  exact bodyPost_ret (v := .tuple #[.agg #[.int .i64 n, .int .i64 0, .int .i64 (ur 18 x), .int .i64 0, .int .i64 0, .string ⟨#[]⟩], .bool true]) (by simp [results, Tryd.results13, go_sem, c0, c1, c2, c3, c4, c5]) rfl ⟨rfl, (((((HB9.out.setCell (Nat.le_refl _) _).setCell (Nat.le_refl _) _).setCell (Nat.le_refl _) _).setCell (Nat.le_refl _) _).setCell (Nat.le_refl _) _).setCell (Nat.le_refl _) _⟩
set_option maxHeartbeats 4000000 in
theorem unw8_bad (n : Nat) (x : Int) (w : World) (x0 : 0 ≤ x) (x1 : x ≤ 4294967295) (hn : n < 34) (hx : x / 67108864 = (n : Int)) (hfm : fm n = 8) (hi : insB n 0 0 0 (x % 262144) ⟨#[]⟩ = false) : Calls Tryd.prog 13 #[.int .u32 x] w (ZeroFalse w) := by
  have HI := Lib.hid hi
  have RF := Lib.hid (fun W => rform_at n 8 W hn hfm)
  have BT := Lib.hid (fun W => bits_at 8 18 W (by decide) rfl)
  have CD := Lib.hid (fun W => (hasD_any 8 W (by decide) : Calls Tryd.prog 23 #[.int .i64 ((8 : Nat) : Int)] W (BoolPost false W)))
  have CA := Lib.hid (fun W => (hasA_any 8 W (by decide) : Calls Tryd.prog 24 #[.int .i64 ((8 : Nat) : Int)] W (BoolPost false W)))
  have CT := Lib.hid (fun W => (target_any 8 W (by decide) : Calls Tryd.prog 27 #[.int .i64 ((8 : Nat) : Int)] W (BoolPost true W)))
  have e22 := and15 22 x (x / 4194304) x0 x1 rfl (by decide)
  have e18 := and15 18 x (x / 262144) x0 x1 rfl (by decide)
  have e14 := and15 14 x (x / 16384) x0 x1 rfl (by decide)
  obtain ⟨u22, v22⟩ := ur_bd 22 x
  obtain ⟨u18, v18⟩ := ur_bd 18 x
  obtain ⟨u14, v14⟩ := ur_bd 14 x
  have em := and18 x x0 x1
  have m0 : 0 ≤ x % 262144 := by omega
  have m1 : x % 262144 < 262144 := by omega
  clear hi hfm
  go_enter Tryd.func13, Tryd.ntmps13
  go_wp2_with (go_at_call 31; refine (valid_yes _ _ hn).mono ?_; rintro e w' ⟨rfl, rfl⟩)
  refine (RF.out _).mono ?_
  rintro e w1 ⟨rfl, hb⟩
  have ez : (w.alloc (.cells #[.int .i64 0, .int .i64 0, .int .i64 0, .int .i64 0, .int .i64 0, .string ⟨#[]⟩] 35)).heap.size = w.heap.size + 1 := by simp
  have hY : XB w1 (w.heap.size + 1) n 0 0 0 0 ⟨#[]⟩ := XB.below (by rw [← ez]; exact heap_alloc_new _ _) hb
  obtain ⟨_, hz, hB⟩ := box_cells hb
  have hX : XB w1 w.heap.size 0 0 0 0 0 ⟨#[]⟩ := XB.below (heap_alloc_new _ _) hB
  obtain ⟨_, hz', hB'⟩ := box_cells hB
  have hgl := hY.lt
  obtain ⟨k0, k1, k2, k3, k4, k5⟩ := hY.cells
  have f1 := hY.frozen 1
  have f2 := hY.frozen 2
  have f3 := hY.frozen 3
  have f4 := hY.frozen 4
  have HX := Lib.hid hX
  have HY := Lib.hid hY
  have HB := Lib.hid hB'
  clear hX hY hb hB hB' hz hz' ez
  go_wp2_with (first | (go_at_call 23; refine (CD.out _).mono ?_; rintro e w' ⟨rfl, rfl⟩) | (go_at_call 24; refine (CA.out _).mono ?_; rintro e w' ⟨rfl, rfl⟩) | (go_at_call 26; refine (BT.out _).mono ?_; rintro e w' ⟨rfl, rfl⟩) | (go_at_call 27; refine (CT.out _).mono ?_; rintro e w' ⟨rfl, rfl⟩))
  refine (ins_bad _ _ _ _ _ _ _ (by decide) (.inr ⟨n, hn, rfl, HI.out⟩)).mono ?_
  rintro e w2 ⟨rfl, hb2⟩
  have hY2 : XB w2 (w.heap.size + 1) n 0 0 0 (x % 262144) ⟨#[]⟩ := XB.below (HY.out.set4 _) hb2
  have hX2 : XB w2 w.heap.size 0 0 0 0 0 ⟨#[]⟩ := XB.below (HX.out.other (by simp) _) hb2
  have hB2 : Below w.heap.size w w2 := Below.trans (HB.out.setCell (by simp) _) (hb2.mono (Nat.le_of_lt (XB.lt (HX.out.other (by simp) _))))
  clear hb2 k0 k1 k2 k3 k4 k5 f4 hgl
  obtain ⟨k0, k1, k2, k3, k4, k5⟩ := hY2.cells
  obtain ⟨c0, c1, c2, c3, c4, c5⟩ := hX2.cells
  have g0 := hX2.frozen 0
  have g1 := hX2.frozen 1
  have g2 := hX2.frozen 2
  have g3 := hX2.frozen 3
  have g4 := hX2.frozen 4
  have g5 := hX2.frozen 5
  have hl := hX2.lt
  have HB9 := Lib.hid hB2
  clear hX2 hY2 hB2
  go_wp2
  exact bodyPost_ret (v := .tuple #[.agg #[.int .i64 0, .int .i64 0, .int .i64 0, .int .i64 0, .int .i64 0, .string ⟨#[]⟩], .bool false]) (by simp [results, Tryd.results13, go_sem, c0, c1, c2, c3, c4, c5]) rfl ⟨rfl, (((((HB9.out.setCell (Nat.le_refl _) _).setCell (Nat.le_refl _) _).setCell (Nat.le_refl _) _).setCell (Nat.le_refl _) _).setCell (Nat.le_refl _) _).setCell (Nat.le_refl _) _⟩
set_option maxHeartbeats 4000000 in
theorem unw8_far (n : Nat) (x : Int) (w : World) (x0 : 0 ≤ x) (x1 : x ≤ 4294967295) (hn : n < 34) (hx : x / 67108864 = (n : Int)) (hfm : fm n = 8) (hi : insB n 0 0 0 (x % 262144) ⟨#[]⟩ = true) (hw : wd n 0 0 0 (x % 262144) ≠ x) : Calls Tryd.prog 13 #[.int .u32 x] w (ZeroFalse w) := by
  have HI := Lib.hid hi
  have FI := Lib.hid (ins_fit hi rfl)
  have RF := Lib.hid (fun W => rform_at n 8 W hn hfm)
  have BT := Lib.hid (fun W => bits_at 8 18 W (by decide) rfl)
  have CD := Lib.hid (fun W => (hasD_any 8 W (by decide) : Calls Tryd.prog 23 #[.int .i64 ((8 : Nat) : Int)] W (BoolPost false W)))
  have CA := Lib.hid (fun W => (hasA_any 8 W (by decide) : Calls Tryd.prog 24 #[.int .i64 ((8 : Nat) : Int)] W (BoolPost false W)))
  have CT := Lib.hid (fun W => (target_any 8 W (by decide) : Calls Tryd.prog 27 #[.int .i64 ((8 : Nat) : Int)] W (BoolPost true W)))
  have e22 := and15 22 x (x / 4194304) x0 x1 rfl (by decide)
  have e18 := and15 18 x (x / 262144) x0 x1 rfl (by decide)
  have e14 := and15 14 x (x / 16384) x0 x1 rfl (by decide)
  obtain ⟨u22, v22⟩ := ur_bd 22 x
  obtain ⟨u18, v18⟩ := ur_bd 18 x
  obtain ⟨u14, v14⟩ := ur_bd 14 x
  have em := and18 x x0 x1
  have m0 : 0 ≤ x % 262144 := by omega
  have m1 : x % 262144 < 262144 := by omega
  have hq : (wd n 0 0 0 (x % 262144) != x) = true := by simpa using hw
  clear hw
  clear hi hfm
  go_enter Tryd.func13, Tryd.ntmps13
  go_wp2_with (go_at_call 31; refine (valid_yes _ _ hn).mono ?_; rintro e w' ⟨rfl, rfl⟩)
  refine (RF.out _).mono ?_
  rintro e w1 ⟨rfl, hb⟩
  have ez : (w.alloc (.cells #[.int .i64 0, .int .i64 0, .int .i64 0, .int .i64 0, .int .i64 0, .string ⟨#[]⟩] 35)).heap.size = w.heap.size + 1 := by simp
  have hY : XB w1 (w.heap.size + 1) n 0 0 0 0 ⟨#[]⟩ := XB.below (by rw [← ez]; exact heap_alloc_new _ _) hb
  obtain ⟨_, hz, hB⟩ := box_cells hb
  have hX : XB w1 w.heap.size 0 0 0 0 0 ⟨#[]⟩ := XB.below (heap_alloc_new _ _) hB
  obtain ⟨_, hz', hB'⟩ := box_cells hB
  have hgl := hY.lt
  obtain ⟨k0, k1, k2, k3, k4, k5⟩ := hY.cells
  have f1 := hY.frozen 1
  have f2 := hY.frozen 2
  have f3 := hY.frozen 3
  have f4 := hY.frozen 4
  have HX := Lib.hid hX
  have HY := Lib.hid hY
  have HB := Lib.hid hB'
  clear hX hY hb hB hB' hz hz' ez
  go_wp2_with (first | (go_at_call 23; refine (CD.out _).mono ?_; rintro e w' ⟨rfl, rfl⟩) | (go_at_call 24; refine (CA.out _).mono ?_; rintro e w' ⟨rfl, rfl⟩) | (go_at_call 26; refine (BT.out _).mono ?_; rintro e w' ⟨rfl, rfl⟩) | (go_at_call 27; refine (CT.out _).mono ?_; rintro e w' ⟨rfl, rfl⟩))
  refine (ins_good _ _ _ _ _ _ _ hn (by decide) HI.out).mono ?_
  rintro e w2 ⟨rfl, hb2⟩
  have hY2 : XB w2 (w.heap.size + 1) n 0 0 0 (x % 262144) ⟨#[]⟩ := XB.below (HY.out.set4 _) hb2
  have hX2 : XB w2 w.heap.size 0 0 0 0 0 ⟨#[]⟩ := XB.below (HX.out.other (by simp) _) hb2
  have hB2 : Below w.heap.size w w2 := Below.trans (HB.out.setCell (by simp) _) (hb2.mono (Nat.le_of_lt (XB.lt (HX.out.other (by simp) _))))
  clear hb2 k0 k1 k2 k3 k4 k5 f4 hgl
  obtain ⟨k0, k1, k2, k3, k4, k5⟩ := hY2.cells
  have HX2 := Lib.hid hX2
  have HY2 := Lib.hid hY2
  have HB2 := Lib.hid hB2
  clear hX2 hY2 hB2
  go_wp2_with fail
  refine (rword_any _ _ _ _ _ _ _ hn FI.out).mono ?_
  rintro e w3 ⟨rfl, hb3⟩
  have hY3 := HY2.out.below hb3
  have hX3 := HX2.out.below hb3
  have hB3 := HB2.out.trans (hb3.mono (Nat.le_of_lt HX2.out.lt))
  clear hb3 k0 k1 k2 k3 k4 k5
  obtain ⟨k0, k1, k2, k3, k4, k5⟩ := hY3.cells
  obtain ⟨c0, c1, c2, c3, c4, c5⟩ := hX3.cells
  have g0 := hX3.frozen 0
  have g1 := hX3.frozen 1
  have g2 := hX3.frozen 2
  have g3 := hX3.frozen 3
  have g4 := hX3.frozen 4
  have g5 := hX3.frozen 5
  have hl := hX3.lt
  have HB9 := Lib.hid hB3
  clear hX3 hY3 hB3
  go_wp2
  exact bodyPost_ret (v := .tuple #[.agg #[.int .i64 0, .int .i64 0, .int .i64 0, .int .i64 0, .int .i64 0, .string ⟨#[]⟩], .bool false]) (by simp [results, Tryd.results13, go_sem, c0, c1, c2, c3, c4, c5]) rfl ⟨rfl, (((((HB9.out.setCell (Nat.le_refl _) _).setCell (Nat.le_refl _) _).setCell (Nat.le_refl _) _).setCell (Nat.le_refl _) _).setCell (Nat.le_refl _) _).setCell (Nat.le_refl _) _⟩
set_option maxHeartbeats 4000000 in
theorem unw8_good (n : Nat) (x : Int) (w : World) (x0 : 0 ≤ x) (x1 : x ≤ 4294967295) (hn : n < 34) (hx : x / 67108864 = (n : Int)) (hfm : fm n = 8) (hi : insB n 0 0 0 (x % 262144) ⟨#[]⟩ = true) (hw : wd n 0 0 0 (x % 262144) = x) : Calls Tryd.prog 13 #[.int .u32 x] w (InsBool n 0 0 0 (x % 262144) true w) := by
  have HI := Lib.hid hi
  have FI := Lib.hid (ins_fit hi rfl)
  have RF := Lib.hid (fun W => rform_at n 8 W hn hfm)
  have BT := Lib.hid (fun W => bits_at 8 18 W (by decide) rfl)
  have CD := Lib.hid (fun W => (hasD_any 8 W (by decide) : Calls Tryd.prog 23 #[.int .i64 ((8 : Nat) : Int)] W (BoolPost false W)))
  have CA := Lib.hid (fun W => (hasA_any 8 W (by decide) : Calls Tryd.prog 24 #[.int .i64 ((8 : Nat) : Int)] W (BoolPost false W)))
  have CT := Lib.hid (fun W => (target_any 8 W (by decide) : Calls Tryd.prog 27 #[.int .i64 ((8 : Nat) : Int)] W (BoolPost true W)))
  have e22 := and15 22 x (x / 4194304) x0 x1 rfl (by decide)
  have e18 := and15 18 x (x / 262144) x0 x1 rfl (by decide)
  have e14 := and15 14 x (x / 16384) x0 x1 rfl (by decide)
  obtain ⟨u22, v22⟩ := ur_bd 22 x
  obtain ⟨u18, v18⟩ := ur_bd 18 x
  obtain ⟨u14, v14⟩ := ur_bd 14 x
  have em := and18 x x0 x1
  have m0 : 0 ≤ x % 262144 := by omega
  have m1 : x % 262144 < 262144 := by omega
  have hq : (wd n 0 0 0 (x % 262144) != x) = false := by simpa using hw
  clear hw
  clear hi hfm
  go_enter Tryd.func13, Tryd.ntmps13
  go_wp2_with (go_at_call 31; refine (valid_yes _ _ hn).mono ?_; rintro e w' ⟨rfl, rfl⟩)
  refine (RF.out _).mono ?_
  rintro e w1 ⟨rfl, hb⟩
  have ez : (w.alloc (.cells #[.int .i64 0, .int .i64 0, .int .i64 0, .int .i64 0, .int .i64 0, .string ⟨#[]⟩] 35)).heap.size = w.heap.size + 1 := by simp
  have hY : XB w1 (w.heap.size + 1) n 0 0 0 0 ⟨#[]⟩ := XB.below (by rw [← ez]; exact heap_alloc_new _ _) hb
  obtain ⟨_, hz, hB⟩ := box_cells hb
  have hX : XB w1 w.heap.size 0 0 0 0 0 ⟨#[]⟩ := XB.below (heap_alloc_new _ _) hB
  obtain ⟨_, hz', hB'⟩ := box_cells hB
  have hgl := hY.lt
  obtain ⟨k0, k1, k2, k3, k4, k5⟩ := hY.cells
  have f1 := hY.frozen 1
  have f2 := hY.frozen 2
  have f3 := hY.frozen 3
  have f4 := hY.frozen 4
  have HX := Lib.hid hX
  have HY := Lib.hid hY
  have HB := Lib.hid hB'
  clear hX hY hb hB hB' hz hz' ez
  go_wp2_with (first | (go_at_call 23; refine (CD.out _).mono ?_; rintro e w' ⟨rfl, rfl⟩) | (go_at_call 24; refine (CA.out _).mono ?_; rintro e w' ⟨rfl, rfl⟩) | (go_at_call 26; refine (BT.out _).mono ?_; rintro e w' ⟨rfl, rfl⟩) | (go_at_call 27; refine (CT.out _).mono ?_; rintro e w' ⟨rfl, rfl⟩))
  refine (ins_good _ _ _ _ _ _ _ hn (by decide) HI.out).mono ?_
  rintro e w2 ⟨rfl, hb2⟩
  have hY2 : XB w2 (w.heap.size + 1) n 0 0 0 (x % 262144) ⟨#[]⟩ := XB.below (HY.out.set4 _) hb2
  have hX2 : XB w2 w.heap.size 0 0 0 0 0 ⟨#[]⟩ := XB.below (HX.out.other (by simp) _) hb2
  have hB2 : Below w.heap.size w w2 := Below.trans (HB.out.setCell (by simp) _) (hb2.mono (Nat.le_of_lt (XB.lt (HX.out.other (by simp) _))))
  clear hb2 k0 k1 k2 k3 k4 k5 f4 hgl
  obtain ⟨k0, k1, k2, k3, k4, k5⟩ := hY2.cells
  have HX2 := Lib.hid hX2
  have HY2 := Lib.hid hY2
  have HB2 := Lib.hid hB2
  clear hX2 hY2 hB2
  go_wp2_with fail
  refine (rword_any _ _ _ _ _ _ _ hn FI.out).mono ?_
  rintro e w3 ⟨rfl, hb3⟩
  have hY3 := HY2.out.below hb3
  have hX3 := HX2.out.below hb3
  have hB3 := HB2.out.trans (hb3.mono (Nat.le_of_lt HX2.out.lt))
  clear hb3 k0 k1 k2 k3 k4 k5
  obtain ⟨k0, k1, k2, k3, k4, k5⟩ := hY3.cells
  obtain ⟨c0, c1, c2, c3, c4, c5⟩ := hX3.cells
  have g0 := hX3.frozen 0
  have g1 := hX3.frozen 1
  have g2 := hX3.frozen 2
  have g3 := hX3.frozen 3
  have g4 := hX3.frozen 4
  have g5 := hX3.frozen 5
  have hl := hX3.lt
  have HB9 := Lib.hid hB3
  clear hX3 hY3 hB3
  go_wp2
  exact bodyPost_ret (v := .tuple #[.agg #[.int .i64 n, .int .i64 0, .int .i64 0, .int .i64 0, .int .i64 (x % 262144), .string ⟨#[]⟩], .bool true]) (by simp [results, Tryd.results13, go_sem, c0, c1, c2, c3, c4, c5]) rfl ⟨rfl, (((((HB9.out.setCell (Nat.le_refl _) _).setCell (Nat.le_refl _) _).setCell (Nat.le_refl _) _).setCell (Nat.le_refl _) _).setCell (Nat.le_refl _) _).setCell (Nat.le_refl _) _⟩
set_option maxHeartbeats 4000000 in
theorem unw9_bad (n : Nat) (x : Int) (w : World) (x0 : 0 ≤ x) (x1 : x ≤ 4294967295) (hn : n < 34) (hx : x / 67108864 = (n : Int)) (hfm : fm n = 9) (hi : insB n 0 (ur 18 x) 0 (x % 16384) ⟨#[]⟩ = false) : Calls Tryd.prog 13 #[.int .u32 x] w (ZeroFalse w) := by
  have HI := Lib.hid hi
  have RF := Lib.hid (fun W => rform_at n 9 W hn hfm)
  have BT := Lib.hid (fun W => bits_at 9 14 W (by decide) rfl)
  have CD := Lib.hid (fun W => (hasD_any 9 W (by decide) : Calls Tryd.prog 23 #[.int .i64 ((9 : Nat) : Int)] W (BoolPost false W)))
  have CA := Lib.hid (fun W => (hasA_any 9 W (by decide) : Calls Tryd.prog 24 #[.int .i64 ((9 : Nat) : Int)] W (BoolPost true W)))
  have CT := Lib.hid (fun W => (target_any 9 W (by decide) : Calls Tryd.prog 27 #[.int .i64 ((9 : Nat) : Int)] W (BoolPost true W)))
  have e22 := and15 22 x (x / 4194304) x0 x1 rfl (by decide)
  have e18 := and15 18 x (x / 262144) x0 x1 rfl (by decide)
  have e14 := and15 14 x (x / 16384) x0 x1 rfl (by decide)
  obtain ⟨u22, v22⟩ := ur_bd 22 x
  obtain ⟨u18, v18⟩ := ur_bd 18 x
  obtain ⟨u14, v14⟩ := ur_bd 14 x
  have em := and14 x x0 x1
  have m0 : 0 ≤ x % 16384 := by omega
  have m1 : x % 16384 < 16384 := by omega
  clear hi hfm
  go_enter Tryd.func13, Tryd.ntmps13
  go_wp2_with (go_at_call 31; refine (valid_yes _ _ hn).mono ?_; rintro e w' ⟨rfl, rfl⟩)
  refine (RF.out _).mono ?_
  rintro e w1 ⟨rfl, hb⟩
  have ez : (w.alloc (.cells #[.int .i64 0, .int .i64 0, .int .i64 0, .int .i64 0, .int .i64 0, .string ⟨#[]⟩] 35)).heap.size = w.heap.size + 1 := by simp
  have hY : XB w1 (w.heap.size + 1) n 0 0 0 0 ⟨#[]⟩ := XB.below (by rw [← ez]; exact heap_alloc_new _ _) hb
  obtain ⟨_, hz, hB⟩ := box_cells hb
  have hX : XB w1 w.heap.size 0 0 0 0 0 ⟨#[]⟩ := XB.below (heap_alloc_new _ _) hB
  obtain ⟨_, hz', hB'⟩ := box_cells hB
  have hgl := hY.lt
  obtain ⟨k0, k1, k2, k3, k4, k5⟩ := hY.cells
  have f1 := hY.frozen 1
  have f2 := hY.frozen 2
  have f3 := hY.frozen 3
  have f4 := hY.frozen 4
  have HX := Lib.hid hX
  have HY := Lib.hid hY
  have HB := Lib.hid hB'
  clear hX hY hb hB hB' hz hz' ez
  go_wp2_with (first | (go_at_call 23; refine (CD.out _).mono ?_; rintro e w' ⟨rfl, rfl⟩) | (go_at_call 24; refine (CA.out _).mono ?_; rintro e w' ⟨rfl, rfl⟩) | (go_at_call 26; refine (BT.out _).mono ?_; rintro e w' ⟨rfl, rfl⟩) | (go_at_call 27; refine (CT.out _).mono ?_; rintro e w' ⟨rfl, rfl⟩))
  refine (ins_bad _ _ _ _ _ _ _ (by decide) (.inr ⟨n, hn, rfl, HI.out⟩)).mono ?_
  rintro e w2 ⟨rfl, hb2⟩
  have hY2 : XB w2 (w.heap.size + 1) n 0 (ur 18 x) 0 (x % 16384) ⟨#[]⟩ := XB.below ((HY.out.set2 _).set4 _) hb2
  have hX2 : XB w2 w.heap.size 0 0 0 0 0 ⟨#[]⟩ := XB.below ((HX.out.other (by simp) _).other (by simp) _) hb2
  have hB2 : Below w.heap.size w w2 := Below.trans ((HB.out.setCell (by simp) _).setCell (by simp) _) (hb2.mono (Nat.le_of_lt (XB.lt ((HX.out.other (by simp) _).other (by simp) _))))
  clear hb2 k0 k1 k2 k3 k4 k5 f4 hgl
  obtain ⟨k0, k1, k2, k3, k4, k5⟩ := hY2.cells
  obtain ⟨c0, c1, c2, c3, c4, c5⟩ := hX2.cells
  have g0 := hX2.frozen 0
  have g1 := hX2.frozen 1
  have g2 := hX2.frozen 2
  have g3 := hX2.frozen 3
  have g4 := hX2.frozen 4
  have g5 := hX2.frozen 5
  have hl := hX2.lt
  have HB9 := Lib.hid hB2
  clear hX2 hY2 hB2
  go_wp2
  exact bodyPost_ret (v := .tuple #[.agg #[.int .i64 0, .int .i64 0, .int .i64 0, .int .i64 0, .int .i64 0, .string ⟨#[]⟩], .bool false]) (by simp [results, Tryd.results13, go_sem, c0, c1, c2, c3, c4, c5]) rfl ⟨rfl, (((((HB9.out.setCell (Nat.le_refl _) _).setCell (Nat.le_refl _) _).setCell (Nat.le_refl _) _).setCell (Nat.le_refl _) _).setCell (Nat.le_refl _) _).setCell (Nat.le_refl _) _⟩
set_option maxHeartbeats 4000000 in
theorem unw9_far (n : Nat) (x : Int) (w : World) (x0 : 0 ≤ x) (x1 : x ≤ 4294967295) (hn : n < 34) (hx : x / 67108864 = (n : Int)) (hfm : fm n = 9) (hi : insB n 0 (ur 18 x) 0 (x % 16384) ⟨#[]⟩ = true) (hw : wd n 0 (ur 18 x) 0 (x % 16384) ≠ x) : Calls Tryd.prog 13 #[.int .u32 x] w (ZeroFalse w) := by
  have HI := Lib.hid hi
  have FI := Lib.hid (ins_fit hi rfl)
  have RF := Lib.hid (fun W => rform_at n 9 W hn hfm)
  have BT := Lib.hid (fun W => bits_at 9 14 W (by decide) rfl)
  have CD := Lib.hid (fun W => (hasD_any 9 W (by decide) : Calls Tryd.prog 23 #[.int .i64 ((9 : Nat) : Int)] W (BoolPost false W)))
  have CA := Lib.hid (fun W => (hasA_any 9 W (by decide) : Calls Tryd.prog 24 #[.int .i64 ((9 : Nat) : Int)] W (BoolPost true W)))
  have CT := Lib.hid (fun W => (target_any 9 W (by decide) : Calls Tryd.prog 27 #[.int .i64 ((9 : Nat) : Int)] W (BoolPost true W)))
  have e22 := and15 22 x (x / 4194304) x0 x1 rfl (by decide)
  have e18 := and15 18 x (x / 262144) x0 x1 rfl (by decide)
  have e14 := and15 14 x (x / 16384) x0 x1 rfl (by decide)
  obtain ⟨u22, v22⟩ := ur_bd 22 x
  obtain ⟨u18, v18⟩ := ur_bd 18 x
  obtain ⟨u14, v14⟩ := ur_bd 14 x
  have em := and14 x x0 x1
  have m0 : 0 ≤ x % 16384 := by omega
  have m1 : x % 16384 < 16384 := by omega
  have hq : (wd n 0 (ur 18 x) 0 (x % 16384) != x) = true := by simpa using hw
  clear hw
  clear hi hfm
  go_enter Tryd.func13, Tryd.ntmps13
  go_wp2_with (go_at_call 31; refine (valid_yes _ _ hn).mono ?_; rintro e w' ⟨rfl, rfl⟩)
  refine (RF.out _).mono ?_
  rintro e w1 ⟨rfl, hb⟩
  have ez : (w.alloc (.cells #[.int .i64 0, .int .i64 0, .int .i64 0, .int .i64 0, .int .i64 0, .string ⟨#[]⟩] 35)).heap.size = w.heap.size + 1 := by simp
  have hY : XB w1 (w.heap.size + 1) n 0 0 0 0 ⟨#[]⟩ := XB.below (by rw [← ez]; exact heap_alloc_new _ _) hb
  obtain ⟨_, hz, hB⟩ := box_cells hb
  have hX : XB w1 w.heap.size 0 0 0 0 0 ⟨#[]⟩ := XB.below (heap_alloc_new _ _) hB
  obtain ⟨_, hz', hB'⟩ := box_cells hB
  have hgl := hY.lt
  obtain ⟨k0, k1, k2, k3, k4, k5⟩ := hY.cells
  have f1 := hY.frozen 1
  have f2 := hY.frozen 2
  have f3 := hY.frozen 3
  have f4 := hY.frozen 4
  have HX := Lib.hid hX
  have HY := Lib.hid hY
  have HB := Lib.hid hB'
  clear hX hY hb hB hB' hz hz' ez
  go_wp2_with (first | (go_at_call 23; refine (CD.out _).mono ?_; rintro e w' ⟨rfl, rfl⟩) | (go_at_call 24; refine (CA.out _).mono ?_; rintro e w' ⟨rfl, rfl⟩) | (go_at_call 26; refine (BT.out _).mono ?_; rintro e w' ⟨rfl, rfl⟩) | (go_at_call 27; refine (CT.out _).mono ?_; rintro e w' ⟨rfl, rfl⟩))
  refine (ins_good _ _ _ _ _ _ _ hn (by decide) HI.out).mono ?_
  rintro e w2 ⟨rfl, hb2⟩
  have hY2 : XB w2 (w.heap.size + 1) n 0 (ur 18 x) 0 (x % 16384) ⟨#[]⟩ := XB.below ((HY.out.set2 _).set4 _) hb2
  have hX2 : XB w2 w.heap.size 0 0 0 0 0 ⟨#[]⟩ := XB.below ((HX.out.other (by simp) _).other (by simp) _) hb2
  have hB2 : Below w.heap.size w w2 := Below.trans ((HB.out.setCell (by simp) _).setCell (by simp) _) (hb2.mono (Nat.le_of_lt (XB.lt ((HX.out.other (by simp) _).other (by simp) _))))
  clear hb2 k0 k1 k2 k3 k4 k5 f4 hgl
  obtain ⟨k0, k1, k2, k3, k4, k5⟩ := hY2.cells
  have HX2 := Lib.hid hX2
  have HY2 := Lib.hid hY2
  have HB2 := Lib.hid hB2
  clear hX2 hY2 hB2
  go_wp2_with fail
  refine (rword_any _ _ _ _ _ _ _ hn FI.out).mono ?_
  rintro e w3 ⟨rfl, hb3⟩
  have hY3 := HY2.out.below hb3
  have hX3 := HX2.out.below hb3
  have hB3 := HB2.out.trans (hb3.mono (Nat.le_of_lt HX2.out.lt))
  clear hb3 k0 k1 k2 k3 k4 k5
  obtain ⟨k0, k1, k2, k3, k4, k5⟩ := hY3.cells
  obtain ⟨c0, c1, c2, c3, c4, c5⟩ := hX3.cells
  have g0 := hX3.frozen 0
  have g1 := hX3.frozen 1
  have g2 := hX3.frozen 2
  have g3 := hX3.frozen 3
  have g4 := hX3.frozen 4
  have g5 := hX3.frozen 5
  have hl := hX3.lt
  have HB9 := Lib.hid hB3
  clear hX3 hY3 hB3
  go_wp2
  exact bodyPost_ret (v := .tuple #[.agg #[.int .i64 0, .int .i64 0, .int .i64 0, .int .i64 0, .int .i64 0, .string ⟨#[]⟩], .bool false]) (by simp [results, Tryd.results13, go_sem, c0, c1, c2, c3, c4, c5]) rfl ⟨rfl, (((((HB9.out.setCell (Nat.le_refl _) _).setCell (Nat.le_refl _) _).setCell (Nat.le_refl _) _).setCell (Nat.le_refl _) _).setCell (Nat.le_refl _) _).setCell (Nat.le_refl _) _⟩
set_option maxHeartbeats 4000000 in
theorem unw9_good (n : Nat) (x : Int) (w : World) (x0 : 0 ≤ x) (x1 : x ≤ 4294967295) (hn : n < 34) (hx : x / 67108864 = (n : Int)) (hfm : fm n = 9) (hi : insB n 0 (ur 18 x) 0 (x % 16384) ⟨#[]⟩ = true) (hw : wd n 0 (ur 18 x) 0 (x % 16384) = x) : Calls Tryd.prog 13 #[.int .u32 x] w (InsBool n 0 (ur 18 x) 0 (x % 16384) true w) := by
  have HI := Lib.hid hi
  have FI := Lib.hid (ins_fit hi rfl)
  have RF := Lib.hid (fun W => rform_at n 9 W hn hfm)
  have BT := Lib.hid (fun W => bits_at 9 14 W (by decide) rfl)
  have CD := Lib.hid (fun W => (hasD_any 9 W (by decide) : Calls Tryd.prog 23 #[.int .i64 ((9 : Nat) : Int)] W (BoolPost false W)))
  have CA := Lib.hid (fun W => (hasA_any 9 W (by decide) : Calls Tryd.prog 24 #[.int .i64 ((9 : Nat) : Int)] W (BoolPost true W)))
  have CT := Lib.hid (fun W => (target_any 9 W (by decide) : Calls Tryd.prog 27 #[.int .i64 ((9 : Nat) : Int)] W (BoolPost true W)))
  have e22 := and15 22 x (x / 4194304) x0 x1 rfl (by decide)
  have e18 := and15 18 x (x / 262144) x0 x1 rfl (by decide)
  have e14 := and15 14 x (x / 16384) x0 x1 rfl (by decide)
  obtain ⟨u22, v22⟩ := ur_bd 22 x
  obtain ⟨u18, v18⟩ := ur_bd 18 x
  obtain ⟨u14, v14⟩ := ur_bd 14 x
  have em := and14 x x0 x1
  have m0 : 0 ≤ x % 16384 := by omega
  have m1 : x % 16384 < 16384 := by omega
  have hq : (wd n 0 (ur 18 x) 0 (x % 16384) != x) = false := by simpa using hw
  clear hw
  clear hi hfm
  go_enter Tryd.func13, Tryd.ntmps13
  go_wp2_with (go_at_call 31; refine (valid_yes _ _ hn).mono ?_; rintro e w' ⟨rfl, rfl⟩)
  refine (RF.out _).mono ?_
  rintro e w1 ⟨rfl, hb⟩
  have ez : (w.alloc (.cells #[.int .i64 0, .int .i64 0, .int .i64 0, .int .i64 0, .int .i64 0, .string ⟨#[]⟩] 35)).heap.size = w.heap.size + 1 := by simp
  have hY : XB w1 (w.heap.size + 1) n 0 0 0 0 ⟨#[]⟩ := XB.below (by rw [← ez]; exact heap_alloc_new _ _) hb
  obtain ⟨_, hz, hB⟩ := box_cells hb
  have hX : XB w1 w.heap.size 0 0 0 0 0 ⟨#[]⟩ := XB.below (heap_alloc_new _ _) hB
  obtain ⟨_, hz', hB'⟩ := box_cells hB
  have hgl := hY.lt
  obtain ⟨k0, k1, k2, k3, k4, k5⟩ := hY.cells
  have f1 := hY.frozen 1
  have f2 := hY.frozen 2
  have f3 := hY.frozen 3
  have f4 := hY.frozen 4
  have HX := Lib.hid hX
  have HY := Lib.hid hY
  have HB := Lib.hid hB'
  clear hX hY hb hB hB' hz hz' ez
  go_wp2_with (first | (go_at_call 23; refine (CD.out _).mono ?_; rintro e w' ⟨rfl, rfl⟩) | (go_at_call 24; refine (CA.out _).mono ?_; rintro e w' ⟨rfl, rfl⟩) | (go_at_call 26; refine (BT.out _).mono ?_; rintro e w' ⟨rfl, rfl⟩) | (go_at_call 27; refine (CT.out _).mono ?_; rintro e w' ⟨rfl, rfl⟩))
  refine (ins_good _ _ _ _ _ _ _ hn (by decide) HI.out).mono ?_
  rintro e w2 ⟨rfl, hb2⟩
  have hY2 : XB w2 (w.heap.size + 1) n 0 (ur 18 x) 0 (x % 16384) ⟨#[]⟩ := XB.below ((HY.out.set2 _).set4 _) hb2
  have hX2 : XB w2 w.heap.size 0 0 0 0 0 ⟨#[]⟩ := XB.below ((HX.out.other (by simp) _).other (by simp) _) hb2
  have hB2 : Below w.heap.size w w2 := Below.trans ((HB.out.setCell (by simp) _).setCell (by simp) _) (hb2.mono (Nat.le_of_lt (XB.lt ((HX.out.other (by simp) _).other (by simp) _))))
  clear hb2 k0 k1 k2 k3 k4 k5 f4 hgl
  obtain ⟨k0, k1, k2, k3, k4, k5⟩ := hY2.cells
  have HX2 := Lib.hid hX2
  have HY2 := Lib.hid hY2
  have HB2 := Lib.hid hB2
  clear hX2 hY2 hB2
  go_wp2_with fail
  refine (rword_any _ _ _ _ _ _ _ hn FI.out).mono ?_
  rintro e w3 ⟨rfl, hb3⟩
  have hY3 := HY2.out.below hb3
  have hX3 := HX2.out.below hb3
  have hB3 := HB2.out.trans (hb3.mono (Nat.le_of_lt HX2.out.lt))
  clear hb3 k0 k1 k2 k3 k4 k5
  obtain ⟨k0, k1, k2, k3, k4, k5⟩ := hY3.cells
  obtain ⟨c0, c1, c2, c3, c4, c5⟩ := hX3.cells
  have g0 := hX3.frozen 0
  have g1 := hX3.frozen 1
  have g2 := hX3.frozen 2
  have g3 := hX3.frozen 3
  have g4 := hX3.frozen 4
  have g5 := hX3.frozen 5
  have hl := hX3.lt
  have HB9 := Lib.hid hB3
  clear hX3 hY3 hB3
  go_wp2
  exact bodyPost_ret (v := .tuple #[.agg #[.int .i64 n, .int .i64 0, .int .i64 (ur 18 x), .int .i64 0, .int .i64 (x % 16384), .string ⟨#[]⟩], .bool true]) (by simp [results, Tryd.results13, go_sem, c0, c1, c2, c3, c4, c5]) rfl ⟨rfl, (((((HB9.out.setCell (Nat.le_refl _) _).setCell (Nat.le_refl _) _).setCell (Nat.le_refl _) _).setCell (Nat.le_refl _) _).setCell (Nat.le_refl _) _).setCell (Nat.le_refl _) _⟩
end Go.Proofs.YtlhdmdhecamlfaaDoor
