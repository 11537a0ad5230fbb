/-
  Contracts of Word of package bits, and of the page's. Conditions: the tables lie in the world; the name is no longer than a string may be; of the page's: the instruction may be and has no name.
-/
import Derived.Test.YtlhdmdhecamlfaaDoorPackOf
namespace Go.Proofs.YtlhdmdhecamlfaaDoor
open Go.RowKit

/-- No instruction: no op, or a field is wrong. -/
def Bad (o d a b m : Int) (s : ByteArray) : Prop := (o < 0 ∨ 33 < o) ∨ ∃ n : Nat, n < 34 ∧ o = n ∧ insB n d a b m s = false
theorem check_good (n : Nat) (d a b m : Int) (s : ByteArray) (w : World) (h : n < 34) (H : Tab w) (hs : s.size ≤ maxLen) (hi : insB n d a b m s = true) : Calls Tryd.prog 28 #[.agg #[.int .i64 n, .int .i64 d, .int .i64 a, .int .i64 b, .int .i64 m, .string s]] w (IntBelow 0 w) := by
  have := check_any n d a b m s w h H hs
  rw [chk_ins n d a b m s h, hi] at this
  exact this
theorem check_bad (o : Int) (d a b m : Int) (s : ByteArray) (w : World) (H : Tab w) (hs : s.size ≤ maxLen) (hi : Bad o d a b m s) : Calls Tryd.prog 28 #[.agg #[.int .i64 o, .int .i64 d, .int .i64 a, .int .i64 b, .int .i64 m, .string s]] w (IntBelow 1 w) := by
  rcases hi with h | ⟨n, h, rfl, hi⟩
  · exact check_no o d a b m s w h
  · have := check_any n d a b m s w h H hs
    rw [chk_ins n d a b m s h, hi] at this
    exact this
theorem ins_bad (o : Int) (d a b m : Int) (s : ByteArray) (w : World) (hs : s.size ≤ maxLen) (hi : Bad o d a b m s) : Calls Tryd.prog 9 #[.agg #[.int .i64 o, .int .i64 d, .int .i64 a, .int .i64 b, .int .i64 m, .string s]] w (BoolBelow false w) := by
  rcases hi with h | ⟨n, h, rfl, hi⟩
  · exact ins_no o d a b m s w h
  · have := ins_any n d a b m s w h hs
    rw [hi] at this
    exact this
theorem ins_good (n : Nat) (d a b m : Int) (s : ByteArray) (w : World) (h : n < 34) (hs : s.size ≤ maxLen) (hi : insB n d a b m s = true) : Calls Tryd.prog 9 #[.agg #[.int .i64 n, .int .i64 d, .int .i64 a, .int .i64 b, .int .i64 m, .string s]] w (BoolBelow true w) := by
  have := ins_any n d a b m s w h hs
  rw [hi] at this
  exact this

theorem word_bad (o d a b m : Int) (s : ByteArray) (w : World) (H : Tab w) (hs : s.size ≤ maxLen) (hi : Bad o d a b m s) : Calls Tryd.prog 8 #[.agg #[.int .i64 o, .int .i64 d, .int .i64 a, .int .i64 b, .int .i64 m, .string s]] w (WordTwo 0 1 w) := by
  have T := Lib.hid H
  have HI := Lib.hid hi
  clear H hi
  go_enter Tryd.func8, Tryd.ntmps8
  go_wp2_with fail
  refine (check_bad _ _ _ _ _ _ _ (T.out.alloc _) hs HI.out).mono ?_
  rintro e w1 ⟨rfl, hb⟩
  obtain ⟨q, hz, hB⟩ := box_cells hb
  have HB := Lib.hid hB
  clear q hb hB
  go_wp2
  go_ret2
  exact ⟨rfl, HB.out⟩
theorem word_sym (n : Nat) (d a b m : Int) (s : ByteArray) (w : World) (h : n < 34) (H : Tab w) (hs : s.size ≤ maxLen) (hi : insB n d a b m s = true) (hp : 0 < s.size) : Calls Tryd.prog 8 #[.agg #[.int .i64 n, .int .i64 d, .int .i64 a, .int .i64 b, .int .i64 m, .string s]] w (WordTwo 0 6 w) := by
  have T := Lib.hid H
  have HI := Lib.hid hi
  have hn1 := toList_ne hp
  have hn2 := isEmpty_ne hp
  clear H hi
  go_enter Tryd.func8, Tryd.ntmps8
  go_wp2_with fail
  refine (check_good _ _ _ _ _ _ _ h (T.out.alloc _) hs HI.out).mono ?_
  rintro e w1 ⟨rfl, hb⟩
  obtain ⟨q, hz, hB⟩ := box_cells hb
  have k0 : w1.cell? ⟨w.heap.size, 0, none⟩ = some (.int .i64 n) := q 0
  have k1 : w1.cell? ⟨w.heap.size, 1, none⟩ = some (.int .i64 d) := q 1
  have k2 : w1.cell? ⟨w.heap.size, 2, none⟩ = some (.int .i64 a) := q 2
  have k3 : w1.cell? ⟨w.heap.size, 3, none⟩ = some (.int .i64 b) := q 3
  have k4 : w1.cell? ⟨w.heap.size, 4, none⟩ = some (.int .i64 m) := q 4
  have k5 : w1.cell? ⟨w.heap.size, 5, none⟩ = some (.string s) := q 5
  have HB := Lib.hid hB
  clear q hb hB
  go_wp2
  go_ret2
  exact ⟨rfl, HB.out⟩
set_option maxHeartbeats 1000000 in
theorem word_good (n : Nat) (d a b m : Int) (s : ByteArray) (w : World) (h : n < 34) (H : Tab w) (hi : insB n d a b m s = true) (h0 : s.size = 0) : Calls Tryd.prog 8 #[.agg #[.int .i64 n, .int .i64 d, .int .i64 a, .int .i64 b, .int .i64 m, .string s]] w (WordTwo (wd n d a b m) 0 w) := by
  have T := Lib.hid H
  have HI := Lib.hid hi
  have FI := Lib.hid (ins_fit hi h0)
  have e := empty_of h0
  subst e
  have hf := fm_lt h
  clear H hi h0
  have f0 : (0 : Int) ≤ (fm n : Int) := by omega
  have f1 : (fm n : Int) < 10 := by omega
  go_enter Tryd.func8, Tryd.ntmps8
  go_wp2_with fail
  refine (check_good _ _ _ _ _ _ _ h (T.out.alloc _) (by decide) HI.out).mono ?_
  rintro e w1 ⟨rfl, hb⟩
  obtain ⟨q, hz, hB⟩ := box_cells hb
  have k0 : w1.cell? ⟨w.heap.size, 0, none⟩ = some (.int .i64 n) := q 0
  have k1 : w1.cell? ⟨w.heap.size, 1, none⟩ = some (.int .i64 d) := q 1
  have k2 : w1.cell? ⟨w.heap.size, 2, none⟩ = some (.int .i64 a) := q 2
  have k3 : w1.cell? ⟨w.heap.size, 3, none⟩ = some (.int .i64 b) := q 3
  have k4 : w1.cell? ⟨w.heap.size, 4, none⟩ = some (.int .i64 m) := q 4
  have k5 : w1.cell? ⟨w.heap.size, 5, none⟩ = some (.string ⟨#[]⟩) := q 5
  have T1 := Lib.hid ((T.out.alloc _).below hb)
  have HB := Lib.hid hB
  clear q hb hB
  go_wp2_with (go_at_call 29; refine (form_yes _ _ h T1.out).mono ?_; rintro e w' ⟨rfl, rfl⟩)
  obtain ⟨l0, l1, l2, l3, l4⟩ := T1.out.lays (fm n) hf
  have b1 : 0 < w1.heap.size := by omega
  go_region_held3 (fun w' => w'.cell? ⟨w.heap.size, 0, none⟩ = some (.int .i64 n) ∧ w'.cell? ⟨w.heap.size, 1, none⟩ = some (.int .i64 d) ∧ w'.cell? ⟨w.heap.size, 2, none⟩ = some (.int .i64 a) ∧ w'.cell? ⟨w.heap.size, 3, none⟩ = some (.int .i64 b) ∧ w'.cell? ⟨w.heap.size, 4, none⟩ = some (.int .i64 m) ∧ w'.cell? ⟨w.heap.size, 5, none⟩ = some (.string ⟨#[]⟩) ∧ w'.cell? ⟨0, fm n * 5, none⟩ = some (.int .i64 (ld (fm n))) ∧ w'.cell? ⟨0, fm n * 5 + 1, none⟩ = some (.int .i64 (la (fm n))) ∧ w'.cell? ⟨0, fm n * 5 + 2, none⟩ = some (.int .i64 (lb (fm n))) ∧ w'.cell? ⟨0, fm n * 5 + 3, none⟩ = some (.int .i64 (lm (fm n))) ∧ w'.cell? ⟨0, fm n * 5 + 4, none⟩ = some (.bool (stg (fm n)))) (first | go_keep | exact ⟨(hb2.cell (by simp; omega)).trans k0, (hb2.cell (by simp; omega)).trans k1, (hb2.cell (by simp; omega)).trans k2, (hb2.cell (by simp; omega)).trans k3, (hb2.cell (by simp; omega)).trans k4, (hb2.cell (by simp; omega)).trans k5, (hb2.cell (by simp; omega)).trans l0, (hb2.cell (by simp; omega)).trans l1, (hb2.cell (by simp; omega)).trans l2, (hb2.cell (by simp; omega)).trans l3, (hb2.cell (by simp; omega)).trans l4⟩) (first | (go_at_call 30; refine (pack_any _ _ _ _ _ _ _ _ h rfl FI.out).mono ?_; rintro e w2 ⟨rfl, hb2⟩))
  go_wp2
  go_ret2
  exact ⟨rfl, HB.out.drew.trans (hb2.mono HB.out.drew.size)⟩
theorem rform_at (n f : Nat) (w : World) (h : n < 34) (e : fm n = f) : Calls Tryd.prog 22 #[.int .i64 n] w (IntBelow f w) := by subst e; exact rform_any n w h
theorem bt_of {f : Nat} (hf : f < 10) {x : Nat} (h : lm f = x) : bt f = (x : Int) := by rw [bt_lm ⟨f, hf⟩]; simp [h]
theorem neg_and14 (m : Int) : bits .and .u32 (m % 4294967296) 16383 = m % 16384 := by
  rw [and14 _ (by omega) (by omega)]; omega
theorem neg_and18 (m : Int) : bits .and .u32 (m % 4294967296) 262143 = m % 262144 := by
  rw [and18 _ (by omega) (by omega)]; omega
def WordBelow (x : Int) (w : World) (e : Ending) (w' : World) : Prop := e = .returned (.int .u32 x) ∧ Below w.heap.size w w'
theorem wb_mk {x x' : Int} {w w' : World} (h : x' = x) (hb : Below w.heap.size w w') : WordBelow x w (.returned (.int .u32 x')) w' := by subst h; exact ⟨rfl, hb⟩
set_option maxHeartbeats 1000000 in
theorem rword_0 (n : Nat) (d a b m : Int) (s : ByteArray) (w : World) (h : n < 34) (H : Fit n d a b m) (hl : lm (fm n) = 0) (h5 : fm n ≠ 5) : Calls Tryd.prog 10 #[.agg #[.int .i64 n, .int .i64 d, .int .i64 a, .int .i64 b, .int .i64 m, .string s]] w (WordBelow (wd n d a b m) w) := by
  have OR := Lib.hid (or_ref0 (fm_lt h) rfl H (by omega) hl)
  have HF := Lib.hid H
  obtain ⟨d0, d1, a0, a1, b0, b1, _, _, _, _⟩ := H
  have hf := fm_lt h
  have n0 : (0 : Int) ≤ (n : Int) := by omega
  have n1 : (n : Int) < 34 := by omega
  have RF := Lib.hid (fun W => rform_at n (fm n) W h rfl)
  have BT := Lib.hid (fun W => bits_at (fm n) 0 W hf (bt_of hf hl))
  have hq : ((fm n : Int) == 5) = false := by rw [beq_eq_false_iff_ne]; omega
  clear hl h5
  go_enter Tryd.func10, Tryd.ntmps10
  go_wp2_with fail
  refine (RF.out _).mono ?_
  rintro e w1 ⟨rfl, hb⟩
  obtain ⟨q, hz, hB⟩ := box_cells hb
  have k0 : w1.cell? ⟨w.heap.size, 0, none⟩ = some (.int .i64 n) := q 0
  have k1 : w1.cell? ⟨w.heap.size, 1, none⟩ = some (.int .i64 d) := q 1
  have k2 : w1.cell? ⟨w.heap.size, 2, none⟩ = some (.int .i64 a) := q 2
  have k3 : w1.cell? ⟨w.heap.size, 3, none⟩ = some (.int .i64 b) := q 3
  have k4 : w1.cell? ⟨w.heap.size, 4, none⟩ = some (.int .i64 m) := q 4
  have k5 : w1.cell? ⟨w.heap.size, 5, none⟩ = some (.string s) := q 5
  have HB := Lib.hid hB
  clear q hb hB
  go_wp2_with (go_at_call 26; refine (BT.out _).mono ?_; rintro e w' ⟨rfl, rfl⟩)
  go_ret
  exact wb_mk OR.out HB.out
set_option maxHeartbeats 1000000 in
theorem rword_14 (n : Nat) (d a b m : Int) (s : ByteArray) (w : World) (h : n < 34) (H : Fit n d a b m) (hl : lm (fm n) = 14) (h5 : fm n ≠ 5) : Calls Tryd.prog 10 #[.agg #[.int .i64 n, .int .i64 d, .int .i64 a, .int .i64 b, .int .i64 m, .string s]] w (WordBelow (wd n d a b m) w) := by
  have OR := Lib.hid (or_ref (fm_lt h) h5 rfl H (by omega) (m % 16384) (pim_14 hl).symm (by omega))
  have NA := Lib.hid (neg_and14 m)
  have HF := Lib.hid H
  obtain ⟨d0, d1, a0, a1, b0, b1, _, _, _, _⟩ := H
  have hf := fm_lt h
  have n0 : (0 : Int) ≤ (n : Int) := by omega
  have n1 : (n : Int) < 34 := by omega
  have RF := Lib.hid (fun W => rform_at n (fm n) W h rfl)
  have BT := Lib.hid (fun W => bits_at (fm n) 14 W hf (bt_of hf hl))
  have hq : ((fm n : Int) == 5) = false := by rw [beq_eq_false_iff_ne]; omega
  clear hl h5
  go_enter Tryd.func10, Tryd.ntmps10
  go_wp2_with fail
  refine (RF.out _).mono ?_
  rintro e w1 ⟨rfl, hb⟩
  obtain ⟨q, hz, hB⟩ := box_cells hb
  have k0 : w1.cell? ⟨w.heap.size, 0, none⟩ = some (.int .i64 n) := q 0
  have k1 : w1.cell? ⟨w.heap.size, 1, none⟩ = some (.int .i64 d) := q 1
  have k2 : w1.cell? ⟨w.heap.size, 2, none⟩ = some (.int .i64 a) := q 2
  have k3 : w1.cell? ⟨w.heap.size, 3, none⟩ = some (.int .i64 b) := q 3
  have k4 : w1.cell? ⟨w.heap.size, 4, none⟩ = some (.int .i64 m) := q 4
  have k5 : w1.cell? ⟨w.heap.size, 5, none⟩ = some (.string s) := q 5
  have HB := Lib.hid hB
  clear q hb hB
  go_wp2_with (go_at_call 26; refine (BT.out _).mono ?_; rintro e w' ⟨rfl, rfl⟩)
  go_quiet ((go_at_call 26; exact quietI BT.out _ _))
  go_wp2
  go_ret
  exact wb_mk (by rw [← OR.out, ← NA.out]) (below_drewN HB.out _)
set_option maxHeartbeats 1000000 in
theorem rword_18 (n : Nat) (d a b m : Int) (s : ByteArray) (w : World) (h : n < 34) (H : Fit n d a b m) (hl : lm (fm n) = 18) (h5 : fm n ≠ 5) : Calls Tryd.prog 10 #[.agg #[.int .i64 n, .int .i64 d, .int .i64 a, .int .i64 b, .int .i64 m, .string s]] w (WordBelow (wd n d a b m) w) := by
  have OR := Lib.hid (or_ref (fm_lt h) h5 rfl H (by omega) (m % 262144) (pim_18 hl).symm (by omega))
  have NA := Lib.hid (neg_and18 m)
  have HF := Lib.hid H
  obtain ⟨d0, d1, a0, a1, b0, b1, _, _, _, _⟩ := H
  have hf := fm_lt h
  have n0 : (0 : Int) ≤ (n : Int) := by omega
  have n1 : (n : Int) < 34 := by omega
  have RF := Lib.hid (fun W => rform_at n (fm n) W h rfl)
  have BT := Lib.hid (fun W => bits_at (fm n) 18 W hf (bt_of hf hl))
  have hq : ((fm n : Int) == 5) = false := by rw [beq_eq_false_iff_ne]; omega
  clear hl h5
  go_enter Tryd.func10, Tryd.ntmps10
  go_wp2_with fail
  refine (RF.out _).mono ?_
  rintro e w1 ⟨rfl, hb⟩
  obtain ⟨q, hz, hB⟩ := box_cells hb
  have k0 : w1.cell? ⟨w.heap.size, 0, none⟩ = some (.int .i64 n) := q 0
  have k1 : w1.cell? ⟨w.heap.size, 1, none⟩ = some (.int .i64 d) := q 1
  have k2 : w1.cell? ⟨w.heap.size, 2, none⟩ = some (.int .i64 a) := q 2
  have k3 : w1.cell? ⟨w.heap.size, 3, none⟩ = some (.int .i64 b) := q 3
  have k4 : w1.cell? ⟨w.heap.size, 4, none⟩ = some (.int .i64 m) := q 4
  have k5 : w1.cell? ⟨w.heap.size, 5, none⟩ = some (.string s) := q 5
  have HB := Lib.hid hB
  clear q hb hB
  go_wp2_with (go_at_call 26; refine (BT.out _).mono ?_; rintro e w' ⟨rfl, rfl⟩)
  go_quiet ((go_at_call 26; exact quietI BT.out _ _))
  go_wp2
  go_ret
  exact wb_mk (by rw [← OR.out, ← NA.out]) (below_drewN HB.out _)
set_option maxHeartbeats 1000000 in
theorem rword_5 (n : Nat) (d a b m : Int) (s : ByteArray) (w : World) (h : n < 34) (H : Fit n d a b m) (h5 : fm n = 5) : Calls Tryd.prog 10 #[.agg #[.int .i64 n, .int .i64 d, .int .i64 a, .int .i64 b, .int .i64 m, .string s]] w (WordBelow (wd n d a b m) w) := by
  have OR := Lib.hid (or_ref5 h5 H (by omega) (m % 16384) (pim_14 rfl).symm)
  have NA := Lib.hid (neg_and14 m)
  have HF := Lib.hid H
  obtain ⟨d0, d1, a0, a1, b0, b1, _, _, _, _⟩ := H
  have hf := fm_lt h
  have n0 : (0 : Int) ≤ (n : Int) := by omega
  have n1 : (n : Int) < 34 := by omega
  have RF := Lib.hid (fun W => rform_at n 5 W h h5)
  have BT := Lib.hid (fun W => bits_at 5 14 W (by decide) rfl)
  clear h5 hf
  go_enter Tryd.func10, Tryd.ntmps10
  go_wp2_with fail
  refine (RF.out _).mono ?_
  rintro e w1 ⟨rfl, hb⟩
  obtain ⟨q, hz, hB⟩ := box_cells hb
  have k0 : w1.cell? ⟨w.heap.size, 0, none⟩ = some (.int .i64 n) := q 0
  have k1 : w1.cell? ⟨w.heap.size, 1, none⟩ = some (.int .i64 d) := q 1
  have k2 : w1.cell? ⟨w.heap.size, 2, none⟩ = some (.int .i64 a) := q 2
  have k3 : w1.cell? ⟨w.heap.size, 3, none⟩ = some (.int .i64 b) := q 3
  have k4 : w1.cell? ⟨w.heap.size, 4, none⟩ = some (.int .i64 m) := q 4
  have k5 : w1.cell? ⟨w.heap.size, 5, none⟩ = some (.string s) := q 5
  have HB := Lib.hid hB
  clear q hb hB
  go_wp2_with (go_at_call 26; refine (BT.out _).mono ?_; rintro e w' ⟨rfl, rfl⟩)
  go_quiet ((go_at_call 26; exact quietI BT.out _ _))
  go_wp2
  go_ret
  exact wb_mk (by rw [← OR.out, ← NA.out]) (below_drewN HB.out _)
theorem rword_any (n : Nat) (d a b m : Int) (s : ByteArray) (w : World) (h : n < 34) (H : Fit n d a b m) : Calls Tryd.prog 10 #[.agg #[.int .i64 n, .int .i64 d, .int .i64 a, .int .i64 b, .int .i64 m, .string s]] w (WordBelow (wd n d a b m) w) := by
  by_cases h5 : fm n = 5
  · exact rword_5 n d a b m s w h H h5
  rcases lay_kinds ⟨fm n, fm_lt h⟩ with hl | ⟨_, hl⟩ | ⟨_, hl⟩ | ⟨_, hl⟩ | ⟨_, hl⟩
  · exact rword_0 n d a b m s w h H hl h5
  · exact rword_14 n d a b m s w h H hl h5
  · exact rword_18 n d a b m s w h H hl h5
  · exact rword_14 n d a b m s w h H hl h5
  · exact rword_18 n d a b m s w h H hl h5
end Go.Proofs.YtlhdmdhecamlfaaDoor
