/-
  Reads and Writes of any instruction, of the program and of the page. Conditions: the tables lie in the world; the name is no longer than a string may be.
-/
import Derived.Test.YtgaoelpgdianiaaDoorReads
namespace Go.Proofs.YtgaoelpgdianiaaDoor
open Go.RowKit

/-- No instruction: no op, or a field is wrong. -/
def Bad (o d a b m : Int) (s : ByteArray) : Prop := (o < 0 ∨ 33 < o) ∨ ∃ n : Nat, n < 34 ∧ o = n ∧ insB n d a b m s = false
theorem check_good (n : Nat) (d a b m : Int) (s : ByteArray) (w : World) (h : n < 34) (H : Tab w) (hs : s.size ≤ maxLen) (hi : insB n d a b m s = true) : Calls Tryd.prog 35 #[.agg #[.int .i64 n, .int .i64 d, .int .i64 a, .int .i64 b, .int .i64 m, .string s]] w (IntBelow 0 w) := by
  have := check_any n d a b m s w h H hs
  rw [chk_ins n d a b m s h, hi] at this
  exact this
theorem check_bad (o : Int) (d a b m : Int) (s : ByteArray) (w : World) (H : Tab w) (hs : s.size ≤ maxLen) (hi : Bad o d a b m s) : Calls Tryd.prog 35 #[.agg #[.int .i64 o, .int .i64 d, .int .i64 a, .int .i64 b, .int .i64 m, .string s]] w (IntBelow 1 w) := by
  rcases hi with h | ⟨n, h, rfl, hi⟩
  · exact check_no o d a b m s w h
  · have := check_any n d a b m s w h H hs
    rw [chk_ins n d a b m s h, hi] at this
    exact this
theorem ins_bad (o : Int) (d a b m : Int) (s : ByteArray) (w : World) (hs : s.size ≤ maxLen) (hi : Bad o d a b m s) : Calls Tryd.prog 31 #[.agg #[.int .i64 o, .int .i64 d, .int .i64 a, .int .i64 b, .int .i64 m, .string s]] w (BoolBelow false w) := by
  rcases hi with h | ⟨n, h, rfl, hi⟩
  · exact ins_no o d a b m s w h
  · have := ins_any n d a b m s w h hs
    rw [hi] at this
    exact this
theorem ins_good (n : Nat) (d a b m : Int) (s : ByteArray) (w : World) (h : n < 34) (hs : s.size ≤ maxLen) (hi : insB n d a b m s = true) : Calls Tryd.prog 31 #[.agg #[.int .i64 n, .int .i64 d, .int .i64 a, .int .i64 b, .int .i64 m, .string s]] w (BoolBelow true w) := by
  have := ins_any n d a b m s w h hs
  rw [hi] at this
  exact this

theorem field_d (x0 x1 x2 x5 : Bool) (x3 x4 : Int) (W : World) : (Instr.field 65 (.agg #[.bool x0, .bool x1, .bool x2, .int .i64 x3, .int .i64 x4, .bool x5]) 0).run Tryd.prog W = .ok (.bool x0) W := by kernel_rfl
def TwoBelow (x c : Int) (w : World) (e : Ending) (w' : World) : Prop := e = .returned (.tuple #[.int .i64 x, .int .i64 c]) ∧ Below w.heap.size w w'
def NumsTwo (zs : List Int) (c : Int) (w : World) (e : Ending) (w' : World) : Prop := ∃ v, e = .returned (.tuple #[v, .int .i64 c]) ∧ w'.ownsRow w.heap.size 3 1 v zs.length (zs.map (Value.int .i64)) ∧ Below w.heap.size w w'
set_option maxHeartbeats 400000 in
theorem reads_good (n : Nat) (d a b m : Int) (s : ByteArray) (w : World) (h : n < 34) (H : Tab w) (hs : s.size ≤ maxLen) (hi : insB n d a b m s = true) : Calls Tryd.prog 29 #[.agg #[.int .i64 n, .int .i64 d, .int .i64 a, .int .i64 b, .int .i64 m, .string s]] w (NumsTwo (readsL (fm n) a b) 0 w) := by
  have T := Lib.hid H
  clear H
  go_enter Tryd.func29, Tryd.ntmps29
  go_wp2_with fail
  refine (check_good _ _ _ _ _ _ _ h (T.out.alloc _) hs hi).mono ?_
  rintro e w1 ⟨rfl, hb⟩
  obtain ⟨q, hz, hB⟩ := box_cells hb
  have k0 : w1.cell? ⟨w.heap.size, 0, none⟩ = some (.int .i64 n) := q 0
  have k1 : w1.cell? ⟨w.heap.size, 1, none⟩ = some (.int .i64 d) := q 1
  have k2 : w1.cell? ⟨w.heap.size, 2, none⟩ = some (.int .i64 a) := q 2
  have k3 : w1.cell? ⟨w.heap.size, 3, none⟩ = some (.int .i64 b) := q 3
  have k4 : w1.cell? ⟨w.heap.size, 4, none⟩ = some (.int .i64 m) := q 4
  have k5 : w1.cell? ⟨w.heap.size, 5, none⟩ = some (.string s) := q 5
  have T1 := Lib.hid ((T.out.alloc _).below hb)
  have HB := Lib.hid hB
  clear q hb hB
  go_wp2_with (go_at_call 47; refine (readsOf_any _ _ _ _ _ _ _ h T1.out).mono ?_; rintro e w2 ⟨v, rfl, hown, hb2⟩)
  go_ret2
  exact ⟨v, rfl, own_le hown (by omega), HB.out.trans (hb2.mono (by omega))⟩
theorem reads_bad (o : Int) (d a b m : Int) (s : ByteArray) (w : World) (H : Tab w) (hs : s.size ≤ maxLen) (hi : Bad o d a b m s) : Calls Tryd.prog 29 #[.agg #[.int .i64 o, .int .i64 d, .int .i64 a, .int .i64 b, .int .i64 m, .string s]] w (NumsTwo [] 1 w) := by
  have T := Lib.hid H
  have HI := Lib.hid hi
  clear H hi
  go_enter Tryd.func29, Tryd.ntmps29
  go_wp2_with fail
  refine (check_bad _ _ _ _ _ _ _ (T.out.alloc _) hs HI.out).mono ?_
  rintro e w1 ⟨rfl, hb⟩
  go_wp2
  go_ret2
  exact ⟨_, rfl, World.ownsRow_nil _ _ _ _, (below_new _ _).trans (hb.mono (by simp))⟩
set_option maxHeartbeats 400000 in
set_option maxRecDepth 100000 in
theorem writes_d (n : Nat) (d a b m : Int) (s : ByteArray) (w : World) (h : n < 34) (H : Tab w) (hs : s.size ≤ maxLen) (hi : insB n d a b m s = true) (hd : sd (fm n) = true) : Calls Tryd.prog 30 #[.agg #[.int .i64 n, .int .i64 d, .int .i64 a, .int .i64 b, .int .i64 m, .string s]] w (TwoBelow d 0 w) := by
  have T := Lib.hid H
  have hfd := field_d (sd (fm n)) (sa (fm n)) (sb (fm n)) (stg (fm n)) (slo (fm n)) (shi (fm n))
  rw [hd] at hfd
  clear H
  go_enter Tryd.func30, Tryd.ntmps30
  go_wp2_with fail
  refine (check_good _ _ _ _ _ _ _ h (T.out.alloc _) hs hi).mono ?_
  rintro e w1 ⟨rfl, hb⟩
  obtain ⟨q, hz, hB⟩ := box_cells hb
  have k0 : w1.cell? ⟨w.heap.size, 0, none⟩ = some (.int .i64 n) := q 0
  have k1 : w1.cell? ⟨w.heap.size, 1, none⟩ = some (.int .i64 d) := q 1
  have k2 : w1.cell? ⟨w.heap.size, 2, none⟩ = some (.int .i64 a) := q 2
  have k3 : w1.cell? ⟨w.heap.size, 3, none⟩ = some (.int .i64 b) := q 3
  have k4 : w1.cell? ⟨w.heap.size, 4, none⟩ = some (.int .i64 m) := q 4
  have k5 : w1.cell? ⟨w.heap.size, 5, none⟩ = some (.string s) := q 5
  have T1 := Lib.hid ((T.out.alloc _).below hb)
  have HB := Lib.hid hB
  clear q hb hB
  go_wp2_with (go_at_call 48; refine (shape_any _ _ h T1.out).mono ?_; rintro e w2 ⟨rfl, hb2⟩; have l1 : w2.cell? ⟨w.heap.size, 1, none⟩ = some (.int .i64 d) := (hb2.cell (p := ⟨w.heap.size, 1, none⟩) hz).trans k1; have HB2 := Lib.hid hb2; clear hb2)
  go_ret2
  exact ⟨rfl, HB.out.trans (HB2.out.mono (by omega))⟩
set_option maxHeartbeats 400000 in
set_option maxRecDepth 100000 in
theorem writes_no (n : Nat) (d a b m : Int) (s : ByteArray) (w : World) (h : n < 34) (H : Tab w) (hs : s.size ≤ maxLen) (hi : insB n d a b m s = true) (hd : sd (fm n) = false) : Calls Tryd.prog 30 #[.agg #[.int .i64 n, .int .i64 d, .int .i64 a, .int .i64 b, .int .i64 m, .string s]] w (TwoBelow 0 9 w) := by
  have T := Lib.hid H
  have hfd := field_d (sd (fm n)) (sa (fm n)) (sb (fm n)) (stg (fm n)) (slo (fm n)) (shi (fm n))
  rw [hd] at hfd
  clear H
  go_enter Tryd.func30, Tryd.ntmps30
  go_wp2_with fail
  refine (check_good _ _ _ _ _ _ _ h (T.out.alloc _) hs hi).mono ?_
  rintro e w1 ⟨rfl, hb⟩
  obtain ⟨q, hz, hB⟩ := box_cells hb
  have k0 : w1.cell? ⟨w.heap.size, 0, none⟩ = some (.int .i64 n) := q 0
  have k1 : w1.cell? ⟨w.heap.size, 1, none⟩ = some (.int .i64 d) := q 1
  have k2 : w1.cell? ⟨w.heap.size, 2, none⟩ = some (.int .i64 a) := q 2
  have k3 : w1.cell? ⟨w.heap.size, 3, none⟩ = some (.int .i64 b) := q 3
  have k4 : w1.cell? ⟨w.heap.size, 4, none⟩ = some (.int .i64 m) := q 4
  have k5 : w1.cell? ⟨w.heap.size, 5, none⟩ = some (.string s) := q 5
  have T1 := Lib.hid ((T.out.alloc _).below hb)
  have HB := Lib.hid hB
  clear q hb hB
  go_wp2_with (go_at_call 48; refine (shape_any _ _ h T1.out).mono ?_; rintro e w2 ⟨rfl, hb2⟩; have HB2 := Lib.hid hb2; clear hb2)
  go_ret2
  exact ⟨rfl, HB.out.trans (HB2.out.mono (by omega))⟩
theorem writes_bad (o : Int) (d a b m : Int) (s : ByteArray) (w : World) (H : Tab w) (hs : s.size ≤ maxLen) (hi : Bad o d a b m s) : Calls Tryd.prog 30 #[.agg #[.int .i64 o, .int .i64 d, .int .i64 a, .int .i64 b, .int .i64 m, .string s]] w (TwoBelow 0 1 w) := by
  have T := Lib.hid H
  have HI := Lib.hid hi
  clear H hi
  go_enter Tryd.func30, Tryd.ntmps30
  go_wp2_with fail
  refine (check_bad _ _ _ _ _ _ _ (T.out.alloc _) hs HI.out).mono ?_
  rintro e w1 ⟨rfl, hb⟩
  go_wp2
  go_ret2
  exact ⟨rfl, (below_new _ _).trans (hb.mono (by simp))⟩

/-! ### The page's own -/
theorem rwrites_any (n : Nat) (d a b m : Int) (s : ByteArray) (w : World) (h : n < 34) : Calls Tryd.prog 34 #[.agg #[.int .i64 n, .int .i64 d, .int .i64 a, .int .i64 b, .int .i64 m, .string s]] w (IntBelow (if sd (fm n) then d else -1) w) := by
  have hf := fm_lt h
  cases hd : sd (fm n)
  all_goals
    go_enter Tryd.func34, Tryd.ntmps34
    go_wp2_with fail
    refine (rform_any _ _ h).mono ?_
    rintro e w1 ⟨rfl, hb⟩
    obtain ⟨q, hz, hB⟩ := box_cells hb
    have k1 : w1.cell? ⟨w.heap.size, 1, none⟩ = some (.int .i64 d) := q 1
    have HB := Lib.hid hB
    clear q hb hB
    go_wp2_with (go_at_call 36; refine (hasD_any _ _ hf).mono ?_; rintro e w' ⟨rfl, rfl⟩)
    go_ret
    exact ⟨rfl, HB.out⟩
set_option maxHeartbeats 1000000 in
theorem rreads_00 (n : Nat) (d a b m : Int) (s : ByteArray) (w : World) (h : n < 34) (ca : sa (fm n) = false) (cb : sb (fm n) = false) : Calls Tryd.prog 33 #[.agg #[.int .i64 n, .int .i64 d, .int .i64 a, .int .i64 b, .int .i64 m, .string s]] w (NumsPost (readsL (fm n) a b) w) := by
  have hf := fm_lt h
  have RL := Lib.hid (show readsL (fm n) a b = [] by unfold readsL; rw [ca, cb]; rfl)
  go_enter Tryd.func33, Tryd.ntmps33
  go_wp2_with fail
  refine (rform_any _ _ h).mono ?_
  rintro e w1 ⟨rfl, hb⟩
  obtain ⟨q, hz, hB⟩ := box_cells hb
  have k2 : w1.cell? ⟨w.heap.size, 2, none⟩ = some (.int .i64 a) := q 2
  have k3 : w1.cell? ⟨w.heap.size, 3, none⟩ = some (.int .i64 b) := q 3
  have HB := Lib.hid hB
  clear q hb hB
  go_wp2_with (first | (go_at_call 37; refine (hasA_any _ _ hf).mono ?_; rintro e w' ⟨rfl, rfl⟩) | (go_at_call 38; refine (hasB_any _ _ hf).mono ?_; rintro e w' ⟨rfl, rfl⟩))
  go_ret
  exact ⟨_, rfl, by rw [RL.out]; exact World.ownsRow_nil _ _ _ _, HB.out⟩
set_option maxHeartbeats 1000000 in
theorem rreads_01 (n : Nat) (d a b m : Int) (s : ByteArray) (w : World) (h : n < 34) (ca : sa (fm n) = false) (cb : sb (fm n) = true) : Calls Tryd.prog 33 #[.agg #[.int .i64 n, .int .i64 d, .int .i64 a, .int .i64 b, .int .i64 m, .string s]] w (NumsPost (readsL (fm n) a b) w) := by
  have hf := fm_lt h
  have RL := Lib.hid (show readsL (fm n) a b = [b] by unfold readsL; rw [ca, cb]; rfl)
  go_enter Tryd.func33, Tryd.ntmps33
  go_wp2_with fail
  refine (rform_any _ _ h).mono ?_
  rintro e w1 ⟨rfl, hb⟩
  obtain ⟨q, hz, hB⟩ := box_cells hb
  have k2 : w1.cell? ⟨w.heap.size, 2, none⟩ = some (.int .i64 a) := q 2
  have k3 : w1.cell? ⟨w.heap.size, 3, none⟩ = some (.int .i64 b) := q 3
  have HB := Lib.hid hB
  clear q hb hB
  go_wp2_with (first | (go_at_call 37; refine (hasA_any _ _ hf).mono ?_; rintro e w' ⟨rfl, rfl⟩) | (go_at_call 38; refine (hasB_any _ _ hf).mono ?_; rintro e w' ⟨rfl, rfl⟩) | (at_builtin; refine app_one 31 3 8 (.int .i64 0) Tryd.info3 rfl (by decide) Tryd.underlying31 (by rfl) _ _ (by rfl) _ w1.heap.size 0 _ _ [] (by rfl) (World.ownsRow_nil _ _ _ _) (by decide) (by rfl) _ (by rfl) (by simp) ?hb ?_))
  case hb => exact Nat.le_refl _
  intro v' w3 hown hg
  have hbl := app_below (base := w1.heap.size) (e := 3) (World.ownsRow_nil _ _ _ _) hg (Nat.le_refl _)
  have HO := Lib.hid hown
  have HB2 := Lib.hid (HB.out.trans (hbl.mono (by omega)))
  clear hown hg hbl
  go_wp2_with (go_at_call 38; refine (hasB_any _ _ hf).mono ?_; rintro e w' ⟨rfl, rfl⟩)
  go_ret
  exact ⟨v', rfl, by rw [RL.out]; exact own_le HO.out (by omega), HB2.out⟩
set_option maxHeartbeats 1000000 in
theorem rreads_10 (n : Nat) (d a b m : Int) (s : ByteArray) (w : World) (h : n < 34) (ca : sa (fm n) = true) (cb : sb (fm n) = false) : Calls Tryd.prog 33 #[.agg #[.int .i64 n, .int .i64 d, .int .i64 a, .int .i64 b, .int .i64 m, .string s]] w (NumsPost (readsL (fm n) a b) w) := by
  have hf := fm_lt h
  have RL := Lib.hid (show readsL (fm n) a b = [a] by unfold readsL; rw [ca, cb]; rfl)
  go_enter Tryd.func33, Tryd.ntmps33
  go_wp2_with fail
  refine (rform_any _ _ h).mono ?_
  rintro e w1 ⟨rfl, hb⟩
  obtain ⟨q, hz, hB⟩ := box_cells hb
  have k2 : w1.cell? ⟨w.heap.size, 2, none⟩ = some (.int .i64 a) := q 2
  have k3 : w1.cell? ⟨w.heap.size, 3, none⟩ = some (.int .i64 b) := q 3
  have HB := Lib.hid hB
  clear q hb hB
  go_wp2_with (first | (go_at_call 37; refine (hasA_any _ _ hf).mono ?_; rintro e w' ⟨rfl, rfl⟩) | (go_at_call 38; refine (hasB_any _ _ hf).mono ?_; rintro e w' ⟨rfl, rfl⟩) | (at_builtin; refine app_one 31 3 8 (.int .i64 0) Tryd.info3 rfl (by decide) Tryd.underlying31 (by rfl) _ _ (by rfl) _ w1.heap.size 0 _ _ [] (by rfl) (World.ownsRow_nil _ _ _ _) (by decide) (by rfl) _ (by rfl) (by simp) ?hb ?_))
  case hb => exact Nat.le_refl _
  intro v' w3 hown hg
  have hbl := app_below (base := w1.heap.size) (e := 3) (World.ownsRow_nil _ _ _ _) hg (Nat.le_refl _)
  have HO := Lib.hid hown
  have HB2 := Lib.hid (HB.out.trans (hbl.mono (by omega)))
  clear hown hg hbl
  go_wp2_with (go_at_call 38; refine (hasB_any _ _ hf).mono ?_; rintro e w' ⟨rfl, rfl⟩)
  go_ret
  exact ⟨v', rfl, by rw [RL.out]; exact own_le HO.out (by omega), HB2.out⟩
set_option maxHeartbeats 1000000 in
theorem rreads_11 (n : Nat) (d a b m : Int) (s : ByteArray) (w : World) (h : n < 34) (ca : sa (fm n) = true) (cb : sb (fm n) = true) : Calls Tryd.prog 33 #[.agg #[.int .i64 n, .int .i64 d, .int .i64 a, .int .i64 b, .int .i64 m, .string s]] w (NumsPost (readsL (fm n) a b) w) := by
  have hf := fm_lt h
  have RL := Lib.hid (show readsL (fm n) a b = [a, b] by unfold readsL; rw [ca, cb]; rfl)
  go_enter Tryd.func33, Tryd.ntmps33
  go_wp2_with fail
  refine (rform_any _ _ h).mono ?_
  rintro e w1 ⟨rfl, hb⟩
  obtain ⟨q, hz, hB⟩ := box_cells hb
  have k2 : w1.cell? ⟨w.heap.size, 2, none⟩ = some (.int .i64 a) := q 2
  have k3 : w1.cell? ⟨w.heap.size, 3, none⟩ = some (.int .i64 b) := q 3
  have HB := Lib.hid hB
  clear q hb hB
  go_wp2_with (first | (go_at_call 37; refine (hasA_any _ _ hf).mono ?_; rintro e w' ⟨rfl, rfl⟩) | (at_builtin; refine app_one 31 3 8 (.int .i64 0) Tryd.info3 rfl (by decide) Tryd.underlying31 (by rfl) _ _ (by rfl) _ w1.heap.size 0 _ _ [] (by rfl) (World.ownsRow_nil _ _ _ _) (by decide) (by rfl) _ (by rfl) (by simp) ?hb ?_))
  case hb => exact Nat.le_refl _
  intro v' w3 hown hg
  have hbl := app_below (base := w1.heap.size) (e := 3) (World.ownsRow_nil _ _ _ _) hg (Nat.le_refl _)
  have HO := Lib.hid hown
  have HB2 := Lib.hid (HB.out.trans (hbl.mono (by omega)))
  have hz3 : w1.heap.size ≤ w3.heap.size := hbl.size
  have l3 : w3.cell? ⟨w.heap.size, 3, none⟩ = some (.int .i64 b) := (hbl.cell (p := ⟨w.heap.size, 3, none⟩) hz).trans k3
  clear hown hg hbl
  go_wp2_with (first | (go_at_call 38; refine (hasB_any _ _ hf).mono ?_; rintro e w' ⟨rfl, rfl⟩) | (at_builtin; refine app_one 31 3 8 (.int .i64 0) Tryd.info3 rfl (by decide) Tryd.underlying31 (by rfl) _ _ (by rfl) _ w1.heap.size 1 _ _ _ (by rfl) HO.out (by decide) (by rfl) _ (by rfl) (by simp) ?hb ?_))
  case hb => exact hz3
  intro v2 w4 hown hg
  have hbl := app_below HO.out hg hz3
  go_wp2
  go_ret
  exact ⟨v2, rfl, by rw [RL.out]; exact own_le hown (by omega), HB2.out.trans (hbl.mono (by omega))⟩

theorem rreads_any (n : Nat) (d a b m : Int) (s : ByteArray) (w : World) (h : n < 34) : Calls Tryd.prog 33 #[.agg #[.int .i64 n, .int .i64 d, .int .i64 a, .int .i64 b, .int .i64 m, .string s]] w (NumsPost (readsL (fm n) a b) w) := by
  cases ca : sa (fm n)
  · cases cb : sb (fm n)
    · exact rreads_00 n d a b m s w h ca cb
    · exact rreads_01 n d a b m s w h ca cb
  · cases cb : sb (fm n)
    · exact rreads_10 n d a b m s w h ca cb
    · exact rreads_11 n d a b m s w h ca cb
end Go.Proofs.YtgaoelpgdianiaaDoor
