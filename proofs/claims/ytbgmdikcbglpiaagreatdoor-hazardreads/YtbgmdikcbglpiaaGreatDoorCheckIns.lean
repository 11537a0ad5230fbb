/-
  Whether an instruction may be: the program's Check and the page's Ins tell the same of every instruction; both only make new memory. Conditions: the tables lie in the world; its name is no longer than a string may be.
-/
import Derived.Test.YtbgmdikcbglpiaaGreatDoorTables
import Derived.Test.YtbgmdikcbglpiaaGreatDoorChars
import Derived.Test.YtbgmdikcbglpiaaGreatDoorLists
namespace Go.Proofs.YtbgmdikcbglpiaaGreatDoor
open Go.RowKit

theorem box_cells {w w1 : World} {cs : Array Value} {t : TypeId} (hb : Below (w.alloc (.cells cs t)).heap.size (w.alloc (.cells cs t)) w1) :
    (∀ j, w1.cell? ⟨w.heap.size, j, none⟩ = cs[j]?) ∧ w.heap.size < w1.heap.size ∧ Below w.heap.size w w1 := by
  have hs := hb.size
  refine ⟨fun j => ?_, by simp at hs; omega, (below_new w _).trans (hb.mono (by simp))⟩
  rw [hb.cell (p := ⟨w.heap.size, j, none⟩) (by simp)]
  simp [go_sem]
theorem quietB {P : Program} {f : FuncId} {args : Array Value} {b : Bool} (h : ∀ W : World, Calls P f args W (BoolPost b W)) (w : World) (n : Nat) :
    Calls P f args (w.drewN n) fun e w'' => e = .returned (.bool b) ∧ ∃ m, w'' = w.drewN m := (h _).mono fun _ _ ⟨he, hm⟩ => ⟨he, n, hm.symm⟩
theorem quietI {P : Program} {f : FuncId} {args : Array Value} {x : Int} (h : ∀ W : World, Calls P f args W (IntPost x W)) (w : World) (n : Nat) :
    Calls P f args (w.drewN n) fun e w'' => e = .returned (.int .i64 x) ∧ ∃ m, w'' = w.drewN m := (h _).mono fun _ _ ⟨he, hm⟩ => ⟨he, n, hm.symm⟩

/-- May it have the Sym that it has? -/
def symB (tg : Bool) (o m : Int) (s : ByteArray) : Bool := decide (s.size = 0) || (if tg then decide (m = 0) && nameB s else decide (o = 23) && nameB s)
theorem symB_f {o m : Int} {s : ByteArray} (hz : decide (s.size = 0) = false) : symB false o m s = (decide (o = 23) && nameB s) := by unfold symB; rw [hz]; simp
theorem symB_t {o m : Int} {s : ByteArray} (hz : decide (s.size = 0) = false) : symB true o m s = (decide (m = 0) && nameB s) := by unfold symB; rw [hz]; simp
theorem boolb_mk {b b' : Bool} {w w' : World} (h : b' = b) (hb : Below w.heap.size w w') : BoolBelow b w (.returned (.bool b')) w' := by subst h; exact ⟨rfl, hb⟩
theorem below_two (w : World) (o o' : Obj) : Below w.heap.size w ((w.alloc o).alloc o') := (below_new w o).alloc (by simp) _

set_option maxHeartbeats 400000 in
theorem sym_any (sd' sa' sb' tg : Bool) (lo hi o d a b m : Int) (s : ByteArray) (w : World) (hs : s.size ≤ maxLen) :
    Calls Tryz.prog 103 #[.agg #[.bool sd', .bool sa', .bool sb', .int .i64 lo, .int .i64 hi, .bool tg], .agg #[.int .i64 o, .int .i64 d, .int .i64 a, .int .i64 b, .int .i64 m, .string s]] w (BoolBelow (symB tg o m s) w) := by
  by_cases h0 : s.size = 0
  · have e : symB tg o m s = true := by simp [symB, h0]
    rw [e, empty_of h0]
    clear e h0 hs
    go_enter Tryz.func103, Tryz.ntmps103
    go_wp2
    go_ret
    exact boolb_mk rfl (below_two _ _ _)
  · have hp : 0 < s.size := by omega
    have hn1 := toList_ne hp
    have hn2 := isEmpty_ne hp
    have hz : decide (s.size = 0) = false := by simpa using h0
    have HZ := Lib.hid hz
    clear hz h0
    cases tg
    · by_cases ho : o = 23
      · subst ho
        go_enter Tryz.func103, Tryz.ntmps103
        go_wp2_with (go_at_call 116; refine (name2_any _ _ hs).mono ?_; rintro e w' ⟨rfl, rfl⟩)
        go_ret
        exact boolb_mk (by rw [symB_f HZ.out]; simp) (below_two _ _ _)
      · have hq : (o == 23) = false := by simpa using ho
        have HO := Lib.hid ho
        clear ho
        go_enter Tryz.func103, Tryz.ntmps103
        go_wp2_with (go_at_call 116; refine (name2_any _ _ hs).mono ?_; rintro e w' ⟨rfl, rfl⟩)
        go_ret
        exact boolb_mk (by rw [symB_f HZ.out]; simp [HO.out]) (below_two _ _ _)
    · by_cases ho : m = 0
      · subst ho
        go_enter Tryz.func103, Tryz.ntmps103
        go_wp2_with (go_at_call 116; refine (name2_any _ _ hs).mono ?_; rintro e w' ⟨rfl, rfl⟩)
        go_ret
        exact boolb_mk (by rw [symB_t HZ.out]; simp) (below_two _ _ _)
      · have hq : (m == 0) = false := by simpa using ho
        have HO := Lib.hid ho
        clear ho
        go_enter Tryz.func103, Tryz.ntmps103
        go_wp2_with (go_at_call 116; refine (name2_any _ _ hs).mono ?_; rintro e w' ⟨rfl, rfl⟩)
        go_ret
        exact boolb_mk (by rw [symB_t HZ.out]; simp [HO.out]) (below_two _ _ _)

/-- May the instruction be? (as the program tells) -/
def chkB (n : Nat) (d a b m : Int) (s : ByteArray) : Bool :=
  fitsB (sd (fm n)) d && fitsB (sa (fm n)) a && fitsB (sb (fm n)) b && (decide (slo (fm n) ≤ m) && decide (m ≤ shi (fm n)) && symB (stg (fm n)) n m s)

set_option maxHeartbeats 1000000 in
theorem check_d (n : Nat) (d a b m : Int) (s : ByteArray) (w : World) (h : n < 34) (H : Tab w) (_hs : s.size ≤ maxLen) (c1 : fitsB (sd (fm n)) d = false) :
    Calls Tryz.prog 86 #[.agg #[.int .i64 n, .int .i64 d, .int .i64 a, .int .i64 b, .int .i64 m, .string s]] w (IntBelow 1 w) := by
  have T := Lib.hid H
  clear H
  go_enter Tryz.func86, Tryz.ntmps86
  go_wp2_with (go_at_call 101; refine (isOp_yes _ _ h).mono ?_; rintro e w' ⟨rfl, rfl⟩)
  refine (shape_any _ _ h (T.out.alloc _)).mono ?_
  rintro e w1 ⟨rfl, hb⟩
  obtain ⟨q, hz, hB⟩ := box_cells hb
  have k1 : w1.cell? ⟨w.heap.size, 1, none⟩ = some (.int .i64 d) := q 1
  have k2 : w1.cell? ⟨w.heap.size, 2, none⟩ = some (.int .i64 a) := q 2
  have k3 : w1.cell? ⟨w.heap.size, 3, none⟩ = some (.int .i64 b) := q 3
  have k4 : w1.cell? ⟨w.heap.size, 4, none⟩ = some (.int .i64 m) := q 4
  have k5 : w1.cell? ⟨w.heap.size, 5, none⟩ = some (.string s) := q 5
  have k0 : w1.cell? ⟨w.heap.size, 0, none⟩ = some (.int .i64 n) := q 0
  have HB := Lib.hid hB
  clear q hb hB
  go_wp2_with (go_at_call 102; refine (fits_any _ _ _).mono ?_; rintro e w' ⟨rfl, rfl⟩)
  go_ret
  exact ⟨rfl, HB.out.alloc (by omega) _⟩
set_option maxHeartbeats 1000000 in
theorem check_a (n : Nat) (d a b m : Int) (s : ByteArray) (w : World) (h : n < 34) (H : Tab w) (_hs : s.size ≤ maxLen) (c1 : fitsB (sd (fm n)) d = true) (c2 : fitsB (sa (fm n)) a = false) :
    Calls Tryz.prog 86 #[.agg #[.int .i64 n, .int .i64 d, .int .i64 a, .int .i64 b, .int .i64 m, .string s]] w (IntBelow 1 w) := by
  have T := Lib.hid H
  clear H
  go_enter Tryz.func86, Tryz.ntmps86
  go_wp2_with (go_at_call 101; refine (isOp_yes _ _ h).mono ?_; rintro e w' ⟨rfl, rfl⟩)
  refine (shape_any _ _ h (T.out.alloc _)).mono ?_
  rintro e w1 ⟨rfl, hb⟩
  obtain ⟨q, hz, hB⟩ := box_cells hb
  have k1 : w1.cell? ⟨w.heap.size, 1, none⟩ = some (.int .i64 d) := q 1
  have k2 : w1.cell? ⟨w.heap.size, 2, none⟩ = some (.int .i64 a) := q 2
  have k3 : w1.cell? ⟨w.heap.size, 3, none⟩ = some (.int .i64 b) := q 3
  have k4 : w1.cell? ⟨w.heap.size, 4, none⟩ = some (.int .i64 m) := q 4
  have k5 : w1.cell? ⟨w.heap.size, 5, none⟩ = some (.string s) := q 5
  have k0 : w1.cell? ⟨w.heap.size, 0, none⟩ = some (.int .i64 n) := q 0
  have HB := Lib.hid hB
  clear q hb hB
  go_wp2_with (go_at_call 102; refine (fits_any _ _ _).mono ?_; rintro e w' ⟨rfl, rfl⟩)
  go_ret
  exact ⟨rfl, HB.out.alloc (by omega) _⟩
set_option maxHeartbeats 1000000 in
theorem check_b (n : Nat) (d a b m : Int) (s : ByteArray) (w : World) (h : n < 34) (H : Tab w) (_hs : s.size ≤ maxLen) (c1 : fitsB (sd (fm n)) d = true) (c2 : fitsB (sa (fm n)) a = true) (c3 : fitsB (sb (fm n)) b = false) :
    Calls Tryz.prog 86 #[.agg #[.int .i64 n, .int .i64 d, .int .i64 a, .int .i64 b, .int .i64 m, .string s]] w (IntBelow 1 w) := by
  have T := Lib.hid H
  clear H
  go_enter Tryz.func86, Tryz.ntmps86
  go_wp2_with (go_at_call 101; refine (isOp_yes _ _ h).mono ?_; rintro e w' ⟨rfl, rfl⟩)
  refine (shape_any _ _ h (T.out.alloc _)).mono ?_
  rintro e w1 ⟨rfl, hb⟩
  obtain ⟨q, hz, hB⟩ := box_cells hb
  have k1 : w1.cell? ⟨w.heap.size, 1, none⟩ = some (.int .i64 d) := q 1
  have k2 : w1.cell? ⟨w.heap.size, 2, none⟩ = some (.int .i64 a) := q 2
  have k3 : w1.cell? ⟨w.heap.size, 3, none⟩ = some (.int .i64 b) := q 3
  have k4 : w1.cell? ⟨w.heap.size, 4, none⟩ = some (.int .i64 m) := q 4
  have k5 : w1.cell? ⟨w.heap.size, 5, none⟩ = some (.string s) := q 5
  have k0 : w1.cell? ⟨w.heap.size, 0, none⟩ = some (.int .i64 n) := q 0
  have HB := Lib.hid hB
  clear q hb hB
  go_wp2_with (go_at_call 102; refine (fits_any _ _ _).mono ?_; rintro e w' ⟨rfl, rfl⟩)
  go_ret
  exact ⟨rfl, HB.out.alloc (by omega) _⟩
set_option maxHeartbeats 1000000 in
theorem check_lo (n : Nat) (d a b m : Int) (s : ByteArray) (w : World) (h : n < 34) (H : Tab w) (_hs : s.size ≤ maxLen) (c1 : fitsB (sd (fm n)) d = true) (c2 : fitsB (sa (fm n)) a = true) (c3 : fitsB (sb (fm n)) b = true) (c4 : m < slo (fm n)) :
    Calls Tryz.prog 86 #[.agg #[.int .i64 n, .int .i64 d, .int .i64 a, .int .i64 b, .int .i64 m, .string s]] w (IntBelow 1 w) := by
  have T := Lib.hid H
  clear H
  have hd : decide (m < slo (fm n)) = true := by simpa using c4
  go_enter Tryz.func86, Tryz.ntmps86
  go_wp2_with (go_at_call 101; refine (isOp_yes _ _ h).mono ?_; rintro e w' ⟨rfl, rfl⟩)
  refine (shape_any _ _ h (T.out.alloc _)).mono ?_
  rintro e w1 ⟨rfl, hb⟩
  obtain ⟨q, hz, hB⟩ := box_cells hb
  have k1 : w1.cell? ⟨w.heap.size, 1, none⟩ = some (.int .i64 d) := q 1
  have k2 : w1.cell? ⟨w.heap.size, 2, none⟩ = some (.int .i64 a) := q 2
  have k3 : w1.cell? ⟨w.heap.size, 3, none⟩ = some (.int .i64 b) := q 3
  have k4 : w1.cell? ⟨w.heap.size, 4, none⟩ = some (.int .i64 m) := q 4
  have k5 : w1.cell? ⟨w.heap.size, 5, none⟩ = some (.string s) := q 5
  have k0 : w1.cell? ⟨w.heap.size, 0, none⟩ = some (.int .i64 n) := q 0
  have HB := Lib.hid hB
  clear q hb hB
  go_wp2_with (go_at_call 102; refine (fits_any _ _ _).mono ?_; rintro e w' ⟨rfl, rfl⟩)
  go_ret
  exact ⟨rfl, HB.out.alloc (by omega) _⟩
set_option maxHeartbeats 1000000 in
theorem check_hi (n : Nat) (d a b m : Int) (s : ByteArray) (w : World) (h : n < 34) (H : Tab w) (_hs : s.size ≤ maxLen) (c1 : fitsB (sd (fm n)) d = true) (c2 : fitsB (sa (fm n)) a = true) (c3 : fitsB (sb (fm n)) b = true) (c4 : slo (fm n) ≤ m) (c5 : shi (fm n) < m) :
    Calls Tryz.prog 86 #[.agg #[.int .i64 n, .int .i64 d, .int .i64 a, .int .i64 b, .int .i64 m, .string s]] w (IntBelow 1 w) := by
  have T := Lib.hid H
  clear H
  have hd : decide (m < slo (fm n)) = false := by simp; omega
  have hd2 : decide (shi (fm n) < m) = true := by simpa using c5
  go_enter Tryz.func86, Tryz.ntmps86
  go_wp2_with (go_at_call 101; refine (isOp_yes _ _ h).mono ?_; rintro e w' ⟨rfl, rfl⟩)
  refine (shape_any _ _ h (T.out.alloc _)).mono ?_
  rintro e w1 ⟨rfl, hb⟩
  obtain ⟨q, hz, hB⟩ := box_cells hb
  have k1 : w1.cell? ⟨w.heap.size, 1, none⟩ = some (.int .i64 d) := q 1
  have k2 : w1.cell? ⟨w.heap.size, 2, none⟩ = some (.int .i64 a) := q 2
  have k3 : w1.cell? ⟨w.heap.size, 3, none⟩ = some (.int .i64 b) := q 3
  have k4 : w1.cell? ⟨w.heap.size, 4, none⟩ = some (.int .i64 m) := q 4
  have k5 : w1.cell? ⟨w.heap.size, 5, none⟩ = some (.string s) := q 5
  have k0 : w1.cell? ⟨w.heap.size, 0, none⟩ = some (.int .i64 n) := q 0
  have HB := Lib.hid hB
  clear q hb hB
  go_wp2_with (go_at_call 102; refine (fits_any _ _ _).mono ?_; rintro e w' ⟨rfl, rfl⟩)
  go_ret
  exact ⟨rfl, HB.out.alloc (by omega) _⟩
set_option maxHeartbeats 1000000 in
theorem check_s (n : Nat) (d a b m : Int) (s : ByteArray) (w : World) (h : n < 34) (H : Tab w) (hs : s.size ≤ maxLen) (c1 : fitsB (sd (fm n)) d = true) (c2 : fitsB (sa (fm n)) a = true) (c3 : fitsB (sb (fm n)) b = true) (c4 : slo (fm n) ≤ m) (c5 : m ≤ shi (fm n)) (c6 : symB (stg (fm n)) n m s = false) :
    Calls Tryz.prog 86 #[.agg #[.int .i64 n, .int .i64 d, .int .i64 a, .int .i64 b, .int .i64 m, .string s]] w (IntBelow 1 w) := by
  have T := Lib.hid H
  clear H
  have hd : decide (m < slo (fm n)) = false := by simp; omega
  have hd2 : decide (shi (fm n) < m) = false := by simp; omega
  go_enter Tryz.func86, Tryz.ntmps86
  go_wp2_with (go_at_call 101; refine (isOp_yes _ _ h).mono ?_; rintro e w' ⟨rfl, rfl⟩)
  refine (shape_any _ _ h (T.out.alloc _)).mono ?_
  rintro e w1 ⟨rfl, hb⟩
  obtain ⟨q, hz, hB⟩ := box_cells hb
  have k1 : w1.cell? ⟨w.heap.size, 1, none⟩ = some (.int .i64 d) := q 1
  have k2 : w1.cell? ⟨w.heap.size, 2, none⟩ = some (.int .i64 a) := q 2
  have k3 : w1.cell? ⟨w.heap.size, 3, none⟩ = some (.int .i64 b) := q 3
  have k4 : w1.cell? ⟨w.heap.size, 4, none⟩ = some (.int .i64 m) := q 4
  have k5 : w1.cell? ⟨w.heap.size, 5, none⟩ = some (.string s) := q 5
  have k0 : w1.cell? ⟨w.heap.size, 0, none⟩ = some (.int .i64 n) := q 0
  have HB := Lib.hid hB
  clear q hb hB
  go_wp2_with (first | (go_at_call 102; refine (fits_any _ _ _).mono ?_; rintro e w' ⟨rfl, rfl⟩) | (go_at_call 103; refine (sym_any _ _ _ _ _ _ _ _ _ _ _ _ _ hs).mono ?_; rintro e w2 ⟨rfl, hb2⟩))
  go_ret
  exact ⟨rfl, (HB.out.alloc (by omega) _).trans (hb2.mono (by simp; omega))⟩
set_option maxHeartbeats 1000000 in
theorem check_ok (n : Nat) (d a b m : Int) (s : ByteArray) (w : World) (h : n < 34) (H : Tab w) (hs : s.size ≤ maxLen) (c1 : fitsB (sd (fm n)) d = true) (c2 : fitsB (sa (fm n)) a = true) (c3 : fitsB (sb (fm n)) b = true) (c4 : slo (fm n) ≤ m) (c5 : m ≤ shi (fm n)) (c6 : symB (stg (fm n)) n m s = true) :
    Calls Tryz.prog 86 #[.agg #[.int .i64 n, .int .i64 d, .int .i64 a, .int .i64 b, .int .i64 m, .string s]] w (IntBelow 0 w) := by
  have T := Lib.hid H
  clear H
  have hd : decide (m < slo (fm n)) = false := by simp; omega
  have hd2 : decide (shi (fm n) < m) = false := by simp; omega
  go_enter Tryz.func86, Tryz.ntmps86
  go_wp2_with (go_at_call 101; refine (isOp_yes _ _ h).mono ?_; rintro e w' ⟨rfl, rfl⟩)
  refine (shape_any _ _ h (T.out.alloc _)).mono ?_
  rintro e w1 ⟨rfl, hb⟩
  obtain ⟨q, hz, hB⟩ := box_cells hb
  have k1 : w1.cell? ⟨w.heap.size, 1, none⟩ = some (.int .i64 d) := q 1
  have k2 : w1.cell? ⟨w.heap.size, 2, none⟩ = some (.int .i64 a) := q 2
  have k3 : w1.cell? ⟨w.heap.size, 3, none⟩ = some (.int .i64 b) := q 3
  have k4 : w1.cell? ⟨w.heap.size, 4, none⟩ = some (.int .i64 m) := q 4
  have k5 : w1.cell? ⟨w.heap.size, 5, none⟩ = some (.string s) := q 5
  have k0 : w1.cell? ⟨w.heap.size, 0, none⟩ = some (.int .i64 n) := q 0
  have HB := Lib.hid hB
  clear q hb hB
  go_wp2_with (first | (go_at_call 102; refine (fits_any _ _ _).mono ?_; rintro e w' ⟨rfl, rfl⟩) | (go_at_call 103; refine (sym_any _ _ _ _ _ _ _ _ _ _ _ _ _ hs).mono ?_; rintro e w2 ⟨rfl, hb2⟩))
  go_ret
  exact ⟨rfl, (HB.out.alloc (by omega) _).trans (hb2.mono (by simp; omega))⟩

theorem check_any (n : Nat) (d a b m : Int) (s : ByteArray) (w : World) (h : n < 34) (H : Tab w) (hs : s.size ≤ maxLen) :
    Calls Tryz.prog 86 #[.agg #[.int .i64 n, .int .i64 d, .int .i64 a, .int .i64 b, .int .i64 m, .string s]] w (IntBelow (if chkB n d a b m s then 0 else 1) w) := by
  unfold chkB
  cases c1 : fitsB (sd (fm n)) d
  · exact check_d n d a b m s w h H hs c1
  cases c2 : fitsB (sa (fm n)) a
  · exact check_a n d a b m s w h H hs c1 c2
  cases c3 : fitsB (sb (fm n)) b
  · exact check_b n d a b m s w h H hs c1 c2 c3
  by_cases c4 : slo (fm n) ≤ m
  · by_cases c5 : m ≤ shi (fm n)
    · cases c6 : symB (stg (fm n)) n m s
      · simpa [c4, c5] using check_s n d a b m s w h H hs c1 c2 c3 c4 c5 c6
      · simpa [c4, c5] using check_ok n d a b m s w h H hs c1 c2 c3 c4 c5 c6
    · simpa [c4, c5] using check_hi n d a b m s w h H hs c1 c2 c3 c4 (by omega)
  · simpa [c4] using check_lo n d a b m s w h H hs c1 c2 c3 (by omega)
theorem check_no (o d a b m : Int) (s : ByteArray) (w : World) (h : o < 0 ∨ 33 < o) : Calls Tryz.prog 86 #[.agg #[.int .i64 o, .int .i64 d, .int .i64 a, .int .i64 b, .int .i64 m, .string s]] w (IntBelow 1 w) := by
  have H := Lib.hid h
  clear h
  go_enter Tryz.func86, Tryz.ntmps86
  go_wp2_with (go_at_call 101; refine (isOp_no _ _ H.out).mono ?_; rintro e w' ⟨rfl, rfl⟩)
  go_ret
  exact ⟨rfl, below_new _ _⟩
end Go.Proofs.YtbgmdikcbglpiaaGreatDoor
