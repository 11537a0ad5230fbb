/-
  Whether an instruction may be, as the page tells; and that the program tells the same. Conditions: the name is no longer than a string may be.
-/
import Derived.Test.YtbgmdikcbglpiaaGreatDoorCheckIns
namespace Go.Proofs.YtbgmdikcbglpiaaGreatDoor
open Go.RowKit

theorem quietBN {P : Program} {f : FuncId} {args : Array Value} {b : Bool} (h : ∀ W : World, Calls P f args W (BoolPost b W)) (w : World) (a n : Nat) :
    Calls P f args (w.drewN (a + n)) fun e w'' => e = .returned (.bool b) ∧ ∃ m, w'' = w.drewN (a + m) := (h _).mono fun _ _ ⟨he, hm⟩ => ⟨he, n, hm.symm⟩
theorem quietIN {P : Program} {f : FuncId} {args : Array Value} {x : Int} (h : ∀ W : World, Calls P f args W (IntPost x W)) (w : World) (a n : Nat) :
    Calls P f args (w.drewN (a + n)) fun e w'' => e = .returned (.int .i64 x) ∧ ∃ m, w'' = w.drewN (a + m) := (h _).mono fun _ _ ⟨he, hm⟩ => ⟨he, n, hm.symm⟩
theorem bits_at (f : Nat) (x : Int) (w : World) (h : f < 10) (e : bt f = x) : Calls Tryz.prog 111 #[.int .i64 f] w (IntPost x w) := by subst e; exact bits_any f w h

/-- The Imm of an instruction without a Sym, as the page has it. -/
def immB (f : Nat) (m : Int) : Bool := if stg f then numB m 1023 else if 0 < bt f then wideB m (if bt f = 14 then 8192 else 131072) else decide (m = 0)
/-- With a Sym. -/
def symR (f n : Nat) (m : Int) (s : ByteArray) : Bool := nameB s && ((decide ((n : Int) = 23) && wideB m 131072) || (stg f && decide (m = 0)))
def restB (n : Nat) (m : Int) (s : ByteArray) : Bool := if s.size = 0 then immB (fm n) m else symR (fm n) n m s
def insB (n : Nat) (d a b m : Int) (s : ByteArray) : Bool :=
  fitsB (sd (fm n)) d && fitsB (sa (fm n)) a && fitsB (sb (fm n)) b && restB n m s

set_option maxHeartbeats 1000000 in
theorem ins_d (n : Nat) (d a b m : Int) (s : ByteArray) (w : World) (h : n < 34) (c1 : fitsB (sd (fm n)) d = false) : Calls Tryz.prog 89 #[.agg #[.int .i64 n, .int .i64 d, .int .i64 a, .int .i64 b, .int .i64 m, .string s]] w (BoolBelow false w) := by
  have hf := fm_lt h
  go_enter Tryz.func89, Tryz.ntmps89
  go_wp2_with (go_at_call 31; refine (valid_yes _ _ h).mono ?_; rintro e w' ⟨rfl, rfl⟩)
  refine (rform_any _ _ h).mono ?_
  rintro e w1 ⟨rfl, hb⟩
  obtain ⟨q, hz, hB⟩ := box_cells hb
  have k0 : w1.cell? ⟨w.heap.size, 0, none⟩ = some (.int .i64 n) := q 0
  have k1 : w1.cell? ⟨w.heap.size, 1, none⟩ = some (.int .i64 d) := q 1
  have k2 : w1.cell? ⟨w.heap.size, 2, none⟩ = some (.int .i64 a) := q 2
  have k3 : w1.cell? ⟨w.heap.size, 3, none⟩ = some (.int .i64 b) := q 3
  have k4 : w1.cell? ⟨w.heap.size, 4, none⟩ = some (.int .i64 m) := q 4
  have k5 : w1.cell? ⟨w.heap.size, 5, none⟩ = some (.string s) := q 5
  have HB := Lib.hid hB
  clear q hb hB
  go_wp2_with fail
  go_quiet ((first | (go_at_call 33; exact quietB (fun W => hasD_any _ W hf) _ _) | (go_at_call 91; exact quietB (fun W => hasA_any _ W hf) _ _) | (go_at_call 92; exact quietB (fun W => hasB_any _ W hf) _ _) | (go_at_call 107; exact quietB (fun W => reg_any _ _ W) _ _)))
  go_wp2
  go_ret
  exact ⟨rfl, below_drewN HB.out _⟩
set_option maxHeartbeats 1000000 in
theorem ins_a (n : Nat) (d a b m : Int) (s : ByteArray) (w : World) (h : n < 34) (c1 : fitsB (sd (fm n)) d = true) (c2 : fitsB (sa (fm n)) a = false) : Calls Tryz.prog 89 #[.agg #[.int .i64 n, .int .i64 d, .int .i64 a, .int .i64 b, .int .i64 m, .string s]] w (BoolBelow false w) := by
  have hf := fm_lt h
  go_enter Tryz.func89, Tryz.ntmps89
  go_wp2_with (go_at_call 31; refine (valid_yes _ _ h).mono ?_; rintro e w' ⟨rfl, rfl⟩)
  refine (rform_any _ _ h).mono ?_
  rintro e w1 ⟨rfl, hb⟩
  obtain ⟨q, hz, hB⟩ := box_cells hb
  have k0 : w1.cell? ⟨w.heap.size, 0, none⟩ = some (.int .i64 n) := q 0
  have k1 : w1.cell? ⟨w.heap.size, 1, none⟩ = some (.int .i64 d) := q 1
  have k2 : w1.cell? ⟨w.heap.size, 2, none⟩ = some (.int .i64 a) := q 2
  have k3 : w1.cell? ⟨w.heap.size, 3, none⟩ = some (.int .i64 b) := q 3
  have k4 : w1.cell? ⟨w.heap.size, 4, none⟩ = some (.int .i64 m) := q 4
  have k5 : w1.cell? ⟨w.heap.size, 5, none⟩ = some (.string s) := q 5
  have HB := Lib.hid hB
  clear q hb hB
  go_wp2_with fail
  go_quiet ((first | (go_at_call 33; exact quietB (fun W => hasD_any _ W hf) _ _) | (go_at_call 91; exact quietB (fun W => hasA_any _ W hf) _ _) | (go_at_call 92; exact quietB (fun W => hasB_any _ W hf) _ _) | (go_at_call 107; exact quietB (fun W => reg_any _ _ W) _ _)))
  go_wp2
  go_ret
  exact ⟨rfl, below_drewN HB.out _⟩
set_option maxHeartbeats 1000000 in
theorem ins_b (n : Nat) (d a b m : Int) (s : ByteArray) (w : World) (h : n < 34) (c1 : fitsB (sd (fm n)) d = true) (c2 : fitsB (sa (fm n)) a = true) (c3 : fitsB (sb (fm n)) b = false) : Calls Tryz.prog 89 #[.agg #[.int .i64 n, .int .i64 d, .int .i64 a, .int .i64 b, .int .i64 m, .string s]] w (BoolBelow false w) := by
  have hf := fm_lt h
  go_enter Tryz.func89, Tryz.ntmps89
  go_wp2_with (go_at_call 31; refine (valid_yes _ _ h).mono ?_; rintro e w' ⟨rfl, rfl⟩)
  refine (rform_any _ _ h).mono ?_
  rintro e w1 ⟨rfl, hb⟩
  obtain ⟨q, hz, hB⟩ := box_cells hb
  have k0 : w1.cell? ⟨w.heap.size, 0, none⟩ = some (.int .i64 n) := q 0
  have k1 : w1.cell? ⟨w.heap.size, 1, none⟩ = some (.int .i64 d) := q 1
  have k2 : w1.cell? ⟨w.heap.size, 2, none⟩ = some (.int .i64 a) := q 2
  have k3 : w1.cell? ⟨w.heap.size, 3, none⟩ = some (.int .i64 b) := q 3
  have k4 : w1.cell? ⟨w.heap.size, 4, none⟩ = some (.int .i64 m) := q 4
  have k5 : w1.cell? ⟨w.heap.size, 5, none⟩ = some (.string s) := q 5
  have HB := Lib.hid hB
  clear q hb hB
  go_wp2_with fail
  go_quiet ((first | (go_at_call 33; exact quietB (fun W => hasD_any _ W hf) _ _) | (go_at_call 91; exact quietB (fun W => hasA_any _ W hf) _ _) | (go_at_call 92; exact quietB (fun W => hasB_any _ W hf) _ _) | (go_at_call 107; exact quietB (fun W => reg_any _ _ W) _ _)))
  go_wp2
  go_ret
  exact ⟨rfl, below_drewN HB.out _⟩
set_option maxHeartbeats 1000000 in
theorem ins_tg (n : Nat) (d a b m : Int) (s : ByteArray) (w : World) (h : n < 34) (c1 : fitsB (sd (fm n)) d = true) (c2 : fitsB (sa (fm n)) a = true) (c3 : fitsB (sb (fm n)) b = true) (h0 : s.size = 0) (ht : stg (fm n) = true) : Calls Tryz.prog 89 #[.agg #[.int .i64 n, .int .i64 d, .int .i64 a, .int .i64 b, .int .i64 m, .string s]] w (BoolBelow (numB m 1023) w) := by
  have hf := fm_lt h
  have e := empty_of h0
  subst e
  clear h0
  go_enter Tryz.func89, Tryz.ntmps89
  go_wp2_with (go_at_call 31; refine (valid_yes _ _ h).mono ?_; rintro e w' ⟨rfl, rfl⟩)
  refine (rform_any _ _ h).mono ?_
  rintro e w1 ⟨rfl, hb⟩
  obtain ⟨q, hz, hB⟩ := box_cells hb
  have k0 : w1.cell? ⟨w.heap.size, 0, none⟩ = some (.int .i64 n) := q 0
  have k1 : w1.cell? ⟨w.heap.size, 1, none⟩ = some (.int .i64 d) := q 1
  have k2 : w1.cell? ⟨w.heap.size, 2, none⟩ = some (.int .i64 a) := q 2
  have k3 : w1.cell? ⟨w.heap.size, 3, none⟩ = some (.int .i64 b) := q 3
  have k4 : w1.cell? ⟨w.heap.size, 4, none⟩ = some (.int .i64 m) := q 4
  have k5 : w1.cell? ⟨w.heap.size, 5, none⟩ = some (.string ⟨#[]⟩) := q 5
  have HB := Lib.hid hB
  clear q hb hB
  go_wp2_with fail
  go_quiet ((first | (go_at_call 33; exact quietB (fun W => hasD_any _ W hf) _ _) | (go_at_call 91; exact quietB (fun W => hasA_any _ W hf) _ _) | (go_at_call 92; exact quietB (fun W => hasB_any _ W hf) _ _) | (go_at_call 107; exact quietB (fun W => reg_any _ _ W) _ _)))
  go_wp2_with (first | (go_at_call 110; refine (target_any _ _ hf).mono ?_; rintro e w' ⟨rfl, rfl⟩) | (go_at_call 17; refine (nu_any _ _ _).mono ?_; rintro e w' ⟨rfl, rfl⟩))
  go_ret
  exact ⟨rfl, below_drewN HB.out _⟩
set_option maxHeartbeats 1000000 in
theorem ins_im (n : Nat) (d a b m : Int) (s : ByteArray) (w : World) (h : n < 34) (c1 : fitsB (sd (fm n)) d = true) (c2 : fitsB (sa (fm n)) a = true) (c3 : fitsB (sb (fm n)) b = true) (h0 : s.size = 0) (ht : stg (fm n) = false) (hb0 : bt (fm n) = 0) : Calls Tryz.prog 89 #[.agg #[.int .i64 n, .int .i64 d, .int .i64 a, .int .i64 b, .int .i64 m, .string s]] w (BoolBelow (decide (m = 0)) w) := by
  have hf := fm_lt h
  have e := empty_of h0
  subst e
  clear h0
  go_enter Tryz.func89, Tryz.ntmps89
  go_wp2_with (go_at_call 31; refine (valid_yes _ _ h).mono ?_; rintro e w' ⟨rfl, rfl⟩)
  refine (rform_any _ _ h).mono ?_
  rintro e w1 ⟨rfl, hb⟩
  obtain ⟨q, hz, hB⟩ := box_cells hb
  have k0 : w1.cell? ⟨w.heap.size, 0, none⟩ = some (.int .i64 n) := q 0
  have k1 : w1.cell? ⟨w.heap.size, 1, none⟩ = some (.int .i64 d) := q 1
  have k2 : w1.cell? ⟨w.heap.size, 2, none⟩ = some (.int .i64 a) := q 2
  have k3 : w1.cell? ⟨w.heap.size, 3, none⟩ = some (.int .i64 b) := q 3
  have k4 : w1.cell? ⟨w.heap.size, 4, none⟩ = some (.int .i64 m) := q 4
  have k5 : w1.cell? ⟨w.heap.size, 5, none⟩ = some (.string ⟨#[]⟩) := q 5
  have HB := Lib.hid hB
  clear q hb hB
  go_wp2_with fail
  go_quiet ((first | (go_at_call 33; exact quietB (fun W => hasD_any _ W hf) _ _) | (go_at_call 91; exact quietB (fun W => hasA_any _ W hf) _ _) | (go_at_call 92; exact quietB (fun W => hasB_any _ W hf) _ _) | (go_at_call 107; exact quietB (fun W => reg_any _ _ W) _ _)))
  go_wp2_with (first | (go_at_call 110; refine (target_any _ _ hf).mono ?_; rintro e w' ⟨rfl, rfl⟩) | (go_at_call 111; refine (bits_any _ _ hf).mono ?_; rintro e w' ⟨rfl, rfl⟩))
  go_ret
  exact boolb_mk rfl (below_drewN HB.out _)
set_option maxHeartbeats 1000000 in
theorem ins_w14 (n : Nat) (d a b m : Int) (s : ByteArray) (w : World) (h : n < 34) (c1 : fitsB (sd (fm n)) d = true) (c2 : fitsB (sa (fm n)) a = true) (c3 : fitsB (sb (fm n)) b = true) (h0 : s.size = 0) (ht : stg (fm n) = false) (hb0 : bt (fm n) = 14) : Calls Tryz.prog 89 #[.agg #[.int .i64 n, .int .i64 d, .int .i64 a, .int .i64 b, .int .i64 m, .string s]] w (BoolBelow (wideB m 8192) w) := by
  have hf := fm_lt h
  have e := empty_of h0
  subst e
  have BT := Lib.hid (fun W => bits_at (fm n) 14 W hf hb0)
  clear h0 hb0
  go_enter Tryz.func89, Tryz.ntmps89
  go_wp2_with (go_at_call 31; refine (valid_yes _ _ h).mono ?_; rintro e w' ⟨rfl, rfl⟩)
  refine (rform_any _ _ h).mono ?_
  rintro e w1 ⟨rfl, hb⟩
  obtain ⟨q, hz, hB⟩ := box_cells hb
  have k0 : w1.cell? ⟨w.heap.size, 0, none⟩ = some (.int .i64 n) := q 0
  have k1 : w1.cell? ⟨w.heap.size, 1, none⟩ = some (.int .i64 d) := q 1
  have k2 : w1.cell? ⟨w.heap.size, 2, none⟩ = some (.int .i64 a) := q 2
  have k3 : w1.cell? ⟨w.heap.size, 3, none⟩ = some (.int .i64 b) := q 3
  have k4 : w1.cell? ⟨w.heap.size, 4, none⟩ = some (.int .i64 m) := q 4
  have k5 : w1.cell? ⟨w.heap.size, 5, none⟩ = some (.string ⟨#[]⟩) := q 5
  have HB := Lib.hid hB
  clear q hb hB
  go_wp2_with fail
  go_quiet ((first | (go_at_call 33; exact quietB (fun W => hasD_any _ W hf) _ _) | (go_at_call 91; exact quietB (fun W => hasA_any _ W hf) _ _) | (go_at_call 92; exact quietB (fun W => hasB_any _ W hf) _ _) | (go_at_call 107; exact quietB (fun W => reg_any _ _ W) _ _)))
  go_wp2_with (first | (go_at_call 110; refine (target_any _ _ hf).mono ?_; rintro e w' ⟨rfl, rfl⟩) | (go_at_call 111; refine (BT.out _).mono ?_; rintro e w' ⟨rfl, rfl⟩))
  go_quiet ((first | (go_at_call 111; exact quietIN BT.out _ _ _) | (go_at_call 109; exact quietBN (fun W => wide14 _ W) _ _ _)))
  go_wp2
  go_ret
  exact boolb_mk rfl (below_drewN (below_drewN HB.out _) _)
set_option maxHeartbeats 1000000 in
theorem ins_w18 (n : Nat) (d a b m : Int) (s : ByteArray) (w : World) (h : n < 34) (c1 : fitsB (sd (fm n)) d = true) (c2 : fitsB (sa (fm n)) a = true) (c3 : fitsB (sb (fm n)) b = true) (h0 : s.size = 0) (ht : stg (fm n) = false) (hb0 : bt (fm n) = 18) : Calls Tryz.prog 89 #[.agg #[.int .i64 n, .int .i64 d, .int .i64 a, .int .i64 b, .int .i64 m, .string s]] w (BoolBelow (wideB m 131072) w) := by
  have hf := fm_lt h
  have e := empty_of h0
  subst e
  have BT := Lib.hid (fun W => bits_at (fm n) 18 W hf hb0)
  clear h0 hb0
  go_enter Tryz.func89, Tryz.ntmps89
  go_wp2_with (go_at_call 31; refine (valid_yes _ _ h).mono ?_; rintro e w' ⟨rfl, rfl⟩)
  refine (rform_any _ _ h).mono ?_
  rintro e w1 ⟨rfl, hb⟩
  obtain ⟨q, hz, hB⟩ := box_cells hb
  have k0 : w1.cell? ⟨w.heap.size, 0, none⟩ = some (.int .i64 n) := q 0
  have k1 : w1.cell? ⟨w.heap.size, 1, none⟩ = some (.int .i64 d) := q 1
  have k2 : w1.cell? ⟨w.heap.size, 2, none⟩ = some (.int .i64 a) := q 2
  have k3 : w1.cell? ⟨w.heap.size, 3, none⟩ = some (.int .i64 b) := q 3
  have k4 : w1.cell? ⟨w.heap.size, 4, none⟩ = some (.int .i64 m) := q 4
  have k5 : w1.cell? ⟨w.heap.size, 5, none⟩ = some (.string ⟨#[]⟩) := q 5
  have HB := Lib.hid hB
  clear q hb hB
  go_wp2_with fail
  go_quiet ((first | (go_at_call 33; exact quietB (fun W => hasD_any _ W hf) _ _) | (go_at_call 91; exact quietB (fun W => hasA_any _ W hf) _ _) | (go_at_call 92; exact quietB (fun W => hasB_any _ W hf) _ _) | (go_at_call 107; exact quietB (fun W => reg_any _ _ W) _ _)))
  go_wp2_with (first | (go_at_call 110; refine (target_any _ _ hf).mono ?_; rintro e w' ⟨rfl, rfl⟩) | (go_at_call 111; refine (BT.out _).mono ?_; rintro e w' ⟨rfl, rfl⟩))
  go_quiet ((first | (go_at_call 111; exact quietIN BT.out _ _ _) | (go_at_call 109; exact quietBN (fun W => wide18 _ W) _ _ _)))
  go_wp2
  go_ret
  exact boolb_mk rfl (below_drewN (below_drewN HB.out _) _)
set_option maxHeartbeats 1000000 in
theorem ins_noname (n : Nat) (d a b m : Int) (s : ByteArray) (w : World) (h : n < 34) (c1 : fitsB (sd (fm n)) d = true) (c2 : fitsB (sa (fm n)) a = true) (c3 : fitsB (sb (fm n)) b = true) (hs : s.size ≤ maxLen) (hp : 0 < s.size) (hn : nameB s = false) : Calls Tryz.prog 89 #[.agg #[.int .i64 n, .int .i64 d, .int .i64 a, .int .i64 b, .int .i64 m, .string s]] w (BoolBelow false w) := by
  have hf := fm_lt h
  have hn1 := toList_ne hp
  have hn2 := isEmpty_ne hp
  have NM := Lib.hid (fun W => rname_any s W hs)
  go_enter Tryz.func89, Tryz.ntmps89
  go_wp2_with (go_at_call 31; refine (valid_yes _ _ h).mono ?_; rintro e w' ⟨rfl, rfl⟩)
  refine (rform_any _ _ h).mono ?_
  rintro e w1 ⟨rfl, hb⟩
  obtain ⟨q, hz, hB⟩ := box_cells hb
  have k0 : w1.cell? ⟨w.heap.size, 0, none⟩ = some (.int .i64 n) := q 0
  have k1 : w1.cell? ⟨w.heap.size, 1, none⟩ = some (.int .i64 d) := q 1
  have k2 : w1.cell? ⟨w.heap.size, 2, none⟩ = some (.int .i64 a) := q 2
  have k3 : w1.cell? ⟨w.heap.size, 3, none⟩ = some (.int .i64 b) := q 3
  have k4 : w1.cell? ⟨w.heap.size, 4, none⟩ = some (.int .i64 m) := q 4
  have k5 : w1.cell? ⟨w.heap.size, 5, none⟩ = some (.string s) := q 5
  have HB := Lib.hid hB
  clear q hb hB
  go_wp2_with fail
  go_quiet ((first | (go_at_call 33; exact quietB (fun W => hasD_any _ W hf) _ _) | (go_at_call 91; exact quietB (fun W => hasA_any _ W hf) _ _) | (go_at_call 92; exact quietB (fun W => hasB_any _ W hf) _ _) | (go_at_call 107; exact quietB (fun W => reg_any _ _ W) _ _)))
  go_wp2_with (first | (go_at_call 108; refine (NM.out _).mono ?_; rintro e w' ⟨rfl, rfl⟩) | (go_at_call 109; refine (wide18 _ _).mono ?_; rintro e w' ⟨rfl, rfl⟩) | (go_at_call 110; refine (target_any _ _ hf).mono ?_; rintro e w' ⟨rfl, rfl⟩))
  go_ret
  exact boolb_mk rfl (below_drewN HB.out _)
set_option maxHeartbeats 1000000 in
theorem ins_li (n : Nat) (d a b m : Int) (s : ByteArray) (w : World) (h : n < 34) (c1 : fitsB (sd (fm n)) d = true) (c2 : fitsB (sa (fm n)) a = true) (c3 : fitsB (sb (fm n)) b = true) (hs : s.size ≤ maxLen) (hp : 0 < s.size) (hn : nameB s = true) (h23 : n = 23) (hw : wideB m 131072 = true) : Calls Tryz.prog 89 #[.agg #[.int .i64 n, .int .i64 d, .int .i64 a, .int .i64 b, .int .i64 m, .string s]] w (BoolBelow true w) := by
  have hf := fm_lt h
  have hn1 := toList_ne hp
  have hn2 := isEmpty_ne hp
  have NM := Lib.hid (fun W => rname_any s W hs)
  subst h23
  go_enter Tryz.func89, Tryz.ntmps89
  go_wp2_with (go_at_call 31; refine (valid_yes _ _ h).mono ?_; rintro e w' ⟨rfl, rfl⟩)
  refine (rform_any _ _ h).mono ?_
  rintro e w1 ⟨rfl, hb⟩
  obtain ⟨q, hz, hB⟩ := box_cells hb
  have k0 : w1.cell? ⟨w.heap.size, 0, none⟩ = some (.int .i64 23) := q 0
  have k1 : w1.cell? ⟨w.heap.size, 1, none⟩ = some (.int .i64 d) := q 1
  have k2 : w1.cell? ⟨w.heap.size, 2, none⟩ = some (.int .i64 a) := q 2
  have k3 : w1.cell? ⟨w.heap.size, 3, none⟩ = some (.int .i64 b) := q 3
  have k4 : w1.cell? ⟨w.heap.size, 4, none⟩ = some (.int .i64 m) := q 4
  have k5 : w1.cell? ⟨w.heap.size, 5, none⟩ = some (.string s) := q 5
  have HB := Lib.hid hB
  clear q hb hB
  go_wp2_with fail
  go_quiet ((first | (go_at_call 33; exact quietB (fun W => hasD_any _ W hf) _ _) | (go_at_call 91; exact quietB (fun W => hasA_any _ W hf) _ _) | (go_at_call 92; exact quietB (fun W => hasB_any _ W hf) _ _) | (go_at_call 107; exact quietB (fun W => reg_any _ _ W) _ _)))
  go_wp2_with (first | (go_at_call 108; refine (NM.out _).mono ?_; rintro e w' ⟨rfl, rfl⟩) | (go_at_call 109; refine (wide18 _ _).mono ?_; rintro e w' ⟨rfl, rfl⟩) | (go_at_call 110; refine (target_any _ _ hf).mono ?_; rintro e w' ⟨rfl, rfl⟩))
  go_ret
  exact boolb_mk rfl (below_drewN HB.out _)
set_option maxHeartbeats 1000000 in
theorem ins_linot (n : Nat) (d a b m : Int) (s : ByteArray) (w : World) (h : n < 34) (c1 : fitsB (sd (fm n)) d = true) (c2 : fitsB (sa (fm n)) a = true) (c3 : fitsB (sb (fm n)) b = true) (hs : s.size ≤ maxLen) (hp : 0 < s.size) (hn : nameB s = true) (h23 : n = 23) (hw : wideB m 131072 = false) : Calls Tryz.prog 89 #[.agg #[.int .i64 n, .int .i64 d, .int .i64 a, .int .i64 b, .int .i64 m, .string s]] w (BoolBelow false w) := by
  have hf := fm_lt h
  have hn1 := toList_ne hp
  have hn2 := isEmpty_ne hp
  have NM := Lib.hid (fun W => rname_any s W hs)
  subst h23
  have ht : stg (fm 23) = false := by decide
  go_enter Tryz.func89, Tryz.ntmps89
  go_wp2_with (go_at_call 31; refine (valid_yes _ _ h).mono ?_; rintro e w' ⟨rfl, rfl⟩)
  refine (rform_any _ _ h).mono ?_
  rintro e w1 ⟨rfl, hb⟩
  obtain ⟨q, hz, hB⟩ := box_cells hb
  have k0 : w1.cell? ⟨w.heap.size, 0, none⟩ = some (.int .i64 23) := q 0
  have k1 : w1.cell? ⟨w.heap.size, 1, none⟩ = some (.int .i64 d) := q 1
  have k2 : w1.cell? ⟨w.heap.size, 2, none⟩ = some (.int .i64 a) := q 2
  have k3 : w1.cell? ⟨w.heap.size, 3, none⟩ = some (.int .i64 b) := q 3
  have k4 : w1.cell? ⟨w.heap.size, 4, none⟩ = some (.int .i64 m) := q 4
  have k5 : w1.cell? ⟨w.heap.size, 5, none⟩ = some (.string s) := q 5
  have HB := Lib.hid hB
  clear q hb hB
  go_wp2_with fail
  go_quiet ((first | (go_at_call 33; exact quietB (fun W => hasD_any _ W hf) _ _) | (go_at_call 91; exact quietB (fun W => hasA_any _ W hf) _ _) | (go_at_call 92; exact quietB (fun W => hasB_any _ W hf) _ _) | (go_at_call 107; exact quietB (fun W => reg_any _ _ W) _ _)))
  go_wp2_with (first | (go_at_call 108; refine (NM.out _).mono ?_; rintro e w' ⟨rfl, rfl⟩) | (go_at_call 109; refine (wide18 _ _).mono ?_; rintro e w' ⟨rfl, rfl⟩) | (go_at_call 110; refine (target_any _ _ hf).mono ?_; rintro e w' ⟨rfl, rfl⟩))
  go_ret
  exact boolb_mk rfl (below_drewN HB.out _)
set_option maxHeartbeats 1000000 in
theorem ins_st (n : Nat) (d a b m : Int) (s : ByteArray) (w : World) (h : n < 34) (c1 : fitsB (sd (fm n)) d = true) (c2 : fitsB (sa (fm n)) a = true) (c3 : fitsB (sb (fm n)) b = true) (hs : s.size ≤ maxLen) (hp : 0 < s.size) (hn : nameB s = true) (h23 : n ≠ 23) (ht : stg (fm n) = true) : Calls Tryz.prog 89 #[.agg #[.int .i64 n, .int .i64 d, .int .i64 a, .int .i64 b, .int .i64 m, .string s]] w (BoolBelow (decide (m = 0)) w) := by
  have hf := fm_lt h
  have hn1 := toList_ne hp
  have hn2 := isEmpty_ne hp
  have NM := Lib.hid (fun W => rname_any s W hs)
  have hq : ((n : Int) == 23) = false := by rw [beq_eq_false_iff_ne]; omega
  clear h23
  go_enter Tryz.func89, Tryz.ntmps89
  go_wp2_with (go_at_call 31; refine (valid_yes _ _ h).mono ?_; rintro e w' ⟨rfl, rfl⟩)
  refine (rform_any _ _ h).mono ?_
  rintro e w1 ⟨rfl, hb⟩
  obtain ⟨q, hz, hB⟩ := box_cells hb
  have k0 : w1.cell? ⟨w.heap.size, 0, none⟩ = some (.int .i64 n) := q 0
  have k1 : w1.cell? ⟨w.heap.size, 1, none⟩ = some (.int .i64 d) := q 1
  have k2 : w1.cell? ⟨w.heap.size, 2, none⟩ = some (.int .i64 a) := q 2
  have k3 : w1.cell? ⟨w.heap.size, 3, none⟩ = some (.int .i64 b) := q 3
  have k4 : w1.cell? ⟨w.heap.size, 4, none⟩ = some (.int .i64 m) := q 4
  have k5 : w1.cell? ⟨w.heap.size, 5, none⟩ = some (.string s) := q 5
  have HB := Lib.hid hB
  clear q hb hB
  go_wp2_with fail
  go_quiet ((first | (go_at_call 33; exact quietB (fun W => hasD_any _ W hf) _ _) | (go_at_call 91; exact quietB (fun W => hasA_any _ W hf) _ _) | (go_at_call 92; exact quietB (fun W => hasB_any _ W hf) _ _) | (go_at_call 107; exact quietB (fun W => reg_any _ _ W) _ _)))
  go_wp2_with (first | (go_at_call 108; refine (NM.out _).mono ?_; rintro e w' ⟨rfl, rfl⟩) | (go_at_call 109; refine (wide18 _ _).mono ?_; rintro e w' ⟨rfl, rfl⟩) | (go_at_call 110; refine (target_any _ _ hf).mono ?_; rintro e w' ⟨rfl, rfl⟩))
  go_ret
  exact boolb_mk rfl (below_drewN HB.out _)
set_option maxHeartbeats 1000000 in
theorem ins_sn (n : Nat) (d a b m : Int) (s : ByteArray) (w : World) (h : n < 34) (c1 : fitsB (sd (fm n)) d = true) (c2 : fitsB (sa (fm n)) a = true) (c3 : fitsB (sb (fm n)) b = true) (hs : s.size ≤ maxLen) (hp : 0 < s.size) (hn : nameB s = true) (h23 : n ≠ 23) (ht : stg (fm n) = false) : Calls Tryz.prog 89 #[.agg #[.int .i64 n, .int .i64 d, .int .i64 a, .int .i64 b, .int .i64 m, .string s]] w (BoolBelow false w) := by
  have hf := fm_lt h
  have hn1 := toList_ne hp
  have hn2 := isEmpty_ne hp
  have NM := Lib.hid (fun W => rname_any s W hs)
  have hq : ((n : Int) == 23) = false := by rw [beq_eq_false_iff_ne]; omega
  clear h23
  go_enter Tryz.func89, Tryz.ntmps89
  go_wp2_with (go_at_call 31; refine (valid_yes _ _ h).mono ?_; rintro e w' ⟨rfl, rfl⟩)
  refine (rform_any _ _ h).mono ?_
  rintro e w1 ⟨rfl, hb⟩
  obtain ⟨q, hz, hB⟩ := box_cells hb
  have k0 : w1.cell? ⟨w.heap.size, 0, none⟩ = some (.int .i64 n) := q 0
  have k1 : w1.cell? ⟨w.heap.size, 1, none⟩ = some (.int .i64 d) := q 1
  have k2 : w1.cell? ⟨w.heap.size, 2, none⟩ = some (.int .i64 a) := q 2
  have k3 : w1.cell? ⟨w.heap.size, 3, none⟩ = some (.int .i64 b) := q 3
  have k4 : w1.cell? ⟨w.heap.size, 4, none⟩ = some (.int .i64 m) := q 4
  have k5 : w1.cell? ⟨w.heap.size, 5, none⟩ = some (.string s) := q 5
  have HB := Lib.hid hB
  clear q hb hB
  go_wp2_with fail
  go_quiet ((first | (go_at_call 33; exact quietB (fun W => hasD_any _ W hf) _ _) | (go_at_call 91; exact quietB (fun W => hasA_any _ W hf) _ _) | (go_at_call 92; exact quietB (fun W => hasB_any _ W hf) _ _) | (go_at_call 107; exact quietB (fun W => reg_any _ _ W) _ _)))
  go_wp2_with (first | (go_at_call 108; refine (NM.out _).mono ?_; rintro e w' ⟨rfl, rfl⟩) | (go_at_call 109; refine (wide18 _ _).mono ?_; rintro e w' ⟨rfl, rfl⟩) | (go_at_call 110; refine (target_any _ _ hf).mono ?_; rintro e w' ⟨rfl, rfl⟩))
  go_ret
  exact boolb_mk rfl (below_drewN HB.out _)

theorem form_kinds : ∀ f : Fin 10, stg f.1 = true ∨ (stg f.1 = false ∧ (bt f.1 = 0 ∨ bt f.1 = 14 ∨ bt f.1 = 18)) := by decide
theorem rest_imm {n : Nat} {m : Int} {s : ByteArray} (h0 : s.size = 0) : restB n m s = immB (fm n) m := by unfold restB; rw [if_pos h0]
theorem rest_sym {n : Nat} {m : Int} {s : ByteArray} (h0 : ¬ s.size = 0) : restB n m s = symR (fm n) n m s := by unfold restB; rw [if_neg h0]
theorem ins_any (n : Nat) (d a b m : Int) (s : ByteArray) (w : World) (h : n < 34) (hs : s.size ≤ maxLen) : Calls Tryz.prog 89 #[.agg #[.int .i64 n, .int .i64 d, .int .i64 a, .int .i64 b, .int .i64 m, .string s]] w (BoolBelow (insB n d a b m s) w) := by
  unfold insB
  cases c1 : fitsB (sd (fm n)) d
  · exact ins_d n d a b m s w h c1
  cases c2 : fitsB (sa (fm n)) a
  · exact ins_a n d a b m s w h c1 c2
  cases c3 : fitsB (sb (fm n)) b
  · exact ins_b n d a b m s w h c1 c2 c3
  simp only [Bool.true_and]
  by_cases h0 : s.size = 0
  · rw [rest_imm h0]
    unfold immB
    rcases form_kinds ⟨fm n, fm_lt h⟩ with ht | ⟨ht, hb | hb | hb⟩
    · have := ins_tg n d a b m s w h c1 c2 c3 h0 ht; simpa [ht] using this
    · have := ins_im n d a b m s w h c1 c2 c3 h0 ht hb; simpa [ht, hb] using this
    · have := ins_w14 n d a b m s w h c1 c2 c3 h0 ht hb; simpa [ht, hb] using this
    · have := ins_w18 n d a b m s w h c1 c2 c3 h0 ht hb; simpa [ht, hb] using this
  · rw [rest_sym h0]
    have hp : 0 < s.size := by omega
    unfold symR
    cases hn : nameB s
    · exact ins_noname n d a b m s w h c1 c2 c3 hs hp hn
    by_cases h23 : n = 23
    · have e : stg (fm n) = false := by subst h23; decide
      cases hw : wideB m 131072
      · have := ins_linot n d a b m s w h c1 c2 c3 hs hp hn h23 hw; simpa [e] using this
      · have := ins_li n d a b m s w h c1 c2 c3 hs hp hn h23 hw; simpa [h23] using this
    · have hq : ¬ (n : Int) = 23 := by omega
      cases ht : stg (fm n)
      · have := ins_sn n d a b m s w h c1 c2 c3 hs hp hn h23 ht; simpa [hq] using this
      · have := ins_st n d a b m s w h c1 c2 c3 hs hp hn h23 ht; simpa [hq] using this
theorem ins_no (o d a b m : Int) (s : ByteArray) (w : World) (h : o < 0 ∨ 33 < o) : Calls Tryz.prog 89 #[.agg #[.int .i64 o, .int .i64 d, .int .i64 a, .int .i64 b, .int .i64 m, .string s]] w (BoolBelow false w) := by
  have H := Lib.hid h
  clear h
  go_enter Tryz.func89, Tryz.ntmps89
  go_wp2_with (go_at_call 31; refine (valid_no _ _ H.out).mono ?_; rintro e w' ⟨rfl, rfl⟩)
  go_ret
  exact ⟨rfl, below_new _ _⟩

theorem op_kinds : ∀ n : Fin 34, (stg (fm n.1) = false ∧ slo (fm n.1) = 0 ∧ shi (fm n.1) = 0 ∧ bt (fm n.1) = 0 ∧ decide (n.1 = 23) = false) ∨ (stg (fm n.1) = false ∧ slo (fm n.1) = -8192 ∧ shi (fm n.1) = 8191 ∧ bt (fm n.1) = 14 ∧ decide (n.1 = 23) = false) ∨
    (stg (fm n.1) = false ∧ slo (fm n.1) = -131072 ∧ shi (fm n.1) = 131071 ∧ bt (fm n.1) = 18 ∧ decide (n.1 = 23) = true) ∨ (stg (fm n.1) = true ∧ slo (fm n.1) = 0 ∧ shi (fm n.1) = 1023 ∧ decide (n.1 = 23) = false) := by decide
/-- Both tell the same. -/
theorem rest_same (n : Nat) (m : Int) (s : ByteArray) (h : n < 34) : (decide (slo (fm n) ≤ m) && decide (m ≤ shi (fm n)) && symB (stg (fm n)) n m s) = restB n m s := by
  have key : ∀ E M : Bool, (decide (slo (fm n) ≤ m) && decide (m ≤ shi (fm n)) && (E || (if stg (fm n) then decide (m = 0) && M else decide ((n : Int) = 23) && M))) =
      (if E = true then immB (fm n) m else M && ((decide ((n : Int) = 23) && wideB m 131072) || (stg (fm n) && decide (m = 0)))) := by
    intro E M
    rcases op_kinds ⟨n, h⟩ with ⟨h1, h2, h3, h4, h5⟩ | ⟨h1, h2, h3, h4, h5⟩ | ⟨h1, h2, h3, h4, h5⟩ | ⟨h1, h2, h3, h5⟩
    all_goals
      simp only at h1 h2 h3 h5
      have hn : decide ((n : Int) = 23) = decide (n = 23) := by rw [Bool.eq_iff_iff]; simp; omega
      rw [h1, h2, h3, hn, h5]
      unfold immB
      rw [h1]
      try rw [h4]
      cases E <;> cases M <;> rw [Bool.eq_iff_iff] <;> simp [numB, wideB] <;> omega
  have := key (decide (s.size = 0)) (nameB s)
  unfold symB restB symR
  by_cases h0 : s.size = 0
  · simpa only [h0, if_true, decide_true, decide_eq_true_eq] using this
  · simpa only [h0, if_false, decide_false, decide_eq_true_eq, Bool.false_eq_true] using this
theorem chk_ins (n : Nat) (d a b m : Int) (s : ByteArray) (h : n < 34) : chkB n d a b m s = insB n d a b m s := by
  unfold chkB insB
  rw [rest_same n m s h]
end Go.Proofs.YtbgmdikcbglpiaaGreatDoor
