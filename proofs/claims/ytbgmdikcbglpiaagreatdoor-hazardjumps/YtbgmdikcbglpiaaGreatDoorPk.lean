/-
  Contracts of the calls by which both machines tell whether a state may be. Conditions: none, but that the row of returns reads as a list.
  Contract of package pipe's isFlight, where what flies may be. Condition: the row reads as a list of results that may fly.
  Contract of package pipe's Check, where the state may be. Condition: the value reads as a state that may be.
-/
import Derived.Test.YtbgmdikcbglpiaaGreatDoorCk
import Derived.Test.YtbgmdikcbglpiaaGreatDoorCpO
namespace Go.Proofs.YtbgmdikcbglpiaaGreatDoor
open Go.RowKit

section
/-- May the state be? -/
def stB (n1 n2 n3 n6 : Nat) (tk pc stop j d : Int) (l : List Int) : Bool := szB n1 n2 n3 tk && plsB pc l && decide (0 ≤ stop) && decide (stop ≤ 5) && decide (n6 = 0) && decide (j = 0) && decide (d = 0)
set_option maxRecDepth 20000 in
set_option maxHeartbeats 2000000 in
theorem check_st (A1 A2 A3 A5 A6 : Option Addr) (n1 c1 n2 c2 n3 c3 c5 n6 c6 : Nat) (tk pc stop j d : Int) (o : Value) (l : List Int) (w : World) (h : Rd .i64 w (.slice A5 l.length c5) l) (hl : l.length ≤ 1000000) (b : Bool) (hb : stB n1 n2 n3 n6 tk pc stop j d l = b) : Calls Tryz.prog 45 #[.agg #[.slice A1 n1 c1, .slice A2 n2 c2, .slice A3 n3 c3, .int .i64 tk, o, .int .i64 pc, .slice A5 l.length c5, .int .i64 stop, .slice A6 n6 c6, .int .i64 j, .int .i64 d]] w (IntBelow (cond b 0 1) w) := by
  have R := Lib.hid h
  have C := Lib.hid (fun W b (x : Rd .i64 W (.slice A5 l.length c5) l) (hb : plsB pc l = b) => places_is A1 A2 A3 A5 A6 n1 c1 n2 c2 n3 c3 c5 n6 c6 tk pc stop j d o l W x hl b hb)
  have S := Lib.hid (fun W (n : Nat) b (hb : szB n1 n2 n3 tk = b) => sizes_is A1 A2 A3 A5 A6 n1 c1 n2 c2 n3 c3 n c5 n6 c6 tk pc stop j d o W b hb)
  have HB := Lib.hid hb
  clear hb h hl
  have X0 := Lib.hid (show BK 27 (w.alloc (.cells #[.slice A1 n1 c1, .slice A2 n2 c2, .slice A3 n3 c3, .int .i64 tk, o, .int .i64 pc, .slice A5 l.length c5, .int .i64 stop, .slice A6 n6 c6, .int .i64 j, .int .i64 d] 27)) w.heap.size #[.slice A1 n1 c1, .slice A2 n2 c2, .slice A3 n3 c3, .int .i64 tk, o, .int .i64 pc, .slice A5 l.length c5, .int .i64 stop, .slice A6 n6 c6, .int .i64 j, .int .i64 d] from heap_alloc_new w _)
  by_cases h0 : szB n1 n2 n3 tk = true
  rotate_left
  · as_aux_lemma =>
    have E := Lib.hid (show b = false by rw [← HB.out]; simp [stB, h0])
    have F0 := Lib.hid h0
    clear h0
    go_enter Tryz.func45, Tryz.ntmps45
    go_wp2_with fail
    refine (S.out _ _ false (by simpa using F0.out)).mono ?_
    rintro e w1 ⟨rfl, b1⟩
    have X1 := Lib.hid (X0.out.below b1)
    obtain ⟨q0, q1, q2, q3, q4, q5, q6, q7, q8, q9, q10⟩ := X1.out.c11
    have hl1 := X1.out.lt
    have G1 := Lib.hid ((below_new w _).trans (b1.mono (by simp)))
    clear b1
    go_wp2
    go_ret
    exact intb_mk (by rw [E.out]; rfl) G1.out
  by_cases h1 : plsB pc l = true
  rotate_left
  · as_aux_lemma =>
    have E := Lib.hid (show b = false by rw [← HB.out]; simp [stB, h1])
    have F0 := Lib.hid h0
    have F1 := Lib.hid h1
    clear h0 h1
    go_enter Tryz.func45, Tryz.ntmps45
    go_wp2_with fail
    refine (S.out _ _ true F0.out).mono ?_
    rintro e w1 ⟨rfl, b1⟩
    have X1 := Lib.hid (X0.out.below b1)
    obtain ⟨q0, q1, q2, q3, q4, q5, q6, q7, q8, q9, q10⟩ := X1.out.c11
    have hl1 := X1.out.lt
    have G1 := Lib.hid ((below_new w _).trans (b1.mono (by simp)))
    clear b1
    go_wp2_with fail
    refine (C.out _ false (R.out.below G1.out) (by simpa using F1.out)).mono ?_
    rintro e w2 ⟨rfl, b2⟩
    have X2 := Lib.hid (X1.out.below b2)
    clear q0 q1 q2 q3 q4 q5 q6 q7 q8 q9 q10
    obtain ⟨q0, q1, q2, q3, q4, q5, q6, q7, q8, q9, q10⟩ := X2.out.c11
    have hl2 := X2.out.lt
    have G2 := Lib.hid (G1.out.trans (b2.mono (by have := G1.out.size; omega)))
    clear b2
    go_wp2
    go_ret
    exact intb_mk (by rw [E.out]; rfl) G2.out
  by_cases h2 : 0 ≤ stop
  rotate_left
  · as_aux_lemma =>
    have t2 : decide (stop < 0) = true := by simp; omega
    have E := Lib.hid (show b = false by rw [← HB.out]; simp [stB, h2])
    have F0 := Lib.hid h0
    have F1 := Lib.hid h1
    clear h0 h1 h2
    go_enter Tryz.func45, Tryz.ntmps45
    go_wp2_with fail
    refine (S.out _ _ true F0.out).mono ?_
    rintro e w1 ⟨rfl, b1⟩
    have X1 := Lib.hid (X0.out.below b1)
    obtain ⟨q0, q1, q2, q3, q4, q5, q6, q7, q8, q9, q10⟩ := X1.out.c11
    have hl1 := X1.out.lt
    have G1 := Lib.hid ((below_new w _).trans (b1.mono (by simp)))
    clear b1
    go_wp2_with fail
    refine (C.out _ true (R.out.below G1.out) F1.out).mono ?_
    rintro e w2 ⟨rfl, b2⟩
    have X2 := Lib.hid (X1.out.below b2)
    clear q0 q1 q2 q3 q4 q5 q6 q7 q8 q9 q10
    obtain ⟨q0, q1, q2, q3, q4, q5, q6, q7, q8, q9, q10⟩ := X2.out.c11
    have hl2 := X2.out.lt
    have G2 := Lib.hid (G1.out.trans (b2.mono (by have := G1.out.size; omega)))
    clear b2
    go_wp2
    go_ret
    exact intb_mk (by rw [E.out]; rfl) G2.out
  by_cases h3 : stop ≤ 5
  rotate_left
  · as_aux_lemma =>
    have t2 : decide (stop < 0) = false := by simp; omega
    have t3 : decide (5 < stop) = true := by simp; omega
    have E := Lib.hid (show b = false by rw [← HB.out]; simp [stB, h3])
    have F0 := Lib.hid h0
    have F1 := Lib.hid h1
    clear h0 h1 h2 h3
    go_enter Tryz.func45, Tryz.ntmps45
    go_wp2_with fail
    refine (S.out _ _ true F0.out).mono ?_
    rintro e w1 ⟨rfl, b1⟩
    have X1 := Lib.hid (X0.out.below b1)
    obtain ⟨q0, q1, q2, q3, q4, q5, q6, q7, q8, q9, q10⟩ := X1.out.c11
    have hl1 := X1.out.lt
    have G1 := Lib.hid ((below_new w _).trans (b1.mono (by simp)))
    clear b1
    go_wp2_with fail
    refine (C.out _ true (R.out.below G1.out) F1.out).mono ?_
    rintro e w2 ⟨rfl, b2⟩
    have X2 := Lib.hid (X1.out.below b2)
    clear q0 q1 q2 q3 q4 q5 q6 q7 q8 q9 q10
    obtain ⟨q0, q1, q2, q3, q4, q5, q6, q7, q8, q9, q10⟩ := X2.out.c11
    have hl2 := X2.out.lt
    have G2 := Lib.hid (G1.out.trans (b2.mono (by have := G1.out.size; omega)))
    clear b2
    go_wp2
    go_ret
    exact intb_mk (by rw [E.out]; rfl) G2.out
  by_cases h4 : n6 = 0
  rotate_left
  · as_aux_lemma =>
    have t2 : decide (stop < 0) = false := by simp; omega
    have t3 : decide (5 < stop) = false := by simp; omega
    have t4 : ((n6 : Int) != 0) = true := by simp; omega
    have E := Lib.hid (show b = false by rw [← HB.out]; simp [stB, h4])
    have F0 := Lib.hid h0
    have F1 := Lib.hid h1
    clear h0 h1 h2 h3 h4
    go_enter Tryz.func45, Tryz.ntmps45
    go_wp2_with fail
    refine (S.out _ _ true F0.out).mono ?_
    rintro e w1 ⟨rfl, b1⟩
    have X1 := Lib.hid (X0.out.below b1)
    obtain ⟨q0, q1, q2, q3, q4, q5, q6, q7, q8, q9, q10⟩ := X1.out.c11
    have hl1 := X1.out.lt
    have G1 := Lib.hid ((below_new w _).trans (b1.mono (by simp)))
    clear b1
    go_wp2_with fail
    refine (C.out _ true (R.out.below G1.out) F1.out).mono ?_
    rintro e w2 ⟨rfl, b2⟩
    have X2 := Lib.hid (X1.out.below b2)
    clear q0 q1 q2 q3 q4 q5 q6 q7 q8 q9 q10
    obtain ⟨q0, q1, q2, q3, q4, q5, q6, q7, q8, q9, q10⟩ := X2.out.c11
    have hl2 := X2.out.lt
    have G2 := Lib.hid (G1.out.trans (b2.mono (by have := G1.out.size; omega)))
    clear b2
    go_wp2
    go_ret
    exact intb_mk (by rw [E.out]; rfl) G2.out
  by_cases h5 : j = 0
  rotate_left
  · as_aux_lemma =>
    have t2 : decide (stop < 0) = false := by simp; omega
    have t3 : decide (5 < stop) = false := by simp; omega
    have t4 : ((n6 : Int) != 0) = false := by simp; omega
    have t5 : (j != 0) = true := by simp; omega
    have E := Lib.hid (show b = false by rw [← HB.out]; simp [stB, h5])
    have F0 := Lib.hid h0
    have F1 := Lib.hid h1
    clear h0 h1 h2 h3 h4 h5
    go_enter Tryz.func45, Tryz.ntmps45
    go_wp2_with fail
    refine (S.out _ _ true F0.out).mono ?_
    rintro e w1 ⟨rfl, b1⟩
    have X1 := Lib.hid (X0.out.below b1)
    obtain ⟨q0, q1, q2, q3, q4, q5, q6, q7, q8, q9, q10⟩ := X1.out.c11
    have hl1 := X1.out.lt
    have G1 := Lib.hid ((below_new w _).trans (b1.mono (by simp)))
    clear b1
    go_wp2_with fail
    refine (C.out _ true (R.out.below G1.out) F1.out).mono ?_
    rintro e w2 ⟨rfl, b2⟩
    have X2 := Lib.hid (X1.out.below b2)
    clear q0 q1 q2 q3 q4 q5 q6 q7 q8 q9 q10
    obtain ⟨q0, q1, q2, q3, q4, q5, q6, q7, q8, q9, q10⟩ := X2.out.c11
    have hl2 := X2.out.lt
    have G2 := Lib.hid (G1.out.trans (b2.mono (by have := G1.out.size; omega)))
    clear b2
    go_wp2
    go_ret
    exact intb_mk (by rw [E.out]; rfl) G2.out
  by_cases h6 : d = 0
  rotate_left
  · as_aux_lemma =>
    have t2 : decide (stop < 0) = false := by simp; omega
    have t3 : decide (5 < stop) = false := by simp; omega
    have t4 : ((n6 : Int) != 0) = false := by simp; omega
    have t5 : (j != 0) = false := by simp; omega
    have t6 : (d != 0) = true := by simp; omega
    have E := Lib.hid (show b = false by rw [← HB.out]; simp [stB, h6])
    have F0 := Lib.hid h0
    have F1 := Lib.hid h1
    clear h0 h1 h2 h3 h4 h5 h6
    go_enter Tryz.func45, Tryz.ntmps45
    go_wp2_with fail
    refine (S.out _ _ true F0.out).mono ?_
    rintro e w1 ⟨rfl, b1⟩
    have X1 := Lib.hid (X0.out.below b1)
    obtain ⟨q0, q1, q2, q3, q4, q5, q6, q7, q8, q9, q10⟩ := X1.out.c11
    have hl1 := X1.out.lt
    have G1 := Lib.hid ((below_new w _).trans (b1.mono (by simp)))
    clear b1
    go_wp2_with fail
    refine (C.out _ true (R.out.below G1.out) F1.out).mono ?_
    rintro e w2 ⟨rfl, b2⟩
    have X2 := Lib.hid (X1.out.below b2)
    clear q0 q1 q2 q3 q4 q5 q6 q7 q8 q9 q10
    obtain ⟨q0, q1, q2, q3, q4, q5, q6, q7, q8, q9, q10⟩ := X2.out.c11
    have hl2 := X2.out.lt
    have G2 := Lib.hid (G1.out.trans (b2.mono (by have := G1.out.size; omega)))
    clear b2
    go_wp2
    go_ret
    exact intb_mk (by rw [E.out]; rfl) G2.out
  have t2 : decide (stop < 0) = false := by simp; omega
  have t3 : decide (5 < stop) = false := by simp; omega
  have t4 : ((n6 : Int) != 0) = false := by simp; omega
  have t5 : (j != 0) = false := by simp; omega
  have t6 : (d != 0) = false := by simp; omega
  have E := Lib.hid (show b = true by rw [← HB.out]; simp [stB, h0, h1, h2, h3, h4, h5, h6])
  have F0 := Lib.hid h0
  have F1 := Lib.hid h1
  clear h0 h1 h2 h3 h4 h5 h6
  go_enter Tryz.func45, Tryz.ntmps45
  go_wp2_with fail
  refine (S.out _ _ true F0.out).mono ?_
  rintro e w1 ⟨rfl, b1⟩
  have X1 := Lib.hid (X0.out.below b1)
  obtain ⟨q0, q1, q2, q3, q4, q5, q6, q7, q8, q9, q10⟩ := X1.out.c11
  have hl1 := X1.out.lt
  have G1 := Lib.hid ((below_new w _).trans (b1.mono (by simp)))
  clear b1
  go_wp2_with fail
  refine (C.out _ true (R.out.below G1.out) F1.out).mono ?_
  rintro e w2 ⟨rfl, b2⟩
  have X2 := Lib.hid (X1.out.below b2)
  clear q0 q1 q2 q3 q4 q5 q6 q7 q8 q9 q10
  obtain ⟨q0, q1, q2, q3, q4, q5, q6, q7, q8, q9, q10⟩ := X2.out.c11
  have hl2 := X2.out.lt
  have G2 := Lib.hid (G1.out.trans (b2.mono (by have := G1.out.size; omega)))
  clear b2
  go_wp2
  go_ret
  exact intb_mk (by rw [E.out]; rfl) G2.out
theorem nu_is (x m : Int) (b : Bool) (w : World) (h : numB x m = b) : Calls Tryz.prog 17 #[.int .i64 x, .int .i64 m] w (BoolPost b w) := by subst h; exact nu_any x m w
def comB (n1 n2 n3 : Nat) (tk pc : Int) (l : List Int) : Bool := szB n1 n2 n3 tk && plsB pc l
theorem allpl_bad {l : List Int} {i : Nat} {z : Int} (h : l.take (i + 1) = l.take i ++ [z]) (hz : plB z = false) : allPl l = false := by
  have h1 : z ∈ l := List.mem_of_mem_take (i := i + 1) (by rw [h]; simp)
  cases ha : allPl l
  · rfl
  · have := List.all_eq_true.1 ha z h1; rw [hz] at this; cases this
set_option maxRecDepth 20000 in
set_option maxHeartbeats 2000000 in
theorem common_any (A1 A2 A3 A5 A6 : Option Addr) (n1 c1 n2 c2 n3 c3 c5 n6 c6 : Nat) (tk pc stop j d : Int) (o : Value) (l : List Int) (w : World) (h : Rd .i64 w (.slice A5 l.length c5) l) (hl : l.length ≤ 1000000) : Calls Tryz.prog 46 #[.agg #[.slice A1 n1 c1, .slice A2 n2 c2, .slice A3 n3 c3, .int .i64 tk, o, .int .i64 pc, .slice A5 l.length c5, .int .i64 stop, .slice A6 n6 c6, .int .i64 j, .int .i64 d]] w (BoolBelow (comB n1 n2 n3 tk pc l) w) := by
  have R := Lib.hid (fun o => h.alloc o)
  have B0 := Lib.hid (fun o => below_new w o)
  generalize hn : l.length = n5 at *
  have HN := Lib.hid hn
  clear hn h
  by_cases h0 : n1 = 16
  rotate_left
  · have t0 : ((n1 : Int) != 16) = true := by simp; omega
    have E := Lib.hid (show comB n1 n2 n3 tk pc l = false by simp [comB, szB, h0])
    clear h0
    go_enter Tryz.func46, Tryz.ntmps46
    go_wp2
    go_ret
    exact boolb_mk (by rw [E.out]) (B0.out _)
  by_cases h1 : n2 = 256
  rotate_left
  · have t0 : ((n1 : Int) != 16) = false := by simp; omega
    have t1 : ((n2 : Int) != 256) = true := by simp; omega
    have E := Lib.hid (show comB n1 n2 n3 tk pc l = false by simp [comB, szB, h1])
    clear h0 h1
    go_enter Tryz.func46, Tryz.ntmps46
    go_wp2
    go_ret
    exact boolb_mk (by rw [E.out]) (B0.out _)
  by_cases h2 : n3 ≤ 100
  rotate_left
  · have t0 : ((n1 : Int) != 16) = false := by simp; omega
    have t1 : ((n2 : Int) != 256) = false := by simp; omega
    have t2 : decide (100 < (n3 : Int)) = true := by simp; omega
    have E := Lib.hid (show comB n1 n2 n3 tk pc l = false by simp [comB, szB, h2])
    clear h0 h1 h2
    go_enter Tryz.func46, Tryz.ntmps46
    go_wp2
    go_ret
    exact boolb_mk (by rw [E.out]) (B0.out _)
  by_cases h3 : numB tk n3 = true
  rotate_left
  · have t0 : ((n1 : Int) != 16) = false := by simp; omega
    have t1 : ((n2 : Int) != 256) = false := by simp; omega
    have t2 : decide (100 < (n3 : Int)) = false := by simp; omega
    have E := Lib.hid (show comB n1 n2 n3 tk pc l = false by simp [numB] at h3; simp [comB, szB]; omega)
    have N3 := Lib.hid (fun W => nu_is tk n3 false W (by simpa using h3))
    clear h0 h1 h2 h3
    go_enter Tryz.func46, Tryz.ntmps46
    go_wp2_with fail
    refine (N3.out _).mono ?_
    rintro e w' ⟨rfl, rfl⟩
    go_wp2
    go_ret
    exact boolb_mk (by rw [E.out]) (B0.out _)
  by_cases h4 : numB pc 1024 = true
  rotate_left
  · have t0 : ((n1 : Int) != 16) = false := by simp; omega
    have t1 : ((n2 : Int) != 256) = false := by simp; omega
    have t2 : decide (100 < (n3 : Int)) = false := by simp; omega
    have E := Lib.hid (show comB n1 n2 n3 tk pc l = false by simp [numB] at h4; simp [comB, plsB, plB]; omega)
    have N3 := Lib.hid (fun W => nu_is tk n3 true W h3)
    have N4 := Lib.hid (fun W => nu_is pc 1024 false W (by simpa using h4))
    clear h0 h1 h2 h3 h4
    go_enter Tryz.func46, Tryz.ntmps46
    go_wp2_with fail
    refine (N3.out _).mono ?_
    rintro e w' ⟨rfl, rfl⟩
    go_wp2_with fail
    refine (N4.out _).mono ?_
    rintro e w' ⟨rfl, rfl⟩
    go_wp2
    go_ret
    exact boolb_mk (by rw [E.out]) (B0.out _)
  by_cases h5 : n5 ≤ 16
  rotate_left
  · have t0 : ((n1 : Int) != 16) = false := by simp; omega
    have t1 : ((n2 : Int) != 256) = false := by simp; omega
    have t2 : decide (100 < (n3 : Int)) = false := by simp; omega
    have t5 : decide (16 < (n5 : Int)) = true := by simp; omega
    have E := Lib.hid (show comB n1 n2 n3 tk pc l = false by simp [comB, plsB, HN.out]; omega)
    have N3 := Lib.hid (fun W => nu_is tk n3 true W h3)
    have N4 := Lib.hid (fun W => nu_is pc 1024 true W h4)
    clear h0 h1 h2 h3 h4 h5
    go_enter Tryz.func46, Tryz.ntmps46
    go_wp2_with fail
    refine (N3.out _).mono ?_
    rintro e w' ⟨rfl, rfl⟩
    go_wp2_with fail
    refine (N4.out _).mono ?_
    rintro e w' ⟨rfl, rfl⟩
    go_wp2
    go_ret
    exact boolb_mk (by rw [E.out]) (B0.out _)
  have t0 : ((n1 : Int) != 16) = false := by simp; omega
  have t1 : ((n2 : Int) != 256) = false := by simp; omega
  have t2 : decide (100 < (n3 : Int)) = false := by simp; omega
  have t5 : decide (16 < (n5 : Int)) = false := by simp; omega
  have N3 := Lib.hid (fun W => nu_is tk n3 true W h3)
  have N4 := Lib.hid (fun W => nu_is pc 1024 true W h4)
  have E := Lib.hid (show comB n1 n2 n3 tk pc l = allPl l by simp [numB] at h3 h4; simp [comB, szB, plsB, plB, HN.out, h0, h1, h2, h3, h4, h5])
  clear h0 h1 h2 h3 h4 h5
  go_enter Tryz.func46, Tryz.ntmps46
  go_wp2_with fail
  refine (N3.out _).mono ?_
  rintro e w' ⟨rfl, rfl⟩
  go_wp2_with fail
  refine (N4.out _).mono ?_
  rintro e w' ⟨rfl, rfl⟩
  go_wp2_with fail
  go_loop [3] (fun o => ∃ i : Nat, i ≤ n5 ∧ o = .int .i64 i ∧ allPl (l.take i) = true) (fun o => n5 - (intOf o).toNat)
  case atStart => exact ⟨0, by omega, rfl, rfl⟩
  case round =>
    obtain ⟨i, hi, rfl, hp⟩ := hrel
    have HP := Lib.hid hp
    clear hp
    by_cases hlt : i < n5
    · have hd : decide ((i : Int) < (n5 : Int)) = true := by simpa using hlt
      have i0 : (0 : Int) ≤ (i : Int) := by omega
      have i1 : (i : Int) < (n5 : Int) := by omega
      obtain ⟨A', c', hv, hr⟩ := R.out (.cells #[.slice A1 n1 c1, .slice A2 n2 c2, .slice A3 n3 c3, .int .i64 tk, o, .int .i64 pc, .slice A5 n5 c5, .int .i64 stop, .slice A6 n6 c6, .int .i64 j, .int .i64 d] 27)
      simp only [Value.slice.injEq] at hv
      obtain ⟨hv1, hv2, hv3⟩ := hv
      subst hv1
      clear hv2 hv3
      obtain ⟨ad, rfl, hg, q⟩ := hr (by have := HN.out; omega)
      have hil : i < l.length := by have := HN.out; omega
      have k1 := q i _ (map_get hil)
      have T := Lib.hid (List.take_succ_eq_append_getElem hil)
      generalize l[i] = z at k1 T
      clear q hg hil hr
      cases hz : plB z
      · have P := Lib.hid (fun W => nu_is z 1024 false W hz)
        have HZ := Lib.hid hz
        clear hz
        go_wp2_with (go_at_call 17; refine (P.out _).mono ?_; rintro e w' ⟨rfl, rfl⟩)
        go_ret
        exact boolb_mk (by rw [E.out]; exact (allpl_bad T.out HZ.out).symm) (B0.out _)
      · have P := Lib.hid (fun W => nu_is z 1024 true W hz)
        have HZ := Lib.hid hz
        clear hz
        go_wp2_with (go_at_call 17; refine (P.out _).mono ?_; rintro e w' ⟨rfl, rfl⟩)
        go_round
        case rel => exact ⟨i + 1, by omega, by go_num, by have h1 := HP.out; rw [T.out]; unfold allPl at h1 ⊢; rw [List.all_append, h1]; simpa using HZ.out⟩
        case measure => simp [intOf]; omega
    · have hd : decide ((i : Int) < (n5 : Int)) = false := by simp; omega
      go_wp2
      go_ret
      have h1 := HP.out
      rw [List.take_of_length_le (by have := HN.out; omega)] at h1
      exact boolb_mk (by rw [E.out, h1]) (B0.out _)
theorem common_is (A1 A2 A3 A5 A6 : Option Addr) (n1 c1 n2 c2 n3 c3 c5 n6 c6 : Nat) (tk pc stop j d : Int) (o : Value) (l : List Int) (w : World) (h : Rd .i64 w (.slice A5 l.length c5) l) (hl : l.length ≤ 1000000) (b : Bool) (hb : comB n1 n2 n3 tk pc l = b) : Calls Tryz.prog 46 #[.agg #[.slice A1 n1 c1, .slice A2 n2 c2, .slice A3 n3 c3, .int .i64 tk, o, .int .i64 pc, .slice A5 l.length c5, .int .i64 stop, .slice A6 n6 c6, .int .i64 j, .int .i64 d]] w (BoolBelow b w) := by subst hb; exact common_any A1 A2 A3 A5 A6 n1 c1 n2 c2 n3 c3 c5 n6 c6 tk pc stop j d o l w h hl
end
section
/-- How many have so many cycles left. -/
def cn (l : List Fl) (k : Nat) : Nat := l.countP fun f => decide (f.k = k)
/-- The five counts. -/
def cns (l : List Fl) : Array Value := #[.int .i64 (cn l 0 : Nat), .int .i64 (cn l 1 : Nat), .int .i64 (cn l 2 : Nat), .int .i64 (cn l 3 : Nat), .int .i64 (cn l 4 : Nat)]
theorem cn_take {l : List Fl} {i : Nat} (hi : i < l.length) (k : Nat) : cn (l.take (i + 1)) k = cn (l.take i) k + (if l[i].k = k then 1 else 0) := by
  unfold cn
  rw [List.take_succ_eq_append_getElem hi, List.countP_append]
  by_cases h : l[i].k = k
  · simp [h]
  · simp [h]
/-- How many have so many cycles left, or more. -/
def cge (l : List Fl) (k : Nat) : Nat := l.countP fun f => decide (k ≤ f.k)
theorem cge_succ (l : List Fl) (k : Nat) : cge l k = cge l (k + 1) + cn l k := by
  unfold cge cn
  induction l with
  | nil => rfl
  | cons f l ih =>
    simp only [List.countP_cons, decide_eq_true_eq]
    rw [ih]
    by_cases h1 : f.k = k
    · rw [if_pos (by omega), if_neg (by omega), if_pos h1]
      omega
    · by_cases h2 : k + 1 ≤ f.k
      · rw [if_pos (by omega), if_pos h2, if_neg h1]
        omega
      · rw [if_neg (by omega), if_neg h2, if_neg h1]
        omega
theorem cge_five {l : List Fl} (h : ∀ f ∈ l, f.k ≤ 4) : cge l 5 = 0 := by
  unfold cge
  rw [List.countP_eq_zero]
  intro f hf
  have := h f hf
  simp; omega
def cnt (l : List Fl) (i : Nat) : Nat := cge l (5 - i)
set_option maxRecDepth 100000 in
set_option maxHeartbeats 4000000 in
theorem isFlight_good (l : List Fl) (v : Value) (w : World) (h : RdF w v l) (hl : l.length ≤ 1000) (hf : Fb 4 l) : Calls Tryz.prog 44 #[v] w (BoolBelow true w) := by
  obtain ⟨A, c, rfl, r⟩ := h
  have R := Lib.hid r
  have FB := Lib.hid hf
  clear r hf
  generalize hn : l.length = n at *
  have HN := Lib.hid hn
  clear hn
  have NIL := Lib.hid (show cns (l.take 0) = #[.int .i64 0, .int .i64 0, .int .i64 0, .int .i64 0, .int .i64 0] from rfl)
  go_enter Tryz.func44, Tryz.ntmps44
  go_wp2_with fail
  go_loopg [10] n (fun gk o wr2 => ∃ i : Nat, i ≤ n ∧ gk = n - i ∧ o = .int .i64 i ∧ Below w.heap.size w wr2 ∧ BK 81 wr2 w.heap.size (cns (l.take i)))
  case atStart => exact ⟨0, by omega, rfl, rfl, below_new _ _, by rw [NIL.out]; exact heap_alloc_new _ _⟩
  case round =>
    obtain ⟨i, hi, rfl, rfl, hb, hk⟩ := hrel
    have HB := Lib.hid hb
    have KK := Lib.hid hk
    have hs0 := hk.lt
    clear hb hk
    by_cases hlt : i < n
    · have hd : decide ((i : Int) < (n : Int)) = true := by simpa using hlt
      have i0 : (0 : Int) ≤ (i : Int) := by omega
      have i1 : (i : Int) < (n : Int) := by omega
      have hil : i < l.length := by have := HN.out; omega
      obtain ⟨ad, rfl, hg, q0, q1, q2⟩ := RdF.at_ (w := wr) (by rw [HN.out]; intro h0; obtain ⟨ad, ha, hb, hc⟩ := R.out h0; exact ⟨ad, ha, by omega, fun j u hu => (HB.out.cell (by rw [block_add]; exact hb)).trans (hc j u hu)⟩) hil
      have CT := Lib.hid (fun k => cn_take hil k)
      obtain ⟨f0, f1, f2, f3⟩ := FB.out.1 l[i] (List.getElem_mem hil)
      generalize l[i] = f at q0 q1 q2 CT f0 f1 f2 f3
      obtain ⟨fr, fv, fk⟩ := f
      simp only at q0 q1 q2 CT f0 f1 f2 f3
      have k1 := KK.out.cell 0
      have k2 := KK.out.cell 1
      have k3 := KK.out.cell 2
      have k4 := KK.out.cell 3
      have k5 := KK.out.cell 4
      have z0 := KK.out.frozen 0
      have z1 := KK.out.frozen 1
      have z2 := KK.out.frozen 2
      have z3 := KK.out.frozen 3
      have z4 := KK.out.frozen 4
      have b0 := (show ∀ k, cn (l.take i) k < 1001 from fun k => by unfold cn; have h1 := List.countP_le_length (p := fun f : Fl => decide (f.k = k)) (l := l.take i); have h2 := List.length_take_le i l; have := HN.out; omega)
      have b00 := b0 0
      have b01 := b0 1
      have b02 := b0 2
      have b03 := b0 3
      have b04 := b0 4
      clear b0 hil
      unfold cns at k1 k2 k3 k4 k5
      simp at k1 k2 k3 k4 k5
      have d0 : decide ((fr : Int) < 0) = false := by simp
      have d1 : decide ((fr : Int) ≥ 16) = false := by simp; omega
      have d1' : decide ((16 : Int) ≤ (fr : Int)) = false := by simp; omega
      obtain rfl | rfl | rfl | rfl | rfl : fk = 0 ∨ fk = 1 ∨ fk = 2 ∨ fk = 3 ∨ fk = 4 := by omega
      · have e : cns (l.take (i + 1)) = (cns (l.take i)).setIfInBounds 0 (.int .i64 ((cn (l.take i) 0 : Nat) + 1)) := by
          unfold cns
          simp [CT.out]
        have S := Lib.hid e
        clear e
        go_wp2_with fail
        go_roundg (n - (i + 1))
        case measure => omega
        case rel =>
          refine ⟨i + 1, by omega, rfl, by go_num, (HB.out.setCell (by simp) _).alloc (by simp; omega) _, ?_⟩
          rw [S.out]
          exact (KK.out.set _ _).alloc _
      · have e : cns (l.take (i + 1)) = (cns (l.take i)).setIfInBounds 1 (.int .i64 ((cn (l.take i) 1 : Nat) + 1)) := by
          unfold cns
          simp [CT.out]
        have S := Lib.hid e
        clear e
        go_wp2_with fail
        go_roundg (n - (i + 1))
        case measure => omega
        case rel =>
          refine ⟨i + 1, by omega, rfl, by go_num, (HB.out.setCell (by simp) _).alloc (by simp; omega) _, ?_⟩
          rw [S.out]
          exact (KK.out.set _ _).alloc _
      · have e : cns (l.take (i + 1)) = (cns (l.take i)).setIfInBounds 2 (.int .i64 ((cn (l.take i) 2 : Nat) + 1)) := by
          unfold cns
          simp [CT.out]
        have S := Lib.hid e
        clear e
        go_wp2_with fail
        go_roundg (n - (i + 1))
        case measure => omega
        case rel =>
          refine ⟨i + 1, by omega, rfl, by go_num, (HB.out.setCell (by simp) _).alloc (by simp; omega) _, ?_⟩
          rw [S.out]
          exact (KK.out.set _ _).alloc _
      · have e : cns (l.take (i + 1)) = (cns (l.take i)).setIfInBounds 3 (.int .i64 ((cn (l.take i) 3 : Nat) + 1)) := by
          unfold cns
          simp [CT.out]
        have S := Lib.hid e
        clear e
        go_wp2_with fail
        go_roundg (n - (i + 1))
        case measure => omega
        case rel =>
          refine ⟨i + 1, by omega, rfl, by go_num, (HB.out.setCell (by simp) _).alloc (by simp; omega) _, ?_⟩
          rw [S.out]
          exact (KK.out.set _ _).alloc _
      · have e : cns (l.take (i + 1)) = (cns (l.take i)).setIfInBounds 4 (.int .i64 ((cn (l.take i) 4 : Nat) + 1)) := by
          unfold cns
          simp [CT.out]
        have S := Lib.hid e
        clear e
        go_wp2_with fail
        go_roundg (n - (i + 1))
        case measure => omega
        case rel =>
          refine ⟨i + 1, by omega, rfl, by go_num, (HB.out.setCell (by simp) _).alloc (by simp; omega) _, ?_⟩
          rw [S.out]
          exact (KK.out.set _ _).alloc _
    · have hd : decide ((i : Int) < (n : Int)) = false := by simp; omega
      obtain rfl : i = n := by omega
      have TK := Lib.hid (show l.take i = l from List.take_of_length_le (by have := HN.out; omega))
      have ZR := Lib.hid (cge_five (l := l) fun f hf => (FB.out.1 f hf).2.2.2)
      go_wp2_with fail
      go_loopg [6, 7] 5 (fun gk s k wr3 => ∃ j sN : Nat, j ≤ 5 ∧ gk = 5 - j ∧ s = .int .i64 (sN : Nat) ∧ sN = cge l (5 - j) ∧ (∃ z : Int, k = .int .i64 z ∧ z = 4 - (j : Int)) ∧ Below w.heap.size w wr3 ∧ BK 81 wr3 w.heap.size (cns l))
      case atStart => exact ⟨0, 0, by omega, rfl, rfl, ZR.out.symm, ⟨_, rfl, by omega⟩, HB.out, by rw [← TK.out]; exact KK.out⟩
      case round =>
        obtain ⟨j, sN, hj, rfl, rfl, hsN, ⟨z, rfl, hz⟩, hb2, hk2⟩ := hrel
        have HB2 := Lib.hid hb2
        have KK2 := Lib.hid hk2
        have hs2 := hk2.lt
        have k1 := KK2.out.cell 0
        have k2 := KK2.out.cell 1
        have k3 := KK2.out.cell 2
        have k4 := KK2.out.cell 3
        have k5 := KK2.out.cell 4
        unfold cns at k1 k2 k3 k4 k5
        simp at k1 k2 k3 k4 k5
        clear hb2 hk2
        obtain rfl | rfl | rfl | rfl | rfl | rfl : j = 0 ∨ j = 1 ∨ j = 2 ∨ j = 3 ∨ j = 4 ∨ j = 5 := by omega
        · obtain rfl : z = 4 := by omega
          have B := FB.out.2 4 (by omega)
          have E : cge l 4 = cge l 5 + cn l 4 := cge_succ l 4
          have hs : sN = cge l 5 := hsN
          have k9 := k5
          clear k1 k2 k3 k4 k5
          have B2 : cge l 4 ≤ 4 := B
          have EE := Lib.hid (show sN + cn l 4 = cge l 4 by omega)
          have x1 : sN < 2000 := by omega
          have x2 : cn l 4 < 2000 := by omega
          have x3 : sN + cn l 4 ≤ 4 := by omega
          clear B B2 E hs hsN
          generalize cn l 4 = cN at k9 EE x2 x3
          have d1 : decide ((4 : Int) < (sN : Int) + (cN : Int)) = false := by simp; omega
          have d2 : decide ((sN : Int) + (cN : Int) ≤ 4) = true := by simp; omega
          clear hz hj
          go_wp2_with fail
          go_roundg (5 - (0 + 1))
          case measure => omega
          case rel => exact ⟨0 + 1, sN + cN, by omega, rfl, by go_num, EE.out, ⟨_, by go_num, by omega⟩, HB2.out, KK2.out⟩
        · obtain rfl : z = 3 := by omega
          have B := FB.out.2 3 (by omega)
          have E : cge l 3 = cge l 4 + cn l 3 := cge_succ l 3
          have hs : sN = cge l 4 := hsN
          have k9 := k4
          clear k1 k2 k3 k4 k5
          have B2 : cge l 3 ≤ 8 := B
          have EE := Lib.hid (show sN + cn l 3 = cge l 3 by omega)
          have x1 : sN < 2000 := by omega
          have x2 : cn l 3 < 2000 := by omega
          have x3 : sN + cn l 3 ≤ 8 := by omega
          clear B B2 E hs hsN
          generalize cn l 3 = cN at k9 EE x2 x3
          have d1 : decide ((8 : Int) < (sN : Int) + (cN : Int)) = false := by simp; omega
          have d2 : decide ((sN : Int) + (cN : Int) ≤ 8) = true := by simp; omega
          clear hz hj
          go_wp2_with fail
          go_roundg (5 - (1 + 1))
          case measure => omega
          case rel => exact ⟨1 + 1, sN + cN, by omega, rfl, by go_num, EE.out, ⟨_, by go_num, by omega⟩, HB2.out, KK2.out⟩
        · obtain rfl : z = 2 := by omega
          have B := FB.out.2 2 (by omega)
          have E : cge l 2 = cge l 3 + cn l 2 := cge_succ l 2
          have hs : sN = cge l 3 := hsN
          have k9 := k3
          clear k1 k2 k3 k4 k5
          have B2 : cge l 2 ≤ 12 := B
          have EE := Lib.hid (show sN + cn l 2 = cge l 2 by omega)
          have x1 : sN < 2000 := by omega
          have x2 : cn l 2 < 2000 := by omega
          have x3 : sN + cn l 2 ≤ 12 := by omega
          clear B B2 E hs hsN
          generalize cn l 2 = cN at k9 EE x2 x3
          have d1 : decide ((12 : Int) < (sN : Int) + (cN : Int)) = false := by simp; omega
          have d2 : decide ((sN : Int) + (cN : Int) ≤ 12) = true := by simp; omega
          clear hz hj
          go_wp2_with fail
          go_roundg (5 - (2 + 1))
          case measure => omega
          case rel => exact ⟨2 + 1, sN + cN, by omega, rfl, by go_num, EE.out, ⟨_, by go_num, by omega⟩, HB2.out, KK2.out⟩
        · obtain rfl : z = 1 := by omega
          have B := FB.out.2 1 (by omega)
          have E : cge l 1 = cge l 2 + cn l 1 := cge_succ l 1
          have hs : sN = cge l 2 := hsN
          have k9 := k2
          clear k1 k2 k3 k4 k5
          have B2 : cge l 1 ≤ 16 := B
          have EE := Lib.hid (show sN + cn l 1 = cge l 1 by omega)
          have x1 : sN < 2000 := by omega
          have x2 : cn l 1 < 2000 := by omega
          have x3 : sN + cn l 1 ≤ 16 := by omega
          clear B B2 E hs hsN
          generalize cn l 1 = cN at k9 EE x2 x3
          have d1 : decide ((16 : Int) < (sN : Int) + (cN : Int)) = false := by simp; omega
          have d2 : decide ((sN : Int) + (cN : Int) ≤ 16) = true := by simp; omega
          clear hz hj
          go_wp2_with fail
          go_roundg (5 - (3 + 1))
          case measure => omega
          case rel => exact ⟨3 + 1, sN + cN, by omega, rfl, by go_num, EE.out, ⟨_, by go_num, by omega⟩, HB2.out, KK2.out⟩
        · obtain rfl : z = 0 := by omega
          have B := FB.out.2 0 (by omega)
          have E : cge l 0 = cge l 1 + cn l 0 := cge_succ l 0
          have hs : sN = cge l 1 := hsN
          have k9 := k1
          clear k1 k2 k3 k4 k5
          have B2 : cge l 0 ≤ 20 := B
          have EE := Lib.hid (show sN + cn l 0 = cge l 0 by omega)
          have x1 : sN < 2000 := by omega
          have x2 : cn l 0 < 2000 := by omega
          have x3 : sN + cn l 0 ≤ 20 := by omega
          clear B B2 E hs hsN
          generalize cn l 0 = cN at k9 EE x2 x3
          have d1 : decide ((20 : Int) < (sN : Int) + (cN : Int)) = false := by simp; omega
          have d2 : decide ((sN : Int) + (cN : Int) ≤ 20) = true := by simp; omega
          clear hz hj
          go_wp2_with fail
          go_roundg (5 - (4 + 1))
          case measure => omega
          case rel => exact ⟨4 + 1, sN + cN, by omega, rfl, by go_num, EE.out, ⟨_, by go_num, by omega⟩, HB2.out, KK2.out⟩
        · obtain rfl : z = -1 := by omega
          go_wp2_with fail
          go_ret
          exact ⟨rfl, HB2.out⟩
end
section
theorem st_B0 {m : M} (k : Okc m) : stB m.R.length m.mem.length m.inp.length 0 m.tk m.pc 0 0 0 (m.st.map Int.ofNat) = true := by
  have h1 := k.ok.R
  have h2 := k.ok.mem
  have h3 := k.ok.inp
  have h4 := k.ok.tk
  have h5 := k.ok.pc
  have h6 := k.ok.st
  have h7 : allPl (m.st.map Int.ofNat) = true := by
    refine List.all_eq_true.2 fun x hx => ?_
    obtain ⟨y, hy, rfl⟩ := List.mem_map.1 hx
    have := k.ok.wS y hy
    unfold plB
    simp
    omega
  unfold stB szB plsB plB
  rw [h7, h1, h2]
  simp
  omega
set_option maxRecDepth 20000 in
set_option maxHeartbeats 4000000 in
theorem pcheck_ok (m : M) (v : Value) (w : World) (h : SV w v m) (k : Okc m) : Calls Tryz.prog 13 #[v] w (IntBelow 0 w) := by
  have SB := Lib.hid (st_B0 k)
  have KK := Lib.hid k
  obtain ⟨r, q, i, o, z, y, rfl, a1, a2, a3, a4, a5, a6⟩ := h
  have F := Lib.hid (fun W (hb : Below w.heap.size w W) => isFlight_good m.fl y W (a6.below hb) k.ok.fl k.fb)
  obtain ⟨A1, c1, rfl, _⟩ := a1
  obtain ⟨A2, c2, rfl, _⟩ := a2
  obtain ⟨A3, c3, rfl, _⟩ := a3
  obtain ⟨A5, c5, rfl, ha5⟩ := a5
  have CK := Lib.hid (fun W (hb : Below w.heap.size w W) => check_st A1 A2 A3 A5 none m.R.length c1 m.mem.length c2 m.inp.length c3 c5 0 0 m.tk m.pc 0 0 0 o (m.st.map Int.ofNat) W ((show Rd .i64 w _ _ from ⟨A5, c5, rfl, ha5⟩).below hb) (by have := k.ok.st; simp; omega) true SB.out)
  have t1 : decide (m.stop < 0) = false := by have := k.s0; simp; omega
  have t2 : decide (6 < m.stop) = false := by have := k.s6; simp; omega
  have t3 : decide (1024 < (m.jp : Int)) = false := by have := k.ok.jp; simp; omega
  have t4 : decide (2 < (m.dl : Int)) = false := by have := k.ok.dl; simp; omega
  clear ha5 a4 a6 k SB
  generalize hr : Value.slice A1 m.R.length c1 = r at *
  generalize hq : Value.slice A2 m.mem.length c2 = q at *
  generalize hi : Value.slice A3 m.inp.length c3 = i at *
  generalize hz : Value.slice A5 (m.st.map Int.ofNat).length c5 = z at *
  clear hr hq hi hz
  have X0 := Lib.hid (show BK 27 (w.alloc (.cells #[r, q, i, .int .i64 m.tk, o, .int .i64 m.pc, z, .int .i64 m.stop, y, .int .i64 m.jp, .int .i64 m.dl] 27)) w.heap.size #[r, q, i, .int .i64 m.tk, o, .int .i64 m.pc, z, .int .i64 m.stop, y, .int .i64 m.jp, .int .i64 m.dl] from heap_alloc_new w _)
  have G0 := Lib.hid (below_new w (.cells #[r, q, i, .int .i64 m.tk, o, .int .i64 m.pc, z, .int .i64 m.stop, y, .int .i64 m.jp, .int .i64 m.dl] 27))
  go_enter Tryz.func13, Tryz.ntmps13
  go_wp2_with fail
  refine (F.out _ G0.out).mono ?_
  rintro e w1 ⟨rfl, b1⟩
  have X1 := Lib.hid (X0.out.below b1)
  have G1 := Lib.hid (G0.out.trans (b1.mono (by simp)))
  obtain ⟨q0, q1, q2, q3, q4, q5, q6, q7, q8, q9, q10⟩ := X1.out.c11
  have f7 := X1.out.frozen 7
  have f8 := X1.out.frozen 8
  have f9 := X1.out.frozen 9
  have f10 := X1.out.frozen 10
  have hl1 := X1.out.lt
  clear b1
  have G2 := Lib.hid ((((G1.out.setCell (p := ⟨w.heap.size, 7, none⟩) (by simp) (.int .i64 0)).setCell (p := ⟨w.heap.size, 8, none⟩) (by simp) (.slice none 0 0)).setCell (p := ⟨w.heap.size, 9, none⟩) (by simp) (.int .i64 0)).setCell (p := ⟨w.heap.size, 10, none⟩) (by simp) (.int .i64 0))
  have X2 := Lib.hid (show BK 27 _ w.heap.size #[r, q, i, .int .i64 m.tk, o, .int .i64 m.pc, z, .int .i64 0, .slice none 0 0, .int .i64 0, .int .i64 0] from (((X1.out.set 7 (.int .i64 0)).set 8 (.slice none 0 0)).set 9 (.int .i64 0)).set 10 (.int .i64 0))
  go_wp2_with (first | ((with_reducible refine wpList_load_bk (T := 27) (op := ⟨some 39, .load 27 _, _, _, _, none⟩) rfl _ rfl Tryz.underlying27 Tryz.size27 w.heap.size _ ?lx ?lb ?l1 ?_); (case lx => rfl); (case lb => exact X2.out); (case l1 => rfl)) | (go_at_call 45; refine (CK.out _ G2.out).mono ?_; rintro e w2 ⟨rfl, b2⟩))
  go_ret
  exact ⟨rfl, G2.out.trans (b2.mono (by have := hl1; simp; omega))⟩
end
end Go.Proofs.YtbgmdikcbglpiaaGreatDoor
