/-
  Contracts of the calls by which both machines tell whether a state may be. Conditions: none, but that the row of returns reads as a list.
-/
import Derived.Test.YtbkikibdnpffpaaGreatDoorCk
namespace Go.Proofs.YtbkikibdnpffpaaGreatDoor
open Go.RowKit

/-- May the state be? -/
def stB (n1 n2 n3 n6 : Nat) (tk pc stop j d : Int) (l : List Int) : Bool := szB n1 n2 n3 tk && plsB pc l && decide (0 ≤ stop) && decide (stop ≤ 5) && decide (n6 = 0) && decide (j = 0) && decide (d = 0)
set_option maxRecDepth 20000 in
set_option maxHeartbeats 2000000 in
theorem check_st (A1 A2 A3 A5 A6 : Option Addr) (n1 c1 n2 c2 n3 c3 c5 n6 c6 : Nat) (tk pc stop j d : Int) (o : Value) (l : List Int) (w : World) (h : Rd .i64 w (.slice A5 l.length c5) l) (hl : l.length ≤ 1000000) (b : Bool) (hb : stB n1 n2 n3 n6 tk pc stop j d l = b) : Calls Tryz.prog 33 #[.agg #[.slice A1 n1 c1, .slice A2 n2 c2, .slice A3 n3 c3, .int .i64 tk, o, .int .i64 pc, .slice A5 l.length c5, .int .i64 stop, .slice A6 n6 c6, .int .i64 j, .int .i64 d]] w (IntBelow (cond b 0 1) w) := by
  have R := Lib.hid h
  have C := Lib.hid (fun W b (x : Rd .i64 W (.slice A5 l.length c5) l) (hb : plsB pc l = b) => places_is A1 A2 A3 A5 A6 n1 c1 n2 c2 n3 c3 c5 n6 c6 tk pc stop j d o l W x hl b hb)
  have S := Lib.hid (fun W (n : Nat) b (hb : szB n1 n2 n3 tk = b) => sizes_is A1 A2 A3 A5 A6 n1 c1 n2 c2 n3 c3 n c5 n6 c6 tk pc stop j d o W b hb)
  have HB := Lib.hid hb
  clear hb h hl
  have X0 := Lib.hid (show BK 27 (w.alloc (.cells #[.slice A1 n1 c1, .slice A2 n2 c2, .slice A3 n3 c3, .int .i64 tk, o, .int .i64 pc, .slice A5 l.length c5, .int .i64 stop, .slice A6 n6 c6, .int .i64 j, .int .i64 d] 27)) w.heap.size #[.slice A1 n1 c1, .slice A2 n2 c2, .slice A3 n3 c3, .int .i64 tk, o, .int .i64 pc, .slice A5 l.length c5, .int .i64 stop, .slice A6 n6 c6, .int .i64 j, .int .i64 d] from heap_alloc_new w _)
  by_cases h0 : szB n1 n2 n3 tk = true
  rotate_left
  · as_aux_lemma =>
    have E := Lib.hid (show b = false by rw [← HB.out]; simp [stB, h0])
    have F0 := Lib.hid h0
    clear h0
    go_enter Tryz.func33, Tryz.ntmps33
    go_wp2_with fail
    refine (S.out _ _ false (by simpa using F0.out)).mono ?_
    rintro e w1 ⟨rfl, b1⟩
    have X1 := Lib.hid (X0.out.below b1)
    obtain ⟨q0, q1, q2, q3, q4, q5, q6, q7, q8, q9, q10⟩ := X1.out.c11
    have hl1 := X1.out.lt
    have G1 := Lib.hid ((below_new w _).trans (b1.mono (by simp)))
    clear b1
    go_wp2
    go_ret
    exact intb_mk (by rw [E.out]; rfl) G1.out
  by_cases h1 : plsB pc l = true
  rotate_left
  · as_aux_lemma =>
    have E := Lib.hid (show b = false by rw [← HB.out]; simp [stB, h1])
    have F0 := Lib.hid h0
    have F1 := Lib.hid h1
    clear h0 h1
    go_enter Tryz.func33, Tryz.ntmps33
    go_wp2_with fail
    refine (S.out _ _ true F0.out).mono ?_
    rintro e w1 ⟨rfl, b1⟩
    have X1 := Lib.hid (X0.out.below b1)
    obtain ⟨q0, q1, q2, q3, q4, q5, q6, q7, q8, q9, q10⟩ := X1.out.c11
    have hl1 := X1.out.lt
    have G1 := Lib.hid ((below_new w _).trans (b1.mono (by simp)))
    clear b1
    go_wp2_with fail
    refine (C.out _ false (R.out.below G1.out) (by simpa using F1.out)).mono ?_
    rintro e w2 ⟨rfl, b2⟩
    have X2 := Lib.hid (X1.out.below b2)
    clear q0 q1 q2 q3 q4 q5 q6 q7 q8 q9 q10
    obtain ⟨q0, q1, q2, q3, q4, q5, q6, q7, q8, q9, q10⟩ := X2.out.c11
    have hl2 := X2.out.lt
    have G2 := Lib.hid (G1.out.trans (b2.mono (by have := G1.out.size; omega)))
    clear b2
    go_wp2
    go_ret
    exact intb_mk (by rw [E.out]; rfl) G2.out
  by_cases h2 : 0 ≤ stop
  rotate_left
  · as_aux_lemma =>
    have t2 : decide (stop < 0) = true := by simp; omega
    have E := Lib.hid (show b = false by rw [← HB.out]; simp [stB, h2])
    have F0 := Lib.hid h0
    have F1 := Lib.hid h1
    clear h0 h1 h2
    go_enter Tryz.func33, Tryz.ntmps33
    go_wp2_with fail
    refine (S.out _ _ true F0.out).mono ?_
    rintro e w1 ⟨rfl, b1⟩
    have X1 := Lib.hid (X0.out.below b1)
    obtain ⟨q0, q1, q2, q3, q4, q5, q6, q7, q8, q9, q10⟩ := X1.out.c11
    have hl1 := X1.out.lt
    have G1 := Lib.hid ((below_new w _).trans (b1.mono (by simp)))
    clear b1
    go_wp2_with fail
    refine (C.out _ true (R.out.below G1.out) F1.out).mono ?_
    rintro e w2 ⟨rfl, b2⟩
    have X2 := Lib.hid (X1.out.below b2)
    clear q0 q1 q2 q3 q4 q5 q6 q7 q8 q9 q10
    obtain ⟨q0, q1, q2, q3, q4, q5, q6, q7, q8, q9, q10⟩ := X2.out.c11
    have hl2 := X2.out.lt
    have G2 := Lib.hid (G1.out.trans (b2.mono (by have := G1.out.size; omega)))
    clear b2
    go_wp2
    go_ret
    exact intb_mk (by rw [E.out]; rfl) G2.out
  by_cases h3 : stop ≤ 5
  rotate_left
  · as_aux_lemma =>
    have t2 : decide (stop < 0) = false := by simp; omega
    have t3 : decide (5 < stop) = true := by simp; omega
    have E := Lib.hid (show b = false by rw [← HB.out]; simp [stB, h3])
    have F0 := Lib.hid h0
    have F1 := Lib.hid h1
    clear h0 h1 h2 h3
    go_enter Tryz.func33, Tryz.ntmps33
    go_wp2_with fail
    refine (S.out _ _ true F0.out).mono ?_
    rintro e w1 ⟨rfl, b1⟩
    have X1 := Lib.hid (X0.out.below b1)
    obtain ⟨q0, q1, q2, q3, q4, q5, q6, q7, q8, q9, q10⟩ := X1.out.c11
    have hl1 := X1.out.lt
    have G1 := Lib.hid ((below_new w _).trans (b1.mono (by simp)))
    clear b1
    go_wp2_with fail
    refine (C.out _ true (R.out.below G1.out) F1.out).mono ?_
    rintro e w2 ⟨rfl, b2⟩
    have X2 := Lib.hid (X1.out.below b2)
    clear q0 q1 q2 q3 q4 q5 q6 q7 q8 q9 q10
    obtain ⟨q0, q1, q2, q3, q4, q5, q6, q7, q8, q9, q10⟩ := X2.out.c11
    have hl2 := X2.out.lt
    have G2 := Lib.hid (G1.out.trans (b2.mono (by have := G1.out.size; omega)))
    clear b2
    go_wp2
    go_ret
    exact intb_mk (by rw [E.out]; rfl) G2.out
  by_cases h4 : n6 = 0
  rotate_left
  · as_aux_lemma =>
    have t2 : decide (stop < 0) = false := by simp; omega
    have t3 : decide (5 < stop) = false := by simp; omega
    have t4 : ((n6 : Int) != 0) = true := by simp; omega
    have E := Lib.hid (show b = false by rw [← HB.out]; simp [stB, h4])
    have F0 := Lib.hid h0
    have F1 := Lib.hid h1
    clear h0 h1 h2 h3 h4
    go_enter Tryz.func33, Tryz.ntmps33
    go_wp2_with fail
    refine (S.out _ _ true F0.out).mono ?_
    rintro e w1 ⟨rfl, b1⟩
    have X1 := Lib.hid (X0.out.below b1)
    obtain ⟨q0, q1, q2, q3, q4, q5, q6, q7, q8, q9, q10⟩ := X1.out.c11
    have hl1 := X1.out.lt
    have G1 := Lib.hid ((below_new w _).trans (b1.mono (by simp)))
    clear b1
    go_wp2_with fail
    refine (C.out _ true (R.out.below G1.out) F1.out).mono ?_
    rintro e w2 ⟨rfl, b2⟩
    have X2 := Lib.hid (X1.out.below b2)
    clear q0 q1 q2 q3 q4 q5 q6 q7 q8 q9 q10
    obtain ⟨q0, q1, q2, q3, q4, q5, q6, q7, q8, q9, q10⟩ := X2.out.c11
    have hl2 := X2.out.lt
    have G2 := Lib.hid (G1.out.trans (b2.mono (by have := G1.out.size; omega)))
    clear b2
    go_wp2
    go_ret
    exact intb_mk (by rw [E.out]; rfl) G2.out
  by_cases h5 : j = 0
  rotate_left
  · as_aux_lemma =>
    have t2 : decide (stop < 0) = false := by simp; omega
    have t3 : decide (5 < stop) = false := by simp; omega
    have t4 : ((n6 : Int) != 0) = false := by simp; omega
    have t5 : (j != 0) = true := by simp; omega
    have E := Lib.hid (show b = false by rw [← HB.out]; simp [stB, h5])
    have F0 := Lib.hid h0
    have F1 := Lib.hid h1
    clear h0 h1 h2 h3 h4 h5
    go_enter Tryz.func33, Tryz.ntmps33
    go_wp2_with fail
    refine (S.out _ _ true F0.out).mono ?_
    rintro e w1 ⟨rfl, b1⟩
    have X1 := Lib.hid (X0.out.below b1)
    obtain ⟨q0, q1, q2, q3, q4, q5, q6, q7, q8, q9, q10⟩ := X1.out.c11
    have hl1 := X1.out.lt
    have G1 := Lib.hid ((below_new w _).trans (b1.mono (by simp)))
    clear b1
    go_wp2_with fail
    refine (C.out _ true (R.out.below G1.out) F1.out).mono ?_
    rintro e w2 ⟨rfl, b2⟩
    have X2 := Lib.hid (X1.out.below b2)
    clear q0 q1 q2 q3 q4 q5 q6 q7 q8 q9 q10
    obtain ⟨q0, q1, q2, q3, q4, q5, q6, q7, q8, q9, q10⟩ := X2.out.c11
    have hl2 := X2.out.lt
    have G2 := Lib.hid (G1.out.trans (b2.mono (by have := G1.out.size; omega)))
    clear b2
    go_wp2
    go_ret
    exact intb_mk (by rw [E.out]; rfl) G2.out
  by_cases h6 : d = 0
  rotate_left
  · as_aux_lemma =>
    have t2 : decide (stop < 0) = false := by simp; omega
    have t3 : decide (5 < stop) = false := by simp; omega
    have t4 : ((n6 : Int) != 0) = false := by simp; omega
    have t5 : (j != 0) = false := by simp; omega
    have t6 : (d != 0) = true := by simp; omega
    have E := Lib.hid (show b = false by rw [← HB.out]; simp [stB, h6])
    have F0 := Lib.hid h0
    have F1 := Lib.hid h1
    clear h0 h1 h2 h3 h4 h5 h6
    go_enter Tryz.func33, Tryz.ntmps33
    go_wp2_with fail
    refine (S.out _ _ true F0.out).mono ?_
    rintro e w1 ⟨rfl, b1⟩
    have X1 := Lib.hid (X0.out.below b1)
    obtain ⟨q0, q1, q2, q3, q4, q5, q6, q7, q8, q9, q10⟩ := X1.out.c11
    have hl1 := X1.out.lt
    have G1 := Lib.hid ((below_new w _).trans (b1.mono (by simp)))
    clear b1
    go_wp2_with fail
    refine (C.out _ true (R.out.below G1.out) F1.out).mono ?_
    rintro e w2 ⟨rfl, b2⟩
    have X2 := Lib.hid (X1.out.below b2)
    clear q0 q1 q2 q3 q4 q5 q6 q7 q8 q9 q10
    obtain ⟨q0, q1, q2, q3, q4, q5, q6, q7, q8, q9, q10⟩ := X2.out.c11
    have hl2 := X2.out.lt
    have G2 := Lib.hid (G1.out.trans (b2.mono (by have := G1.out.size; omega)))
    clear b2
    go_wp2
    go_ret
    exact intb_mk (by rw [E.out]; rfl) G2.out
  have t2 : decide (stop < 0) = false := by simp; omega
  have t3 : decide (5 < stop) = false := by simp; omega
  have t4 : ((n6 : Int) != 0) = false := by simp; omega
  have t5 : (j != 0) = false := by simp; omega
  have t6 : (d != 0) = false := by simp; omega
  have E := Lib.hid (show b = true by rw [← HB.out]; simp [stB, h0, h1, h2, h3, h4, h5, h6])
  have F0 := Lib.hid h0
  have F1 := Lib.hid h1
  clear h0 h1 h2 h3 h4 h5 h6
  go_enter Tryz.func33, Tryz.ntmps33
  go_wp2_with fail
  refine (S.out _ _ true F0.out).mono ?_
  rintro e w1 ⟨rfl, b1⟩
  have X1 := Lib.hid (X0.out.below b1)
  obtain ⟨q0, q1, q2, q3, q4, q5, q6, q7, q8, q9, q10⟩ := X1.out.c11
  have hl1 := X1.out.lt
  have G1 := Lib.hid ((below_new w _).trans (b1.mono (by simp)))
  clear b1
  go_wp2_with fail
  refine (C.out _ true (R.out.below G1.out) F1.out).mono ?_
  rintro e w2 ⟨rfl, b2⟩
  have X2 := Lib.hid (X1.out.below b2)
  clear q0 q1 q2 q3 q4 q5 q6 q7 q8 q9 q10
  obtain ⟨q0, q1, q2, q3, q4, q5, q6, q7, q8, q9, q10⟩ := X2.out.c11
  have hl2 := X2.out.lt
  have G2 := Lib.hid (G1.out.trans (b2.mono (by have := G1.out.size; omega)))
  clear b2
  go_wp2
  go_ret
  exact intb_mk (by rw [E.out]; rfl) G2.out
theorem nu_is (x m : Int) (b : Bool) (w : World) (h : numB x m = b) : Calls Tryz.prog 17 #[.int .i64 x, .int .i64 m] w (BoolPost b w) := by subst h; exact nu_any x m w
def comB (n1 n2 n3 : Nat) (tk pc : Int) (l : List Int) : Bool := szB n1 n2 n3 tk && plsB pc l
theorem allpl_bad {l : List Int} {i : Nat} {z : Int} (h : l.take (i + 1) = l.take i ++ [z]) (hz : plB z = false) : allPl l = false := by
  have h1 : z ∈ l := List.mem_of_mem_take (i := i + 1) (by rw [h]; simp)
  cases ha : allPl l
  · rfl
  · have := List.all_eq_true.1 ha z h1; rw [hz] at this; cases this
set_option maxRecDepth 20000 in
set_option maxHeartbeats 2000000 in
theorem common_any (A1 A2 A3 A5 A6 : Option Addr) (n1 c1 n2 c2 n3 c3 c5 n6 c6 : Nat) (tk pc stop j d : Int) (o : Value) (l : List Int) (w : World) (h : Rd .i64 w (.slice A5 l.length c5) l) (hl : l.length ≤ 1000000) : Calls Tryz.prog 34 #[.agg #[.slice A1 n1 c1, .slice A2 n2 c2, .slice A3 n3 c3, .int .i64 tk, o, .int .i64 pc, .slice A5 l.length c5, .int .i64 stop, .slice A6 n6 c6, .int .i64 j, .int .i64 d]] w (BoolBelow (comB n1 n2 n3 tk pc l) w) := by
  have R := Lib.hid (fun o => h.alloc o)
  have B0 := Lib.hid (fun o => below_new w o)
  generalize hn : l.length = n5 at *
  have HN := Lib.hid hn
  clear hn h
  by_cases h0 : n1 = 16
  rotate_left
  · have t0 : ((n1 : Int) != 16) = true := by simp; omega
    have E := Lib.hid (show comB n1 n2 n3 tk pc l = false by simp [comB, szB, h0])
    clear h0
    go_enter Tryz.func34, Tryz.ntmps34
    go_wp2
    go_ret
    exact boolb_mk (by rw [E.out]) (B0.out _)
  by_cases h1 : n2 = 256
  rotate_left
  · have t0 : ((n1 : Int) != 16) = false := by simp; omega
    have t1 : ((n2 : Int) != 256) = true := by simp; omega
    have E := Lib.hid (show comB n1 n2 n3 tk pc l = false by simp [comB, szB, h1])
    clear h0 h1
    go_enter Tryz.func34, Tryz.ntmps34
    go_wp2
    go_ret
    exact boolb_mk (by rw [E.out]) (B0.out _)
  by_cases h2 : n3 ≤ 100
  rotate_left
  · have t0 : ((n1 : Int) != 16) = false := by simp; omega
    have t1 : ((n2 : Int) != 256) = false := by simp; omega
    have t2 : decide (100 < (n3 : Int)) = true := by simp; omega
    have E := Lib.hid (show comB n1 n2 n3 tk pc l = false by simp [comB, szB, h2])
    clear h0 h1 h2
    go_enter Tryz.func34, Tryz.ntmps34
    go_wp2
    go_ret
    exact boolb_mk (by rw [E.out]) (B0.out _)
  by_cases h3 : numB tk n3 = true
  rotate_left
  · have t0 : ((n1 : Int) != 16) = false := by simp; omega
    have t1 : ((n2 : Int) != 256) = false := by simp; omega
    have t2 : decide (100 < (n3 : Int)) = false := by simp; omega
    have E := Lib.hid (show comB n1 n2 n3 tk pc l = false by simp [numB] at h3; simp [comB, szB]; omega)
    have N3 := Lib.hid (fun W => nu_is tk n3 false W (by simpa using h3))
    clear h0 h1 h2 h3
    go_enter Tryz.func34, Tryz.ntmps34
    go_wp2_with fail
    refine (N3.out _).mono ?_
    rintro e w' ⟨rfl, rfl⟩
    go_wp2
    go_ret
    exact boolb_mk (by rw [E.out]) (B0.out _)
  by_cases h4 : numB pc 1024 = true
  rotate_left
  · have t0 : ((n1 : Int) != 16) = false := by simp; omega
    have t1 : ((n2 : Int) != 256) = false := by simp; omega
    have t2 : decide (100 < (n3 : Int)) = false := by simp; omega
    have E := Lib.hid (show comB n1 n2 n3 tk pc l = false by simp [numB] at h4; simp [comB, plsB, plB]; omega)
    have N3 := Lib.hid (fun W => nu_is tk n3 true W h3)
    have N4 := Lib.hid (fun W => nu_is pc 1024 false W (by simpa using h4))
    clear h0 h1 h2 h3 h4
    go_enter Tryz.func34, Tryz.ntmps34
    go_wp2_with fail
    refine (N3.out _).mono ?_
    rintro e w' ⟨rfl, rfl⟩
    go_wp2_with fail
    refine (N4.out _).mono ?_
    rintro e w' ⟨rfl, rfl⟩
    go_wp2
    go_ret
    exact boolb_mk (by rw [E.out]) (B0.out _)
  by_cases h5 : n5 ≤ 16
  rotate_left
  · have t0 : ((n1 : Int) != 16) = false := by simp; omega
    have t1 : ((n2 : Int) != 256) = false := by simp; omega
    have t2 : decide (100 < (n3 : Int)) = false := by simp; omega
    have t5 : decide (16 < (n5 : Int)) = true := by simp; omega
    have E := Lib.hid (show comB n1 n2 n3 tk pc l = false by simp [comB, plsB, HN.out]; omega)
    have N3 := Lib.hid (fun W => nu_is tk n3 true W h3)
    have N4 := Lib.hid (fun W => nu_is pc 1024 true W h4)
    clear h0 h1 h2 h3 h4 h5
    go_enter Tryz.func34, Tryz.ntmps34
    go_wp2_with fail
    refine (N3.out _).mono ?_
    rintro e w' ⟨rfl, rfl⟩
    go_wp2_with fail
    refine (N4.out _).mono ?_
    rintro e w' ⟨rfl, rfl⟩
    go_wp2
    go_ret
    exact boolb_mk (by rw [E.out]) (B0.out _)
  have t0 : ((n1 : Int) != 16) = false := by simp; omega
  have t1 : ((n2 : Int) != 256) = false := by simp; omega
  have t2 : decide (100 < (n3 : Int)) = false := by simp; omega
  have t5 : decide (16 < (n5 : Int)) = false := by simp; omega
  have N3 := Lib.hid (fun W => nu_is tk n3 true W h3)
  have N4 := Lib.hid (fun W => nu_is pc 1024 true W h4)
  have E := Lib.hid (show comB n1 n2 n3 tk pc l = allPl l by simp [numB] at h3 h4; simp [comB, szB, plsB, plB, HN.out, h0, h1, h2, h3, h4, h5])
  clear h0 h1 h2 h3 h4 h5
  go_enter Tryz.func34, Tryz.ntmps34
  go_wp2_with fail
  refine (N3.out _).mono ?_
  rintro e w' ⟨rfl, rfl⟩
  go_wp2_with fail
  refine (N4.out _).mono ?_
  rintro e w' ⟨rfl, rfl⟩
  go_wp2_with fail
  go_loop [3] (fun o => ∃ i : Nat, i ≤ n5 ∧ o = .int .i64 i ∧ allPl (l.take i) = true) (fun o => n5 - (intOf o).toNat)
  case atStart => exact ⟨0, by omega, rfl, rfl⟩
  case round =>
    obtain ⟨i, hi, rfl, hp⟩ := hrel
    have HP := Lib.hid hp
    clear hp
    by_cases hlt : i < n5
    · have hd : decide ((i : Int) < (n5 : Int)) = true := by simpa using hlt
      have i0 : (0 : Int) ≤ (i : Int) := by omega
      have i1 : (i : Int) < (n5 : Int) := by omega
      obtain ⟨A', c', hv, hr⟩ := R.out (.cells #[.slice A1 n1 c1, .slice A2 n2 c2, .slice A3 n3 c3, .int .i64 tk, o, .int .i64 pc, .slice A5 n5 c5, .int .i64 stop, .slice A6 n6 c6, .int .i64 j, .int .i64 d] 27)
      simp only [Value.slice.injEq] at hv
      obtain ⟨hv1, hv2, hv3⟩ := hv
      subst hv1
      clear hv2 hv3
      obtain ⟨ad, rfl, hg, q⟩ := hr (by have := HN.out; omega)
      have hil : i < l.length := by have := HN.out; omega
      have k1 := q i _ (map_get hil)
      have T := Lib.hid (List.take_succ_eq_append_getElem hil)
      generalize l[i] = z at k1 T
      clear q hg hil hr
      cases hz : plB z
      · have P := Lib.hid (fun W => nu_is z 1024 false W hz)
        have HZ := Lib.hid hz
        clear hz
        go_wp2_with (go_at_call 17; refine (P.out _).mono ?_; rintro e w' ⟨rfl, rfl⟩)
        go_ret
        exact boolb_mk (by rw [E.out]; exact (allpl_bad T.out HZ.out).symm) (B0.out _)
      · have P := Lib.hid (fun W => nu_is z 1024 true W hz)
        have HZ := Lib.hid hz
        clear hz
        go_wp2_with (go_at_call 17; refine (P.out _).mono ?_; rintro e w' ⟨rfl, rfl⟩)
        go_round
        case rel => exact ⟨i + 1, by omega, by go_num, by have h1 := HP.out; rw [T.out]; unfold allPl at h1 ⊢; rw [List.all_append, h1]; simpa using HZ.out⟩
        case measure => simp [intOf]; omega
    · have hd : decide ((i : Int) < (n5 : Int)) = false := by simp; omega
      go_wp2
      go_ret
      have h1 := HP.out
      rw [List.take_of_length_le (by have := HN.out; omega)] at h1
      exact boolb_mk (by rw [E.out, h1]) (B0.out _)
theorem common_is (A1 A2 A3 A5 A6 : Option Addr) (n1 c1 n2 c2 n3 c3 c5 n6 c6 : Nat) (tk pc stop j d : Int) (o : Value) (l : List Int) (w : World) (h : Rd .i64 w (.slice A5 l.length c5) l) (hl : l.length ≤ 1000000) (b : Bool) (hb : comB n1 n2 n3 tk pc l = b) : Calls Tryz.prog 34 #[.agg #[.slice A1 n1 c1, .slice A2 n2 c2, .slice A3 n3 c3, .int .i64 tk, o, .int .i64 pc, .slice A5 l.length c5, .int .i64 stop, .slice A6 n6 c6, .int .i64 j, .int .i64 d]] w (BoolBelow b w) := by subst hb; exact common_any A1 A2 A3 A5 A6 n1 c1 n2 c2 n3 c3 c5 n6 c6 tk pc stop j d o l w h hl
end Go.Proofs.YtbkikibdnpffpaaGreatDoor
