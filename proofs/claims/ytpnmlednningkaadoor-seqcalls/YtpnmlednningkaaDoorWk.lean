/-
  Contract of the statements' call wakes, and how a literal program lies in memory. Condition: the tables lie in the world.
-/
import Derived.Test.YtpnmlednningkaaDoorNew
namespace Go.Proofs.YtpnmlednningkaaDoor
open Go.RowKit

theorem addr0 (g j : Nat) : (⟨g, 0, none⟩ : Addr).add j = ⟨g, j, none⟩ := by unfold Addr.add; split <;> simp_all
def In6.list (x : In6) : List Value := [.int .i64 x.o, .int .i64 x.d, .int .i64 x.a, .int .i64 x.b, .int .i64 x.m, .string x.s]
theorem in6_list (x : In6) (j : Nat) : x.cells[j]? = x.list[j]? := by
  unfold In6.cells In6.list
  simp
def flat6 (xs : List In6) : List Value := xs.flatMap In6.list
theorem flat6_len (xs : List In6) : (flat6 xs).length = xs.length * 6 := by
  induction xs with
  | nil => rfl
  | cons x xs ih => show (x.list ++ flat6 xs).length = _; rw [List.length_append, ih]; simp [In6.list]; omega
theorem flat6_at (xs : List In6) (i j : Nat) (x : In6) (h : xs[i]? = some x) (hj : j < 6) : (flat6 xs)[i * 6 + j]? = x.list[j]? := by
  induction xs generalizing i with
  | nil => simp at h
  | cons y ys ih =>
    have hl : y.list.length = 6 := rfl
    show (y.list ++ flat6 ys)[i * 6 + j]? = _
    cases i with
    | zero =>
      simp at h
      subst h
      rw [List.getElem?_append_left (by rw [hl]; omega)]
      simp
    | succ i =>
      rw [List.getElem?_append_right (by rw [hl]; omega), hl, show (i + 1) * 6 + j - 6 = i * 6 + j by omega]
      exact ih i (by simpa using h)
/-- A row of instructions of the call's own reads as what it holds. -/
theorem rdi_own {w : World} {B n : Nat} {v : Value} {xs : List In6} (h : w.ownsRow B 54 6 v n (flat6 xs)) : RdI w v xs := by
  have hn : xs.length = n := by have h1 := h.1; rw [flat6_len] at h1; omega
  subst hn
  rcases h.2 with ⟨rfl, h0⟩ | ⟨g, cap, cur, rfl, hb, hg, _⟩
  · exact ⟨none, 0, by rw [h0], fun h1 => absurd h1 (by omega)⟩
  · refine ⟨_, _, rfl, fun _ => ⟨_, rfl, lt_of_heap hg, fun i x hi j u hu => ?_⟩⟩
    have hj : j < 6 := by
      have := (Array.getElem?_eq_some_iff.1 hu).1
      simpa [In6.cells] using this
    exact h.cells rfl (i * 6 + j) u (by rw [flat6_at xs i j x hi hj, ← in6_list]; exact hu)
theorem own_lit (w : World) (cs : Array Value) (xs : List In6) (n : Nat) (h : cs.toList = flat6 xs) (hn : xs.length = n) (hm : n ≤ maxLen) : (w.alloc (.cells cs 54)).ownsRow w.heap.size 54 6 (.slice (some ⟨w.heap.size, 0, none⟩) n n) n (flat6 xs) := by
  have hs : cs.size = n * 6 := by rw [← Array.length_toList, h, flat6_len, hn]
  rw [← h]
  exact World.ownsRow_lit w cs n (Nat.le_refl _) hm hs
theorem rdp_lit (w : World) (cs : Array Value) (P : List In5) (n : Nat) (h : cs.toList = flat6 (P.map In5.raw)) (hn : P.length = n) (hm : n ≤ maxLen) : RdP (w.alloc (.cells cs 54)) (.slice (some ⟨w.heap.size, 0, none⟩) n n) P :=
  rdi_own (own_lit w cs (P.map In5.raw) n h (by rw [List.length_map]; exact hn) hm)
/-- Is it one that may be? By reckoning. -/
def viB (x : In5) : Bool := decide (x.o < 34) && insB x.o x.d x.a x.b x.m ⟨#[]⟩
theorem vi_of {x : In5} (h : viB x = true) : Vi x := by
  unfold viB at h
  simp only [Bool.and_eq_true, decide_eq_true_eq] at h
  exact ⟨h.1, h.2⟩
theorem vp_of {P : List In5} (h : (decide (P.length ≤ 1024) && P.all viB) = true) : Vp P := by
  simp only [Bool.and_eq_true, decide_eq_true_eq] at h
  exact ⟨h.1, fun x hx => vi_of (List.all_eq_true.1 h.2 x hx)⟩
theorem okk0 {xs : List Int} (hl : xs.length ≤ 100) (hw : ∀ x ∈ xs, 0 ≤ x ∧ x ≤ 4294967295) : Okk (m0 xs) :=
  { ok := { R := List.length_replicate .., mem := List.length_replicate .., inp := hl, tk := Nat.zero_le _, pc := Nat.zero_le _, st := Nat.zero_le _, out := Nat.zero_le _
            wR := fun x hx => by simp only [m0] at hx; rw [List.eq_of_mem_replicate hx]; omega
            wM := fun x hx => by simp only [m0] at hx; rw [List.eq_of_mem_replicate hx]; omega
            wI := hw, wS := fun x hx => by simp [m0] at hx }
    s0 := Int.le_refl _, s5 := by show (0 : Int) ≤ 5; decide }
def wkP : List In5 := [⟨26, 3, 0, 0, 0⟩, ⟨27, 0, 3, 0, 0⟩, ⟨33, 0, 0, 0, 0⟩]
theorem wk_n : (runP wkP 9 (m0 [7])).2 = 3 := by decide +kernel
theorem wk_stop : (runP wkP 9 (m0 [7])).1.stop = 1 := by decide +kernel
theorem wk_out : (runP wkP 9 (m0 [7])).1.out = [7] := by decide +kernel
theorem wk_vp : Vp wkP := vp_of (by decide +kernel)
set_option maxRecDepth 20000 in
set_option maxHeartbeats 4000000 in
theorem wakes_any (w : World) (T : Tab w) : Calls Tryd.prog 27 #[] w (BoolBelow true w) := by
  have TT := Lib.hid T
  have R7 := Lib.hid (show Rd .u32 (w.alloc (.cells #[.int .u32 7] 60)) (.slice (some ⟨w.heap.size, 0, none⟩) 1 1) [7] from (Rd.of_own (e := 60) (World.ownsRow_lit w #[.int .u32 7] 1 (Nat.le_refl _) (by decide) rfl)))
  have B7 := Lib.hid (below_new w (.cells #[.int .u32 7] 60))
  clear T
  go_enter Tryd.func27, Tryd.ntmps27
  go_wp2_with fail
  refine (new_ok [7] _ _ R7.out (by decide)).mono ?_
  rintro e w1 ⟨v1, rfl, s1, b1⟩
  have G1 := Lib.hid (B7.out.trans (b1.mono (by simp)))
  have S1 := Lib.hid s1
  obtain ⟨cs, rfl, hcs, hone⟩ := s1.sv.form
  have CZ := Lib.hid hcs
  have CO := Lib.hid hone
  clear s1 hcs hone b1
  go_wp2_with (((with_reducible refine wpList_store_bk (T := 27) (op := ⟨none, .store 27 _ _, _, _, _, none⟩) rfl _ _ rfl Tryd.size27 w1.heap.size ZS cs ?sx ?sy ?sb ?s1 ?s2 ?s3 ?_); (case sx => rfl); (case sy => rfl); (case s1 => rfl); (case s2 => exact CZ.out); (case s3 => exact CO.out); (case sb => exact heap_alloc_new w1 _)))
  intro w2 hbl hg hsz
  have X2 := Lib.hid hbl
  have BL2 := (below_new w1 (.cells ZS 27)).grown hg (by simp) (by intro k hk; cases hk; omega)
  have S2 := Lib.hid (S1.out.below BL2)
  have G2 := Lib.hid (G1.out.trans (BL2.mono (by have := G1.out.size; omega)))
  clear hbl hg hsz BL2
  go_wp2_with ((with_reducible refine wpList_load_bk (T := 27) (op := ⟨some 16, .load 27 _, _, _, _, none⟩) rfl _ rfl Tryd.underlying27 Tryd.size27 w1.heap.size cs ?lx ?lb ?l1 ?_); (case lx => rfl); (case l1 => exact CZ.out); (case lb => exact BK.alloc X2.out _))
  refine (run_ok wkP (m0 [7]) _ (.agg cs) 9 _ ?rp wk_vp ?rs (okk0 (by decide) (by simp)) ?rt (by decide) (by decide) (by decide)).mono ?_
  case rp => exact rdp_lit w2 _ wkP 3 rfl rfl (by decide)
  case rs => exact S2.out.sv.below (below_new _ _)
  case rt => exact (TT.out.below G2.out).alloc _
  rintro e w3 ⟨v2, rfl, s3, b3⟩
  have E9 : (9 : Int).toNat = 9 := rfl
  rw [E9] at s3 ⊢
  rw [wk_n, show ((3 : Nat) : Int) = 3 from rfl]
  have G3 := Lib.hid (G2.out.trans (((below_new w2 _).trans (b3.mono (by simp))).mono (by have := G2.out.size; omega)))
  clear E9 b3
  obtain ⟨r, q, i, o, z, A6, c6, rfl, a1, a2, a3, a4, a5⟩ := s3.sv
  have O1 := Lib.hid (one11 (a := (runP wkP 9 (m0 [7])).1.tk) (b := (runP wkP 9 (m0 [7])).1.pc) (s := (runP wkP 9 (m0 [7])).1.stop) (A := A6) (c := c6) a1.one a2.one a3.one a4.one a5.one)
  rw [wk_out] at a4
  obtain ⟨Ao, co, rfl, ho⟩ := a4
  obtain ⟨ad, rfl, hal, hoc⟩ := ho (by decide)
  have k7 := hoc 0 (.int .u32 7) rfl
  have hstop := wk_stop
  generalize (runP wkP 9 (m0 [7])).1 = m9 at *
  have e0 : ad.add 0 = ad := by unfold Addr.add; simp
  rw [e0] at k7
  rw [hstop] at O1 ⊢
  clear e0 hoc ho a1 a2 a3 a5 s3 hstop
  go_wp2_with (((with_reducible refine wpList_store_bk (T := 27) (op := ⟨none, .store 27 _ _, _, _, _, none⟩) rfl _ _ rfl Tryd.size27 w3.heap.size ZS #[r, q, i, .int .i64 m9.tk, .slice (some ad) 1 co, .int .i64 m9.pc, z, .int .i64 1, .slice A6 0 c6, .int .i64 0, .int .i64 0] ?sx ?sy ?sb ?s1 ?s2 ?s3 ?_); (case sx => rfl); (case sy => rfl); (case s1 => rfl); (case s2 => rfl); (case s3 => exact O1.out); (case sb => exact heap_alloc_new w3 _)))
  intro w4 hbl hg hsz
  have BL4 := (below_new w3 (.cells ZS 27)).grown hg (by simp) (by intro k hk; cases hk; omega)
  have k8 := (BL4.cell (p := ad) hal).trans k7
  have hal4 : ad.block < w4.heap.size := Nat.lt_of_lt_of_le hal BL4.size
  have G4 := Lib.hid (G3.out.trans (BL4.mono (by have := G3.out.size; omega)))
  obtain ⟨q0, q1, q2, q3, q4, q5, q6, q7, q8, q9, q10⟩ := hbl.c11
  have hl4 := hbl.lt
  clear hbl hg hsz BL4 k7 hal
  go_wp2_with (go_at_call 15; refine (num_any _ _).mono ?_; rintro e w' ⟨rfl, rfl⟩)
  go_ret
  exact ⟨rfl, G4.out⟩
end Go.Proofs.YtpnmlednningkaaDoor
