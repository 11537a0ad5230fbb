/-
  The text of an instruction, as the program tells it. Conditions: the tables lie in the world; the name is no longer than a string may be.
-/
import Derived.Test.YtgaoelpgdianiaaDoorOperands
import Derived.Lib.Join
namespace Go.Proofs.YtgaoelpgdianiaaDoor
open Go.RowKit

theorem fits_in {has : Bool} {r : Int} (h : fitsB has r = true) : I64 r := by
  unfold fitsB at h
  unfold I64
  cases has
  · simp at h; omega
  · simp at h; omega
theorem name_le {s : ByteArray} (h : nameB s = true) : s.size ≤ 12 := by
  unfold nameB at h
  simp only [Bool.and_eq_true, decide_eq_true_eq] at h
  exact h.1.1.2
theorem good_parts {n : Nat} {d a b m : Int} {s : ByteArray} (h : n < 34) (hi : insB n d a b m s = true) : I64 d ∧ I64 a ∧ I64 b ∧ I64 m ∧ s.size ≤ 12 := by
  rw [← chk_ins n d a b m s h] at hi
  unfold chkB at hi
  simp only [Bool.and_eq_true, decide_eq_true_eq] at hi
  obtain ⟨⟨⟨h1, h2⟩, h3⟩, ⟨h4, h5⟩, h6⟩ := hi
  refine ⟨fits_in h1, fits_in h2, fits_in h3, ?_, ?_⟩
  · unfold I64
    rcases op_kinds ⟨n, h⟩ with ⟨_, e2, e3, _⟩ | ⟨_, e2, e3, _⟩ | ⟨_, e2, e3, _⟩ | ⟨_, e2, e3, _⟩
    all_goals
      simp only at e2 e3
      rw [e2] at h4
      rw [e3] at h5
      omega
  · unfold symB at h6
    simp only [Bool.or_eq_true, decide_eq_true_eq] at h6
    rcases h6 with h6 | h6
    · omega
    · split at h6 <;> (simp only [Bool.and_eq_true] at h6; exact name_le h6.2)

/-- The text. -/
def txt (n : Nat) (xs : List ByteArray) : ByteArray := if xs.length = 0 then nm n else (nm n ++ ⟨#[32]⟩) ++ ⟨(Lib.join (xs.map (·.data.toList)) [44, 32]).toArray⟩
theorem nm_size {n : Nat} (h : n < 34) : (nm n).size ≤ 4 := (by decide : ∀ n : Fin 34, (nm n.1).size ≤ 4) ⟨n, h⟩
theorem joinTail_le (r : List (List UInt8)) (h : ∀ x ∈ r, x.length ≤ 40) : (Lib.joinTail [44, 32] r).length ≤ 42 * r.length := by
  induction r with
  | nil => simp [Lib.joinTail]
  | cons x r ih =>
    have h1 := h x (by simp)
    have h2 := ih (fun y hy => h y (by simp [hy]))
    simp [Lib.joinTail] at h2 ⊢
    omega
theorem join_le (xs : List ByteArray) (h : ∀ x ∈ xs, x.size ≤ 40) : (Lib.join (xs.map (·.data.toList)) [44, 32]).length ≤ 42 * xs.length := by
  cases xs with
  | nil => simp [Lib.join_nil]
  | cons x r =>
    rw [List.map_cons, Lib.join_cons]
    have h1 := h x (by simp)
    have h2 := joinTail_le (r.map (·.data.toList)) (fun y hy => by
      obtain ⟨z, hz, rfl⟩ := List.mem_map.1 hy
      simpa using h z (by simp [hz]))
    simp at h2 ⊢
    omega
theorem opsL_le (f : Nat) (d a b m : Int) (s : ByteArray) : (opsL f d a b m s).length ≤ 4 := by
  have := regs_le f a b
  unfold opsL
  rw [List.length_append, List.length_append, List.length_map]
  split <;> split <;> simp <;> omega
theorem opsL_size (f : Nat) (d a b m : Int) (s : ByteArray) (hd : I64 d) (ha : I64 a) (hb : I64 b) (hm : I64 m) (hs : s.size ≤ 12) : ∀ x ∈ opsL f d a b m s, x.size ≤ 40 := by
  intro x hx
  unfold opsL at hx
  rcases List.mem_append.1 hx with h | h
  · rcases List.mem_append.1 h with h | h
    · split at h
      · simp at h; subst h; have := regT_size d hd; omega
      · simp at h
    · obtain ⟨r, hr, rfl⟩ := List.mem_map.1 h
      have := regT_size r (regs_in f a b ha hb r hr); omega
  · split at h
    · simp at h; subst h; exact valT_size m s hm hs
    · simp at h

def StrTwo (t : ByteArray) (c : Int) (w : World) (e : Ending) (w' : World) : Prop := e = .returned (.tuple #[.string t, .int .i64 c]) ∧ Below w.heap.size w w'
theorem strtwo_mk {t t' : ByteArray} {c : Int} {w w' : World} (h : t' = t) (hb : Below w.heap.size w w') : StrTwo t c w (.returned (.tuple #[.string t', .int .i64 c])) w' := by subst h; exact ⟨rfl, hb⟩
theorem join_any (xs : List ByteArray) (v : Value) (base : Nat) (w : World) (h : w.ownsRow base 9 1 v xs.length (xs.map Value.string)) (h0 : 0 < xs.length) (hl : xs.length ≤ 4) (hx : ∀ x ∈ xs, x.size ≤ 40) :
    Calls Tryd.prog 46 #[v, .string ⟨#[44, 32]⟩] w (StrBelow ⟨(Lib.join (xs.map (·.data.toList)) [44, 32]).toArray⟩ w) := by
  obtain ⟨g, cap, rfl, hb, hlt⟩ := h.form h0
  have hj := join_le xs hx
  have hcap : xs.length ≤ cap := by
    rcases h.2 with ⟨e, _⟩ | ⟨g', cap', cur, e, _, _, hc, _⟩
    · cases e
    · injection e with _ _ e3; omega
  exact Tryd.strings_Join g 0 cap xs ⟨#[44, 32]⟩ w (fun j x hx => by
    have hjl : j < xs.length := (List.getElem?_eq_some_iff.1 hx).1
    rw [Nat.zero_add, h.cellAt j (by omega), List.getElem?_map, hx]; rfl) hlt (by omega) hcap (by show (Lib.join (xs.map (·.data.toList)) [44, 32]).length ≤ _; omega)
set_option maxHeartbeats 1000000 in
set_option maxRecDepth 100000 in
theorem text_some (n : Nat) (d a b m : Int) (s : ByteArray) (w : World) (h : n < 34) (H : Tab w) (hs : s.size ≤ maxLen) (hi : insB n d a b m s = true) (h0 : 0 < (opsL (fm n) d a b m s).length) : Calls Tryd.prog 28 #[.agg #[.int .i64 n, .int .i64 d, .int .i64 a, .int .i64 b, .int .i64 m, .string s]] w (StrTwo (txt n (opsL (fm n) d a b m s)) 0 w) := by
  have T := Lib.hid H
  obtain ⟨pd, pa, pb, pm, ps⟩ := good_parts h hi
  have OS := Lib.hid (opsL_size (fm n) d a b m s pd pa pb pm ps)
  have OE := Lib.hid (opsL_le (fm n) d a b m s)
  have OP := Lib.hid (fun W (hW : Tab W) => oper_any n d a b m s W h hW pa pb pd pm ps)
  have N4 := nm_size h
  have HI := Lib.hid hi
  clear H pd pa pb pm ps hi
  go_enter Tryd.func28, Tryd.ntmps28
  go_wp2_with fail
  refine (check_good _ _ _ _ _ _ _ h (T.out.alloc _) hs HI.out).mono ?_
  rintro e w1 ⟨rfl, hb⟩
  obtain ⟨q, hz, hB⟩ := box_cells hb
  have k0 : w1.cell? ⟨w.heap.size, 0, none⟩ = some (.int .i64 n) := q 0
  have k1 : w1.cell? ⟨w.heap.size, 1, none⟩ = some (.int .i64 d) := q 1
  have k2 : w1.cell? ⟨w.heap.size, 2, none⟩ = some (.int .i64 a) := q 2
  have k3 : w1.cell? ⟨w.heap.size, 3, none⟩ = some (.int .i64 b) := q 3
  have k4 : w1.cell? ⟨w.heap.size, 4, none⟩ = some (.int .i64 m) := q 4
  have k5 : w1.cell? ⟨w.heap.size, 5, none⟩ = some (.string s) := q 5
  have T1 := Lib.hid ((T.out.alloc _).below hb)
  have HB := Lib.hid hB
  clear q hb hB
  obtain ⟨t1, t2, t3, t4⟩ := T1.out.ops n h
  have big := T1.out.big
  have i0 : (0 : Int) ≤ (n : Int) := by omega
  have i1 : (n : Int) < 34 := by omega
  clear t2 t3 t4
  go_wp2_with fail
  go_region_held3 (fun w' => w'.cell? ⟨w.heap.size, 0, none⟩ = some (.int .i64 n) ∧ w'.cell? ⟨w.heap.size, 1, none⟩ = some (.int .i64 d) ∧ w'.cell? ⟨w.heap.size, 2, none⟩ = some (.int .i64 a) ∧ w'.cell? ⟨w.heap.size, 3, none⟩ = some (.int .i64 b) ∧ w'.cell? ⟨w.heap.size, 4, none⟩ = some (.int .i64 m) ∧ w'.cell? ⟨w.heap.size, 5, none⟩ = some (.string s) ∧ w'.cell? ⟨0, n * 4, none⟩ = some (.string (nm n))) (first | go_keep | exact ⟨(hb2.cell (p := ⟨w.heap.size, 0, none⟩) hz).trans k0, (hb2.cell (p := ⟨w.heap.size, 1, none⟩) hz).trans k1, (hb2.cell (p := ⟨w.heap.size, 2, none⟩) hz).trans k2, (hb2.cell (p := ⟨w.heap.size, 3, none⟩) hz).trans k3, (hb2.cell (p := ⟨w.heap.size, 4, none⟩) hz).trans k4, (hb2.cell (p := ⟨w.heap.size, 5, none⟩) hz).trans k5, (hb2.cell (p := ⟨0, n * 4, none⟩) (show 0 < w1.heap.size by omega)).trans t1⟩) ((go_at_call 45; refine (OP.out _ (by first | exact T1.out | exact T1.out.drew)).mono ?_; rintro e w2 ⟨v, rfl, hown, hb2⟩))
  have B2 := Lib.hid (show Below w.heap.size w w2 from HB.out.trans (Below.mono ⟨hb2.os, hb2.tape, hb2.output, hb2.size, hb2.block⟩ (show w.heap.size ≤ w1.heap.size by omega)))
  have O2 := Lib.hid hown
  clear hown hb2 k0 k1 k2 k3 k4 k5 t1
  have TX := Lib.hid (show txt n (opsL (fm n) d a b m s) = (nm n ++ ⟨#[32]⟩) ++ ⟨(Lib.join ((opsL (fm n) d a b m s).map (·.data.toList)) [44, 32]).toArray⟩ by unfold txt; rw [if_neg (by omega)])
  generalize opsL (fm n) d a b m s = X at *
  obtain ⟨g, cap, rfl, _, _⟩ := O2.out.form h0
  have JN := Lib.hid (join_any X _ _ w2 O2.out h0 OE.out OS.out)
  have JL := join_le X OS.out
  have hX4 := OE.out
  generalize hJ : (Lib.join (X.map (·.data.toList)) [44, 32]) = J at *
  clear hJ
  have e0 : ((X.length : Int) == 0) = false := by rw [beq_eq_false_iff_ne]; omega
  have q1 : ¬ 9223372036854775807 < (nm n).size + 1 := by omega
  have q2 : ¬ 9223372036854775807 < (nm n).size + 1 + (⟨J.toArray⟩ : ByteArray).size := by
    have : (⟨J.toArray⟩ : ByteArray).size = J.length := by show J.toArray.size = _; simp
    omega
  go_wp2_with (go_at_call 46; refine JN.out.mono ?_; rintro e w3 ⟨rfl, hb3⟩)
  go_ret2
  exact strtwo_mk TX.out.symm (B2.out.trans (hb3.mono B2.out.size))
set_option maxHeartbeats 1000000 in
set_option maxRecDepth 100000 in
theorem text_none (n : Nat) (d a b m : Int) (s : ByteArray) (w : World) (h : n < 34) (H : Tab w) (hs : s.size ≤ maxLen) (hi : insB n d a b m s = true) (h0 : (opsL (fm n) d a b m s).length = 0) : Calls Tryd.prog 28 #[.agg #[.int .i64 n, .int .i64 d, .int .i64 a, .int .i64 b, .int .i64 m, .string s]] w (StrTwo (txt n (opsL (fm n) d a b m s)) 0 w) := by
  have H0 := Lib.hid h0
  clear h0
  have T := Lib.hid H
  obtain ⟨pd, pa, pb, pm, ps⟩ := good_parts h hi
  have OS := Lib.hid (opsL_size (fm n) d a b m s pd pa pb pm ps)
  have OE := Lib.hid (opsL_le (fm n) d a b m s)
  have OP := Lib.hid (fun W (hW : Tab W) => oper_any n d a b m s W h hW pa pb pd pm ps)
  have N4 := nm_size h
  have HI := Lib.hid hi
  clear H pd pa pb pm ps hi
  go_enter Tryd.func28, Tryd.ntmps28
  go_wp2_with fail
  refine (check_good _ _ _ _ _ _ _ h (T.out.alloc _) hs HI.out).mono ?_
  rintro e w1 ⟨rfl, hb⟩
  obtain ⟨q, hz, hB⟩ := box_cells hb
  have k0 : w1.cell? ⟨w.heap.size, 0, none⟩ = some (.int .i64 n) := q 0
  have k1 : w1.cell? ⟨w.heap.size, 1, none⟩ = some (.int .i64 d) := q 1
  have k2 : w1.cell? ⟨w.heap.size, 2, none⟩ = some (.int .i64 a) := q 2
  have k3 : w1.cell? ⟨w.heap.size, 3, none⟩ = some (.int .i64 b) := q 3
  have k4 : w1.cell? ⟨w.heap.size, 4, none⟩ = some (.int .i64 m) := q 4
  have k5 : w1.cell? ⟨w.heap.size, 5, none⟩ = some (.string s) := q 5
  have T1 := Lib.hid ((T.out.alloc _).below hb)
  have HB := Lib.hid hB
  clear q hb hB
  obtain ⟨t1, t2, t3, t4⟩ := T1.out.ops n h
  have big := T1.out.big
  have i0 : (0 : Int) ≤ (n : Int) := by omega
  have i1 : (n : Int) < 34 := by omega
  clear t2 t3 t4
  go_wp2_with fail
  go_region_held3 (fun w' => w'.cell? ⟨w.heap.size, 0, none⟩ = some (.int .i64 n) ∧ w'.cell? ⟨w.heap.size, 1, none⟩ = some (.int .i64 d) ∧ w'.cell? ⟨w.heap.size, 2, none⟩ = some (.int .i64 a) ∧ w'.cell? ⟨w.heap.size, 3, none⟩ = some (.int .i64 b) ∧ w'.cell? ⟨w.heap.size, 4, none⟩ = some (.int .i64 m) ∧ w'.cell? ⟨w.heap.size, 5, none⟩ = some (.string s) ∧ w'.cell? ⟨0, n * 4, none⟩ = some (.string (nm n))) (first | go_keep | exact ⟨(hb2.cell (p := ⟨w.heap.size, 0, none⟩) hz).trans k0, (hb2.cell (p := ⟨w.heap.size, 1, none⟩) hz).trans k1, (hb2.cell (p := ⟨w.heap.size, 2, none⟩) hz).trans k2, (hb2.cell (p := ⟨w.heap.size, 3, none⟩) hz).trans k3, (hb2.cell (p := ⟨w.heap.size, 4, none⟩) hz).trans k4, (hb2.cell (p := ⟨w.heap.size, 5, none⟩) hz).trans k5, (hb2.cell (p := ⟨0, n * 4, none⟩) (show 0 < w1.heap.size by omega)).trans t1⟩) ((go_at_call 45; refine (OP.out _ (by first | exact T1.out | exact T1.out.drew)).mono ?_; rintro e w2 ⟨v, rfl, hown, hb2⟩))
  have B2 := Lib.hid (show Below w.heap.size w w2 from HB.out.trans (Below.mono ⟨hb2.os, hb2.tape, hb2.output, hb2.size, hb2.block⟩ (show w.heap.size ≤ w1.heap.size by omega)))
  have O2 := Lib.hid hown
  clear hown hb2 k0 k1 k2 k3 k4 k5 t1
  have TX := Lib.hid (show txt n (opsL (fm n) d a b m s) = nm n by unfold txt; rw [if_pos H0.out])
  have hv : ∃ A c, v = .slice A 0 c := by
    have h2 := O2.out.2
    rw [H0.out] at h2
    rcases h2 with ⟨rfl, _⟩ | ⟨g, cap, cur, rfl, _⟩
    · exact ⟨none, 0, rfl⟩
    · exact ⟨_, _, rfl⟩
  obtain ⟨A, c, rfl⟩ := hv
  go_wp2
  go_ret2
  exact strtwo_mk TX.out.symm B2.out
theorem text_good (n : Nat) (d a b m : Int) (s : ByteArray) (w : World) (h : n < 34) (H : Tab w) (hs : s.size ≤ maxLen) (hi : insB n d a b m s = true) : Calls Tryd.prog 28 #[.agg #[.int .i64 n, .int .i64 d, .int .i64 a, .int .i64 b, .int .i64 m, .string s]] w (StrTwo (txt n (opsL (fm n) d a b m s)) 0 w) := by
  rcases Nat.eq_zero_or_pos (opsL (fm n) d a b m s).length with h0 | h0
  · exact text_none n d a b m s w h H hs hi h0
  · exact text_some n d a b m s w h H hs hi h0
theorem text_bad (o d a b m : Int) (s : ByteArray) (w : World) (H : Tab w) (hs : s.size ≤ maxLen) (hi : Bad o d a b m s) : Calls Tryd.prog 28 #[.agg #[.int .i64 o, .int .i64 d, .int .i64 a, .int .i64 b, .int .i64 m, .string s]] w (StrTwo ⟨#[]⟩ 1 w) := by
  have T := Lib.hid H
  have HI := Lib.hid hi
  clear H hi
  go_enter Tryd.func28, Tryd.ntmps28
  go_wp2_with fail
  refine (check_bad _ _ _ _ _ _ _ (T.out.alloc _) hs HI.out).mono ?_
  rintro e w1 ⟨rfl, hb⟩
  go_wp2
  go_ret2
  exact ⟨rfl, (below_new _ _).trans (hb.mono (by simp))⟩

/-! ### The statements' own small call -/
theorem wakes_any (w : World) (H : Tab w) : Calls Tryd.prog 27 #[] w (BoolBelow true w) := by
  have T := Lib.hid H
  clear H
  have TG := Lib.hid (text_good 25 0 2 1 4 ⟨#[]⟩ w (by decide) T.out (by unfold maxLen; decide) (by decide +kernel))
  have e1 : txt 25 (opsL (fm 25) 0 2 1 4 ⟨#[]⟩) = ⟨#[115, 116, 32, 114, 49, 44, 32, 114, 50, 44, 32, 52]⟩ := by decide +kernel
  rw [e1] at TG
  have e2 : nm 33 = ⟨#[104, 97, 108, 116]⟩ := by decide
  have OP := Lib.hid (fun W (hW : Tab W) => op_some 33 W (by decide) hW)
  rw [e2] at OP
  clear e1 e2
  go_enter Tryd.func27, Tryd.ntmps27
  go_wp2_with (first | (go_at_call 28; refine TG.out.mono ?_; rintro e w1 ⟨rfl, hb⟩; have B1 := Lib.hid hb; clear hb) | (go_at_call 15; refine (OP.out _ (T.out.below B1.out)).mono ?_; rintro e w' ⟨rfl, rfl⟩) | (go_at_call 16; refine (num_any _ _).mono ?_; rintro e w' ⟨rfl, rfl⟩))
  go_ret
  exact ⟨rfl, B1.out⟩
end Go.Proofs.YtgaoelpgdianiaaDoor
