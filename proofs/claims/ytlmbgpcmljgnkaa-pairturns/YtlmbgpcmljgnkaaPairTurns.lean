/-
  PairTurns: for every input the law returns true: times i four times any pair is itself, twice its conjugate is itself, and its norm is that of its conjugate and of what is turned (pairs with a part -2^15 apart, as the law has it); the input reads behind the call as it read before. No condition.
-/
import Derived.Test.YtlmbgpcmljgnkaaShell
import Derived.Deep.QuietTactic
import Derived.BigQuiet
namespace Go.Proofs.Ytlmbgpcmljgnkaa
open Go.ChangeShapes Go.WideShapes Go.ChangeAt Go.RowKit Go.Joins

/-- Times i, n times. -/
def tn : Nat → Int → Int
  | 0, x => x
  | n + 1, x => pV 20 (tn n x) (mk 0 1)

/-- A pair whose parts have negatives that are parts. -/
def Good (x : Int) : Prop := U32 x ∧ lo x ≠ -32768 ∧ hi x ≠ -32768
theorem turn_eq (x : Int) : pV 20 x (mk 0 1) = mk (-hi x) (lo x) := by
  have h1 : lo (mk 0 1) = 0 := by decide
  have h2 : hi (mk 0 1) = 1 := by decide
  simp only [pV, h1, h2]
  simp
theorem neg_in {x : Int} (h : I16 x) (h' : x ≠ -32768) : I16 (-x) := by unfold I16 at *; omega
theorem turn_good {x : Int} (h : Good x) : Good (mk (-hi x) (lo x)) ∧ lo (mk (-hi x) (lo x)) = -hi x ∧ hi (mk (-hi x) (lo x)) = lo x := by
  obtain ⟨h1, h2, h3⟩ := h
  have e1 : lo (mk (-hi x) (lo x)) = -hi x := by rw [lo_mk, lo_id (neg_in (hi_in x) h3)]
  have e2 : hi (mk (-hi x) (lo x)) = lo x := by rw [hi_mk, lo_lo]
  have := hi_in x
  unfold I16 at this
  exact ⟨⟨mk_in _ _, by rw [e1]; omega, by rw [e2]; exact h2⟩, e1, e2⟩
theorem tn_good (n : Nat) {x : Int} (h : Good x) : Good (tn n x) := by
  induction n with
  | zero => exact h
  | succ n ih => show Good (pV 20 (tn n x) (mk 0 1)); rw [turn_eq]; exact (turn_good ih).1
theorem tn_norm (n : Nat) {x : Int} (h : Good x) : nrm (tn n x) = nrm x := by
  induction n with
  | zero => rfl
  | succ n ih =>
    show nrm (pV 20 (tn n x) (mk 0 1)) = _
    obtain ⟨_, e1, e2⟩ := turn_good (tn_good n h)
    rw [turn_eq, ← ih]
    unfold nrm
    rw [e1, e2, Int.neg_mul_neg, Int.add_comm]
theorem tn_four {x : Int} (h : Good x) : tn 4 x = x := by
  have g1 := tn_good 1 h
  have g2 := tn_good 2 h
  have g3 := tn_good 3 h
  obtain ⟨_, a1, b1⟩ := turn_good h
  obtain ⟨_, a2, b2⟩ := turn_good g1
  obtain ⟨_, a3, b3⟩ := turn_good g2
  have t1 : tn 1 x = mk (-hi x) (lo x) := turn_eq x
  have t2 : tn 2 x = mk (-hi (tn 1 x)) (lo (tn 1 x)) := turn_eq _
  have t3 : tn 3 x = mk (-hi (tn 2 x)) (lo (tn 2 x)) := turn_eq _
  have t4 : tn 4 x = mk (-hi (tn 3 x)) (lo (tn 3 x)) := turn_eq _
  rw [← t1] at a1 b1
  rw [← t2] at a2 b2
  rw [← t3] at a3 b3
  rw [t4, b3, a3, b2, a2, b1, a1, Int.neg_neg, Int.neg_neg]
  exact mk_back h.1
theorem conj_eq (x b : Int) : pV 21 x b = mk (lo x) (-hi x) := by simp [pV]
theorem conj_two {x : Int} (h : Good x) (b c : Int) : pV 21 (pV 21 x b) c = x := by
  rw [conj_eq, conj_eq, lo_mk, hi_mk, lo_lo, lo_id (neg_in (hi_in x) h.2.2), Int.neg_neg]
  exact mk_back h.1
theorem conj_norm {x : Int} (h : Good x) (b : Int) : nrm (pV 21 x b) = nrm x := by
  unfold nrm
  rw [conj_eq, lo_mk, hi_mk, lo_lo, lo_id (neg_in (hi_in x) h.2.2), Int.neg_mul_neg]

set_option maxHeartbeats 2000000 in
set_option maxRecDepth 100000 in
theorem pairTurns_walk (A1 A2 : Option Addr) (n1 c1 n2 c2 : Nat) (w : World) (s1 : SliceIn .u32 4 w A1 n1 c1) (_s2 : SliceIn .i64 8 w A2 n2 c2) :
    Calls Try.prog 6 #[.agg #[.slice A1 n1 c1, .slice A2 n2 c2]] w (TruePost w) := by
  have HS := Lib.hid s1
  have HM := Lib.hid (mk_in 0 1)
  clear s1
  go_enter Try.func6, Try.ntmps6
  go_wp2_with (first | (go_at_call 7; refine (words_any (HS.out.alloc _) _ _ _).mono ?_; rintro e w1 ⟨g, m, cap, xs, rfl, hm, hown, hb⟩) | (go_at_call 17; refine (make_any _ _ _).mono ?_; rintro e w' ⟨rfl, rfl⟩))
  have HO := Lib.hid (hown.mono (base' := w.heap.size) (by simp))
  have HB := Lib.hid (((Below.refl _ _).alloc (Nat.le_refl _) _).trans (hb.mono (by simp)))
  clear hown hb
  go_loopw [5] (fun o wr2 => ∃ i : Nat, i ≤ m ∧ o = .int .i64 i ∧ Owned wr2 w.heap.size g m cap xs ∧ Below w.heap.size w wr2) (fun o _ => m - (intOf o).toNat)
  case atStart => exact ⟨0, by omega, rfl, HO.out, HB.out⟩
  case round =>
    clear HO HB
    obtain ⟨i, hi, rfl, hown, hb⟩ := hrel
    have HO := Lib.hid hown
    have HB := Lib.hid hb
    clear hown hb
    by_cases hilt : i < m
    · have hd3 : decide ((i : Int) < (m : Int)) = true := by simpa using hilt
      have hi0 : (0 : Int) ≤ (i : Int) := by omega
      have hi1 : (i : Int) < (m : Int) := by omega
      obtain ⟨x, hx, hcx⟩ := HO.out.at_ hilt
      have HX := Lib.hid hx
      clear hx
      by_cases hl : lo x = -32768
      · have e1 : (lo x == -32768) = true := by simpa using hl
        clear hl
        go_wp2_with (go_at_call 13; refine (parts_any _ _ HX.out).mono ?_; rintro e w' ⟨rfl, rfl⟩)
        go_roundw
        case rel => exact ⟨i + 1, by omega, by go_num, HO.out, HB.out⟩
        case measure => simp [intOf]; omega
      · have e1 : (lo x == -32768) = false := by simpa using hl
        by_cases hh : Go.Proofs.Ytlmbgpcmljgnkaa.hi x = -32768
        · have e2 : (Go.Proofs.Ytlmbgpcmljgnkaa.hi x == -32768) = true := by simpa using hh
          clear hl hh
          go_wp2_with (go_at_call 13; refine (parts_any _ _ HX.out).mono ?_; rintro e w' ⟨rfl, rfl⟩)
          go_roundw
          case rel => exact ⟨i + 1, by omega, by go_num, HO.out, HB.out⟩
          case measure => simp [intOf]; omega
        · have e2 : (Go.Proofs.Ytlmbgpcmljgnkaa.hi x == -32768) = false := by simpa using hh
          have HG := Lib.hid (show Good x from ⟨HX.out, hl, hh⟩)
          clear hl hh
          go_wp2_with (go_at_call 13; refine (parts_any _ _ HX.out).mono ?_; rintro e w' ⟨rfl, rfl⟩)
          have HC := Lib.hid hcx
          clear e1 e2 hcx
          go_loopw [8, 9] (fun y o wr2 => ∃ n : Nat, n ≤ 4 ∧ o = .int .i64 n ∧ y = .int .u32 (tn n x) ∧ wr2.cell? ⟨g, i, none⟩ = some (.int .u32 x) ∧ Owned wr2 w.heap.size g m cap xs ∧ Below w.heap.size w wr2) (fun _ o _ => 4 - (intOf o).toNat)
          case atStart => exact ⟨0, by omega, rfl, rfl, HC.out, HO.out, HB.out⟩
          case round =>
            clear HO HB HC
            obtain ⟨n, hn, rfl, rfl, hcx, hown, hb⟩ := hrel
            have HO := Lib.hid hown
            have HB := Lib.hid hb
            have HC := Lib.hid hcx
            clear hown hb
            have HT := Lib.hid (tn_good n HG.out).1
            by_cases hnlt : n < 4
            · have hd4 : decide ((n : Int) < 4) = true := by simp; omega
              have HT2 := Lib.hid (tn_good (n + 1) HG.out).1
              have hne : (nrm (pV 20 (tn n x) (mk 0 1)) != nrm x) = false := by
                have := tn_norm (n + 1) HG.out
                rw [show pV 20 (tn n x) (mk 0 1) = tn (n + 1) x from rfl, this]; simp
              go_wp2_with (go_at_call 10; refine (of_good _ _ _ _ HT.out HM.out (by omega) (by omega)).mono ?_; rintro e w' ⟨rfl, rfl⟩)
              go_quiet ((first | (go_at_call 12; exact quietFirst (num_quiet _) _ _) | (go_at_call 15; exact quietFirst (norm_quiet _ (by first | exact HX.out | exact HT2.out)) _ _)))
              go_wp2
              go_roundw
              case rel => exact ⟨n + 1, by omega, by go_num, rfl, HC.out, HO.out.drewN _, below_drewN HB.out _⟩
              case measure => simp [intOf]; omega
            · have hd4 : decide ((n : Int) < 4) = false := by simp; omega
              have h4 : n = 4 := by omega
              have f1 : (tn n x != x) = false := by rw [h4, tn_four HG.out]; simp
              have f2 : (pV 21 (pV 21 (tn n x) 0) 0 != x) = false := by rw [conj_two (tn_good n HG.out), h4, tn_four HG.out]; simp
              have f3 : (nrm (pV 21 (tn n x) 0) != nrm x) = false := by rw [conj_norm (tn_good n HG.out), tn_norm n HG.out]; simp
              have HP := Lib.hid (pV_in 21 (tn n x) 0)
              have HZ := Lib.hid (show U32 0 by unfold U32; omega)
              clear h4
              go_wp2_with (go_at_call 10; refine (of_good _ _ _ _ (by first | exact HT.out | exact HP.out) HZ.out (by omega) (by omega)).mono ?_; rintro e w' ⟨rfl, rfl⟩)
              go_quiet ((first | (go_at_call 12; exact quietFirst (num_quiet _) _ _) | (go_at_call 15; exact quietFirst (norm_quiet _ (by first | exact HX.out | exact HP.out)) _ _)))
              go_wp2
              go_roundw
              case rel => exact ⟨i + 1, by omega, by go_num, HO.out.drewN _, below_drewN HB.out _⟩
              case measure => simp [intOf]; omega
    · have hd3 : decide ((i : Int) < (m : Int)) = false := by simp; omega
      go_wp2_with (go_at_call 19; refine (wakes_any _).mono ?_; rintro e w' ⟨rfl, rfl⟩)
      go_ret
      exact ⟨rfl, HB.out⟩

set_option maxRecDepth 100000 in
theorem pairTurns_lifted (os : Os) (started : os.Started) (H : Type) (enc : TypeId × Value → H) :
    ReturnsInHanded {} Try.checked os 6 .any (Rows.pairTurnsSpec.pre6 enc Try.prog Try.f6 Rows.pairTurnsRow.domain false) (Rows.pairTurnsSpec.post enc Try.prog Try.f6 false true false false) := by
  refine returnsInHanded_of_change_sized (C := Try.checked) Try.own started (by kernel_rfl) Try.func6
    (ChangeSpec.witness6 (enc := enc) (C := Try.checked) false ⟨#[], #[.agg #[.slice none 0 0, .slice none 0 0]], []⟩ 8 (by kernel_rfl) (by kernel_rfl) (by kernel_rfl) (by kernel_rfl)) ?_
  intro W base args ds gs before hval0 hW _ hsz0 _
  have hsz : (DataW.weightsEach Try.prog (Try.f6.params.toList ++ Rows.pairTurnsSpec.plain.varTypes Try.prog) (ds ++ gs)).all (· ≤ reachBytes) = true := hsz0
  clear hsz0
  have hval : ∀ (j : Nat) t v, Try.f6.params[j]? = some t → args[j]? = some v → Value.okWide Try.prog W .any base t v := hval0
  have hW' := hW
  obtain ⟨p, q, hA0, hV, rfl, _, _⟩ := hW
  have hA : DataW.TrodAll enc Try.prog W 0 (fun _ => true) true Try.f6.params.toList args.toList ds p := hA0
  rw [Try.params6] at hA hval hsz
  obtain ⟨v0, d0, rfl, rfl, h0⟩ := trodAll_one hA
  obtain ⟨rfl, rfl⟩ := trodVars_none hV
  clear hA0 hval0
  obtain ⟨A1, n1, c1, A2, n2, c2, rfl, s1, s2⟩ := ask_open (hval 0 25 v0 rfl rfl) h0 (DataW.weights_mem_each (ts := [25]) (ds := [d0]) (j := 0) rfl rfl) hsz
  have lt0 : ∀ x ∈ p, x.block < W.heap.size := by obtain ⟨m, hm⟩ := h0; exact DataW.trod_lt m _ _ _ hm
  refine (pairTurns_walk A1 A2 n1 c1 n2 c2 W s1 s2).mono fun e W' ⟨he, bel⟩ => ?_
  subst he
  exact ⟨_, rfl, _, _, _, [], _, [], hW', trodAll_mk1 (shut_bool Try.underlying4 _), trodAll_mk1 (Below.trod Try.laidOut (by kernel_rfl) (of_decide_eq_true (by kernel_rfl)) h0 bel lt0), rfl, bel.frame _, fun h => by cases h⟩

theorem PairTurns_holds : Rows.PairTurnsSaid :=
  OpenClaim.holds_of_wide 6 Try.f6 rfl rfl rfl rfl rfl rfl rfl ⟨rfl, rfl, rfl, rfl, rfl⟩ rfl rfl rfl rfl rfl (by kernel_rfl) Try.func6 (by kernel_rfl)
    (of_decide_eq_true (by kernel_rfl)) (by unfold Func.isWrapper; first | (rw [if_pos (by decide +kernel)]; kernel_rfl) | (rw [if_neg (by decide +kernel)]; exact ⟨rfl, rfl⟩))
    (fun os started H enc _ => pairTurns_lifted os started H enc)

end Go.Proofs.Ytlmbgpcmljgnkaa
