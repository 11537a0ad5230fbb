/-
  PairField: for every input the law returns true: sums and products are the same in either order, a product of sums is the sum of products, a difference and its subtrahend are the minuend, a number times its conjugate is its norm; the input reads behind the call as it read before. No condition.
-/
import Derived.Test.YtlmbgpcmljgnkaaShell
import Derived.Deep.QuietTactic
import Derived.BigQuiet
namespace Go.Proofs.Ytlmbgpcmljgnkaa
open Go.ChangeShapes Go.WideShapes Go.ChangeAt Go.RowKit Go.Joins

theorem lo_form (x : Int) : ∃ t : Int, lo x = x + 65536 * t := ⟨-((x + 32768) / 65536), by unfold lo; omega⟩
theorem cong {a b t : Int} (h : a = b + 65536 * t) : a % 65536 = b % 65536 := by omega
theorem add_comm' (x y : Int) : pV 18 x y = pV 18 y x := by
  simp only [pV, if_true]
  rw [Int.add_comm (lo x), Int.add_comm (hi x)]
theorem mul_comm' (x y : Int) : pV 20 x y = pV 20 y x := by
  simp only [pV]
  simp only [show ¬ ((20 : Int) = 18) by omega, show ¬ ((20 : Int) = 19) by omega, if_false, if_true]
  rw [Int.mul_comm (lo x) (lo y), Int.mul_comm (hi x) (hi y), Int.mul_comm (lo x) (hi y), Int.mul_comm (hi x) (lo y), Int.add_comm]
theorem p18 (x y : Int) : pV 18 x y = mk (lo x + lo y) (hi x + hi y) := by simp [pV]
theorem p19 (x y : Int) : pV 19 x y = mk (lo x - lo y) (hi x - hi y) := by simp [pV]
theorem p20 (x y : Int) : pV 20 x y = mk (lo x * lo y - hi x * hi y) (lo x * hi y + hi x * lo y) := by simp [pV]
theorem p21 (x y : Int) : pV 21 x y = mk (lo x) (-hi x) := by simp [pV]
theorem sub_back (x y : Int) (h : U32 x) : pV 19 (pV 18 x y) y = x := by
  rw [p19, p18, lo_mk, hi_mk]
  obtain ⟨t1, h1⟩ := lo_form (lo x + lo y)
  obtain ⟨t2, h2⟩ := lo_form (hi x + hi y)
  rw [h1, h2]
  refine (mk_eq (cong (t := t1) ?_) (cong (t := t2) ?_)).trans (mk_back h) <;> omega
theorem distr (z x y : Int) : pV 20 z (pV 18 x y) = pV 18 (pV 20 z x) (pV 20 z y) := by
  rw [p20 z (pV 18 x y), p18 (pV 20 z x), p18 x y, p20 z x, p20 z y, lo_mk, hi_mk, lo_mk, hi_mk, lo_mk, hi_mk]
  obtain ⟨t1, h1⟩ := lo_form (lo x + lo y)
  obtain ⟨t2, h2⟩ := lo_form (hi x + hi y)
  obtain ⟨t3, h3⟩ := lo_form (lo z * lo x - hi z * hi x)
  obtain ⟨t4, h4⟩ := lo_form (lo z * hi x + hi z * lo x)
  obtain ⟨t5, h5⟩ := lo_form (lo z * lo y - hi z * hi y)
  obtain ⟨t6, h6⟩ := lo_form (lo z * hi y + hi z * lo y)
  rw [h1, h2, h3, h4, h5, h6]
  generalize lo x = a, hi x = b, lo y = c, hi y = d, lo z = p, hi z = q
  refine mk_eq (cong (t := p * t1 - q * t2 - t3 - t5) ?_) (cong (t := p * t2 + q * t1 - t4 - t6) ?_) <;> grind
theorem norm_back (x b : Int) : (pV 20 x (pV 21 x b) != bits .and .u32 (nrm x % 4294967296) 65535) = false := by
  have : pV 20 x (pV 21 x b) = bits .and .u32 (nrm x % 4294967296) 65535 := by
    rw [and16 _ (by unfold U32; omega), p20, p21, lo_mk, hi_mk, lo_lo]
    obtain ⟨t, ht⟩ := lo_form (-hi x)
    rw [ht]
    have e1 : (lo x * lo x - hi x * (-hi x + 65536 * t)) % 65536 = nrm x % 65536 := cong (t := -(hi x * t)) (by unfold nrm; grind)
    have e2 : (lo x * (-hi x + 65536 * t) + hi x * lo x) % 65536 = 0 % 65536 := cong (t := lo x * t) (by grind)
    unfold mk
    rw [e1, e2]
    omega
  simp [this]

set_option maxHeartbeats 4000000 in
set_option maxRecDepth 100000 in
theorem pairField_walk (A1 A2 : Option Addr) (n1 c1 n2 c2 : Nat) (w : World) (s1 : SliceIn .u32 4 w A1 n1 c1) (_s2 : SliceIn .i64 8 w A2 n2 c2) :
    Calls Try.prog 4 #[.agg #[.slice A1 n1 c1, .slice A2 n2 c2]] w (TruePost w) := by
  have HS := Lib.hid s1
  have H7 := Lib.hid (show U32 7 by unfold U32; omega)
  clear s1
  go_enter Try.func4, Try.ntmps4
  go_wp2_with (go_at_call 7; refine (words_any (HS.out.alloc _) _ _ _).mono ?_; rintro e w1 ⟨g, m, cap, xs, rfl, hm, hown, hb⟩)
  have HO := Lib.hid (hown.mono (base' := w.heap.size) (by simp))
  have HB := Lib.hid (((Below.refl _ _).alloc (Nat.le_refl _) _).trans (hb.mono (by simp)))
  clear hown hb
  go_loopw [4] (fun o wr2 => ∃ i : Nat, i ≤ m ∧ o = .int .i64 i ∧ Owned wr2 w.heap.size g m cap xs ∧ Below w.heap.size w wr2) (fun o _ => m - (intOf o).toNat)
  case atStart => exact ⟨0, by omega, rfl, HO.out, HB.out⟩
  case round =>
    clear HO HB
    obtain ⟨i, hi, rfl, hown, hb⟩ := hrel
    have HO := Lib.hid hown
    have HB := Lib.hid hb
    clear hown hb
    by_cases hilt : i < m
    · have hd3 : decide ((i : Int) < (m : Int)) = true := by simpa using hilt
      have hi0 : (0 : Int) ≤ (i : Int) := by omega
      have hi1 : (i : Int) < (m : Int) := by omega
      obtain ⟨x0, hx0, hcx0⟩ := HO.out.at_ hilt
      have HX := Lib.hid hx0
      have f1 := norm_back x0 7
      clear hx0
      go_wp2_with (first | (go_at_call 10; refine (of_good _ _ _ _ HX.out (by first | exact H7.out | exact pV_in _ _ _) (by omega) (by omega)).mono ?_; rintro e w' ⟨rfl, rfl⟩) | (go_at_call 12; refine (num_any _ _).mono ?_; rintro e w' ⟨rfl, rfl⟩) | (go_at_call 15; refine (norm_any _ _ HX.out).mono ?_; rintro e w' ⟨rfl, rfl⟩))
      clear f1 HX hcx0
      go_loopw [9] (fun o wr2 => ∃ k : Nat, k ≤ m ∧ o = .int .i64 k ∧ Owned wr2 w.heap.size g m cap xs ∧ Below w.heap.size w wr2) (fun o _ => m - (intOf o).toNat)
      case atStart => exact ⟨0, by omega, rfl, HO.out, HB.out⟩
      case round =>
        clear HO HB
        obtain ⟨k, hk, rfl, hown, hb⟩ := hrel
        have HO := Lib.hid hown
        have HB := Lib.hid hb
        clear hown hb
        by_cases hklt : k < m
        · have hd4 : decide ((k : Int) < (m : Int)) = true := by simpa using hklt
          have hk0 : (0 : Int) ≤ (k : Int) := by omega
          have hk1 : (k : Int) < (m : Int) := by omega
          have hjlt : (i + k) % m < m := Nat.mod_lt _ (by omega)
          have hj0 : (0 : Int) ≤ ((i : Int) + (k : Int)) % (m : Int) := Int.emod_nonneg _ (by omega)
          have hj1 : ((i : Int) + (k : Int)) % (m : Int) < (m : Int) := Int.emod_lt_of_pos _ (by omega)
          obtain ⟨x, hx, hcx⟩ := HO.out.at_ hilt
          obtain ⟨y, hy, hcy⟩ := HO.out.at_ hklt
          obtain ⟨z, hz, hcz⟩ := HO.out.at_ hjlt
          have HX := Lib.hid hx
          have HY := Lib.hid hy
          have HZ := Lib.hid hz
          have e1 : (pV 18 x y != pV 18 y x) = false := by rw [add_comm' x y]; simp
          have e2 : (pV 19 (pV 18 x y) y != x) = false := by rw [sub_back x y hx]; simp
          have e3 : (pV 20 x y != pV 20 y x) = false := by rw [mul_comm' x y]; simp
          have e4 : (pV 20 z (pV 18 x y) != pV 18 (pV 20 z x) (pV 20 z y)) = false := by rw [distr]; simp
          clear hx hy hz
          go_wp2_with fail
          go_quiet ((go_at_call 10; exact quietFirst (of_quiet _ _ _ (by first | exact HX.out | exact HY.out | exact HZ.out | exact pV_in _ _ _) (by first | exact HX.out | exact HY.out | exact HZ.out | exact pV_in _ _ _) (by omega) (by omega)) _ _))
          go_wp2_with fail
          go_quiet ((go_at_call 10; exact quietNext (of_quiet _ _ _ (by first | exact HX.out | exact HY.out | exact HZ.out | exact pV_in _ _ _) (by first | exact HX.out | exact HY.out | exact HZ.out | exact pV_in _ _ _) (by omega) (by omega)) _ _ _))
          go_wp2_with (first | (go_at_call 10; refine (of_good _ _ _ _ (by first | exact HX.out | exact HY.out | exact HZ.out | exact pV_in _ _ _) (by first | exact HX.out | exact HY.out | exact HZ.out | exact pV_in _ _ _) (by omega) (by omega)).mono ?_; rintro e w' ⟨rfl, rfl⟩))
          go_quiet ((go_at_call 10; exact quietNext (of_quiet _ _ _ (by first | exact HX.out | exact HY.out | exact HZ.out | exact pV_in _ _ _) (by first | exact HX.out | exact HY.out | exact HZ.out | exact pV_in _ _ _) (by omega) (by omega)) _ _ _))
          go_wp2_with fail
          go_quiet ((go_at_call 10; exact quietNext (of_quiet _ _ _ (by first | exact HX.out | exact HY.out | exact HZ.out | exact pV_in _ _ _) (by first | exact HX.out | exact HY.out | exact HZ.out | exact pV_in _ _ _) (by omega) (by omega)) _ _ _))
          go_wp2_with (first | (go_at_call 10; refine (of_good _ _ _ _ (by first | exact HX.out | exact HY.out | exact HZ.out | exact pV_in _ _ _) (by first | exact HX.out | exact HY.out | exact HZ.out | exact pV_in _ _ _) (by omega) (by omega)).mono ?_; rintro e w' ⟨rfl, rfl⟩) | (go_at_call 12; refine (num_any _ _).mono ?_; rintro e w' ⟨rfl, rfl⟩))
          go_roundw
          case rel => exact ⟨k + 1, by omega, by go_num, HO.out.drewN _, below_drewN HB.out _⟩
          case measure => simp [intOf]; omega
        · have hd4 : decide ((k : Int) < (m : Int)) = false := by simp; omega
          go_wp2
          go_roundw
          case rel => exact ⟨i + 1, by omega, by go_num, HO.out, HB.out⟩
          case measure => simp [intOf]; omega
    · have hd3 : decide ((i : Int) < (m : Int)) = false := by simp; omega
      go_wp2_with (go_at_call 19; refine (wakes_any _).mono ?_; rintro e w' ⟨rfl, rfl⟩)
      go_ret
      exact ⟨rfl, HB.out⟩

set_option maxRecDepth 100000 in
theorem pairField_lifted (os : Os) (started : os.Started) (H : Type) (enc : TypeId × Value → H) :
    ReturnsInHanded {} Try.checked os 4 .any (Rows.pairFieldSpec.pre6 enc Try.prog Try.f4 Rows.pairFieldRow.domain false) (Rows.pairFieldSpec.post enc Try.prog Try.f4 false true false false) := by
  refine returnsInHanded_of_change_sized (C := Try.checked) Try.own started (by kernel_rfl) Try.func4
    (ChangeSpec.witness6 (enc := enc) (C := Try.checked) false ⟨#[], #[.agg #[.slice none 0 0, .slice none 0 0]], []⟩ 8 (by kernel_rfl) (by kernel_rfl) (by kernel_rfl) (by kernel_rfl)) ?_
  intro W base args ds gs before hval0 hW _ hsz0 _
  have hsz : (DataW.weightsEach Try.prog (Try.f4.params.toList ++ Rows.pairFieldSpec.plain.varTypes Try.prog) (ds ++ gs)).all (· ≤ reachBytes) = true := hsz0
  clear hsz0
  have hval : ∀ (j : Nat) t v, Try.f4.params[j]? = some t → args[j]? = some v → Value.okWide Try.prog W .any base t v := hval0
  have hW' := hW
  obtain ⟨p, q, hA0, hV, rfl, _, _⟩ := hW
  have hA : DataW.TrodAll enc Try.prog W 0 (fun _ => true) true Try.f4.params.toList args.toList ds p := hA0
  rw [Try.params4] at hA hval hsz
  obtain ⟨v0, d0, rfl, rfl, h0⟩ := trodAll_one hA
  obtain ⟨rfl, rfl⟩ := trodVars_none hV
  clear hA0 hval0
  obtain ⟨A1, n1, c1, A2, n2, c2, rfl, s1, s2⟩ := ask_open (hval 0 25 v0 rfl rfl) h0 (DataW.weights_mem_each (ts := [25]) (ds := [d0]) (j := 0) rfl rfl) hsz
  have lt0 : ∀ x ∈ p, x.block < W.heap.size := by obtain ⟨m, hm⟩ := h0; exact DataW.trod_lt m _ _ _ hm
  refine (pairField_walk A1 A2 n1 c1 n2 c2 W s1 s2).mono fun e W' ⟨he, bel⟩ => ?_
  subst he
  exact ⟨_, rfl, _, _, _, [], _, [], hW', trodAll_mk1 (shut_bool Try.underlying4 _), trodAll_mk1 (Below.trod Try.laidOut (by kernel_rfl) (of_decide_eq_true (by kernel_rfl)) h0 bel lt0), rfl, bel.frame _, fun h => by cases h⟩

theorem PairField_holds : Rows.PairFieldSaid :=
  OpenClaim.holds_of_wide 4 Try.f4 rfl rfl rfl rfl rfl rfl rfl ⟨rfl, rfl, rfl, rfl, rfl⟩ rfl rfl rfl rfl rfl (by kernel_rfl) Try.func4 (by kernel_rfl)
    (of_decide_eq_true (by kernel_rfl)) (by unfold Func.isWrapper; first | (rw [if_pos (by decide +kernel)]; kernel_rfl) | (rw [if_neg (by decide +kernel)]; exact ⟨rfl, rfl⟩))
    (fun os started H enc _ => pairField_lifted os started H enc)

end Go.Proofs.Ytlmbgpcmljgnkaa
