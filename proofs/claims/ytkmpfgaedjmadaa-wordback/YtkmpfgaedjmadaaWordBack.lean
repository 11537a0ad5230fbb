/-
  WordBack: for every input the law returns true: what was cut is the number again, a quotient times the divisor and the rest are the dividend, sums and differences undo each other, shifts there and back lose the bits that they must; the input reads behind the call as it read before. No condition.
-/
import Derived.Test.YtkmpfgaedjmadaaShell
import Derived.Test.YtkmpfgaedjmadaaWidth
namespace Go.Proofs.Ytkmpfgaedjmadaa
open Go.ChangeShapes Go.WideShapes Go.ChangeAt Go.RowKit Go.Joins

theorem wV1_ok (x y : Int) : U32 (wV 1 x y) := by simp [wV, U32]; omega
theorem wV6_ok (x y : Int) : U32 (wV 6 x y) := by simp [wV, U32]; omega
theorem back1 (x y : Int) (hx : U32 x) : (wV 2 (wV 1 x y) y != x) = false := by
  obtain ⟨h1, h2⟩ := hx
  have : wV 2 (wV 1 x y) y = x := by simp [wV]; omega
  simp [this]
theorem back3 (x y : Int) : (wV 7 (wV 6 x y) y != x * 2 ^ (y % 32).toNat % 4294967296 / 2 ^ (y % 32).toNat) = false := by simp [wV]
theorem back3z (x : Int) (hx : U32 x) : (wV 7 (wV 6 x 0) 0 != x) = false := by
  obtain ⟨h1, h2⟩ := hx
  have : wV 7 (wV 6 x 0) 0 = x := by simp [wV]; omega
  simp [this]
theorem mod_join (q q' b b' r r' M : Int) (h1 : q % M = q' % M) (h2 : b % M = b' % M) (h3 : r % M = r' % M) : (q * b % M + r) % M = (q' * b' + r') % M := by
  rw [Int.emod_add_emod, Int.add_emod, h3, Int.mul_emod, h1, h2, ← Int.mul_emod, ← Int.add_emod]
theorem back2 (x y : Int) (hx : U32 x) (hz : ¬ y = 0) : ((wV 16 x y * y + wV 17 x y) % 4294967296 != x) = false := by
  obtain ⟨h1, h2⟩ := hx
  have e16 : wV 16 x y = wrap64 ((sg x).tdiv (sg y)) % 4294967296 := by simp [wV, hz]
  have e17 : wV 17 x y = (sg x).tmod (sg y) % 4294967296 := by simp [wV, hz]
  have : (wV 16 x y * y + wV 17 x y) % 4294967296 = x := by
    rw [← Int.emod_add_emod, mod_join (wV 16 x y) ((sg x).tdiv (sg y)) y (sg y) (wV 17 x y) ((sg x).tmod (sg y)) 4294967296
      (by rw [e16, Int.emod_emod, wrap64_mod]) (sg_mod y).symm (by rw [e17, Int.emod_emod]),
      Int.mul_comm, Int.mul_tdiv_add_tmod, sg_mod]
    omega
  simp [this]
theorem cut_lo (n p P : Int) (h : P = p + p) (h0 : 0 ≤ n) (h1 : n < p) : n % P = n := Int.emod_eq_of_lt h0 (by omega)
theorem cut_hi (n p P : Int) (h : P = p + p) (h0 : n < 0) (h1 : -p ≤ n) : n % P = n + P := by
  rw [← Int.add_emod_right]
  exact Int.emod_eq_of_lt (by omega) (by omega)

set_option maxHeartbeats 400000 in
theorem num_any (k : Int) (W : World) : Calls Try.prog 17 #[.int .i64 k] W fun e w' => e = .returned (.int .i64 k) ∧ W = w' := by
  go_enter Try.func17, Try.ntmps17
  go_wp2
  go_ret
  exact ⟨rfl, rfl⟩
theorem cutA {n bits p P : Int} (w : World) (h : Pow bits p P) (h0 : 0 ≤ n) (h1 : n < p) : Calls Try.prog 21 #[.int .i64 n, .int .i64 bits] w (OfPost n 0 w) := by
  have c := cut_yes (n := n) w h (by have := h.one; omega) h1
  rwa [cut_lo n p P h.twice h0 h1] at c
theorem cutB {n bits p P : Int} (w : World) (h : Pow bits p P) (h0 : n < 0) (h1 : -p ≤ n) : Calls Try.prog 21 #[.int .i64 n, .int .i64 bits] w (OfPost (n + P) 0 w) := by
  have c := cut_yes (n := n) w h h1 (by have := h.one; omega)
  rwa [cut_hi n p P h.twice h0 h1] at c
theorem signB {n bits p P : Int} (w : World) (h : Pow bits p P) (h0 : n < 0) (h1 : -p ≤ n) : Calls Try.prog 23 #[.int .u32 (n + P), .int .i64 bits] w (SignPost n 0 w) := by
  have c := sign_hi (n := n + P) w h (by have := h.twice; omega) (by omega)
  rwa [show n + P - P = n from by omega] at c

set_option maxHeartbeats 6000000 in
set_option maxRecDepth 100000 in
theorem wordBack_walk (A1 A2 : Option Addr) (n1 c1 n2 c2 : Nat) (w : World) (s1 : SliceIn .u32 4 w A1 n1 c1) (_s2 : SliceIn .i64 8 w A2 n2 c2) :
    Calls Try.prog 5 #[.agg #[.slice A1 n1 c1, .slice A2 n2 c2]] w (TruePost w) := by
  have HS := Lib.hid s1
  clear s1
  go_enter Try.func5, Try.ntmps5
  go_wp2_with (go_at_call 12; refine (words_any (HS.out.alloc _) _ _ _).mono ?_; rintro e w1 ⟨g, m, cap, xs, rfl, hm, hown, hb⟩)
  have HO := Lib.hid (hown.mono (base' := w.heap.size) (by simp))
  have HB := Lib.hid (((Below.refl _ _).alloc (Nat.le_refl _) _).trans (hb.mono (by simp)))
  clear hown hb
  go_loopw [4] (fun o wr2 => ∃ i : Nat, i ≤ m ∧ o = .int .i64 i ∧ Owned wr2 w.heap.size g m cap xs ∧ Below w.heap.size w wr2) (fun o _ => m - (intOf o).toNat)
  case atStart => exact ⟨0, by omega, rfl, HO.out, HB.out⟩
  case round =>
    clear HO HB
    obtain ⟨i, hi, rfl, hown, hb⟩ := hrel
    have HO := Lib.hid hown
    have HB := Lib.hid hb
    clear hown hb
    by_cases hilt : i < m
    · have hd3 : decide ((i : Int) < (m : Int)) = true := by simpa using hilt
      have hi0 : (0 : Int) ≤ (i : Int) := by omega
      have hi1 : (i : Int) < (m : Int) := by omega
      obtain ⟨x, hx, hcx⟩ := HO.out.at_ hilt
      go_wp2
      generalize wrap64 (wrap32 x) = n
      go_loopw [6] (fun o wr2 => ∃ bits : Int, 1 ≤ bits ∧ bits ≤ 33 ∧ o = .int .i64 bits ∧ Owned wr2 w.heap.size g m cap xs ∧ Below w.heap.size w wr2) (fun o _ => (33 - intOf o).toNat)
      case atStart => exact ⟨1, by omega, by omega, rfl, HO.out, HB.out⟩
      case round =>
        clear HO HB
        clear hcx
        obtain ⟨bits, hb1, hb2, rfl, hown, hb⟩ := hrel
        have HO := Lib.hid hown
        have HB := Lib.hid hb
        clear hown hb
        by_cases hle : bits ≤ 32
        · have hd4 : decide (bits ≤ 32) = true := by simpa using hle
          obtain ⟨p, P, hP⟩ := pow_at bits hb1 hle
          have HP := Lib.hid hP
          clear hP
          by_cases hf : -p ≤ n ∧ n < p
          · obtain ⟨hf1, hf2⟩ := hf
            by_cases hneg : 0 ≤ n
            · have hne : (n != n) = false := by simp
              as_aux_lemma =>
              go_wp2_with (first | (go_at_call 21; refine (cutA _ HP.out hneg hf2).mono ?_; rintro e w' ⟨rfl, rfl⟩) | (go_at_call 23; refine (sign_lo _ HP.out hneg hf2).mono ?_; rintro e w' ⟨rfl, mq, rfl⟩) | go_in)
              go_roundw
              case rel => exact ⟨bits + 1, by omega, by omega, rfl, HO.out.drewN _, below_drewN HB.out _⟩
              case measure => simp [intOf]; omega
            · have hneg' : n < 0 := by omega
              have hne : (n != n) = false := by simp
              go_wp2_with (first | (go_at_call 21; refine (cutB _ HP.out hneg' hf1).mono ?_; rintro e w' ⟨rfl, rfl⟩) | (go_at_call 23; refine (signB _ HP.out hneg' hf1).mono ?_; rintro e w' ⟨rfl, mq, rfl⟩) | go_in)
              go_roundw
              case rel => exact ⟨bits + 1, by omega, by omega, rfl, HO.out.drewN _, below_drewN HB.out _⟩
              case measure => simp [intOf]; omega
          · have hf' := Lib.hid (show n < -p ∨ p ≤ n by omega)
            clear hf
            go_wp2_with (first | (go_at_call 21; refine (cut_no _ HP.out hf'.out).mono ?_; rintro e w' ⟨rfl, rfl⟩) | go_in)
            go_roundw
            case rel => exact ⟨bits + 1, by omega, by omega, rfl, HO.out, HB.out⟩
            case measure => simp [intOf]; omega
        · have hd4 : decide (bits ≤ 32) = false := by simpa using hle
          go_wp2_with fail
          go_loopw [11] (fun o wr2 => ∃ k : Nat, k ≤ m ∧ o = .int .i64 k ∧ Owned wr2 w.heap.size g m cap xs ∧ Below w.heap.size w wr2) (fun o _ => m - (intOf o).toNat)
          case atStart => exact ⟨0, by omega, rfl, HO.out, HB.out⟩
          case round =>
            clear HO HB
            obtain ⟨k, hk, rfl, hown, hb⟩ := hrel
            have HO := Lib.hid hown
            have HB := Lib.hid hb
            clear hown hb
            obtain ⟨x, hx, hcx⟩ := HO.out.at_ hilt
            by_cases hklt : k < m
            · have hd5 : decide ((k : Int) < (m : Int)) = true := by simpa using hklt
              obtain ⟨y, hy, hcy⟩ := HO.out.at_ hklt
              have hk0 : (0 : Int) ≤ (k : Int) := by omega
              have hk1 : (k : Int) < (m : Int) := by omega
              by_cases hz : y = 0
              · subst hz
                as_aux_lemma =>
                  have c1 := Lib.hid (of_quiet 1 x 0 hx hy (by omega) (by omega) (by omega))
                  have c2 := Lib.hid (of_quiet 2 (wV 1 x 0) 0 (wV1_ok x 0) hy (by omega) (by omega) (by omega))
                  have c3 := Lib.hid (of_quiet0 16 x hx (by omega) (by omega))
                  have c4 := Lib.hid (of_quiet0 17 x hx (by omega) (by omega))
                  have c5 := Lib.hid (of_quiet 6 x 0 hx hy (by omega) (by omega) (by omega))
                  have c6 := Lib.hid (of_quiet 7 (wV 6 x 0) 0 (wV6_ok x 0) hy (by omega) (by omega) (by omega))
                  have e1 : (wV 2 (wV 1 x 0) 0 != x) = false := back1 x 0 hx
                  have e3 : (wV 7 (wV 6 x 0) 0 != x) = false := back3z x hx
                  have e4 : Go.bits .and .u32 0 31 = 0 := and31 0 (by omega) (by omega)
                  obtain ⟨hx1, hx2⟩ := hx
                  obtain ⟨hy1, hy2⟩ := hy
                  go_wp2_with fail
                  go_quiet ((go_at_call 15; exact quietFirst c1.out _ _))
                  go_wp2_with (go_at_call 15; refine (c2.out _).mono ?_; rintro e w' ⟨rfl, rfl⟩)
                  go_quiet ((go_at_call 15; exact quietNext c3.out _ _ _))
                  clear c1 c2 c3
                  as_aux_lemma =>
                    go_wp2_with fail
                    go_quiet ((go_at_call 15; exact quietNext c4.out _ _ _))
                    go_wp2_with fail
                    go_quiet ((go_at_call 15; exact quietNext c5.out _ _ _))
                    go_wp2_with (go_at_call 15; refine (c6.out _).mono ?_; rintro e w' ⟨rfl, rfl⟩)
                    clear c4 c5 c6
                    as_aux_lemma =>
                      refine wp_region_quiet_lit (by as_aux_lemma => kernel_rfl) (by as_aux_lemma => kernel_rfl) ?_
                      repeat (go_big_quiet_step ((go_at_call 17; exact quietNext (num_any _) _ _ _)))
                      refine wpQuiet_nil ?_
                      intro _ hw'
                      obtain ⟨nq, hw''⟩ := hw'
                      subst hw''
                      go_wp2
                      go_roundw
                      case rel => exact ⟨k + 1, by omega, by go_num, HO.out.drewN _, below_drewN HB.out _⟩
                      case measure => simp [intOf]; omega
              · as_aux_lemma =>
                  have c1 := Lib.hid (of_quiet 1 x y hx hy (by omega) (by omega) (by omega))
                  have c2 := Lib.hid (of_quiet 2 (wV 1 x y) y (wV1_ok x y) hy (by omega) (by omega) (by omega))
                  have c3 := Lib.hid (of_quiet 16 x y hx hy (by omega) (by omega) (fun h => hz h.2))
                  have c4 := Lib.hid (of_quiet 17 x y hx hy (by omega) (by omega) (fun h => hz h.2))
                  have c5 := Lib.hid (of_quiet 6 x y hx hy (by omega) (by omega) (by omega))
                  have c6 := Lib.hid (of_quiet 7 (wV 6 x y) y (wV6_ok x y) hy (by omega) (by omega) (by omega))
                  have e1 : (wV 2 (wV 1 x y) y != x) = false := back1 x y hx
                  have e2 : ((wV 16 x y * y + wV 17 x y) % 4294967296 != x) = false := back2 x y hx hz
                  have e3 : (wV 7 (wV 6 x y) y != x * 2 ^ (y % 32).toNat % 4294967296 / 2 ^ (y % 32).toNat) = false := back3 x y
                  have e6 : (0 : Int) ≤ y % 32 := by omega
                  have e7 : y % 32 ≤ (32 : Int) := by omega
                  have e4 : Go.bits .and .u32 y 31 = y % 32 := and31 y hy.1 hy.2
                  have e5 : (y != 0) = true := by simpa using hz
                  obtain ⟨hx1, hx2⟩ := hx
                  obtain ⟨hy1, hy2⟩ := hy
                  go_wp2_with fail
                  go_quiet ((go_at_call 15; exact quietFirst c1.out _ _))
                  go_wp2_with (go_at_call 15; refine (c2.out _).mono ?_; rintro e w' ⟨rfl, rfl⟩)
                  go_quiet ((go_at_call 15; exact quietNext c3.out _ _ _))
                  clear c1 c2 c3
                  as_aux_lemma =>
                    go_wp2_with fail
                    go_quiet ((go_at_call 15; exact quietNext c4.out _ _ _))
                    go_wp2_with fail
                    go_quiet ((go_at_call 15; exact quietNext c5.out _ _ _))
                    go_wp2_with (go_at_call 15; refine (c6.out _).mono ?_; rintro e w' ⟨rfl, rfl⟩)
                    clear c4 c5 c6
                    as_aux_lemma =>
                      refine wp_region_quiet_lit (by as_aux_lemma => kernel_rfl) (by as_aux_lemma => kernel_rfl) ?_
                      repeat (go_big_quiet_step ((go_at_call 17; exact quietNext (num_any _) _ _ _)))
                      refine wpQuiet_nil ?_
                      intro _ hw'
                      obtain ⟨nq, hw''⟩ := hw'
                      subst hw''
                      go_wp2
                      go_roundw
                      case rel => exact ⟨k + 1, by omega, by go_num, HO.out.drewN _, below_drewN HB.out _⟩
                      case measure => simp [intOf]; omega
            · have hd5 : decide ((k : Int) < (m : Int)) = false := by simp; omega
              go_wp2
              go_roundw
              case rel => exact ⟨i + 1, by omega, by go_num, HO.out, HB.out⟩
              case measure => simp [intOf]; omega
    · have hd3 : decide ((i : Int) < (m : Int)) = false := by simp; omega
      go_wp2_with (go_at_call 18; refine (wakes_any _).mono ?_; rintro e w' ⟨rfl, rfl⟩)
      go_ret
      exact ⟨rfl, HB.out⟩

set_option maxRecDepth 100000 in
theorem wordBack_lifted (os : Os) (started : os.Started) (H : Type) (enc : TypeId × Value → H) :
    ReturnsInHanded {} Try.checked os 5 .any (Rows.wordBackSpec.pre6 enc Try.prog Try.f5 Rows.wordBackRow.domain false) (Rows.wordBackSpec.post enc Try.prog Try.f5 false true false false) := by
  refine returnsInHanded_of_change_sized (C := Try.checked) Try.own started (by kernel_rfl) Try.func5
    (ChangeSpec.witness6 (enc := enc) (C := Try.checked) false ⟨#[], #[.agg #[.slice none 0 0, .slice none 0 0]], []⟩ 8 (by kernel_rfl) (by kernel_rfl) (by kernel_rfl) (by kernel_rfl)) ?_
  intro W base args ds gs before hval0 hW _ hsz0 _
  have hsz : (DataW.weightsEach Try.prog (Try.f5.params.toList ++ Rows.wordBackSpec.plain.varTypes Try.prog) (ds ++ gs)).all (· ≤ reachBytes) = true := hsz0
  clear hsz0
  have hval : ∀ (j : Nat) t v, Try.f5.params[j]? = some t → args[j]? = some v → Value.okWide Try.prog W .any base t v := hval0
  have hW' := hW
  obtain ⟨p, q, hA0, hV, rfl, _, _⟩ := hW
  have hA : DataW.TrodAll enc Try.prog W 0 (fun _ => true) true Try.f5.params.toList args.toList ds p := hA0
  rw [Try.params5] at hA hval hsz
  obtain ⟨v0, d0, rfl, rfl, h0⟩ := trodAll_one hA
  obtain ⟨rfl, rfl⟩ := trodVars_none hV
  clear hA0 hval0
  obtain ⟨A1, n1, c1, A2, n2, c2, rfl, s1, s2⟩ := ask_open (hval 0 25 v0 rfl rfl) h0 (DataW.weights_mem_each (ts := [25]) (ds := [d0]) (j := 0) rfl rfl) hsz
  have lt0 : ∀ x ∈ p, x.block < W.heap.size := by obtain ⟨m, hm⟩ := h0; exact DataW.trod_lt m _ _ _ hm
  refine (wordBack_walk A1 A2 n1 c1 n2 c2 W s1 s2).mono fun e W' ⟨he, bel⟩ => ?_
  subst he
  exact ⟨_, rfl, _, _, _, [], _, [], hW', trodAll_mk1 (shut_bool Try.underlying4 _), trodAll_mk1 (Below.trod Try.laidOut (by kernel_rfl) (of_decide_eq_true (by kernel_rfl)) h0 bel lt0), rfl, bel.frame _, fun h => by cases h⟩

theorem WordBack_holds : Rows.WordBackSaid :=
  OpenClaim.holds_of_wide 5 Try.f5 rfl rfl rfl rfl rfl rfl rfl ⟨rfl, rfl, rfl, rfl, rfl⟩ rfl rfl rfl rfl rfl (by kernel_rfl) Try.func5 (by kernel_rfl)
    (of_decide_eq_true (by kernel_rfl)) (by unfold Func.isWrapper; first | (rw [if_pos (by decide +kernel)]; kernel_rfl) | (rw [if_neg (by decide +kernel)]; exact ⟨rfl, rfl⟩))
    (fun os started H enc _ => wordBack_lifted os started H enc)

end Go.Proofs.Ytkmpfgaedjmadaa
