/-
  WordOps: for every input the law returns true: of each op, and of other numbers, the program tells what the page tells at each two of the words; the input reads behind the call as it read before. No condition.
-/
import Derived.Test.YtkmpfgaedjmadaaShell
import Derived.Deep.QuietTactic
import Derived.BigQuiet
namespace Go.Proofs.Ytkmpfgaedjmadaa
open Go.ChangeShapes Go.WideShapes Go.ChangeAt Go.RowKit Go.Joins

set_option maxHeartbeats 2000000 in
set_option maxRecDepth 100000 in
theorem wordOps_walk (A1 A2 : Option Addr) (n1 c1 n2 c2 : Nat) (w : World) (s1 : SliceIn .u32 4 w A1 n1 c1) (_s2 : SliceIn .i64 8 w A2 n2 c2) :
    Calls Try.prog 3 #[.agg #[.slice A1 n1 c1, .slice A2 n2 c2]] w (TruePost w) := by
  have HS := Lib.hid s1
  clear s1
  go_enter Try.func3, Try.ntmps3
  go_wp2_with (go_at_call 12; refine (words_any (HS.out.alloc _) _ _ _).mono ?_; rintro e w1 ⟨g, m, cap, xs, rfl, hm, hown, hb⟩)
  have HO := Lib.hid (hown.mono (base' := w.heap.size) (by simp))
  have HB := Lib.hid (((Below.refl _ _).alloc (Nat.le_refl _) _).trans (hb.mono (by simp)))
  clear hown hb
  go_loopw [4] (fun o wr2 => ∃ op : Int, -1 ≤ op ∧ op ≤ 35 ∧ o = .int .i64 op ∧ Owned wr2 w.heap.size g m cap xs ∧ Below w.heap.size w wr2) (fun o _ => (35 - intOf o).toNat)
  case atStart => exact ⟨-1, by omega, by omega, rfl, HO.out, HB.out⟩
  case round =>
    clear HO HB
    obtain ⟨op, hop1, hop2, rfl, hown, hb⟩ := hrel
    have HO := Lib.hid hown
    have HB := Lib.hid hb
    clear hown hb
    by_cases hle : op ≤ 34
    · have hd2 : decide (op ≤ 34) = true := by simpa using hle
      by_cases hgood : 1 ≤ op ∧ op ≤ 17
      · obtain ⟨hg1, hg2⟩ := hgood
        go_wp2_with (first | (go_at_call 13; refine (has_yes _ _ (by omega) (by omega)).mono ?_; rintro e w' ⟨rfl, rfl⟩) | (go_at_call 14; refine (refhas_yes _ _ (by omega) (by omega)).mono ?_; rintro e w' ⟨rfl, rfl⟩))
        go_loopw [5] (fun o wr2 => ∃ i : Nat, i ≤ m ∧ o = .int .i64 i ∧ Owned wr2 w.heap.size g m cap xs ∧ Below w.heap.size w wr2) (fun o _ => m - (intOf o).toNat)
        case atStart => exact ⟨0, by omega, rfl, HO.out, HB.out⟩
        case round =>
          clear HO HB
          obtain ⟨i, hi, rfl, hown, hb⟩ := hrel
          have HO := Lib.hid hown
          have HB := Lib.hid hb
          clear hown hb
          by_cases hilt : i < m
          · have hd3 : decide ((i : Int) < (m : Int)) = true := by simpa using hilt
            go_wp2_with fail
            go_loopw [6] (fun o wr2 => ∃ k : Nat, k ≤ m ∧ o = .int .i64 k ∧ Owned wr2 w.heap.size g m cap xs ∧ Below w.heap.size w wr2) (fun o _ => m - (intOf o).toNat)
            case atStart => exact ⟨0, by omega, rfl, HO.out, HB.out⟩
            case round =>
              clear HO HB
              obtain ⟨k, hk, rfl, hown, hb⟩ := hrel
              have HO := Lib.hid hown
              have HB := Lib.hid hb
              clear hown hb
              by_cases hklt : k < m
              · have hd4 : decide ((k : Int) < (m : Int)) = true := by simpa using hklt
                obtain ⟨x, hx, hcx⟩ := HO.out.at_ hilt
                obtain ⟨y, hy, hcy⟩ := HO.out.at_ hklt
                have hi0 : (0 : Int) ≤ (i : Int) := by omega
                have hi1 : (i : Int) < (m : Int) := by omega
                have hk0 : (0 : Int) ≤ (k : Int) := by omega
                have hk1 : (k : Int) < (m : Int) := by omega
                by_cases hz : 16 ≤ op ∧ y = 0
                · obtain ⟨h16, rfl⟩ := hz
                  have c1 := Lib.hid (of_quiet0 op x hx h16 (by omega))
                  have c2 := Lib.hid (ref_quiet0 op x hx h16 (by omega))
                  go_wp2_with fail
                  go_quiet ((go_at_call 15; exact quietFirst c1.out _ _))
                  go_wp2_with (go_at_call 14; refine (refhas_yes _ _ (by omega) (by omega)).mono ?_; rintro e w' ⟨rfl, rfl⟩)
                  go_quiet ((go_at_call 16; exact quietNext c2.out _ _ _))
                  go_wp2
                  go_roundw
                  case rel => exact ⟨k + 1, by omega, by go_num, HO.out.drewN _, below_drewN HB.out _⟩
                  case measure => simp [intOf]; omega
                · have c1 := Lib.hid (of_quiet op x y hx hy (by omega) (by omega) hz)
                  have c2 := Lib.hid (ref_quiet op x y hx hy (by omega) (by omega) hz)
                  have hne : (wV op x y != wV op x y) = false := by simp
                  clear hz
                  go_wp2_with fail
                  go_quiet ((go_at_call 15; exact quietFirst c1.out _ _))
                  go_wp2_with (go_at_call 14; refine (refhas_yes _ _ (by omega) (by omega)).mono ?_; rintro e w' ⟨rfl, rfl⟩)
                  go_quiet ((go_at_call 16; exact quietNext c2.out _ _ _))
                  go_wp2
                  go_roundw
                  case rel => exact ⟨k + 1, by omega, by go_num, HO.out.drewN _, below_drewN HB.out _⟩
                  case measure => simp [intOf]; omega
              · have hd4 : decide ((k : Int) < (m : Int)) = false := by simp; omega
                go_wp2
                go_roundw
                case rel => exact ⟨i + 1, by omega, by go_num, HO.out, HB.out⟩
                case measure => simp [intOf]; omega
          · have hd3 : decide ((i : Int) < (m : Int)) = false := by simp; omega
            go_wp2
            go_roundw
            case rel => exact ⟨op + 1, by omega, by omega, rfl, HO.out, HB.out⟩
            case measure => simp [intOf]; omega
      · have hop : op < 1 ∨ 17 < op := by omega
        clear hgood
        go_wp2_with (first | (go_at_call 13; refine (has_no _ _ hop).mono ?_; rintro e w' ⟨rfl, rfl⟩) | (go_at_call 14; refine (refhas_no _ _ hop).mono ?_; rintro e w' ⟨rfl, rfl⟩))
        go_loopw [5] (fun o wr2 => ∃ i : Nat, i ≤ m ∧ o = .int .i64 i ∧ Owned wr2 w.heap.size g m cap xs ∧ Below w.heap.size w wr2) (fun o _ => m - (intOf o).toNat)
        case atStart => exact ⟨0, by omega, rfl, HO.out, HB.out⟩
        case round =>
          clear HO HB
          obtain ⟨i, hi, rfl, hown, hb⟩ := hrel
          have HO := Lib.hid hown
          have HB := Lib.hid hb
          clear hown hb
          by_cases hilt : i < m
          · have hd3 : decide ((i : Int) < (m : Int)) = true := by simpa using hilt
            go_wp2_with fail
            go_loopw [6] (fun o wr2 => ∃ k : Nat, k ≤ m ∧ o = .int .i64 k ∧ Owned wr2 w.heap.size g m cap xs ∧ Below w.heap.size w wr2) (fun o _ => m - (intOf o).toNat)
            case atStart => exact ⟨0, by omega, rfl, HO.out, HB.out⟩
            case round =>
              clear HO HB
              obtain ⟨k, hk, rfl, hown, hb⟩ := hrel
              have HO := Lib.hid hown
              have HB := Lib.hid hb
              clear hown hb
              by_cases hklt : k < m
              · have hd4 : decide ((k : Int) < (m : Int)) = true := by simpa using hklt
                obtain ⟨x, hx, hcx⟩ := HO.out.at_ hilt
                obtain ⟨y, hy, hcy⟩ := HO.out.at_ hklt
                have hi0 : (0 : Int) ≤ (i : Int) := by omega
                have hi1 : (i : Int) < (m : Int) := by omega
                have hk0 : (0 : Int) ≤ (k : Int) := by omega
                have hk1 : (k : Int) < (m : Int) := by omega
                have c1 := Lib.hid (of_quiet1 op x y hop)
                go_wp2_with fail
                go_quiet ((go_at_call 15; exact quietFirst c1.out _ _))
                go_wp2_with (go_at_call 14; refine (refhas_no _ _ hop).mono ?_; rintro e w' ⟨rfl, rfl⟩)
                go_wp2
                go_roundw
                case rel => exact ⟨k + 1, by omega, by go_num, HO.out.drewN _, below_drewN HB.out _⟩
                case measure => simp [intOf]; omega
              · have hd4 : decide ((k : Int) < (m : Int)) = false := by simp; omega
                go_wp2
                go_roundw
                case rel => exact ⟨i + 1, by omega, by go_num, HO.out, HB.out⟩
                case measure => simp [intOf]; omega
          · have hd3 : decide ((i : Int) < (m : Int)) = false := by simp; omega
            go_wp2
            go_roundw
            case rel => exact ⟨op + 1, by omega, by omega, rfl, HO.out, HB.out⟩
            case measure => simp [intOf]; omega
    · have hd2 : decide (op ≤ 34) = false := by simpa using hle
      go_wp2_with (go_at_call 18; refine (wakes_any _).mono ?_; rintro e w' ⟨rfl, rfl⟩)
      go_ret
      exact ⟨rfl, HB.out⟩

set_option maxRecDepth 100000 in
theorem wordOps_lifted (os : Os) (started : os.Started) (H : Type) (enc : TypeId × Value → H) :
    ReturnsInHanded {} Try.checked os 3 .any (Rows.wordOpsSpec.pre6 enc Try.prog Try.f3 Rows.wordOpsRow.domain false) (Rows.wordOpsSpec.post enc Try.prog Try.f3 false true false false) := by
  refine returnsInHanded_of_change_sized (C := Try.checked) Try.own started (by kernel_rfl) Try.func3
    (ChangeSpec.witness6 (enc := enc) (C := Try.checked) false ⟨#[], #[.agg #[.slice none 0 0, .slice none 0 0]], []⟩ 8 (by kernel_rfl) (by kernel_rfl) (by kernel_rfl) (by kernel_rfl)) ?_
  intro W base args ds gs before hval0 hW _ hsz0 _
  have hsz : (DataW.weightsEach Try.prog (Try.f3.params.toList ++ Rows.wordOpsSpec.plain.varTypes Try.prog) (ds ++ gs)).all (· ≤ reachBytes) = true := hsz0
  clear hsz0
  have hval : ∀ (j : Nat) t v, Try.f3.params[j]? = some t → args[j]? = some v → Value.okWide Try.prog W .any base t v := hval0
  have hW' := hW
  obtain ⟨p, q, hA0, hV, rfl, _, _⟩ := hW
  have hA : DataW.TrodAll enc Try.prog W 0 (fun _ => true) true Try.f3.params.toList args.toList ds p := hA0
  rw [Try.params3] at hA hval hsz
  obtain ⟨v0, d0, rfl, rfl, h0⟩ := trodAll_one hA
  obtain ⟨rfl, rfl⟩ := trodVars_none hV
  clear hA0 hval0
  obtain ⟨A1, n1, c1, A2, n2, c2, rfl, s1, s2⟩ := ask_open (hval 0 25 v0 rfl rfl) h0 (DataW.weights_mem_each (ts := [25]) (ds := [d0]) (j := 0) rfl rfl) hsz
  have lt0 : ∀ x ∈ p, x.block < W.heap.size := by obtain ⟨m, hm⟩ := h0; exact DataW.trod_lt m _ _ _ hm
  refine (wordOps_walk A1 A2 n1 c1 n2 c2 W s1 s2).mono fun e W' ⟨he, bel⟩ => ?_
  subst he
  exact ⟨_, rfl, _, _, _, [], _, [], hW', trodAll_mk1 (shut_bool Try.underlying4 _), trodAll_mk1 (Below.trod Try.laidOut (by kernel_rfl) (of_decide_eq_true (by kernel_rfl)) h0 bel lt0), rfl, bel.frame _, fun h => by cases h⟩

theorem WordOps_holds : Rows.WordOpsSaid :=
  OpenClaim.holds_of_wide 3 Try.f3 rfl rfl rfl rfl rfl rfl rfl ⟨rfl, rfl, rfl, rfl, rfl⟩ rfl rfl rfl rfl rfl (by kernel_rfl) Try.func3 (by kernel_rfl)
    (of_decide_eq_true (by kernel_rfl)) (by unfold Func.isWrapper; first | (rw [if_pos (by decide +kernel)]; kernel_rfl) | (rw [if_neg (by decide +kernel)]; exact ⟨rfl, rfl⟩))
    (fun os started H enc _ => wordOps_lifted os started H enc)

end Go.Proofs.Ytkmpfgaedjmadaa
