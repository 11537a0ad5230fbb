/-
  PairOps: for every input the law returns true: of each op, and of other numbers, the program tells what the page tells at each two of the words; parts, norms, and pairs of any two of the numbers are the page's; the input reads behind the call as it read before. No condition.
-/
import Derived.Test.YtlmbgpcmljgnkaaShell
import Derived.Test.YtlmbgpcmljgnkaaRow
import Derived.Deep.QuietTactic
import Derived.BigQuiet
namespace Go.Proofs.Ytlmbgpcmljgnkaa
open Go.ChangeShapes Go.WideShapes Go.ChangeAt Go.RowKit Go.Joins

theorem Try.info3 : (Try.prog.info? 3).map (fun i => (i.zero, i.size, i.bytes)) = some (some (.int .i64 0), 1, 8) := by kernel_rfl

/-- The second field of the boxed argument still lies where it was laid. -/
def Box (w : World) (A2 : Option Addr) (n2 c2 : Nat) (w' : World) : Prop := w'.cell? ⟨w.heap.size, 1, none⟩ = some (.slice A2 n2 c2)

def numbs : List Int := [0, 1, -1, 32767, 32768, -32769, 4611686018427387904]
theorem numbs_ok : ∀ x ∈ numbs, (Lit.int .i64 x).wf = true := by decide
theorem numbs_owned (W : World) (base : Nat) (h : base ≤ W.heap.size) : (W.alloc (.cells #[.int .i64 0, .int .i64 1, .int .i64 (-1), .int .i64 32767, .int .i64 32768, .int .i64 (-32769), .int .i64 4611686018427387904] 3)).ownsRow base 3 1 (.slice (some ⟨W.heap.size, 0, none⟩) 7 7) 7 (numbs.map (Value.int .i64)) := by
  have h := World.ownsRow_lit (base := base) (e := 3) (size := 1) W #[.int .i64 0, .int .i64 1, .int .i64 (-1), .int .i64 32767, .int .i64 32768, .int .i64 (-32769), .int .i64 4611686018427387904] 7 h (by unfold maxLen; omega) rfl
  simpa [numbs] using h

theorem numbs_end {w W w1 : World} {g n cap : Nat} {zs : List Int} {row : Option Nat} (hz : ∀ x ∈ zs, (Lit.int .i64 x).wf = true)
    (hown : w1.ownsRow w.heap.size 3 1 (.slice (some ⟨g, 0, none⟩) n cap) n (numbs.map (Value.int .i64) ++ zs.map (Value.int .i64)))
    (hb : Below w.heap.size w W) (hg : W.grownBy w1 row) (hW : w.heap.size ≤ W.heap.size) (hr : ∀ k, row = some k → w.heap.size ≤ k) :
    OwnedN w1 w.heap.size g n cap (numbs ++ zs) ∧ Below w.heap.size w w1 := by
  refine ⟨⟨by rw [List.map_append]; exact hown, fun x hx => ?_⟩, hb.grown hg hW hr⟩
  rcases List.mem_append.1 hx with h | h
  · exact numbs_ok x h
  · exact hz x h

set_option maxHeartbeats 4000000 in
set_option maxRecDepth 100000 in
theorem pairOps_walk (A1 A2 : Option Addr) (n1 c1 n2 c2 : Nat) (w : World) (s1 : SliceIn .u32 4 w A1 n1 c1) (s2 : SliceIn .i64 8 w A2 n2 c2) :
    Calls Try.prog 3 #[.agg #[.slice A1 n1 c1, .slice A2 n2 c2]] w (TruePost w) := by
  have hn2 : n2 * 8 ≤ 140737488351232 := by
    rcases s2 with ⟨_, h, _⟩ | ⟨_, _, _, _, _, _, _, h⟩
    · omega
    · exact h
  have HS := Lib.hid s1
  have S2 := Lib.hid s2
  clear s1 s2
  go_enter Try.func3, Try.ntmps3
  go_wp2_with (go_at_call 7; refine (words_any (HS.out.alloc _) _ _ _).mono ?_; rintro e w1 ⟨g, m, cap, xs, rfl, hm, hown, hb⟩)
  have HO := Lib.hid (hown.mono (base' := w.heap.size) (by simp))
  have HQ := Lib.hid (show Box w A2 n2 c2 w1 from (hb.cell (p := ⟨w.heap.size, 1, none⟩) (by simp)).trans (by simp [go_sem]))
  have HB := Lib.hid (((Below.refl _ _).alloc (Nat.le_refl _) _).trans (hb.mono (by simp)))
  clear hown hb
  go_loopw [4] (fun o wr2 => ∃ op : Int, -1 ≤ op ∧ op ≤ 35 ∧ o = .int .i64 op ∧ Owned wr2 w.heap.size g m cap xs ∧ Box w A2 n2 c2 wr2 ∧ Below w.heap.size w wr2) (fun o _ => (35 - intOf o).toNat)
  case atStart => exact ⟨-1, by omega, by omega, rfl, HO.out, HQ.out, HB.out⟩
  case round =>
    clear HO HQ HB
    obtain ⟨op, hop1, hop2, rfl, hown, hq, hb⟩ := hrel
    have HO := Lib.hid hown
    have HQ := Lib.hid hq
    have HB := Lib.hid hb
    clear hown hq hb
    by_cases hle : op ≤ 34
    · have hd2 : decide (op ≤ 34) = true := by simpa using hle
      by_cases hgood : 18 ≤ op ∧ op ≤ 21
      · obtain ⟨hg1, hg2⟩ := hgood
        go_wp2_with (first | (go_at_call 8; refine (has_yes _ _ (by omega) (by omega)).mono ?_; rintro e w' ⟨rfl, rfl⟩) | (go_at_call 9; refine (refhas_yes _ _ (by omega) (by omega)).mono ?_; rintro e w' ⟨rfl, rfl⟩))
        go_loopw [5] (fun o wr2 => ∃ i : Nat, i ≤ m ∧ o = .int .i64 i ∧ Owned wr2 w.heap.size g m cap xs ∧ Box w A2 n2 c2 wr2 ∧ Below w.heap.size w wr2) (fun o _ => m - (intOf o).toNat)
        case atStart => exact ⟨0, by omega, rfl, HO.out, HQ.out, HB.out⟩
        case round =>
          clear HO HQ HB
          obtain ⟨i, hi, rfl, hown, hq, hb⟩ := hrel
          have HO := Lib.hid hown
          have HQ := Lib.hid hq
          have HB := Lib.hid hb
          clear hown hq hb
          by_cases hilt : i < m
          · have hd3 : decide ((i : Int) < (m : Int)) = true := by simpa using hilt
            go_wp2_with fail
            go_loopw [6] (fun o wr2 => ∃ k : Nat, k ≤ m ∧ o = .int .i64 k ∧ Owned wr2 w.heap.size g m cap xs ∧ Box w A2 n2 c2 wr2 ∧ Below w.heap.size w wr2) (fun o _ => m - (intOf o).toNat)
            case atStart => exact ⟨0, by omega, rfl, HO.out, HQ.out, HB.out⟩
            case round =>
              clear HO HQ HB
              obtain ⟨k, hk, rfl, hown, hq, hb⟩ := hrel
              have HO := Lib.hid hown
              have HQ := Lib.hid hq
              have HB := Lib.hid hb
              clear hown hq hb
              by_cases hklt : k < m
              · have hd4 : decide ((k : Int) < (m : Int)) = true := by simpa using hklt
                obtain ⟨x, hx, hcx⟩ := HO.out.at_ hilt
                obtain ⟨y, hy, hcy⟩ := HO.out.at_ hklt
                have hi0 : (0 : Int) ≤ (i : Int) := by omega
                have hi1 : (i : Int) < (m : Int) := by omega
                have hk0 : (0 : Int) ≤ (k : Int) := by omega
                have hk1 : (k : Int) < (m : Int) := by omega
                have c1 := Lib.hid (of_quiet op x y hx hy (by omega) (by omega))
                have c2 := Lib.hid (ref_quiet op x y hx hy (by omega) (by omega))
                have hne : (pV op x y != pV op x y) = false := by simp
                go_wp2_with fail
                go_quiet ((go_at_call 10; exact quietFirst c1.out _ _))
                go_wp2_with (go_at_call 9; refine (refhas_yes _ _ (by omega) (by omega)).mono ?_; rintro e w' ⟨rfl, rfl⟩)
                go_quiet ((go_at_call 11; exact quietNext c2.out _ _ _))
                go_wp2
                go_roundw
                case rel => exact ⟨k + 1, by omega, by go_num, HO.out.drewN _, HQ.out, below_drewN HB.out _⟩
                case measure => simp [intOf]; omega
              · have hd4 : decide ((k : Int) < (m : Int)) = false := by simp; omega
                go_wp2
                go_roundw
                case rel => exact ⟨i + 1, by omega, by go_num, HO.out, HQ.out, HB.out⟩
                case measure => simp [intOf]; omega
          · have hd3 : decide ((i : Int) < (m : Int)) = false := by simp; omega
            go_wp2
            go_roundw
            case rel => exact ⟨op + 1, by omega, by omega, rfl, HO.out, HQ.out, HB.out⟩
            case measure => simp [intOf]; omega
      · have hop : op < 18 ∨ 21 < op := by omega
        clear hgood
        go_wp2_with (first | (go_at_call 8; refine (has_no _ _ hop).mono ?_; rintro e w' ⟨rfl, rfl⟩) | (go_at_call 9; refine (refhas_no _ _ hop).mono ?_; rintro e w' ⟨rfl, rfl⟩))
        go_loopw [5] (fun o wr2 => ∃ i : Nat, i ≤ m ∧ o = .int .i64 i ∧ Owned wr2 w.heap.size g m cap xs ∧ Box w A2 n2 c2 wr2 ∧ Below w.heap.size w wr2) (fun o _ => m - (intOf o).toNat)
        case atStart => exact ⟨0, by omega, rfl, HO.out, HQ.out, HB.out⟩
        case round =>
          clear HO HQ HB
          obtain ⟨i, hi, rfl, hown, hq, hb⟩ := hrel
          have HO := Lib.hid hown
          have HQ := Lib.hid hq
          have HB := Lib.hid hb
          clear hown hq hb
          by_cases hilt : i < m
          · have hd3 : decide ((i : Int) < (m : Int)) = true := by simpa using hilt
            go_wp2_with fail
            go_loopw [6] (fun o wr2 => ∃ k : Nat, k ≤ m ∧ o = .int .i64 k ∧ Owned wr2 w.heap.size g m cap xs ∧ Box w A2 n2 c2 wr2 ∧ Below w.heap.size w wr2) (fun o _ => m - (intOf o).toNat)
            case atStart => exact ⟨0, by omega, rfl, HO.out, HQ.out, HB.out⟩
            case round =>
              clear HO HQ HB
              obtain ⟨k, hk, rfl, hown, hq, hb⟩ := hrel
              have HO := Lib.hid hown
              have HQ := Lib.hid hq
              have HB := Lib.hid hb
              clear hown hq hb
              by_cases hklt : k < m
              · have hd4 : decide ((k : Int) < (m : Int)) = true := by simpa using hklt
                obtain ⟨x, hx, hcx⟩ := HO.out.at_ hilt
                obtain ⟨y, hy, hcy⟩ := HO.out.at_ hklt
                have hi0 : (0 : Int) ≤ (i : Int) := by omega
                have hi1 : (i : Int) < (m : Int) := by omega
                have hk0 : (0 : Int) ≤ (k : Int) := by omega
                have hk1 : (k : Int) < (m : Int) := by omega
                have c1 := Lib.hid (of_quiet1 op x y hx hy hop)
                go_wp2_with fail
                go_quiet ((go_at_call 10; exact quietFirst c1.out _ _))
                go_wp2_with (go_at_call 9; refine (refhas_no _ _ hop).mono ?_; rintro e w' ⟨rfl, rfl⟩)
                go_wp2
                go_roundw
                case rel => exact ⟨k + 1, by omega, by go_num, HO.out.drewN _, HQ.out, below_drewN HB.out _⟩
                case measure => simp [intOf]; omega
              · have hd4 : decide ((k : Int) < (m : Int)) = false := by simp; omega
                go_wp2
                go_roundw
                case rel => exact ⟨i + 1, by omega, by go_num, HO.out, HQ.out, HB.out⟩
                case measure => simp [intOf]; omega
          · have hd3 : decide ((i : Int) < (m : Int)) = false := by simp; omega
            go_wp2
            go_roundw
            case rel => exact ⟨op + 1, by omega, by omega, rfl, HO.out, HQ.out, HB.out⟩
            case measure => simp [intOf]; omega
    · have hd2 : decide (op ≤ 34) = false := by simpa using hle
      go_wp2_with fail
      go_loopw [11] (fun o wr2 => ∃ i : Nat, i ≤ m ∧ o = .int .i64 i ∧ Owned wr2 w.heap.size g m cap xs ∧ Box w A2 n2 c2 wr2 ∧ Below w.heap.size w wr2) (fun o _ => m - (intOf o).toNat)
      case atStart => exact ⟨0, by omega, rfl, HO.out, HQ.out, HB.out⟩
      case round =>
        clear HO HQ HB
        obtain ⟨i, hi, rfl, hown, hq, hb⟩ := hrel
        have HO := Lib.hid hown
        have HQ := Lib.hid hq
        have HB := Lib.hid hb
        clear hown hq hb
        by_cases hilt : i < m
        · have hd3 : decide ((i : Int) < (m : Int)) = true := by simpa using hilt
          have hi0 : (0 : Int) ≤ (i : Int) := by omega
          have hi1 : (i : Int) < (m : Int) := by omega
          obtain ⟨x, hx, hcx⟩ := HO.out.at_ hilt
          have HX := Lib.hid hx
          have f1 : (lo x != lo x) = false := by simp
          have f2 : (Go.Proofs.Ytlmbgpcmljgnkaa.hi x != Go.Proofs.Ytlmbgpcmljgnkaa.hi x) = false := by simp
          have f3 : (nrm x != nrm x) = false := by simp
          have f4 : (mk (lo x) (Go.Proofs.Ytlmbgpcmljgnkaa.hi x) != x) = false := by rw [mk_back hx]; simp
          clear hx
          go_wp2_with (first | (go_at_call 13; refine (parts_any _ _ HX.out).mono ?_; rintro e w' ⟨rfl, rfl⟩) | (go_at_call 14; refine (rparts_any _ _ HX.out).mono ?_; rintro e w' ⟨rfl, rfl⟩))
          go_quiet ((first | (go_at_call 15; exact quietFirst (norm_quiet _ HX.out) _ _) | (go_at_call 16; exact quietFirst (rnorm_quiet _ HX.out) _ _) | (go_at_call 17; exact quietFirst (make_quiet _ _) _ _)))
          go_wp2
          go_roundw
          case rel => exact ⟨i + 1, by omega, by go_num, HO.out.drewN _, HQ.out, below_drewN HB.out _⟩
          case measure => simp [intOf]; omega
        · have hd3 : decide ((i : Int) < (m : Int)) = false := by simp; omega
          have q1 := HQ.out
          unfold Box at q1
          have hbs : w.heap.size < wr.heap.size := World.block_lt_of_cell? _ _ q1
          obtain ⟨i0, hi0, hz0, hz1, hz2⟩ := info_parts Try.info3
          have HI := Lib.hid hi0
          have HZ0 := Lib.hid hz0
          have HZ1 := Lib.hid hz1
          have HZ2 := Lib.hid hz2
          clear hi0 hz0 hz1 hz2
          go_wp2_with (at_builtin; refine wpList_append_in _ rfl _ _ 23 rfl w.heap.size 3 i0 (.int .i64 0) .i64 8 Try.underlying23 HI.out HZ0.out HZ1.out HZ2.out rfl _ 7 (numbs.map (Value.int .i64)) rfl (numbs_owned _ _ HB.out.size) A2 n2 c2 rfl ((S2.out.below HB.out).alloc _) ?h5 ?h6 ?h7 ?_)
          case h5 => unfold maxLen; omega
          case h6 => omega
          case h7 => have := HB.out.size; simp; omega
          intro v' w3 zs hzs hown hg
          obtain ⟨gn, capn, hv, hbase, hlt⟩ := hown.form (by omega)
          rw [hv] at hown ⊢
          have E := numbs_end hzs hown (HB.out.alloc HB.out.size _) hg (by have := HB.out.size; simp; omega) (by intro k hk; have := HB.out.size; simp [Value.ownBlock] at hk; omega)
          have HN := Lib.hid E.1
          have HB2 := Lib.hid E.2
          clear hown hg hv hlt hbase E hzs HB HQ HO q1 hbs
          generalize hmn : 7 + n2 = mn at *
          have hmn2 : mn * 8 ≤ 140737488355328 := by omega
          clear hmn hn2
          generalize numbs ++ zs = xn at *
          go_wp2_with fail
          go_loopw [17] (fun o wr2 => ∃ i : Nat, i ≤ 16 ∧ o = .int .i64 i ∧ OwnedN wr2 w.heap.size gn mn capn xn ∧ Below w.heap.size w wr2) (fun o _ => 16 - (intOf o).toNat)
          case atStart => exact ⟨0, by omega, rfl, HN.out, HB2.out⟩
          case round =>
            clear HN HB2
            obtain ⟨i, hi, rfl, hown, hb⟩ := hrel
            have HN := Lib.hid hown
            have HB := Lib.hid hb
            clear hown hb
            by_cases hilt : i < mn ∧ i < 16
            · obtain ⟨hilt, hi16⟩ := hilt
              have hd4 : decide ((i : Int) < (mn : Int)) = true := by simpa using hilt
              have hd5 : decide ((i : Int) < 16) = true := by simp; omega
              go_wp2_with fail
              go_loopw [18] (fun o wr2 => ∃ k : Nat, k ≤ 16 ∧ o = .int .i64 k ∧ OwnedN wr2 w.heap.size gn mn capn xn ∧ Below w.heap.size w wr2) (fun o _ => 16 - (intOf o).toNat)
              case atStart => exact ⟨0, by omega, rfl, HN.out, HB.out⟩
              case round =>
                clear HN HB
                obtain ⟨k, hk, rfl, hown, hb⟩ := hrel
                have HN := Lib.hid hown
                have HB := Lib.hid hb
                clear hown hb
                by_cases hklt : k < mn ∧ k < 16
                · obtain ⟨hklt, hk16⟩ := hklt
                  have hd6 : decide ((k : Int) < (mn : Int)) = true := by simpa using hklt
                  have hd7 : decide ((k : Int) < 16) = true := by simp; omega
                  obtain ⟨x, hx, hcx⟩ := HN.out.at_ hilt
                  obtain ⟨y, hy, hcy⟩ := HN.out.at_ hklt
                  clear hx hy
                  have hi0 : (0 : Int) ≤ (i : Int) := by omega
                  have hi1 : (i : Int) < (mn : Int) := by omega
                  have hk0 : (0 : Int) ≤ (k : Int) := by omega
                  have hk1 : (k : Int) < (mn : Int) := by omega
                  have hne : (mk x y != mk x y) = false := by simp
                  go_wp2_with fail
                  go_quiet ((first | (go_at_call 17; exact quietFirst (make_quiet _ _) _ _) | (go_at_call 18; exact quietFirst (rmake_quiet _ _) _ _)))
                  go_wp2
                  go_roundw
                  case rel => exact ⟨k + 1, by omega, by go_num, HN.out.drewN _, below_drewN HB.out _⟩
                  case measure => simp [intOf]; omega
                · by_cases hkm : k < mn
                  all_goals
                    have hd6 : decide ((k : Int) < (mn : Int)) = decide (k < mn) := by simp
                    simp only [hkm, decide_true, decide_false] at hd6
                    try have hd7 : decide ((k : Int) < 16) = false := by simp; omega
                    clear hklt
                    go_wp2
                    go_roundw
                    case rel => exact ⟨i + 1, by omega, by go_num, HN.out, HB.out⟩
                    case measure => simp [intOf]; omega
            · by_cases him : i < mn
              all_goals
                have hd4 : decide ((i : Int) < (mn : Int)) = decide (i < mn) := by simp
                simp only [him, decide_true, decide_false] at hd4
                try have hd5 : decide ((i : Int) < 16) = false := by simp; omega
                clear hilt
                go_wp2_with (go_at_call 19; refine (wakes_any _).mono ?_; rintro e w' ⟨rfl, rfl⟩)
                go_ret
                exact ⟨rfl, HB.out⟩

set_option maxRecDepth 100000 in
theorem pairOps_lifted (os : Os) (started : os.Started) (H : Type) (enc : TypeId × Value → H) :
    ReturnsInHanded {} Try.checked os 3 .any (Rows.pairOpsSpec.pre6 enc Try.prog Try.f3 Rows.pairOpsRow.domain false) (Rows.pairOpsSpec.post enc Try.prog Try.f3 false true false false) := by
  refine returnsInHanded_of_change_sized (C := Try.checked) Try.own started (by kernel_rfl) Try.func3
    (ChangeSpec.witness6 (enc := enc) (C := Try.checked) false ⟨#[], #[.agg #[.slice none 0 0, .slice none 0 0]], []⟩ 8 (by kernel_rfl) (by kernel_rfl) (by kernel_rfl) (by kernel_rfl)) ?_
  intro W base args ds gs before hval0 hW _ hsz0 _
  have hsz : (DataW.weightsEach Try.prog (Try.f3.params.toList ++ Rows.pairOpsSpec.plain.varTypes Try.prog) (ds ++ gs)).all (· ≤ reachBytes) = true := hsz0
  clear hsz0
  have hval : ∀ (j : Nat) t v, Try.f3.params[j]? = some t → args[j]? = some v → Value.okWide Try.prog W .any base t v := hval0
  have hW' := hW
  obtain ⟨p, q, hA0, hV, rfl, _, _⟩ := hW
  have hA : DataW.TrodAll enc Try.prog W 0 (fun _ => true) true Try.f3.params.toList args.toList ds p := hA0
  rw [Try.params3] at hA hval hsz
  obtain ⟨v0, d0, rfl, rfl, h0⟩ := trodAll_one hA
  obtain ⟨rfl, rfl⟩ := trodVars_none hV
  clear hA0 hval0
  obtain ⟨A1, n1, c1, A2, n2, c2, rfl, s1, s2⟩ := ask_open (hval 0 25 v0 rfl rfl) h0 (DataW.weights_mem_each (ts := [25]) (ds := [d0]) (j := 0) rfl rfl) hsz
  have lt0 : ∀ x ∈ p, x.block < W.heap.size := by obtain ⟨m, hm⟩ := h0; exact DataW.trod_lt m _ _ _ hm
  refine (pairOps_walk A1 A2 n1 c1 n2 c2 W s1 s2).mono fun e W' ⟨he, bel⟩ => ?_
  subst he
  exact ⟨_, rfl, _, _, _, [], _, [], hW', trodAll_mk1 (shut_bool Try.underlying4 _), trodAll_mk1 (Below.trod Try.laidOut (by kernel_rfl) (of_decide_eq_true (by kernel_rfl)) h0 bel lt0), rfl, bel.frame _, fun h => by cases h⟩

theorem PairOps_holds : Rows.PairOpsSaid :=
  OpenClaim.holds_of_wide 3 Try.f3 rfl rfl rfl rfl rfl rfl rfl ⟨rfl, rfl, rfl, rfl, rfl⟩ rfl rfl rfl rfl rfl (by kernel_rfl) Try.func3 (by kernel_rfl)
    (of_decide_eq_true (by kernel_rfl)) (by unfold Func.isWrapper; first | (rw [if_pos (by decide +kernel)]; kernel_rfl) | (rw [if_neg (by decide +kernel)]; exact ⟨rfl, rfl⟩))
    (fun os started H enc _ => pairOps_lifted os started H enc)

end Go.Proofs.Ytlmbgpcmljgnkaa
