/-
  WordBits: for every input the law returns true: Fits, Cut and Sign tell what the page tells, of each of the numbers, each of the words, and each width from -1 to 33; the input reads behind the call as it read before. No condition.
-/
import Derived.Test.YtkmpfgaedjmadaaShell
import Derived.Test.YtkmpfgaedjmadaaRow
import Derived.Test.YtkmpfgaedjmadaaWidth
namespace Go.Proofs.Ytkmpfgaedjmadaa
open Go.ChangeShapes Go.WideShapes Go.ChangeAt Go.RowKit Go.Joins

theorem Try.info3 : (Try.prog.info? 3).map (fun i => (i.zero, i.size, i.bytes)) = some (some (.int .i64 0), 1, 8) := by kernel_rfl

def numbs : List Int := [0, 1, -1, 2147483648, -2147483648, 2147483647, 4611686018427387904]
theorem numbs_ok : ∀ x ∈ numbs, (Lit.int .i64 x).wf = true := by decide
theorem numbs_owned (w : World) (o : Obj) : ((w.alloc o).alloc (.cells #[.int .i64 0, .int .i64 1, .int .i64 (-1), .int .i64 2147483648, .int .i64 (-2147483648), .int .i64 2147483647, .int .i64 4611686018427387904] 3)).ownsRow w.heap.size 3 1 (.slice (some ⟨w.heap.size + 1, 0, none⟩) 7 7) 7 (numbs.map (Value.int .i64)) := by
  have h := World.ownsRow_lit (base := w.heap.size) (e := 3) (size := 1) (w.alloc o) #[.int .i64 0, .int .i64 1, .int .i64 (-1), .int .i64 2147483648, .int .i64 (-2147483648), .int .i64 2147483647, .int .i64 4611686018427387904] 7 (by simp) (by unfold maxLen; omega) rfl
  simpa [numbs] using h

theorem numbs_end {w W w1 : World} {g n cap : Nat} {zs : List Int} {row : Option Nat} (hz : ∀ x ∈ zs, (Lit.int .i64 x).wf = true)
    (hown : w1.ownsRow w.heap.size 3 1 (.slice (some ⟨g, 0, none⟩) n cap) n (numbs.map (Value.int .i64) ++ zs.map (Value.int .i64)))
    (hb : Below w.heap.size w W) (hg : W.grownBy w1 row) (hW : w.heap.size ≤ W.heap.size) (hr : ∀ k, row = some k → w.heap.size ≤ k) :
    OwnedN w1 w.heap.size g n cap (numbs ++ zs) ∧ Below w.heap.size w w1 := by
  refine ⟨⟨by rw [List.map_append]; exact hown, fun x hx => ?_⟩, hb.grown hg hW hr⟩
  rcases List.mem_append.1 hx with h | h
  · exact numbs_ok x h
  · exact hz x h

theorem shr_zero {x bits p P : Int} (h : Pow bits p P) (h0 : 0 ≤ x) (h1 : x < P) : (x / (2 : Int) ^ bits.toNat == 0) = true := by
  rw [h.full, Int.ediv_eq_zero_of_lt h0 h1]; rfl
theorem shr_some {x bits p P : Int} (h : Pow bits p P) (h1 : P ≤ x) : (x / (2 : Int) ^ bits.toNat == 0) = false := by
  have h2 := h.twice
  have h3 := h.one
  have h4 : 1 ≤ x / P := (Int.le_ediv_iff_mul_le (by omega)).2 (by omega)
  rw [h.full]
  simp
  omega

set_option maxHeartbeats 4000000 in
set_option maxRecDepth 100000 in
theorem wordBits_walk (A1 A2 : Option Addr) (n1 c1 n2 c2 : Nat) (w : World) (s1 : SliceIn .u32 4 w A1 n1 c1) (s2 : SliceIn .i64 8 w A2 n2 c2) :
    Calls Try.prog 4 #[.agg #[.slice A1 n1 c1, .slice A2 n2 c2]] w (TruePost w) := by
  have hn2 : n2 * 8 ≤ 140737488351232 := by
    rcases s2 with ⟨_, h, _⟩ | ⟨_, _, _, _, _, _, _, h⟩
    · omega
    · exact h
  have S1 := Lib.hid s1
  have S2 := Lib.hid s2
  clear s1 s2
  obtain ⟨i0, hi, hz0, hz1, hz2⟩ := info_parts Try.info3
  have HI := Lib.hid hi
  have HZ0 := Lib.hid hz0
  have HZ1 := Lib.hid hz1
  have HZ2 := Lib.hid hz2
  clear hi hz0 hz1 hz2
  go_enter Try.func4, Try.ntmps4
  go_wp2_with (at_builtin; refine wpList_append_in _ rfl _ _ 23 rfl w.heap.size 3 i0 (.int .i64 0) .i64 8 Try.underlying23 HI.out HZ0.out HZ1.out HZ2.out rfl _ 7 (numbs.map (Value.int .i64)) rfl (numbs_owned w _) A2 n2 c2 rfl ((S2.out.alloc _).alloc _) ?h5 ?h6 ?h7 ?_)
  case h5 => unfold maxLen; omega
  case h6 => omega
  case h7 => simp; omega
  intro v' w1 zs hzs hown hg
  obtain ⟨gn, capn, hv, hbase, hlt⟩ := hown.form (by omega)
  rw [hv] at hown ⊢
  have E := numbs_end hzs hown (two_below w _ _) hg (by simp; omega) (by intro k hk; simp [Value.ownBlock] at hk; omega)
  have HN1 := Lib.hid E.1
  have HB1 := Lib.hid E.2
  have q0 : w1.cell? ⟨w.heap.size, 0, none⟩ = some (.slice A1 n1 c1) := hg.cell (by simp) (by simp [Value.ownBlock])
  have q1 : w1.cell? ⟨w.heap.size, 1, none⟩ = some (.slice A2 n2 c2) := hg.cell (by simp) (by simp [Value.ownBlock])
  clear hown hg hv hlt hbase E hzs
  go_wp2_with (go_at_call 12; refine (words_any (S1.out.below HB1.out) _ _ _).mono ?_; rintro e w2 ⟨g, m, cap, xs, rfl, hm, hown, hb⟩)
  have HN := Lib.hid (HN1.out.below hb)
  have HO := Lib.hid (hown.mono (base' := w.heap.size) HB1.out.size)
  have HB := Lib.hid (HB1.out.trans (hb.mono HB1.out.size))
  clear hown hb q0 q1 HN1 HB1 S1 S2
  generalize hmn : 7 + n2 = mn at *
  have hmn2 : mn * 8 ≤ 140737488355328 := by omega
  clear hmn hn2
  generalize numbs ++ zs = xn at *
  go_loopw [5] (fun o wr2 => ∃ bits : Int, -1 ≤ bits ∧ bits ≤ 34 ∧ o = .int .i64 bits ∧ OwnedN wr2 w.heap.size gn mn capn xn ∧ Owned wr2 w.heap.size g m cap xs ∧ Below w.heap.size w wr2) (fun o _ => (34 - intOf o).toNat)
  case atStart => exact ⟨-1, by omega, by omega, rfl, HN.out, HO.out, HB.out⟩
  case round =>
    clear HN HO HB
    obtain ⟨bits, hb1, hb2, rfl, hN, hO, hB⟩ := hrel
    have HN := Lib.hid hN
    have HO := Lib.hid hO
    have HB := Lib.hid hB
    clear hN hO hB
    by_cases hle : bits ≤ 33
    · have hd2 : decide (bits ≤ 33) = true := by simpa using hle
      by_cases hgood : 1 ≤ bits ∧ bits ≤ 32
      · obtain ⟨hg1, hg2⟩ := hgood
        have hd5 : decide (bits ≤ 32) = true := by simpa using hg2
        have hd6 : decide (1 ≤ bits) = true := by simpa using hg1
        obtain ⟨p, P, hP⟩ := pow_at bits hg1 hg2
        have HP := Lib.hid hP
        clear hP
        go_wp2_with (go_at_call 19; refine (between_yes _ _ _ _ hg1 hg2).mono ?_; rintro e w' ⟨rfl, rfl⟩)
        go_loopw [7] (fun o wr2 => ∃ i : Nat, i ≤ mn ∧ o = .int .i64 i ∧ OwnedN wr2 w.heap.size gn mn capn xn ∧ Owned wr2 w.heap.size g m cap xs ∧ Below w.heap.size w wr2) (fun o _ => mn - (intOf o).toNat)
        case atStart => exact ⟨0, by omega, rfl, HN.out, HO.out, HB.out⟩
        case round =>
          clear HN HO HB
          obtain ⟨i, hi, rfl, hN, hO, hB⟩ := hrel
          have HN := Lib.hid hN
          have HO := Lib.hid hO
          have HB := Lib.hid hB
          clear hN hO hB
          by_cases hil : i < mn ∧ i < 20
          · obtain ⟨hilt, hi20⟩ := hil
            have hd3 : decide ((i : Int) < (mn : Int)) = true := by simpa using hilt
            have hd4 : decide ((i : Int) < 20) = true := by simp; omega
            have hi0 : (0 : Int) ≤ (i : Int) := by omega
            have hi1 : (i : Int) < (mn : Int) := by omega
            obtain ⟨x, ⟨hx1, hx2⟩, hcx⟩ := HN.out.at_ hilt
            by_cases hf : -p ≤ x ∧ x < p
            · obtain ⟨hf1, hf2⟩ := hf
              have hne : (x % P != x % P) = false := by simp
              have HM := Lib.hid (and_mask2 x bits p P HP.out)
              go_wp2_with (first | (go_at_call 20; refine (fits_yes _ HP.out hf1 hf2).mono ?_; rintro e w' ⟨rfl, rfl⟩) | (go_at_call 21; refine (cut_yes _ HP.out hf1 hf2).mono ?_; rintro e w' ⟨rfl, rfl⟩) | (go_at_call 22; refine (reffits_yes _ HP.out hf1 hf2).mono ?_; rintro e w' ⟨rfl, rfl⟩))
              have hmask := HM.out
              go_quiet (fail)
              go_wp2
              go_roundw
              case rel => exact ⟨i + 1, by omega, by go_num, HN.out.drewN _, HO.out.drewN _, below_drewN HB.out _⟩
              case measure => simp [intOf]; omega
            · have hf' := Lib.hid (show x < -p ∨ p ≤ x by omega)
              clear hf
              go_wp2_with (first | (go_at_call 20; refine (fits_no _ HP.out hf'.out).mono ?_; rintro e w' ⟨rfl, rfl⟩) | (go_at_call 21; refine (cut_no _ HP.out hf'.out).mono ?_; rintro e w' ⟨rfl, rfl⟩) | (go_at_call 22; refine (reffits_no _ HP.out hf'.out).mono ?_; rintro e w' ⟨rfl, rfl⟩) | go_in)
              go_roundw
              case rel => exact ⟨i + 1, by omega, by go_num, HN.out, HO.out, HB.out⟩
              case measure => simp [intOf]; omega
          · by_cases hilt : i < mn
            · have hd3 : decide ((i : Int) < (mn : Int)) = true := by simpa using hilt
              have hd4 : decide ((i : Int) < 20) = false := by simp; omega
              clear hil
              go_wp2_with fail
              go_loopw [16] (fun o wr2 => ∃ i : Nat, i ≤ m ∧ o = .int .i64 i ∧ OwnedN wr2 w.heap.size gn mn capn xn ∧ Owned wr2 w.heap.size g m cap xs ∧ Below w.heap.size w wr2) (fun o _ => m - (intOf o).toNat)
              case atStart => exact ⟨0, by omega, rfl, HN.out, HO.out, HB.out⟩
              case round =>
                clear HN HO HB
                obtain ⟨i, hi, rfl, hN, hO, hB⟩ := hrel
                have HN := Lib.hid hN
                have HO := Lib.hid hO
                have HB := Lib.hid hB
                clear hN hO hB
                by_cases hilt : i < m
                · have hd3 : decide ((i : Int) < (m : Int)) = true := by simpa using hilt
                  have hi0 : (0 : Int) ≤ (i : Int) := by omega
                  have hi1 : (i : Int) < (m : Int) := by omega
                  obtain ⟨x, ⟨hx1, hx2⟩, hcx⟩ := HO.out.at_ hilt
                  by_cases hx4 : x < P
                  · have hq : ((x : Int) / (2 : Int) ^ bits.toNat == 0) = true := shr_zero HP.out hx1 hx4
                    by_cases hx3 : x < p
                    · have hne : (x != x) = false := by simp
                      go_wp2_with (first | (go_at_call 23; refine (sign_lo _ HP.out hx1 hx3).mono ?_; rintro e w' ⟨rfl, mq, rfl⟩) | (go_at_call 24; refine (refsign_lo _ HP.out hx1 hx3).mono ?_; rintro e w' ⟨rfl, rfl⟩) | go_in)
                      go_roundw
                      case rel => exact ⟨i + 1, by omega, by go_num, HN.out.drewN _, HO.out.drewN _, below_drewN HB.out _⟩
                      case measure => simp [intOf]; omega
                    · have hx3' : p ≤ x := by omega
                      have hne : (x - P != x - P) = false := by simp
                      go_wp2_with (first | (go_at_call 23; refine (sign_hi _ HP.out hx3' hx4).mono ?_; rintro e w' ⟨rfl, mq, rfl⟩) | (go_at_call 24; refine (refsign_hi _ HP.out hx3' hx4).mono ?_; rintro e w' ⟨rfl, rfl⟩) | go_in)
                      go_roundw
                      case rel => exact ⟨i + 1, by omega, by go_num, HN.out.drewN _, HO.out.drewN _, below_drewN HB.out _⟩
                      case measure => simp [intOf]; omega
                  · have hx4' : P ≤ x := by omega
                    have hq : ((x : Int) / (2 : Int) ^ bits.toNat == 0) = false := shr_some HP.out hx4'
                    go_wp2_with (first | (go_at_call 23; refine (sign_no _ HP.out hx4' hx2).mono ?_; rintro e w' ⟨rfl, mq, rfl⟩) | go_in)
                    go_roundw
                    case rel => exact ⟨i + 1, by omega, by go_num, HN.out.drewN _, HO.out.drewN _, below_drewN HB.out _⟩
                    case measure => simp [intOf]; omega
                · have hd3 : decide ((i : Int) < (m : Int)) = false := by simp; omega
                  go_wp2
                  go_roundw
                  case rel => exact ⟨bits + 1, by omega, by omega, rfl, HN.out, HO.out, HB.out⟩
                  case measure => simp [intOf]; omega
            · have hd3 : decide ((i : Int) < (mn : Int)) = false := by simp; omega
              clear hil
              go_wp2_with fail
              go_loopw [16] (fun o wr2 => ∃ i : Nat, i ≤ m ∧ o = .int .i64 i ∧ OwnedN wr2 w.heap.size gn mn capn xn ∧ Owned wr2 w.heap.size g m cap xs ∧ Below w.heap.size w wr2) (fun o _ => m - (intOf o).toNat)
              case atStart => exact ⟨0, by omega, rfl, HN.out, HO.out, HB.out⟩
              case round =>
                clear HN HO HB
                obtain ⟨i, hi, rfl, hN, hO, hB⟩ := hrel
                have HN := Lib.hid hN
                have HO := Lib.hid hO
                have HB := Lib.hid hB
                clear hN hO hB
                by_cases hilt : i < m
                · have hd3 : decide ((i : Int) < (m : Int)) = true := by simpa using hilt
                  have hi0 : (0 : Int) ≤ (i : Int) := by omega
                  have hi1 : (i : Int) < (m : Int) := by omega
                  obtain ⟨x, ⟨hx1, hx2⟩, hcx⟩ := HO.out.at_ hilt
                  by_cases hx4 : x < P
                  · have hq : ((x : Int) / (2 : Int) ^ bits.toNat == 0) = true := shr_zero HP.out hx1 hx4
                    by_cases hx3 : x < p
                    · have hne : (x != x) = false := by simp
                      go_wp2_with (first | (go_at_call 23; refine (sign_lo _ HP.out hx1 hx3).mono ?_; rintro e w' ⟨rfl, mq, rfl⟩) | (go_at_call 24; refine (refsign_lo _ HP.out hx1 hx3).mono ?_; rintro e w' ⟨rfl, rfl⟩) | go_in)
                      go_roundw
                      case rel => exact ⟨i + 1, by omega, by go_num, HN.out.drewN _, HO.out.drewN _, below_drewN HB.out _⟩
                      case measure => simp [intOf]; omega
                    · have hx3' : p ≤ x := by omega
                      have hne : (x - P != x - P) = false := by simp
                      go_wp2_with (first | (go_at_call 23; refine (sign_hi _ HP.out hx3' hx4).mono ?_; rintro e w' ⟨rfl, mq, rfl⟩) | (go_at_call 24; refine (refsign_hi _ HP.out hx3' hx4).mono ?_; rintro e w' ⟨rfl, rfl⟩) | go_in)
                      go_roundw
                      case rel => exact ⟨i + 1, by omega, by go_num, HN.out.drewN _, HO.out.drewN _, below_drewN HB.out _⟩
                      case measure => simp [intOf]; omega
                  · have hx4' : P ≤ x := by omega
                    have hq : ((x : Int) / (2 : Int) ^ bits.toNat == 0) = false := shr_some HP.out hx4'
                    go_wp2_with (first | (go_at_call 23; refine (sign_no _ HP.out hx4' hx2).mono ?_; rintro e w' ⟨rfl, mq, rfl⟩) | go_in)
                    go_roundw
                    case rel => exact ⟨i + 1, by omega, by go_num, HN.out.drewN _, HO.out.drewN _, below_drewN HB.out _⟩
                    case measure => simp [intOf]; omega
                · have hd3 : decide ((i : Int) < (m : Int)) = false := by simp; omega
                  go_wp2
                  go_roundw
                  case rel => exact ⟨bits + 1, by omega, by omega, rfl, HN.out, HO.out, HB.out⟩
                  case measure => simp [intOf]; omega
      · have hbad := Lib.hid (show bits < 1 ∨ 32 < bits by omega)
        go_wp2_with (go_at_call 19; refine (between_no _ _ _ _ hbad.out).mono ?_; rintro e w' ⟨rfl, rfl⟩)
        go_loopw [7] (fun o wr2 => ∃ i : Nat, i ≤ mn ∧ o = .int .i64 i ∧ OwnedN wr2 w.heap.size gn mn capn xn ∧ Owned wr2 w.heap.size g m cap xs ∧ Below w.heap.size w wr2) (fun o _ => mn - (intOf o).toNat)
        case atStart => exact ⟨0, by omega, rfl, HN.out, HO.out, HB.out⟩
        case round =>
          clear HN HO HB
          obtain ⟨i, hi, rfl, hN, hO, hB⟩ := hrel
          have HN := Lib.hid hN
          have HO := Lib.hid hO
          have HB := Lib.hid hB
          clear hN hO hB
          by_cases hil : i < mn ∧ i < 20
          · obtain ⟨hilt, hi20⟩ := hil
            have hd3 : decide ((i : Int) < (mn : Int)) = true := by simpa using hilt
            have hd4 : decide ((i : Int) < 20) = true := by simp; omega
            have hi0 : (0 : Int) ≤ (i : Int) := by omega
            have hi1 : (i : Int) < (mn : Int) := by omega
            obtain ⟨x, ⟨hx1, hx2⟩, hcx⟩ := HN.out.at_ hilt
            go_wp2_with (first | (go_at_call 20; refine (fits_bad _ hbad.out).mono ?_; rintro e w' ⟨rfl, rfl⟩) | (go_at_call 21; refine (cut_bad _ hbad.out).mono ?_; rintro e w' ⟨rfl, rfl⟩) | go_in)
            go_roundw
            case rel => exact ⟨i + 1, by omega, by go_num, HN.out, HO.out, HB.out⟩
            case measure => simp [intOf]; omega
          · by_cases hilt : i < mn
            · have hd3 : decide ((i : Int) < (mn : Int)) = true := by simpa using hilt
              have hd4 : decide ((i : Int) < 20) = false := by simp; omega
              clear hil
              go_wp2_with fail
              go_loopw [16] (fun o wr2 => ∃ i : Nat, i ≤ m ∧ o = .int .i64 i ∧ OwnedN wr2 w.heap.size gn mn capn xn ∧ Owned wr2 w.heap.size g m cap xs ∧ Below w.heap.size w wr2) (fun o _ => m - (intOf o).toNat)
              case atStart => exact ⟨0, by omega, rfl, HN.out, HO.out, HB.out⟩
              case round =>
                clear HN HO HB
                obtain ⟨i, hi, rfl, hN, hO, hB⟩ := hrel
                have HN := Lib.hid hN
                have HO := Lib.hid hO
                have HB := Lib.hid hB
                clear hN hO hB
                by_cases hilt : i < m
                · have hd3 : decide ((i : Int) < (m : Int)) = true := by simpa using hilt
                  have hi0 : (0 : Int) ≤ (i : Int) := by omega
                  have hi1 : (i : Int) < (m : Int) := by omega
                  obtain ⟨x, ⟨hx1, hx2⟩, hcx⟩ := HO.out.at_ hilt
                  go_wp2_with (first | (go_at_call 23; refine (sign_bad _ hbad.out).mono ?_; rintro e w' ⟨rfl, mq, rfl⟩) | go_in)
                  go_roundw
                  case rel => exact ⟨i + 1, by omega, by go_num, HN.out.drewN _, HO.out.drewN _, below_drewN HB.out _⟩
                  case measure => simp [intOf]; omega
                · have hd3 : decide ((i : Int) < (m : Int)) = false := by simp; omega
                  go_wp2
                  go_roundw
                  case rel => exact ⟨bits + 1, by omega, by omega, rfl, HN.out, HO.out, HB.out⟩
                  case measure => simp [intOf]; omega
            · have hd3 : decide ((i : Int) < (mn : Int)) = false := by simp; omega
              clear hil
              go_wp2_with fail
              go_loopw [16] (fun o wr2 => ∃ i : Nat, i ≤ m ∧ o = .int .i64 i ∧ OwnedN wr2 w.heap.size gn mn capn xn ∧ Owned wr2 w.heap.size g m cap xs ∧ Below w.heap.size w wr2) (fun o _ => m - (intOf o).toNat)
              case atStart => exact ⟨0, by omega, rfl, HN.out, HO.out, HB.out⟩
              case round =>
                clear HN HO HB
                obtain ⟨i, hi, rfl, hN, hO, hB⟩ := hrel
                have HN := Lib.hid hN
                have HO := Lib.hid hO
                have HB := Lib.hid hB
                clear hN hO hB
                by_cases hilt : i < m
                · have hd3 : decide ((i : Int) < (m : Int)) = true := by simpa using hilt
                  have hi0 : (0 : Int) ≤ (i : Int) := by omega
                  have hi1 : (i : Int) < (m : Int) := by omega
                  obtain ⟨x, ⟨hx1, hx2⟩, hcx⟩ := HO.out.at_ hilt
                  go_wp2_with (first | (go_at_call 23; refine (sign_bad _ hbad.out).mono ?_; rintro e w' ⟨rfl, mq, rfl⟩) | go_in)
                  go_roundw
                  case rel => exact ⟨i + 1, by omega, by go_num, HN.out.drewN _, HO.out.drewN _, below_drewN HB.out _⟩
                  case measure => simp [intOf]; omega
                · have hd3 : decide ((i : Int) < (m : Int)) = false := by simp; omega
                  go_wp2
                  go_roundw
                  case rel => exact ⟨bits + 1, by omega, by omega, rfl, HN.out, HO.out, HB.out⟩
                  case measure => simp [intOf]; omega
    · have hd2 : decide (bits ≤ 33) = false := by simpa using hle
      go_wp2_with (go_at_call 18; refine (wakes_any _).mono ?_; rintro e w' ⟨rfl, rfl⟩)
      go_ret
      exact ⟨rfl, HB.out⟩

set_option maxRecDepth 100000 in
theorem wordBits_lifted (os : Os) (started : os.Started) (H : Type) (enc : TypeId × Value → H) :
    ReturnsInHanded {} Try.checked os 4 .any (Rows.wordBitsSpec.pre6 enc Try.prog Try.f4 Rows.wordBitsRow.domain false) (Rows.wordBitsSpec.post enc Try.prog Try.f4 false true false false) := by
  refine returnsInHanded_of_change_sized (C := Try.checked) Try.own started (by kernel_rfl) Try.func4
    (ChangeSpec.witness6 (enc := enc) (C := Try.checked) false ⟨#[], #[.agg #[.slice none 0 0, .slice none 0 0]], []⟩ 8 (by kernel_rfl) (by kernel_rfl) (by kernel_rfl) (by kernel_rfl)) ?_
  intro W base args ds gs before hval0 hW _ hsz0 _
  have hsz : (DataW.weightsEach Try.prog (Try.f4.params.toList ++ Rows.wordBitsSpec.plain.varTypes Try.prog) (ds ++ gs)).all (· ≤ reachBytes) = true := hsz0
  clear hsz0
  have hval : ∀ (j : Nat) t v, Try.f4.params[j]? = some t → args[j]? = some v → Value.okWide Try.prog W .any base t v := hval0
  have hW' := hW
  obtain ⟨p, q, hA0, hV, rfl, _, _⟩ := hW
  have hA : DataW.TrodAll enc Try.prog W 0 (fun _ => true) true Try.f4.params.toList args.toList ds p := hA0
  rw [Try.params4] at hA hval hsz
  obtain ⟨v0, d0, rfl, rfl, h0⟩ := trodAll_one hA
  obtain ⟨rfl, rfl⟩ := trodVars_none hV
  clear hA0 hval0
  obtain ⟨A1, n1, c1, A2, n2, c2, rfl, s1, s2⟩ := ask_open (hval 0 25 v0 rfl rfl) h0 (DataW.weights_mem_each (ts := [25]) (ds := [d0]) (j := 0) rfl rfl) hsz
  have lt0 : ∀ x ∈ p, x.block < W.heap.size := by obtain ⟨m, hm⟩ := h0; exact DataW.trod_lt m _ _ _ hm
  refine (wordBits_walk A1 A2 n1 c1 n2 c2 W s1 s2).mono fun e W' ⟨he, bel⟩ => ?_
  subst he
  exact ⟨_, rfl, _, _, _, [], _, [], hW', trodAll_mk1 (shut_bool Try.underlying4 _), trodAll_mk1 (Below.trod Try.laidOut (by kernel_rfl) (of_decide_eq_true (by kernel_rfl)) h0 bel lt0), rfl, bel.frame _, fun h => by cases h⟩

theorem WordBits_holds : Rows.WordBitsSaid :=
  OpenClaim.holds_of_wide 4 Try.f4 rfl rfl rfl rfl rfl rfl rfl ⟨rfl, rfl, rfl, rfl, rfl⟩ rfl rfl rfl rfl rfl (by kernel_rfl) Try.func4 (by kernel_rfl)
    (of_decide_eq_true (by kernel_rfl)) (by unfold Func.isWrapper; first | (rw [if_pos (by decide +kernel)]; kernel_rfl) | (rw [if_neg (by decide +kernel)]; exact ⟨rfl, rfl⟩))
    (fun os started H enc _ => wordBits_lifted os started H enc)

end Go.Proofs.Ytkmpfgaedjmadaa
