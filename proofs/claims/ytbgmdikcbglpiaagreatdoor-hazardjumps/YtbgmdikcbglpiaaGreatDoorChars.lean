/-
  Whether a string is a name: both sides tell nameB of it, and leave the world as it was. Condition: the string is no longer than a string may be.
-/
import Derived.Test.YtbgmdikcbglpiaaGreatDoorPure
namespace Go.Proofs.YtbgmdikcbglpiaaGreatDoor
open Go.RowKit

def digB (c : Int) : Bool := decide (48 ≤ c) && decide (c ≤ 57)
def letB (c : Int) : Bool := (decide (97 ≤ c) && decide (c ≤ 122)) || decide (c = 95)
theorem digit_yes (c : Int) (w : World) (h1 : 48 ≤ c) (h2 : c ≤ 57) : Calls Tryz.prog 122 #[.int .u8 c] w (BoolPost true w) := by
  go_enter Tryz.func122, Tryz.ntmps122
  go_wp2
  go_ret
  exact ⟨rfl, rfl⟩
theorem digit_no (c : Int) (w : World) (h : ¬ (48 ≤ c ∧ c ≤ 57)) : Calls Tryz.prog 122 #[.int .u8 c] w (BoolPost false w) := by
  by_cases h1 : 48 ≤ c
  · have hd : decide (c ≤ 57) = false := by simp; omega
    clear h
    go_enter Tryz.func122, Tryz.ntmps122
    go_wp2
    go_ret
    exact ⟨rfl, rfl⟩
  · have hd : decide (48 ≤ c) = false := by simpa using h1
    clear h
    go_enter Tryz.func122, Tryz.ntmps122
    go_wp2
    go_ret
    exact ⟨rfl, rfl⟩
theorem digit_any (c : Int) (w : World) : Calls Tryz.prog 122 #[.int .u8 c] w (BoolPost (digB c) w) := by
  by_cases h : 48 ≤ c ∧ c ≤ 57
  · have e : digB c = true := by unfold digB; simpa using h
    rw [e]; exact digit_yes c w h.1 h.2
  · have e : digB c = false := by unfold digB; rw [Bool.eq_false_iff]; simpa using h
    rw [e]; exact digit_no c w h
theorem letter_any (c : Int) (w : World) : Calls Tryz.prog 123 #[.int .u8 c] w (BoolPost (letB c) w) := by
  have key : letB c = true ∨ letB c = false := by cases letB c <;> simp
  by_cases h1 : 97 ≤ c
  · by_cases h2 : c ≤ 122
    · have e : letB c = true := by unfold letB; simp [h1, h2]
      rw [e]
      clear key e
      go_enter Tryz.func123, Tryz.ntmps123
      go_wp2
      go_ret
      exact ⟨rfl, rfl⟩
    · have e : letB c = false := by unfold letB; simp; omega
      have hd : decide (c ≤ 122) = false := by simpa using h2
      have hq : (c == 95) = false := by simp; omega
      rw [e]
      clear key e
      go_enter Tryz.func123, Tryz.ntmps123
      go_wp2
      go_ret
      exact ⟨rfl, rfl⟩
  · have hd : decide (97 ≤ c) = false := by simpa using h1
    have e : letB c = (c == 95) := by unfold letB; rw [hd]; simp; rfl
    rw [e]
    clear key e
    go_enter Tryz.func123, Tryz.ntmps123
    go_wp2
    go_ret
    exact ⟨rfl, rfl⟩

/-- A byte that a name may have. -/
def chB (c : UInt8) : Bool := letB (c.toNat : Int) || digB (c.toNat : Int)
/-- A name. -/
def nameB (s : ByteArray) : Bool := decide (0 < s.size) && decide (s.size ≤ 12) && !digB ((s.data.toList.headD 0).toNat : Int) && s.data.toList.all chB
theorem take_snoc (s : ByteArray) (k : Nat) (h : k < s.size) : s.data.toList.take (k + 1) = s.data.toList.take k ++ [s[k]] := by
  rw [List.take_succ_eq_append_getElem (by simpa using h)]; rfl
theorem head_at (s : ByteArray) (h : 0 < s.size) : s.data.toList.headD 0 = s[0] := by
  have hl : 0 < s.data.toList.length := by simpa using h
  match hs : s.data.toList, hl with
  | c :: l, _ =>
    show c = s[0]
    have : s[0] = s.data.toList[0]'(by simpa using h) := rfl
    rw [this]
    simp [hs]
theorem name_bad {s : ByteArray} {k : Nat} (h : k < s.size) (hc : chB s[k] = false) : nameB s = false := by
  unfold nameB
  have : s.data.toList.all chB = false := by
    rw [List.all_eq_false]
    exact ⟨s[k], List.getElem_mem (l := s.data.toList) (n := k) (by simpa using h), by simp [hc]⟩
  rw [this]; simp
theorem name_good {s : ByteArray} (h0 : 0 < s.size) (h1 : s.size ≤ 12) (hd : digB (s[0].toNat : Int) = false) (hc : (s.data.toList.take s.size).all chB = true) : nameB s = true := by
  unfold nameB
  rw [head_at s h0, hd]
  rw [List.take_of_length_le (by simp)] at hc
  simp [h0, h1, hc]
theorem name_none {s : ByteArray} (h : s.size = 0 ∨ 12 < s.size) : nameB s = false := by
  unfold nameB
  rcases h with h | h
  · simp [h]
  · have : decide (s.size ≤ 12) = false := by simp; omega
    simp [this]
theorem name_digit {s : ByteArray} (h0 : 0 < s.size) (hd : digB (s[0].toNat : Int) = true) : nameB s = false := by
  unfold nameB
  rw [head_at s h0, hd]; simp

theorem toList_ne {s : ByteArray} (h : 0 < s.size) : ¬ s.toList = [] := by
  intro e
  rw [ByteArray.toList_eq] at e
  have h2 : s.data.toList.length = s.size := by simp
  rw [e] at h2
  simp at h2
  omega
theorem isEmpty_ne {s : ByteArray} (h : 0 < s.size) : s.toList.isEmpty = false := by
  have := toList_ne h
  cases hl : s.toList with
  | nil => exact absurd hl this
  | cons a l => rfl
theorem empty_of {s : ByteArray} (h : s.size = 0) : s = ⟨#[]⟩ := by
  obtain ⟨d⟩ := s
  have : d = #[] := Array.eq_empty_of_size_eq_zero h
  rw [this]
theorem ch_of {c : UInt8} {b : Bool} (h : (letB (c.toNat : Int) || digB (c.toNat : Int)) = b) : chB c = b := h

set_option maxHeartbeats 400000 in
theorem name2_any (s : ByteArray) (w : World) (hs : s.size ≤ maxLen) : Calls Tryz.prog 116 #[.string s] w (BoolPost (nameB s) w) := by
  unfold maxLen at hs
  by_cases h0 : s.size = 0
  · have e := name_none (.inl h0)
    rw [e, empty_of h0]
    clear e h0 hs
    go_enter Tryz.func116, Tryz.ntmps116
    go_wp2
    go_ret
    exact ⟨rfl, rfl⟩
  · have hp : 0 < s.size := by omega
    have hn1 := toList_ne hp
    have hn2 := isEmpty_ne hp
    by_cases h12 : s.size ≤ 12
    · have h12' : (s.size : Int) ≤ 12 := by omega
      by_cases hd : digB (s[0].toNat : Int) = true
      · rw [name_digit hp hd]
        go_enter Tryz.func116, Tryz.ntmps116
        go_wp2_with (go_at_call 122; refine (digit_any _ _).mono ?_; rintro e w' ⟨rfl, rfl⟩)
        go_ret
        exact ⟨rfl, rfl⟩
      · have hd' : digB (s[0].toNat : Int) = false := by simpa using hd
        have G := Lib.hid (fun h => name_good hp h12 hd' h)
        clear hd
        go_enter Tryz.func116, Tryz.ntmps116
        go_wp2_with (go_at_call 122; refine (digit_any _ _).mono ?_; rintro e w' ⟨rfl, rfl⟩)
        go_loop [18] (fun i => ∃ k : Nat, k ≤ s.size ∧ i = .int .i64 k ∧ (s.data.toList.take k).all chB = true) (fun i => s.size - (intOf i).toNat)
        case atStart => exact ⟨0, Nat.zero_le _, rfl, rfl⟩
        case round =>
          clear hd'
          obtain ⟨k, hk, rfl, hall⟩ := hrel
          have HA := Lib.hid hall
          clear hall
          by_cases hlt : k < s.size
          · by_cases hl : letB (s[k].toNat : Int) = true
            · go_wp2_with (first | (go_at_call 123; refine (letter_any _ _).mono ?_; rintro e w' ⟨rfl, rfl⟩) | (go_at_call 122; refine (digit_any _ _).mono ?_; rintro e w' ⟨rfl, rfl⟩))
              go_round
              case rel => exact ⟨k + 1, by omega, by go_num, by rw [take_snoc s k hlt, List.all_append, HA.out]; simp [chB, hl]⟩
              case measure => simp [intOf]; omega
            · have hl' : letB (s[k].toNat : Int) = false := by simpa using hl
              clear hl
              by_cases hg : digB (s[k].toNat : Int) = true
              · go_wp2_with (first | (go_at_call 123; refine (letter_any _ _).mono ?_; rintro e w' ⟨rfl, rfl⟩) | (go_at_call 122; refine (digit_any _ _).mono ?_; rintro e w' ⟨rfl, rfl⟩))
                go_round
                case rel => exact ⟨k + 1, by omega, by go_num, by rw [take_snoc s k hlt, List.all_append, HA.out]; simp [chB, hg]⟩
                case measure => simp [intOf]; omega
              · have hg' : digB (s[k].toNat : Int) = false := by simpa using hg
                clear hg
                have B := Lib.hid (name_bad hlt (ch_of (b := false) (by rw [hl', hg']; rfl)))
                go_wp2_with (first | (go_at_call 123; refine (letter_any _ _).mono ?_; rintro e w' ⟨rfl, rfl⟩) | (go_at_call 122; refine (digit_any _ _).mono ?_; rintro e w' ⟨rfl, rfl⟩))
                go_ret
                exact bool_mk B.out.symm
          · obtain rfl : k = s.size := by omega
            go_wp2
            go_ret
            exact bool_mk (G.out HA.out).symm
    · have h12' : (12 : Int) < (s.size : Int) := by omega
      have e := Lib.hid (name_none (s := s) (.inr (by omega)))
      go_enter Tryz.func116, Tryz.ntmps116
      go_wp2
      go_ret
      exact bool_mk e.out.symm

theorem ch_any {c : UInt8} : chB c = (decide (97 ≤ (c.toNat : Int) ∧ (c.toNat : Int) ≤ 122 ∨ (c.toNat : Int) = 95 ∨ 48 ≤ (c.toNat : Int) ∧ (c.toNat : Int) ≤ 57)) := by
  unfold chB letB digB
  rw [Bool.eq_iff_iff]
  simp
  omega

set_option maxHeartbeats 1000000 in
theorem rname_any (s : ByteArray) (w : World) (hs : s.size ≤ maxLen) : Calls Tryz.prog 108 #[.string s] w (BoolPost (nameB s) w) := by
  unfold maxLen at hs
  by_cases h0 : s.size = 0
  · have e := name_none (.inl h0)
    rw [e, empty_of h0]
    clear e h0 hs
    go_enter Tryz.func108, Tryz.ntmps108
    go_wp2
    go_ret
    exact ⟨rfl, rfl⟩
  · have hp : 0 < s.size := by omega
    have hp' : ((s.size : Int) == 0) = false := by rw [beq_eq_false_iff_ne]; omega
    by_cases h12 : s.size ≤ 12
    · have h12' : (s.size : Int) ≤ 12 := by omega
      by_cases hd : 48 ≤ (s[0].toNat : Int) ∧ (s[0].toNat : Int) ≤ 57
      · rw [name_digit hp (by unfold digB; simpa using hd)]
        obtain ⟨hd1, hd2⟩ := hd
        go_enter Tryz.func108, Tryz.ntmps108
        go_wp2
        go_ret
        exact ⟨rfl, rfl⟩
      · have G := Lib.hid (fun h => name_good hp h12 (by unfold digB; rw [Bool.eq_false_iff]; simpa using hd) h)
        have key : ((s[0].toNat : Int) < 48 ∧ decide (48 ≤ (s[0].toNat : Int)) = false) ∨ 48 ≤ (s[0].toNat : Int) ∧ decide ((s[0].toNat : Int) ≤ 57) = false := by
          by_cases h : 48 ≤ (s[0].toNat : Int)
          · exact .inr ⟨h, by simp; omega⟩
          · exact .inl ⟨by omega, by simp; omega⟩
        clear hd
        rcases key with ⟨k1, k2⟩ | ⟨k1, k2⟩
        all_goals
          go_enter Tryz.func108, Tryz.ntmps108
          go_wp2
          go_loop [3] (fun i => ∃ k : Nat, k ≤ s.size ∧ i = .int .i64 k ∧ (s.data.toList.take k).all chB = true) (fun i => s.size - (intOf i).toNat)
          case atStart => exact ⟨0, Nat.zero_le _, rfl, rfl⟩
          case round =>
            clear k1
            try clear k2
            obtain ⟨k, hk, rfl, hall⟩ := hrel
            have HA := Lib.hid hall
            clear hall
            by_cases hlt : k < s.size
            · have B := Lib.hid (fun h => name_bad (s := s) hlt h)
              have key : ((s[k].toNat : Int) < 48) ∨ (48 ≤ (s[k].toNat : Int) ∧ (s[k].toNat : Int) ≤ 57) ∨ (58 ≤ (s[k].toNat : Int) ∧ (s[k].toNat : Int) ≤ 94) ∨ ((s[k].toNat : Int) = 95) ∨ ((s[k].toNat : Int) = 96) ∨ (97 ≤ (s[k].toNat : Int) ∧ (s[k].toNat : Int) ≤ 122) ∨ (123 ≤ (s[k].toNat : Int)) := by omega
              rcases key with h | h | h | h | h | h | h
              · have q0 : decide (97 ≤ (s[k].toNat : Int)) = false := by simp; omega
                have q1 : decide ((s[k].toNat : Int) ≤ 122) = true := by simp; omega
                have q2 : ((s[k].toNat : Int) == 95) = false := by rw [beq_eq_false_iff_ne]; omega
                have q3 : decide (48 ≤ (s[k].toNat : Int)) = false := by simp; omega
                have q4 : decide ((s[k].toNat : Int) ≤ 57) = true := by simp; omega
                have HC := Lib.hid (show chB s[k] = false by rw [ch_any]; simp only [decide_eq_false_iff_not]; omega)
                clear h
                go_wp2
                go_ret
                exact bool_mk (B.out HC.out).symm
              · have q0 : decide (97 ≤ (s[k].toNat : Int)) = false := by simp; omega
                have q1 : decide ((s[k].toNat : Int) ≤ 122) = true := by simp; omega
                have q2 : ((s[k].toNat : Int) == 95) = false := by rw [beq_eq_false_iff_ne]; omega
                have q3 : decide (48 ≤ (s[k].toNat : Int)) = true := by simp; omega
                have q4 : decide ((s[k].toNat : Int) ≤ 57) = true := by simp; omega
                have HC := Lib.hid (show chB s[k] = true by rw [ch_any]; simp only [decide_eq_true_eq]; omega)
                clear h
                go_wp2
                go_round
                case rel => exact ⟨k + 1, by omega, by go_num, by rw [take_snoc s k hlt, List.all_append, HA.out]; simp [HC.out]⟩
                case measure => simp [intOf]; omega
              · have q0 : decide (97 ≤ (s[k].toNat : Int)) = false := by simp; omega
                have q1 : decide ((s[k].toNat : Int) ≤ 122) = true := by simp; omega
                have q2 : ((s[k].toNat : Int) == 95) = false := by rw [beq_eq_false_iff_ne]; omega
                have q3 : decide (48 ≤ (s[k].toNat : Int)) = true := by simp; omega
                have q4 : decide ((s[k].toNat : Int) ≤ 57) = false := by simp; omega
                have HC := Lib.hid (show chB s[k] = false by rw [ch_any]; simp only [decide_eq_false_iff_not]; omega)
                clear h
                go_wp2
                go_ret
                exact bool_mk (B.out HC.out).symm
              · have q0 : decide (97 ≤ (s[k].toNat : Int)) = false := by simp; omega
                have q1 : decide ((s[k].toNat : Int) ≤ 122) = true := by simp; omega
                have q2 : ((s[k].toNat : Int) == 95) = true := by simp [h]
                have q3 : decide (48 ≤ (s[k].toNat : Int)) = true := by simp; omega
                have q4 : decide ((s[k].toNat : Int) ≤ 57) = false := by simp; omega
                have HC := Lib.hid (show chB s[k] = true by rw [ch_any]; simp only [decide_eq_true_eq]; omega)
                clear h
                go_wp2
                go_round
                case rel => exact ⟨k + 1, by omega, by go_num, by rw [take_snoc s k hlt, List.all_append, HA.out]; simp [HC.out]⟩
                case measure => simp [intOf]; omega
              · have q0 : decide (97 ≤ (s[k].toNat : Int)) = false := by simp; omega
                have q1 : decide ((s[k].toNat : Int) ≤ 122) = true := by simp; omega
                have q2 : ((s[k].toNat : Int) == 95) = false := by rw [beq_eq_false_iff_ne]; omega
                have q3 : decide (48 ≤ (s[k].toNat : Int)) = true := by simp; omega
                have q4 : decide ((s[k].toNat : Int) ≤ 57) = false := by simp; omega
                have HC := Lib.hid (show chB s[k] = false by rw [ch_any]; simp only [decide_eq_false_iff_not]; omega)
                clear h
                go_wp2
                go_ret
                exact bool_mk (B.out HC.out).symm
              · have q0 : decide (97 ≤ (s[k].toNat : Int)) = true := by simp; omega
                have q1 : decide ((s[k].toNat : Int) ≤ 122) = true := by simp; omega
                have q2 : ((s[k].toNat : Int) == 95) = false := by rw [beq_eq_false_iff_ne]; omega
                have q3 : decide (48 ≤ (s[k].toNat : Int)) = true := by simp; omega
                have q4 : decide ((s[k].toNat : Int) ≤ 57) = false := by simp; omega
                have HC := Lib.hid (show chB s[k] = true by rw [ch_any]; simp only [decide_eq_true_eq]; omega)
                clear h
                go_wp2
                go_round
                case rel => exact ⟨k + 1, by omega, by go_num, by rw [take_snoc s k hlt, List.all_append, HA.out]; simp [HC.out]⟩
                case measure => simp [intOf]; omega
              · have q0 : decide (97 ≤ (s[k].toNat : Int)) = true := by simp; omega
                have q1 : decide ((s[k].toNat : Int) ≤ 122) = false := by simp; omega
                have q2 : ((s[k].toNat : Int) == 95) = false := by rw [beq_eq_false_iff_ne]; omega
                have q3 : decide (48 ≤ (s[k].toNat : Int)) = true := by simp; omega
                have q4 : decide ((s[k].toNat : Int) ≤ 57) = false := by simp; omega
                have HC := Lib.hid (show chB s[k] = false by rw [ch_any]; simp only [decide_eq_false_iff_not]; omega)
                clear h
                go_wp2
                go_ret
                exact bool_mk (B.out HC.out).symm
            · obtain rfl : k = s.size := by omega
              go_wp2
              go_ret
              exact bool_mk (G.out HA.out).symm
    · have h12' : (12 : Int) < (s.size : Int) := by omega
      have e := Lib.hid (name_none (s := s) (.inr (by omega)))
      go_enter Tryz.func108, Tryz.ntmps108
      go_wp2
      go_ret
      exact bool_mk e.out.symm
end Go.Proofs.YtbgmdikcbglpiaaGreatDoor
