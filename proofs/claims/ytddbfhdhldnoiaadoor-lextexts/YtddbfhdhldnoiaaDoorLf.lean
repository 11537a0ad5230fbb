/-
  Contract of the page: the word that a text begins with, how long it is. It makes new memory alone.
-/
import Derived.Test.YtddbfhdhldnoiaaDoorLe
namespace Go.Proofs.YtddbfhdhldnoiaaDoor
open Go.RowKit

set_option maxHeartbeats 1000000 in
theorem one_yes (s : ByteArray) (w : World) (hs : s.size ≤ maxLen) (hk : 0 < s.size) (hl : ltI (s[0].toNat : Int) = true) (hn : spn nmc s.data.toList ≤ 12) :
    Calls Tryd.prog 37 #[.string s] w (TkPost ⟨1, s.data.toList.take (spn nmc s.data.toList), 0, 0⟩ (spn nmc s.data.toList : Nat) w) := by
  unfold maxLen at hs
  have hle := spnS_le nmc s 0
  rw [List.drop_zero] at hle
  generalize hE : spn nmc s.data.toList = E at *
  have HE := Lib.hid hE
  clear hE
  go_enter Tryd.func37, Tryd.ntmps37
  go_wp2_with (first | (go_at_call 50; refine (rletter_any _ _).mono ?_; rintro e w' ⟨rfl, rfl⟩) | (go_at_call 51; refine (rdig_any _ _).mono ?_; rintro e w' ⟨rfl, rfl⟩))
  go_loop [4] (fun a => ∃ j : Nat, j ≤ s.size ∧ a = .int .i64 j ∧ j + spn nmc (s.data.toList.drop j) = E) (fun a => s.size - (intOf a).toNat)
  case atStart => exact ⟨0, Nat.zero_le _, rfl, by rw [List.drop_zero, HE.out, Nat.zero_add]⟩
  case round =>
    clear hl
    obtain ⟨j, hj, rfl, he⟩ := hrel
    have JE := Lib.hid he
    clear he
    by_cases hlt : j < s.size
    · have Y := Lib.hid (fun h => spnS_yes (p := nmc) hlt h)
      have N := Lib.hid (fun h => spnS_no (p := nmc) hlt h)
      by_cases hl : ltI (s[j].toNat : Int) = true
      · have B := Lib.hid (Y.out (nmc_lt hl))
        go_wp2_with (first | (go_at_call 50; refine (rletter_any _ _).mono ?_; rintro e w' ⟨rfl, rfl⟩) | (go_at_call 51; refine (rdig_any _ _).mono ?_; rintro e w' ⟨rfl, rfl⟩))
        go_round
        case rel => exact ⟨j + 1, by omega, by go_num, by have h1 := B.out; have h2 := JE.out; omega⟩
        case measure => simp [intOf]; omega
      · have hl' : ltI (s[j].toNat : Int) = false := by simpa using hl
        clear hl
        by_cases hg : dgI (s[j].toNat : Int) = true
        · have B := Lib.hid (Y.out (nmc_dg hg))
          go_wp2_with (first | (go_at_call 50; refine (rletter_any _ _).mono ?_; rintro e w' ⟨rfl, rfl⟩) | (go_at_call 51; refine (rdig_any _ _).mono ?_; rintro e w' ⟨rfl, rfl⟩))
          go_round
          case rel => exact ⟨j + 1, by omega, by go_num, by have h1 := B.out; have h2 := JE.out; omega⟩
          case measure => simp [intOf]; omega
        · have hg' : dgI (s[j].toNat : Int) = false := by simpa using hg
          clear hg
          have B := Lib.hid (N.out (nmc_no hl' hg'))
          have hjE : j = E := by have h1 := B.out; have h2 := JE.out; omega
          subst hjE
          go_wp2_with (first | (go_at_call 50; refine (rletter_any _ _).mono ?_; rintro e w' ⟨rfl, rfl⟩) | (go_at_call 51; refine (rdig_any _ _).mono ?_; rintro e w' ⟨rfl, rfl⟩))
          exact bodyPost_ret (v := .tuple #[.agg #[.int .i64 1, .string (s.extract 0 j), .int .i64 0, .int .i64 0], .int .i64 (j : Int)]) (by simp [results, Tryd.results37, go_sem]) rfl (tk_mk (by rw [ext_eq]; rfl) rfl (below_new _ _))
    · have M := Lib.hid (spnS_end (p := nmc) (s := s) (k := j) (by omega))
      have hjE : j = E := by have h1 := M.out; have h2 := JE.out; omega
      subst hjE
      go_wp2
      exact bodyPost_ret (v := .tuple #[.agg #[.int .i64 1, .string (s.extract 0 j), .int .i64 0, .int .i64 0], .int .i64 (j : Int)]) (by simp [results, Tryd.results37, go_sem]) rfl (tk_mk (by rw [ext_eq]; rfl) rfl (below_new _ _))
set_option maxHeartbeats 1000000 in
theorem one_no (s : ByteArray) (w : World) (hs : s.size ≤ maxLen) (hk : 0 < s.size) (hl : ltI (s[0].toNat : Int) = true) (hn : 12 < spn nmc s.data.toList) :
    Calls Tryd.prog 37 #[.string s] w (TkPost Tk.none 0 w) := by
  unfold maxLen at hs
  have hle := spnS_le nmc s 0
  rw [List.drop_zero] at hle
  generalize hE : spn nmc s.data.toList = E at *
  have HE := Lib.hid hE
  clear hE
  go_enter Tryd.func37, Tryd.ntmps37
  go_wp2_with (first | (go_at_call 50; refine (rletter_any _ _).mono ?_; rintro e w' ⟨rfl, rfl⟩) | (go_at_call 51; refine (rdig_any _ _).mono ?_; rintro e w' ⟨rfl, rfl⟩))
  go_loop [4] (fun a => ∃ j : Nat, j ≤ s.size ∧ a = .int .i64 j ∧ j + spn nmc (s.data.toList.drop j) = E) (fun a => s.size - (intOf a).toNat)
  case atStart => exact ⟨0, Nat.zero_le _, rfl, by rw [List.drop_zero, HE.out, Nat.zero_add]⟩
  case round =>
    clear hl
    obtain ⟨j, hj, rfl, he⟩ := hrel
    have JE := Lib.hid he
    clear he
    by_cases hlt : j < s.size
    · have Y := Lib.hid (fun h => spnS_yes (p := nmc) hlt h)
      have N := Lib.hid (fun h => spnS_no (p := nmc) hlt h)
      by_cases hl : ltI (s[j].toNat : Int) = true
      · have B := Lib.hid (Y.out (nmc_lt hl))
        go_wp2_with (first | (go_at_call 50; refine (rletter_any _ _).mono ?_; rintro e w' ⟨rfl, rfl⟩) | (go_at_call 51; refine (rdig_any _ _).mono ?_; rintro e w' ⟨rfl, rfl⟩))
        go_round
        case rel => exact ⟨j + 1, by omega, by go_num, by have h1 := B.out; have h2 := JE.out; omega⟩
        case measure => simp [intOf]; omega
      · have hl' : ltI (s[j].toNat : Int) = false := by simpa using hl
        clear hl
        by_cases hg : dgI (s[j].toNat : Int) = true
        · have B := Lib.hid (Y.out (nmc_dg hg))
          go_wp2_with (first | (go_at_call 50; refine (rletter_any _ _).mono ?_; rintro e w' ⟨rfl, rfl⟩) | (go_at_call 51; refine (rdig_any _ _).mono ?_; rintro e w' ⟨rfl, rfl⟩))
          go_round
          case rel => exact ⟨j + 1, by omega, by go_num, by have h1 := B.out; have h2 := JE.out; omega⟩
          case measure => simp [intOf]; omega
        · have hg' : dgI (s[j].toNat : Int) = false := by simpa using hg
          clear hg
          have B := Lib.hid (N.out (nmc_no hl' hg'))
          have hjE : j = E := by have h1 := B.out; have h2 := JE.out; omega
          subst hjE
          go_wp2_with (first | (go_at_call 50; refine (rletter_any _ _).mono ?_; rintro e w' ⟨rfl, rfl⟩) | (go_at_call 51; refine (rdig_any _ _).mono ?_; rintro e w' ⟨rfl, rfl⟩))
          exact bodyPost_ret (v := .tuple #[.agg #[.int .i64 0, .string ⟨#[]⟩, .int .i64 0, .int .i64 0], .int .i64 0]) (by simp [results, Tryd.results37, go_sem]) rfl (tk_mk rfl rfl (below_new _ _))
    · have M := Lib.hid (spnS_end (p := nmc) (s := s) (k := j) (by omega))
      have hjE : j = E := by have h1 := M.out; have h2 := JE.out; omega
      subst hjE
      go_wp2
      exact bodyPost_ret (v := .tuple #[.agg #[.int .i64 0, .string ⟨#[]⟩, .int .i64 0, .int .i64 0], .int .i64 0]) (by simp [results, Tryd.results37, go_sem]) rfl (tk_mk rfl rfl (below_new _ _))
end Go.Proofs.YtddbfhdhldnoiaaDoor
