/-
  Contracts of the page: the number that digits tell, and the word that a text begins with. They make new memory alone.
-/
import Derived.Test.YtddbfhdhldnoiaaDoorLc
namespace Go.Proofs.YtddbfhdhldnoiaaDoor
open Go.RowKit

/-- A number and whether it is small enough. -/
def ValPost (V : Nat) (w : World) (e : Ending) (w' : World) : Prop := e = .returned (.tuple #[.int .i64 (if V < 2147483648 then (V : Int) else 0), .bool (decide (V < 2147483648))]) ∧ w = w'
theorem val_no {V : Nat} {w : World} (h : 2147483648 ≤ V) : ValPost V w (.returned (.tuple #[.int .i64 0, .bool false])) w := by
  unfold ValPost
  rw [if_neg (by omega), show decide (V < 2147483648) = false by simp; omega]
  exact ⟨rfl, rfl⟩
theorem val_yes {V m : Nat} {w : World} (h : m = V) (hm : m ≤ 2147483647) : ValPost V w (.returned (.tuple #[.int .i64 (m : Int), .bool true])) w := by
  subst h
  unfold ValPost
  rw [if_pos (by omega), show decide (m < 2147483648) = true by simp; omega]
  exact ⟨rfl, rfl⟩
set_option maxHeartbeats 1000000 in
theorem value10 (d : ByteArray) (w : World) (hs : d.size ≤ maxLen) (hall : ∀ c ∈ d.data.toList, dgb 10 c = true) :
    Calls Tryd.prog 53 #[.string d, .int .i64 10] w (ValPost (fin 10 0 d.data.toList) w) := by
  unfold maxLen at hs
  generalize hV : fin 10 0 d.data.toList = V
  have HV := Lib.hid hV
  have HA := Lib.hid hall
  clear hV hall
  go_enter Tryd.func53, Tryd.ntmps53
  go_wp2
  go_loop [6, 7] (fun n a => ∃ (j m : Nat), j ≤ d.size ∧ a = .int .i64 j ∧ n = .int .i64 m ∧ m ≤ 2147483647 ∧ fin 10 m (d.data.toList.drop j) = V) (fun _ a => d.size - (intOf a).toNat)
  case atStart => exact ⟨0, 0, Nat.zero_le _, rfl, rfl, by decide, HV.out⟩
  case round =>
    obtain ⟨j, m, hj, rfl, rfl, hm, hv⟩ := hrel
    have JV := Lib.hid hv
    clear hv
    by_cases hlt : j < d.size
    · have hd0 := HA.out d[j] (List.getElem_mem (l := d.data.toList) (n := j) (by simpa using hlt))
      have X := Lib.hid (finS_yes (n := m) hlt hd0)
      have hdv : dvI (d[j].toNat : Int) < 10 := (dgb_lt (b := 10) (by decide) _).1 hd0
      obtain ⟨c0, c1⟩ := u8_int d[j]
      have DL := Lib.hid (dvl_eq d[j])
      have GE := Lib.hid (fin_ge (b := 10) (by decide) (d.data.toList.drop (j + 1)) (m * 10 + dvl d[j]))
      clear hd0
      have RD := Lib.hid (fun W => rdig_any (d[j].toNat : Int) W)
      by_cases hg : dgI (d[j].toNat : Int) = true
      · obtain ⟨g1, g2⟩ := dgI_iff.1 hg
        have E := Lib.hid (show dvI (d[j].toNat : Int) = (d[j].toNat : Int) - 48 by unfold dvI; rw [if_pos hg])
        rw [hg] at RD
        clear hg hdv
        by_cases hbig : (m : Int) * 10 + ((d[j].toNat : Int) - 48) ≤ 2147483647
        · have hn : (m : Int) * 10 + ((d[j].toNat : Int) - 48) < 2147483648 := by omega
          go_wp2_with (go_at_call 51; refine (RD.out _).mono ?_; rintro e w' ⟨rfl, rfl⟩)
          go_round
          case rel => exact ⟨j + 1, m * 10 + dvl d[j], by omega, by go_num, by have h1 := DL.out; have h2 := E.out; congr 1; omega, by have h1 := DL.out; have h2 := E.out; omega, by rw [← X.out]; exact JV.out⟩
          case measure => simp [intOf]; omega
        · have hn : 2147483648 ≤ (m : Int) * 10 + ((d[j].toNat : Int) - 48) := by omega
          have BV := Lib.hid (show 2147483648 ≤ V by have h1 := GE.out; rw [← X.out, JV.out] at h1; have := DL.out; have := E.out; omega)
          clear hbig
          go_wp2_with (go_at_call 51; refine (RD.out _).mono ?_; rintro e w' ⟨rfl, rfl⟩)
          go_ret2
          exact val_no BV.out
      · have hh : hxI (d[j].toNat : Int) = true := by
          have h1 := hdv
          unfold dvI at h1
          rw [if_neg hg] at h1
          by_cases hx : hxI (d[j].toNat : Int) = true
          · exact hx
          · rw [if_neg hx] at h1; omega
        obtain ⟨g1, g2⟩ := hxI_iff.1 hh
        have E := Lib.hid (show dvI (d[j].toNat : Int) = (d[j].toNat : Int) - 87 by unfold dvI; rw [if_neg hg, if_pos hh])
        rw [show dgI (d[j].toNat : Int) = false by simpa using hg] at RD
        clear hg hdv hh
        by_cases hbig : (m : Int) * 10 + ((d[j].toNat : Int) - 97 + 10) ≤ 2147483647
        · have hn : (m : Int) * 10 + ((d[j].toNat : Int) - 97 + 10) < 2147483648 := by omega
          go_wp2_with (go_at_call 51; refine (RD.out _).mono ?_; rintro e w' ⟨rfl, rfl⟩)
          go_round
          case rel => exact ⟨j + 1, m * 10 + dvl d[j], by omega, by go_num, by have h1 := DL.out; have h2 := E.out; congr 1; omega, by have h1 := DL.out; have h2 := E.out; omega, by rw [← X.out]; exact JV.out⟩
          case measure => simp [intOf]; omega
        · have hn : 2147483648 ≤ (m : Int) * 10 + ((d[j].toNat : Int) - 97 + 10) := by omega
          have BV := Lib.hid (show 2147483648 ≤ V by have h1 := GE.out; rw [← X.out, JV.out] at h1; have := DL.out; have := E.out; omega)
          clear hbig
          go_wp2_with (go_at_call 51; refine (RD.out _).mono ?_; rintro e w' ⟨rfl, rfl⟩)
          go_ret2
          exact val_no BV.out
    · have M := Lib.hid (finS_end (b := 10) (n := m) (s := d) (k := j) (by omega))
      go_wp2
      go_ret2
      exact val_yes (by rw [← JV.out, M.out]) hm
set_option maxHeartbeats 1000000 in
theorem value16 (d : ByteArray) (w : World) (hs : d.size ≤ maxLen) (hall : ∀ c ∈ d.data.toList, dgb 16 c = true) :
    Calls Tryd.prog 53 #[.string d, .int .i64 16] w (ValPost (fin 16 0 d.data.toList) w) := by
  unfold maxLen at hs
  generalize hV : fin 16 0 d.data.toList = V
  have HV := Lib.hid hV
  have HA := Lib.hid hall
  clear hV hall
  go_enter Tryd.func53, Tryd.ntmps53
  go_wp2
  go_loop [6, 7] (fun n a => ∃ (j m : Nat), j ≤ d.size ∧ a = .int .i64 j ∧ n = .int .i64 m ∧ m ≤ 2147483647 ∧ fin 16 m (d.data.toList.drop j) = V) (fun _ a => d.size - (intOf a).toNat)
  case atStart => exact ⟨0, 0, Nat.zero_le _, rfl, rfl, by decide, HV.out⟩
  case round =>
    obtain ⟨j, m, hj, rfl, rfl, hm, hv⟩ := hrel
    have JV := Lib.hid hv
    clear hv
    by_cases hlt : j < d.size
    · have hd0 := HA.out d[j] (List.getElem_mem (l := d.data.toList) (n := j) (by simpa using hlt))
      have X := Lib.hid (finS_yes (n := m) hlt hd0)
      have hdv : dvI (d[j].toNat : Int) < 16 := (dgb_lt (b := 16) (by decide) _).1 hd0
      obtain ⟨c0, c1⟩ := u8_int d[j]
      have DL := Lib.hid (dvl_eq d[j])
      have GE := Lib.hid (fin_ge (b := 16) (by decide) (d.data.toList.drop (j + 1)) (m * 16 + dvl d[j]))
      clear hd0
      have RD := Lib.hid (fun W => rdig_any (d[j].toNat : Int) W)
      by_cases hg : dgI (d[j].toNat : Int) = true
      · obtain ⟨g1, g2⟩ := dgI_iff.1 hg
        have E := Lib.hid (show dvI (d[j].toNat : Int) = (d[j].toNat : Int) - 48 by unfold dvI; rw [if_pos hg])
        rw [hg] at RD
        clear hg hdv
        by_cases hbig : (m : Int) * 16 + ((d[j].toNat : Int) - 48) ≤ 2147483647
        · have hn : (m : Int) * 16 + ((d[j].toNat : Int) - 48) < 2147483648 := by omega
          go_wp2_with (go_at_call 51; refine (RD.out _).mono ?_; rintro e w' ⟨rfl, rfl⟩)
          go_round
          case rel => exact ⟨j + 1, m * 16 + dvl d[j], by omega, by go_num, by have h1 := DL.out; have h2 := E.out; congr 1; omega, by have h1 := DL.out; have h2 := E.out; omega, by rw [← X.out]; exact JV.out⟩
          case measure => simp [intOf]; omega
        · have hn : 2147483648 ≤ (m : Int) * 16 + ((d[j].toNat : Int) - 48) := by omega
          have BV := Lib.hid (show 2147483648 ≤ V by have h1 := GE.out; rw [← X.out, JV.out] at h1; have := DL.out; have := E.out; omega)
          clear hbig
          go_wp2_with (go_at_call 51; refine (RD.out _).mono ?_; rintro e w' ⟨rfl, rfl⟩)
          go_ret2
          exact val_no BV.out
      · have hh : hxI (d[j].toNat : Int) = true := by
          have h1 := hdv
          unfold dvI at h1
          rw [if_neg hg] at h1
          by_cases hx : hxI (d[j].toNat : Int) = true
          · exact hx
          · rw [if_neg hx] at h1; omega
        obtain ⟨g1, g2⟩ := hxI_iff.1 hh
        have E := Lib.hid (show dvI (d[j].toNat : Int) = (d[j].toNat : Int) - 87 by unfold dvI; rw [if_neg hg, if_pos hh])
        rw [show dgI (d[j].toNat : Int) = false by simpa using hg] at RD
        clear hg hdv hh
        by_cases hbig : (m : Int) * 16 + ((d[j].toNat : Int) - 97 + 10) ≤ 2147483647
        · have hn : (m : Int) * 16 + ((d[j].toNat : Int) - 97 + 10) < 2147483648 := by omega
          go_wp2_with (go_at_call 51; refine (RD.out _).mono ?_; rintro e w' ⟨rfl, rfl⟩)
          go_round
          case rel => exact ⟨j + 1, m * 16 + dvl d[j], by omega, by go_num, by have h1 := DL.out; have h2 := E.out; congr 1; omega, by have h1 := DL.out; have h2 := E.out; omega, by rw [← X.out]; exact JV.out⟩
          case measure => simp [intOf]; omega
        · have hn : 2147483648 ≤ (m : Int) * 16 + ((d[j].toNat : Int) - 97 + 10) := by omega
          have BV := Lib.hid (show 2147483648 ≤ V by have h1 := GE.out; rw [← X.out, JV.out] at h1; have := DL.out; have := E.out; omega)
          clear hbig
          go_wp2_with (go_at_call 51; refine (RD.out _).mono ?_; rintro e w' ⟨rfl, rfl⟩)
          go_ret2
          exact val_no BV.out
    · have M := Lib.hid (finS_end (b := 16) (n := m) (s := d) (k := j) (by omega))
      go_wp2
      go_ret2
      exact val_yes (by rw [← JV.out, M.out]) hm
end Go.Proofs.YtddbfhdhldnoiaaDoor
