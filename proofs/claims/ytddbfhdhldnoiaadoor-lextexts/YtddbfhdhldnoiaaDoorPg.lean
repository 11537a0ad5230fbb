/-
  Contracts of the page: may words be; their text. They make new memory alone.
-/
import Derived.Test.YtddbfhdhldnoiaaDoorPf
namespace Go.Proofs.YtddbfhdhldnoiaaDoor
open Go.RowKit

set_option maxHeartbeats 1000000 in
theorem tokens_any (xs : List Tk) (v : Value) (w : World) (h : RdT w v xs) (hS : Small xs) (hl : xs.length ≤ maxLen) : Calls Tryd.prog 10 #[v] w (BoolBelow (mayL xs) w) := by
  obtain ⟨A, c, rfl, r⟩ := h
  have R := Lib.hid r
  have SM := Lib.hid hS
  clear r hS
  have E := Lib.hid (show mayL xs = (decide (xs.length ≤ 40) && xs.all mayB) from rfl)
  generalize mayL xs = M at *
  generalize hn : xs.length = n at *
  have HN := Lib.hid hn
  clear hn
  unfold maxLen at hl
  go_enter Tryd.func10, Tryd.ntmps10
  go_wp2_with fail
  go_loopg [3] n (fun gk o wr2 => ∃ i : Nat, i ≤ n ∧ gk = n - i ∧ o = .int .i64 i ∧ (xs.take i).all mayB = true ∧ Below w.heap.size w wr2)
  case atStart => exact ⟨0, Nat.zero_le _, rfl, rfl, rfl, Below.refl _ _⟩
  case round =>
    obtain ⟨i, hi, rfl, rfl, hall, hb⟩ := hrel
    have HA := Lib.hid hall
    have HB := Lib.hid hb
    clear hall hb
    by_cases hlt : i < n
    · have hd : decide ((i : Int) < (n : Int)) = true := by simpa using hlt
      by_cases h40 : i ≤ 40
      · have hd4 : decide ((i : Int) ≤ 40) = true := decide_eq_true (by omega)
        have i0 : (0 : Int) ≤ (i : Int) := by omega
        have i1 : (i : Int) < (n : Int) := by omega
        have hil : i < xs.length := by have := HN.out; omega
        obtain ⟨ad, rfl, hg, q0, q1, q2, q3⟩ := RdT.at_ (by rw [HN.out]; exact R.out) hil
        have k0 := (HB.out.cell (p := ad.add (i * 4)) (by rw [block_add]; exact hg)).trans q0
        have k1 := (HB.out.cell (p := ⟨(ad.add (i * 4)).block, (ad.add (i * 4)).off + 1, none⟩) (by show (ad.add (i * 4)).block < _; rw [block_add]; exact hg)).trans q1
        have k2 := (HB.out.cell (p := ⟨(ad.add (i * 4)).block, (ad.add (i * 4)).off + 2, none⟩) (by show (ad.add (i * 4)).block < _; rw [block_add]; exact hg)).trans q2
        have k3 := (HB.out.cell (p := ⟨(ad.add (i * 4)).block, (ad.add (i * 4)).off + 3, none⟩) (by show (ad.add (i * 4)).block < _; rw [block_add]; exact hg)).trans q3
        have T := Lib.hid (List.take_succ_eq_append_getElem hil)
        have MB := Lib.hid (fun W => token_any xs[i] W (SM.out _ (List.getElem_mem hil)).1)
        have MM := Lib.hid (show xs[i] ∈ xs from List.getElem_mem hil)
        generalize xs[i] = f at k0 k1 k2 k3 T MB MM
        simp only [Tk.cells] at MB
        clear q0 q1 q2 q3 hg hil
        by_cases hm : mayB f = true
        · have T2 := Lib.hid (show (xs.take (i + 1)).all mayB = true by rw [T.out, List.all_append, HA.out]; simp [hm])
          rw [hm] at MB
          clear hm
          go_wp2_with (go_at_call 25; refine (MB.out _).mono ?_; rintro e w1 ⟨rfl, b1⟩; have B1 := Lib.hid (HB.out.trans (b1.mono HB.out.size)); clear b1)
          go_roundg (n - (i + 1))
          case measure => omega
          case rel => exact ⟨i + 1, by omega, rfl, by go_num, T2.out, B1.out⟩
        · have hm' : mayB f = false := by simpa using hm
          have T2 := Lib.hid (show M = false by rw [E.out, Bool.and_eq_false_iff]; exact .inr (by rw [List.all_eq_false]; exact ⟨f, MM.out, by simp [hm']⟩))
          rw [hm'] at MB
          clear hm hm'
          go_wp2_with (go_at_call 25; refine (MB.out _).mono ?_; rintro e w1 ⟨rfl, b1⟩; have B1 := Lib.hid (HB.out.trans (b1.mono HB.out.size)); clear b1)
          go_ret
          exact boolb_mk T2.out.symm B1.out
      · have hd4 : decide ((i : Int) ≤ 40) = false := by simp; omega
        have hn4 : decide ((n : Int) ≤ 40) = false := by simp; omega
        have T2 := Lib.hid (show M = false by rw [E.out, Bool.and_eq_false_iff]; exact .inl (by simp; omega))
        go_wp2_with fail
        go_ret
        exact boolb_mk T2.out.symm HB.out
    · have hd : decide ((i : Int) < (n : Int)) = false := by simp; omega
      have HH := Lib.hid (show xs.all mayB = true by have h := HA.out; rwa [List.take_of_length_le (by have := HN.out; omega)] at h)
      by_cases hn4 : n ≤ 40
      · have hn5 : decide ((n : Int) ≤ 40) = true := decide_eq_true (by omega)
        have T2 := Lib.hid (show M = true by rw [E.out, HH.out]; simp [hn4])
        go_wp2_with fail
        go_ret
        exact boolb_mk T2.out.symm HB.out
      · have hn5 : decide ((n : Int) ≤ 40) = false := by simp; omega
        have T2 := Lib.hid (show M = false by rw [E.out, Bool.and_eq_false_iff]; exact .inl (by simp; omega))
        go_wp2_with fail
        go_ret
        exact boolb_mk T2.out.symm HB.out
end Go.Proofs.YtddbfhdhldnoiaaDoor
