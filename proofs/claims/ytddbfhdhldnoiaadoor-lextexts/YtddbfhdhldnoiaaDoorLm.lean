/-
  Contracts of lex.Check and lex.Text on any words: whether they may be, and their text. They make new memory alone. The table of powers lies in the world; texts are no longer than a string may be, numbers are of 64 bits.
-/
import Derived.Test.YtddbfhdhldnoiaaDoorLj
import Derived.Deep.OwnRows
namespace Go.Proofs.YtddbfhdhldnoiaaDoor
open Go.RowKit

def IntBelow (x : Int) (w : World) (e : Ending) (w' : World) : Prop := e = .returned (.int .i64 x) ∧ Below w.heap.size w w'
theorem intb_mk {x x' : Int} {w w' : World} (h : x' = x) (hb : Below w.heap.size w w') : IntBelow x w (.returned (.int .i64 x')) w' := by subst h; exact ⟨rfl, hb⟩
/-- May words be? -/
def mayL (xs : List Tk) : Bool := decide (xs.length ≤ 40) && xs.all mayB
def chkE (xs : List Tk) : Int := if mayL xs then 0 else 1
theorem chk_yes {xs : List Tk} (h : mayL xs = true) : chkE xs = 0 := if_pos h
theorem chk_no {xs : List Tk} (h : mayL xs = false) : chkE xs = 1 := if_neg (by simp [h])
def Small (xs : List Tk) : Prop := ∀ t ∈ xs, t.t.length ≤ maxLen ∧ -9223372036854775808 ≤ t.n ∧ t.n ≤ 9223372036854775807
set_option maxHeartbeats 1000000 in
theorem check_any (xs : List Tk) (v : Value) (w : World) (h : RdT w v xs) (hS : Small xs) (hl : xs.length ≤ 1000000000000000) : Calls Tryd.prog 13 #[v] w (IntBelow (chkE xs) w) := by
  obtain ⟨A, c, rfl, r⟩ := h
  have R := Lib.hid r
  have SM := Lib.hid hS
  clear r hS
  by_cases h40 : xs.length ≤ 40
  · have E := Lib.hid (show mayL xs = xs.all mayB by unfold mayL; simp [h40])
    generalize hn : xs.length = n at *
    have HN := Lib.hid hn
    clear hn
    have h40' : (n : Int) ≤ 40 := by omega
    go_enter Tryd.func13, Tryd.ntmps13
    go_wp2_with fail
    go_loopg [10] n (fun gk o wr2 => ∃ i : Nat, i ≤ n ∧ gk = n - i ∧ o = .int .i64 i ∧ (xs.take i).all mayB = true ∧ Below w.heap.size w wr2)
    case atStart => exact ⟨0, Nat.zero_le _, rfl, rfl, rfl, Below.refl _ _⟩
    case round =>
      obtain ⟨i, hi, rfl, rfl, hall, hb⟩ := hrel
      have HA := Lib.hid hall
      have HB := Lib.hid hb
      clear hall hb
      by_cases hlt : i < n
      · have hd : decide ((i : Int) < (n : Int)) = true := by simpa using hlt
        have i0 : (0 : Int) ≤ (i : Int) := by omega
        have i1 : (i : Int) < (n : Int) := by omega
        have hil : i < xs.length := by have := HN.out; omega
        obtain ⟨ad, rfl, hg, q0, q1, q2, q3⟩ := RdT.at_ (by rw [HN.out]; exact R.out) hil
        have k0 := (HB.out.cell (p := ad.add (i * 4)) (by rw [block_add]; exact hg)).trans q0
        have k1 := (HB.out.cell (p := ⟨(ad.add (i * 4)).block, (ad.add (i * 4)).off + 1, none⟩) (by show (ad.add (i * 4)).block < _; rw [block_add]; exact hg)).trans q1
        have k2 := (HB.out.cell (p := ⟨(ad.add (i * 4)).block, (ad.add (i * 4)).off + 2, none⟩) (by show (ad.add (i * 4)).block < _; rw [block_add]; exact hg)).trans q2
        have k3 := (HB.out.cell (p := ⟨(ad.add (i * 4)).block, (ad.add (i * 4)).off + 3, none⟩) (by show (ad.add (i * 4)).block < _; rw [block_add]; exact hg)).trans q3
        have T := Lib.hid (List.take_succ_eq_append_getElem hil)
        have MB := Lib.hid (fun W => maybe_any xs[i] W (SM.out _ (List.getElem_mem hil)).1)
        have MM := Lib.hid (show xs[i] ∈ xs from List.getElem_mem hil)
        generalize xs[i] = f at k0 k1 k2 k3 T MB MM
        simp only [Tk.cells] at MB
        clear q0 q1 q2 q3 hg hil
        by_cases hm : mayB f = true
        · have T2 := Lib.hid (show (xs.take (i + 1)).all mayB = true by rw [T.out, List.all_append, HA.out]; simp [hm])
          rw [hm] at MB
          clear hm
          go_wp2_with (go_at_call 27; refine (MB.out _).mono ?_; rintro e w1 ⟨rfl, b1⟩; have B1 := Lib.hid (HB.out.trans (((below_new wr _).trans (b1.mono (by simp))).mono HB.out.size)); clear b1)
          go_roundg (n - (i + 1))
          case measure => omega
          case rel => exact ⟨i + 1, by omega, rfl, by go_num, T2.out, B1.out⟩
        · have hm' : mayB f = false := by simpa using hm
          have T2 := Lib.hid (show xs.all mayB = false by rw [List.all_eq_false]; exact ⟨f, MM.out, by simp [hm']⟩)
          rw [hm'] at MB
          clear hm hm'
          go_wp2_with (go_at_call 27; refine (MB.out _).mono ?_; rintro e w1 ⟨rfl, b1⟩; have B1 := Lib.hid (HB.out.trans (((below_new wr _).trans (b1.mono (by simp))).mono HB.out.size)); clear b1)
          go_ret
          exact intb_mk (chk_no (E.out.trans T2.out)).symm B1.out
      · have hd : decide ((i : Int) < (n : Int)) = false := by simp; omega
        have T2 := Lib.hid (show xs.all mayB = true by have h := HA.out; rwa [List.take_of_length_le (by have := HN.out; omega)] at h)
        go_wp2_with fail
        go_ret
        exact intb_mk (chk_yes (E.out.trans T2.out)).symm HB.out
  · have E := Lib.hid (show mayL xs = false by unfold mayL; simp [h40])
    generalize hn : xs.length = n at *
    have h40' : (40 : Int) < (n : Int) := by omega
    clear hn h40
    go_enter Tryd.func13, Tryd.ntmps13
    go_wp2
    go_ret
    exact intb_mk (chk_no E.out).symm (Below.refl _ _)
end Go.Proofs.YtddbfhdhldnoiaaDoor
