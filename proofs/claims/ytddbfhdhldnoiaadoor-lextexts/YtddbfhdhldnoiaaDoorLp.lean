/-
  Contract of the statements helper same: on a slice that reads as strings it is true. It makes new memory alone.
-/
import Derived.Test.YtddbfhdhldnoiaaDoorLo
namespace Go.Proofs.YtddbfhdhldnoiaaDoor
open Go.RowKit

/-- A slice reads as strings. -/
def RdS (w : World) (v : Value) (ss : List ByteArray) : Prop :=
  ∃ A c, v = .slice A ss.length c ∧ (0 < ss.length → ∃ ad : Addr, A = some ad ∧ ad.block < w.heap.size ∧ ∀ j s, ss[j]? = some s → w.cell? (ad.add j) = some (.string s))
theorem RdS.below {w w' : World} {v : Value} {ss : List ByteArray} (h : RdS w v ss) (hb : Below w.heap.size w w') : RdS w' v ss := by
  obtain ⟨A, c, hv, h⟩ := h
  refine ⟨A, c, hv, fun h0 => ?_⟩
  obtain ⟨ad, ha, hb', hc⟩ := h h0
  have := hb.size
  exact ⟨ad, ha, by omega, fun j u hu => (hb.cell (p := ad.add j) (by rw [block_add]; exact hb')).trans (hc j u hu)⟩
set_option maxHeartbeats 2000000 in
theorem same_any (ss : List ByteArray) (v : Value) (w : World) (h : RdS w v ss) (hS : ∀ s ∈ ss, s.size ≤ maxLen) (hl : ss.length ≤ 1000000000000000) (H : Tab w) : Calls Tryd.prog 20 #[v] w (BoolBelow true w) := by
  have TB := Lib.hid H
  have SM := Lib.hid hS
  obtain ⟨A, c, rfl, r⟩ := h
  have R := Lib.hid r
  clear r hS H
  generalize hn : ss.length = n at *
  have HN := Lib.hid hn
  clear hn
  go_enter Tryd.func20, Tryd.ntmps20
  go_wp2_with fail
  go_loopg [3] n (fun gk o wr2 => ∃ i : Nat, i ≤ n ∧ gk = n - i ∧ o = .int .i64 i ∧ Below w.heap.size w wr2)
  case atStart => exact ⟨0, Nat.zero_le _, rfl, rfl, Below.refl _ _⟩
  case round =>
    obtain ⟨i, hi, rfl, rfl, hb⟩ := hrel
    have HB := Lib.hid hb
    clear hb
    by_cases hlt : i < n
    · have hd : decide ((i : Int) < (n : Int)) = true := by simpa using hlt
      have i0 : (0 : Int) ≤ (i : Int) := by omega
      have i1 : (i : Int) < (n : Int) := by omega
      have hil : i < ss.length := by have := HN.out; omega
      obtain ⟨ad, rfl, hg, hc⟩ := R.out (by omega)
      have k0 := (HB.out.cell (p := ad.add i) (by rw [block_add]; exact hg)).trans (hc i _ (List.getElem?_eq_getElem hil))
      have W1 := Lib.hid (fun W => words_any ss[i] W (SM.out _ (List.getElem_mem hil)))
      have W2 := Lib.hid (fun W => rwords_any ss[i] W (SM.out _ (List.getElem_mem hil)))
      have WL := Lib.hid (wds_len (ss[i]).data.toList)
      generalize wds (ss[i]).data.toList = R0 at W1 W2 WL
      generalize ss[i] = f at k0 W1 W2
      obtain ⟨xs, p, x⟩ := R0
      clear hil hc
      go_wp2_with fail
      refine (W1.out _).mono ?_
      rintro e w1 ⟨v1, rfl, o1, b1⟩
      have Q1 := Lib.hid (RdT.of_own (xs := xs) o1)
      have B1 := Lib.hid (HB.out.trans (b1.mono HB.out.size))
      have k1 := (b1.cell (p := ad.add i) (by rw [block_add]; exact Nat.lt_of_lt_of_le hg HB.out.size)).trans k0
      clear o1 b1
      go_wp2_with fail
      refine (W2.out _).mono ?_
      rintro e w2 ⟨v2, rfl, o2, b2⟩
      have Q2 := Lib.hid (RdT.of_own (xs := xs) o2)
      have Q1 := Lib.hid (Q1.out.below b2)
      have B2 := Lib.hid (B1.out.trans (b2.mono B1.out.size))
      clear o2 b2
      go_wp2_with fail
      refine (num_any _ _).mono ?_
      rintro e w3 ⟨rfl, rfl⟩
      go_wp2_with fail
      refine (eqt_same xs v1 v2 _ Q1.out Q2.out (by have h40 : xs.length ≤ 40 := WL.out; omega)).mono ?_
      rintro e w3 ⟨rfl, k, rfl⟩
      go_wp2_with fail
      go_roundg (n - (i + 1))
      case measure => omega
      case rel => exact ⟨i + 1, by omega, rfl, by go_num, below_drewN B2.out k⟩
    · have hd : decide ((i : Int) < (n : Int)) = false := by simp; omega
      go_wp2_with fail
      refine (wakes_any _ (TB.out.below HB.out)).mono ?_
      rintro e w1 ⟨rfl, b1⟩
      have B1 := Lib.hid (HB.out.trans (b1.mono HB.out.size))
      go_wp2_with fail
      go_ret
      exact ⟨rfl, B1.out⟩
end Go.Proofs.YtddbfhdhldnoiaaDoor
