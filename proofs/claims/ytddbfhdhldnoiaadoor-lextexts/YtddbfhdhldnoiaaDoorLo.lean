/-
  Contracts of the statements helpers wakes and same: on a slice that reads as strings they are true. They make new memory alone.
-/
import Derived.Test.YtddbfhdhldnoiaaDoorLn
namespace Go.Proofs.YtddbfhdhldnoiaaDoor
open Go.RowKit

theorem W_len : ∀ (f : Nat) (l : List UInt8) (k : Nat) (acc : List Tk), acc.length ≤ 40 → (W f l k acc).1.length ≤ 40
  | 0, l, k, acc, h => by
    unfold W
    first | exact h | exact Nat.zero_le _
  | f + 1, [], k, acc, h => by
    simp only [W]
    exact h
  | f + 1, c :: r, k, acc, h => by
    simp only [W]
    split
    · exact W_len f r _ _ h
    · split
      · exact h
      · split
        · exact Nat.zero_le _
        · split
          · exact Nat.zero_le _
          · exact W_len f _ _ _ (by rw [List.length_append]; simp only [List.length_cons, List.length_nil]; omega)
theorem wds_len (l : List UInt8) : (wds l).1.length ≤ 40 := by
  unfold wds
  split
  · exact Nat.zero_le _
  · exact W_len _ _ _ _ (Nat.zero_le _)
def NumPost (x : Int) (w : World) (e : Ending) (w' : World) : Prop := e = .returned (.int .i64 x) ∧ w' = w
theorem num_any (x : Int) (w : World) : Calls Tryd.prog 12 #[.int .i64 x] w (NumPost x w) := by
  go_enter Tryd.func12, Tryd.ntmps12
  go_wp2
  go_ret
  exact ⟨rfl, rfl⟩
/-- The line that wakes names, its words, their text. -/
def wkS : List UInt8 := [97, 58, 32, 108, 105, 32, 114, 49, 44, 32, 48, 120, 49, 48, 32, 59, 32, 115, 111]
def wkL : List Tk := [⟨1, [97], 0, 0⟩, ⟨3, [58], 0, 1⟩, ⟨1, [108, 105], 0, 3⟩, ⟨1, [114, 49], 0, 6⟩, ⟨3, [44], 0, 8⟩, ⟨2, [], 16, 10⟩]
def wkT : List UInt8 := [97, 32, 58, 32, 108, 105, 32, 114, 49, 32, 44, 32, 49, 54]
theorem wk_words : wds wkS = (wkL, 0, 0) := by kernel_rfl
theorem wk_may : mayL wkL = true := by decide
theorem wk_text : txL wkL = wkT := by kernel_rfl
theorem wk_small : Small wkL := by unfold Small; decide
theorem wk_bytes : (⟨#[97, 58, 32, 108, 105, 32, 114, 49, 44, 32, 48, 120, 49, 48, 32, 59, 32, 115, 111]⟩ : ByteArray).data.toList = wkS := rfl
set_option maxHeartbeats 1000000 in
theorem wakes_any (w : World) (H : Tab w) : Calls Tryd.prog 18 #[] w (BoolBelow true w) := by
  have WW := Lib.hid (fun W => show Calls Tryd.prog 19 #[.string ⟨#[97, 58, 32, 108, 105, 32, 114, 49, 44, 32, 48, 120, 49, 48, 32, 59, 32, 115, 111]⟩] W (WsPost (wkL, 0, 0) W) from by have h := words_any ⟨#[97, 58, 32, 108, 105, 32, 114, 49, 44, 32, 48, 120, 49, 48, 32, 59, 32, 115, 111]⟩ W (by decide); rw [show wds (⟨#[97, 58, 32, 108, 105, 32, 114, 49, 44, 32, 48, 120, 49, 48, 32, 59, 32, 115, 111]⟩ : ByteArray).data.toList = (wkL, 0, 0) from wk_words] at h; exact h)
  have TX := Lib.hid (fun v W (h : RdT W v wkL) (T : Tab W) => show Calls Tryd.prog 9 #[v] W (fun e w' => e = .returned (.tuple #[.string ⟨#[97, 32, 58, 32, 108, 105, 32, 114, 49, 32, 44, 32, 49, 54]⟩, .int .i64 0]) ∧ Below W.heap.size W w') from by
    have h2 := text_any wkL v W h wk_small (by decide) T
    unfold TxPost at h2
    rw [if_pos wk_may, wk_text, chk_yes wk_may] at h2
    exact h2)
  have TB := Lib.hid H
  clear H
  go_enter Tryd.func18, Tryd.ntmps18
  go_wp2_with fail
  refine (WW.out _).mono ?_
  rintro e w1 ⟨v, rfl, ho, b1⟩
  have R1 := Lib.hid (RdT.of_own (xs := wkL) ho)
  have B1 := Lib.hid b1
  obtain ⟨A, c, hv, hr⟩ := R1.out
  have hv : v = .slice A 6 c := hv
  subst hv
  have HR := Lib.hid hr
  clear ho b1 hr
  go_wp2_with fail
  refine (TX.out _ _ R1.out (TB.out.below B1.out)).mono ?_
  rintro e w2 ⟨rfl, b2⟩
  have B2 := Lib.hid (B1.out.trans (b2.mono B1.out.size))
  clear b2
  go_wp2_with fail
  refine (num_any _ _).mono ?_
  rintro e w3 ⟨rfl, rfl⟩
  go_wp2_with fail
  refine (num_any _ _).mono ?_
  rintro e w3 ⟨rfl, rfl⟩
  go_wp2_with fail
  go_ret
  exact ⟨rfl, B2.out⟩
end Go.Proofs.YtddbfhdhldnoiaaDoor
