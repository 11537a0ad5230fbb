/-
  Contract of lex.Split: the lines of a text, or that they are too many. MaxLen holds a number. It makes new memory alone.
-/
import Derived.Test.YtddbfhdhldnoiaaDoorPl
import Derived.Test.YtddbfhdhldnoiaaDoorNw
namespace Go.Proofs.YtddbfhdhldnoiaaDoor
open Go.RowKit

def good (l : List UInt8) : Prop := l.length ≤ 4000 ∧ (spl [] l).length ≤ 300
def LsPost (l : List UInt8) (w : World) (e : Ending) (w' : World) : Prop := ∃ (v : Value) (x : Int), e = .returned (.tuple #[v, .int .i64 x]) ∧ Below w.heap.size w w' ∧
  (¬ good l → x = 2) ∧ (good l → x = 0 ∧ ∃ ss : List ByteArray, ss.map (fun s => s.data.toList) = spl [] l ∧ RdS w' v ss)
set_option maxHeartbeats 1000000 in
theorem lsplit_any (S : ByteArray) (m : Int) (w : World) (hm : w.cell? ⟨0, 0, none⟩ = some (.int .i64 m)) (hs : S.size ≤ maxLen) : Calls Tryd.prog 15 #[.string S] w (LsPost S.data.toList w) := by
  have hsl : S.data.toList.length = S.size := by simp
  have hcn : (spl [] S.data.toList).length = Lib.countByte S.data.toList 10 + 1 := spl_count _ _
  have CT := Lib.hid (Tryd.strings_Count_one S 10 w)
  unfold maxLen at hs
  by_cases h4 : S.size ≤ 4000
  · have hd4 : decide ((4000 : Int) < (S.size : Int)) = false := by simp; omega
    have SP := Lib.hid (Tryd.strings_Split S ⟨#[10]⟩ m w (by omega) hm (by decide))
    by_cases h3 : Lib.countByte S.data.toList 10 < 300
    · have hd3 : decide ((300 : Int) ≤ ((Lib.countByte S.data.toList 10 : Nat) : Int)) = false := by simp; omega
      have GD := Lib.hid (show good S.data.toList from ⟨by omega, by omega⟩)
      have HS := Lib.hid (show (Lib.splitB ⟨#[10]⟩ 0 (Lib.countB S ⟨#[10]⟩) S).map (fun s => s.data.toList) = spl [] S.data.toList from (Lib.splitB_data ⟨#[10]⟩ 0 _ S).trans (splitK_spl _ _ (Nat.le_refl _)))
      have HL := Lib.hid (Lib.splitB_all ⟨#[10]⟩ (by decide) 0 _ S rfl)
      clear hm hsl hcn h4 h3
      generalize Lib.splitB ⟨#[10]⟩ 0 (Lib.countB S ⟨#[10]⟩) S = ss at SP HS HL
      generalize Lib.countB S ⟨#[10]⟩ = cn at SP HL
      generalize Lib.countByte S.data.toList 10 = cb at CT hd3
      go_enter Tryd.func15, Tryd.ntmps15
      go_wp2_with (first | (go_at_call 28; refine CT.out.mono ?_; rintro e w1 ⟨rfl, rfl⟩) | (go_at_call 29; refine SP.out.mono ?_; rintro e w1 ⟨rfl, rfl⟩))
      go_ret2
      exact ⟨_, 0, rfl, below_new _ _, fun h => absurd GD.out h, fun _ => ⟨rfl, ss, HS.out, rds_from (heap_alloc_new w1 _) HL.out (strs_at ss)⟩⟩
    · have hd3 : decide ((300 : Int) ≤ ((Lib.countByte S.data.toList 10 : Nat) : Int)) = true := by simp; omega
      have GD := Lib.hid (show ¬ good S.data.toList from fun h => by have := h.2; omega)
      clear hm hsl hcn h4 h3 SP
      generalize Lib.countByte S.data.toList 10 = cb at CT hd3
      go_enter Tryd.func15, Tryd.ntmps15
      go_wp2_with (go_at_call 28; refine CT.out.mono ?_; rintro e w1 ⟨rfl, rfl⟩)
      go_ret2
      exact ⟨_, 2, rfl, Below.refl _ _, fun _ => rfl, fun h => absurd h GD.out⟩
  · have hd4 : decide ((4000 : Int) < (S.size : Int)) = true := by simp; omega
    have GD := Lib.hid (show ¬ good S.data.toList from fun h => by have := h.1; omega)
    clear hm hsl hcn h4 CT
    go_enter Tryd.func15, Tryd.ntmps15
    go_wp2_with fail
    go_ret2
    exact ⟨_, 2, rfl, Below.refl _ _, fun _ => rfl, fun h => absurd h GD.out⟩
end Go.Proofs.YtddbfhdhldnoiaaDoor
