/-
  (Word.) Contracts of the program's Of and of the document's own Of: for every two words each op returns what the Lean function wV tells (module Num), and leaves the world as it was. Conditions: both words are from 0 to 2^32 - 1.
-/
import Derived.Test.YtbgmdikcbglpiaaGreatDoorRows
import Derived.Test.YtbgmdikcbglpiaaGreatDoorWNum
import Derived.WalkKit
import Derived.WalkSpells
import Derived.WalkLawsBesides
namespace Go.Proofs.YtbgmdikcbglpiaaGreatDoor.Wo
open Go.RowKit

def OfPost (x k : Int) (w : World) (e : Ending) (w' : World) : Prop := e = .returned (.tuple #[.int .u32 x, .int .i64 k]) ∧ w = w'
def RefPost (x : Int) (k : Bool) (w : World) (e : Ending) (w' : World) : Prop := e = .returned (.tuple #[.int .u32 x, .bool k]) ∧ w = w'
theorem of_mk {x k y j : Int} {w : World} (h : y = x) (h' : j = k) : OfPost x k w (.returned (.tuple #[.int .u32 y, .int .i64 j])) w := by subst h; subst h'; exact ⟨rfl, rfl⟩
theorem ref_mk {x y : Int} {k : Bool} {w : World} (h : y = x) : RefPost x k w (.returned (.tuple #[.int .u32 y, .bool k])) w := by subst h; exact ⟨rfl, rfl⟩

set_option maxHeartbeats 400000 in
theorem of1 (a b : Int) (w : World) (Ha : U32 a) (Hb : U32 b) :
    Calls Tryz.prog 127 #[.int .i64 1, .int .u32 a, .int .u32 b] w (OfPost (wV 1 a b) 0 w) := by
  obtain ⟨ha, ha'⟩ := Ha
  obtain ⟨hb, hb'⟩ := Hb
  go_enter Tryz.func127, Tryz.ntmps127
  go_wp2
  go_ret2
  refine of_mk ?_ rfl
  simp [wV]

set_option maxHeartbeats 400000 in
theorem ref1 (a b : Int) (w : World) (Ha : U32 a) (Hb : U32 b) :
    Calls Tryz.prog 94 #[.int .i64 1, .int .u32 a, .int .u32 b] w (RefPost (wV 1 a b) true w) := by
  obtain ⟨ha, ha'⟩ := Ha
  obtain ⟨hb, hb'⟩ := Hb
  go_enter Tryz.func94, Tryz.ntmps94
  go_wp2
  go_ret2
  refine ref_mk ?_
  simp [wV]

set_option maxHeartbeats 400000 in
theorem of2 (a b : Int) (w : World) (Ha : U32 a) (Hb : U32 b) :
    Calls Tryz.prog 127 #[.int .i64 2, .int .u32 a, .int .u32 b] w (OfPost (wV 2 a b) 0 w) := by
  obtain ⟨ha, ha'⟩ := Ha
  obtain ⟨hb, hb'⟩ := Hb
  go_enter Tryz.func127, Tryz.ntmps127
  go_wp2
  go_ret2
  refine of_mk ?_ rfl
  simp [wV]

set_option maxHeartbeats 400000 in
theorem ref2 (a b : Int) (w : World) (Ha : U32 a) (Hb : U32 b) :
    Calls Tryz.prog 94 #[.int .i64 2, .int .u32 a, .int .u32 b] w (RefPost (wV 2 a b) true w) := by
  obtain ⟨ha, ha'⟩ := Ha
  obtain ⟨hb, hb'⟩ := Hb
  go_enter Tryz.func94, Tryz.ntmps94
  go_wp2
  go_ret2
  refine ref_mk ?_
  simp [wV]

set_option maxHeartbeats 400000 in
theorem of3 (a b : Int) (w : World) (Ha : U32 a) (Hb : U32 b) :
    Calls Tryz.prog 127 #[.int .i64 3, .int .u32 a, .int .u32 b] w (OfPost (wV 3 a b) 0 w) := by
  obtain ⟨ha, ha'⟩ := Ha
  obtain ⟨hb, hb'⟩ := Hb
  go_enter Tryz.func127, Tryz.ntmps127
  go_wp2
  go_ret2
  refine of_mk ?_ rfl
  simp [wV]

set_option maxHeartbeats 400000 in
theorem ref3 (a b : Int) (w : World) (Ha : U32 a) (Hb : U32 b) :
    Calls Tryz.prog 94 #[.int .i64 3, .int .u32 a, .int .u32 b] w (RefPost (wV 3 a b) true w) := by
  obtain ⟨ha, ha'⟩ := Ha
  obtain ⟨hb, hb'⟩ := Hb
  go_enter Tryz.func94, Tryz.ntmps94
  go_wp2
  go_ret2
  refine ref_mk ?_
  simp [wV]

set_option maxHeartbeats 400000 in
theorem of4 (a b : Int) (w : World) (Ha : U32 a) (Hb : U32 b) :
    Calls Tryz.prog 127 #[.int .i64 4, .int .u32 a, .int .u32 b] w (OfPost (wV 4 a b) 0 w) := by
  obtain ⟨ha, ha'⟩ := Ha
  obtain ⟨hb, hb'⟩ := Hb
  go_enter Tryz.func127, Tryz.ntmps127
  go_wp2
  go_ret2
  refine of_mk ?_ rfl
  simp [wV]

set_option maxHeartbeats 400000 in
theorem ref4 (a b : Int) (w : World) (Ha : U32 a) (Hb : U32 b) :
    Calls Tryz.prog 94 #[.int .i64 4, .int .u32 a, .int .u32 b] w (RefPost (wV 4 a b) true w) := by
  obtain ⟨ha, ha'⟩ := Ha
  obtain ⟨hb, hb'⟩ := Hb
  go_enter Tryz.func94, Tryz.ntmps94
  go_wp2
  go_ret2
  refine ref_mk ?_
  simp [wV]

set_option maxHeartbeats 400000 in
theorem of5 (a b : Int) (w : World) (Ha : U32 a) (Hb : U32 b) :
    Calls Tryz.prog 127 #[.int .i64 5, .int .u32 a, .int .u32 b] w (OfPost (wV 5 a b) 0 w) := by
  obtain ⟨ha, ha'⟩ := Ha
  obtain ⟨hb, hb'⟩ := Hb
  go_enter Tryz.func127, Tryz.ntmps127
  go_wp2
  go_ret2
  refine of_mk ?_ rfl
  simp [wV]

set_option maxHeartbeats 400000 in
theorem ref5 (a b : Int) (w : World) (Ha : U32 a) (Hb : U32 b) :
    Calls Tryz.prog 94 #[.int .i64 5, .int .u32 a, .int .u32 b] w (RefPost (wV 5 a b) true w) := by
  obtain ⟨ha, ha'⟩ := Ha
  obtain ⟨hb, hb'⟩ := Hb
  go_enter Tryz.func94, Tryz.ntmps94
  go_wp2
  go_ret2
  refine ref_mk ?_
  simp [wV]

set_option maxHeartbeats 400000 in
theorem of6 (a b : Int) (w : World) (Ha : U32 a) (Hb : U32 b) :
    Calls Tryz.prog 127 #[.int .i64 6, .int .u32 a, .int .u32 b] w (OfPost (wV 6 a b) 0 w) := by
  obtain ⟨ha, ha'⟩ := Ha
  obtain ⟨hb, hb'⟩ := Hb
  go_enter Tryz.func127, Tryz.ntmps127
  go_wp2
  go_ret2
  refine of_mk ?_ rfl
  simp [wV]

set_option maxHeartbeats 400000 in
theorem ref6 (a b : Int) (w : World) (Ha : U32 a) (Hb : U32 b) :
    Calls Tryz.prog 94 #[.int .i64 6, .int .u32 a, .int .u32 b] w (RefPost (wV 6 a b) true w) := by
  obtain ⟨ha, ha'⟩ := Ha
  obtain ⟨hb, hb'⟩ := Hb
  have h31 := and31 b hb hb'
  go_enter Tryz.func94, Tryz.ntmps94
  go_wp2
  go_ret2
  refine ref_mk ?_
  simp [wV]

set_option maxHeartbeats 400000 in
theorem of7 (a b : Int) (w : World) (Ha : U32 a) (Hb : U32 b) :
    Calls Tryz.prog 127 #[.int .i64 7, .int .u32 a, .int .u32 b] w (OfPost (wV 7 a b) 0 w) := by
  obtain ⟨ha, ha'⟩ := Ha
  obtain ⟨hb, hb'⟩ := Hb
  go_enter Tryz.func127, Tryz.ntmps127
  go_wp2
  go_ret2
  refine of_mk ?_ rfl
  simp [wV]

set_option maxHeartbeats 400000 in
theorem ref7 (a b : Int) (w : World) (Ha : U32 a) (Hb : U32 b) :
    Calls Tryz.prog 94 #[.int .i64 7, .int .u32 a, .int .u32 b] w (RefPost (wV 7 a b) true w) := by
  obtain ⟨ha, ha'⟩ := Ha
  obtain ⟨hb, hb'⟩ := Hb
  have h31 := and31 b hb hb'
  go_enter Tryz.func94, Tryz.ntmps94
  go_wp2
  go_ret2
  refine ref_mk ?_
  simp [wV]

set_option maxHeartbeats 400000 in
theorem of8 (a b : Int) (w : World) (Ha : U32 a) (Hb : U32 b) :
    Calls Tryz.prog 127 #[.int .i64 8, .int .u32 a, .int .u32 b] w (OfPost (wV 8 a b) 0 w) := by
  obtain ⟨ha, ha'⟩ := Ha
  obtain ⟨hb, hb'⟩ := Hb
  go_enter Tryz.func127, Tryz.ntmps127
  go_wp2
  go_ret2
  refine of_mk ?_ rfl
  simp [wV, sg]

set_option maxHeartbeats 400000 in
theorem ref8 (a b : Int) (w : World) (Ha : U32 a) (Hb : U32 b) :
    Calls Tryz.prog 94 #[.int .i64 8, .int .u32 a, .int .u32 b] w (RefPost (wV 8 a b) true w) := by
  obtain ⟨ha, ha'⟩ := Ha
  obtain ⟨hb, hb'⟩ := Hb
  have h31 := and31 b hb hb'
  go_enter Tryz.func94, Tryz.ntmps94
  go_wp2
  go_ret2
  refine ref_mk ?_
  have e : wrap64 (wrap32 a) = wrap32 a := sg_wrap a
  simp [wV, sg, e]

set_option maxHeartbeats 400000 in
theorem of9 (a b : Int) (w : World) (Ha : U32 a) (Hb : U32 b) :
    Calls Tryz.prog 127 #[.int .i64 9, .int .u32 a, .int .u32 b] w (OfPost (wV 9 a b) 0 w) := by
  obtain ⟨ha, ha'⟩ := Ha
  obtain ⟨hb, hb'⟩ := Hb
  go_enter Tryz.func127, Tryz.ntmps127
  go_wp2
  all_goals
    go_ret2
    refine of_mk ?_ rfl
    first | exact wV9t (by assumption) | exact wV9f (by assumption)

set_option maxHeartbeats 400000 in
theorem ref9 (a b : Int) (w : World) (Ha : U32 a) (Hb : U32 b) :
    Calls Tryz.prog 94 #[.int .i64 9, .int .u32 a, .int .u32 b] w (RefPost (wV 9 a b) true w) := by
  obtain ⟨ha, ha'⟩ := Ha
  obtain ⟨hb, hb'⟩ := Hb
  go_enter Tryz.func94, Tryz.ntmps94
  go_wp2
  all_goals
    go_ret2
    refine ref_mk ?_
    first | exact wV9t (by assumption) | exact wV9f (by assumption)

set_option maxHeartbeats 400000 in
theorem of10 (a b : Int) (w : World) (Ha : U32 a) (Hb : U32 b) :
    Calls Tryz.prog 127 #[.int .i64 10, .int .u32 a, .int .u32 b] w (OfPost (wV 10 a b) 0 w) := by
  obtain ⟨ha, ha'⟩ := Ha
  obtain ⟨hb, hb'⟩ := Hb
  go_enter Tryz.func127, Tryz.ntmps127
  go_wp2
  all_goals
    go_ret2
    refine of_mk ?_ rfl
    first | exact wV10t (by assumption) | exact wV10f (by assumption)

set_option maxHeartbeats 400000 in
theorem ref10 (a b : Int) (w : World) (Ha : U32 a) (Hb : U32 b) :
    Calls Tryz.prog 94 #[.int .i64 10, .int .u32 a, .int .u32 b] w (RefPost (wV 10 a b) true w) := by
  obtain ⟨ha, ha'⟩ := Ha
  obtain ⟨hb, hb'⟩ := Hb
  go_enter Tryz.func94, Tryz.ntmps94
  go_wp2
  all_goals
    go_ret2
    refine ref_mk ?_
    first | exact wV10t (by assumption) | exact wV10f (by assumption)

set_option maxHeartbeats 400000 in
theorem of11 (a b : Int) (w : World) (Ha : U32 a) (Hb : U32 b) :
    Calls Tryz.prog 127 #[.int .i64 11, .int .u32 a, .int .u32 b] w (OfPost (wV 11 a b) 0 w) := by
  obtain ⟨ha, ha'⟩ := Ha
  obtain ⟨hb, hb'⟩ := Hb
  go_enter Tryz.func127, Tryz.ntmps127
  go_wp2
  all_goals
    go_ret2
    refine of_mk ?_ rfl
    first | exact wV11t (by assumption) | exact wV11f (by assumption)

set_option maxHeartbeats 400000 in
theorem ref11 (a b : Int) (w : World) (Ha : U32 a) (Hb : U32 b) :
    Calls Tryz.prog 94 #[.int .i64 11, .int .u32 a, .int .u32 b] w (RefPost (wV 11 a b) true w) := by
  obtain ⟨ha, ha'⟩ := Ha
  obtain ⟨hb, hb'⟩ := Hb
  go_enter Tryz.func94, Tryz.ntmps94
  go_wp2
  all_goals
    go_ret2
    refine ref_mk ?_
    first | exact wV11t (by assumption) | exact wV11f (by assumption)

set_option maxHeartbeats 400000 in
theorem of12 (a b : Int) (w : World) (Ha : U32 a) (Hb : U32 b) :
    Calls Tryz.prog 127 #[.int .i64 12, .int .u32 a, .int .u32 b] w (OfPost (wV 12 a b) 0 w) := by
  obtain ⟨ha, ha'⟩ := Ha
  obtain ⟨hb, hb'⟩ := Hb
  go_enter Tryz.func127, Tryz.ntmps127
  go_wp2
  all_goals
    go_ret2
    refine of_mk ?_ rfl
    first | exact wV12b (by assumption) | exact wV12a (by assumption)

set_option maxHeartbeats 400000 in
theorem ref12 (a b : Int) (w : World) (Ha : U32 a) (Hb : U32 b) :
    Calls Tryz.prog 94 #[.int .i64 12, .int .u32 a, .int .u32 b] w (RefPost (wV 12 a b) true w) := by
  obtain ⟨ha, ha'⟩ := Ha
  obtain ⟨hb, hb'⟩ := Hb
  go_enter Tryz.func94, Tryz.ntmps94
  go_wp2
  all_goals
    go_ret2
    refine ref_mk ?_
    first | exact wV12b (by assumption) | exact wV12a (by assumption)

set_option maxHeartbeats 400000 in
theorem of13 (a b : Int) (w : World) (Ha : U32 a) (Hb : U32 b) :
    Calls Tryz.prog 127 #[.int .i64 13, .int .u32 a, .int .u32 b] w (OfPost (wV 13 a b) 0 w) := by
  obtain ⟨ha, ha'⟩ := Ha
  obtain ⟨hb, hb'⟩ := Hb
  go_enter Tryz.func127, Tryz.ntmps127
  go_wp2
  all_goals
    go_ret2
    refine of_mk ?_ rfl
    first | exact wV13b (by assumption) | exact wV13a (by assumption)

set_option maxHeartbeats 400000 in
theorem ref13 (a b : Int) (w : World) (Ha : U32 a) (Hb : U32 b) :
    Calls Tryz.prog 94 #[.int .i64 13, .int .u32 a, .int .u32 b] w (RefPost (wV 13 a b) true w) := by
  obtain ⟨ha, ha'⟩ := Ha
  obtain ⟨hb, hb'⟩ := Hb
  go_enter Tryz.func94, Tryz.ntmps94
  go_wp2
  all_goals
    go_ret2
    refine ref_mk ?_
    first | exact wV13b (by assumption) | exact wV13a (by assumption)

set_option maxHeartbeats 400000 in
theorem of14 (a b : Int) (w : World) (Ha : U32 a) (Hb : U32 b) :
    Calls Tryz.prog 127 #[.int .i64 14, .int .u32 a, .int .u32 b] w (OfPost (wV 14 a b) 0 w) := by
  obtain ⟨ha, ha'⟩ := Ha
  obtain ⟨hb, hb'⟩ := Hb
  go_enter Tryz.func127, Tryz.ntmps127
  go_wp2
  go_ret2
  refine of_mk ?_ rfl
  simp [wV]

set_option maxHeartbeats 400000 in
theorem ref14 (a b : Int) (w : World) (Ha : U32 a) (Hb : U32 b) :
    Calls Tryz.prog 94 #[.int .i64 14, .int .u32 a, .int .u32 b] w (RefPost (wV 14 a b) true w) := by
  obtain ⟨ha, ha'⟩ := Ha
  obtain ⟨hb, hb'⟩ := Hb
  go_enter Tryz.func94, Tryz.ntmps94
  go_wp2
  go_ret2
  refine ref_mk ?_
  have e := mul_form a b
  simp only [sg] at e
  simp [wV, e]

set_option maxHeartbeats 400000 in
theorem of15 (a b : Int) (w : World) (Ha : U32 a) (Hb : U32 b) :
    Calls Tryz.prog 127 #[.int .i64 15, .int .u32 a, .int .u32 b] w (OfPost (wV 15 a b) 0 w) := by
  obtain ⟨ha, ha'⟩ := Ha
  obtain ⟨hb, hb'⟩ := Hb
  go_enter Tryz.func127, Tryz.ntmps127
  go_wp2
  go_ret2
  refine of_mk ?_ rfl
  simp [wV, sg]

set_option maxHeartbeats 400000 in
theorem ref15 (a b : Int) (w : World) (Ha : U32 a) (Hb : U32 b) :
    Calls Tryz.prog 94 #[.int .i64 15, .int .u32 a, .int .u32 b] w (RefPost (wV 15 a b) true w) := by
  obtain ⟨ha, ha'⟩ := Ha
  obtain ⟨hb, hb'⟩ := Hb
  go_enter Tryz.func94, Tryz.ntmps94
  go_wp2
  go_ret2
  refine ref_mk ?_
  simp [wV, sg]

set_option maxHeartbeats 400000 in
theorem of16 (a b : Int) (w : World) (Ha : U32 a) (Hb : U32 b) (hnz : b ≠ 0) :
    Calls Tryz.prog 127 #[.int .i64 16, .int .u32 a, .int .u32 b] w (OfPost (wV 16 a b) 0 w) := by
  obtain ⟨ha, ha'⟩ := Ha
  obtain ⟨hb, hb'⟩ := Hb
  have hs : (wrap64 (wrap32 b) == 0) = false := by
    have := sg_zero b hb hb'
    simp only [sg] at this
    simpa [this] using hnz
  have hs' : ¬ wrap64 (wrap32 b) = 0 := by simpa using hs
  have hbz : (b == 0) = false := by simpa using hnz
  go_enter Tryz.func127, Tryz.ntmps127
  go_wp2
  go_ret2
  refine of_mk ?_ rfl
  simp [wV, sg, hnz]

set_option maxHeartbeats 400000 in
theorem ref16 (a b : Int) (w : World) (Ha : U32 a) (Hb : U32 b) (hnz : b ≠ 0) :
    Calls Tryz.prog 94 #[.int .i64 16, .int .u32 a, .int .u32 b] w (RefPost (wV 16 a b) true w) := by
  obtain ⟨ha, ha'⟩ := Ha
  obtain ⟨hb, hb'⟩ := Hb
  have hs : (wrap64 (wrap32 b) == 0) = false := by
    have := sg_zero b hb hb'
    simp only [sg] at this
    simpa [this] using hnz
  have hs' : ¬ wrap64 (wrap32 b) = 0 := by simpa using hs
  go_enter Tryz.func94, Tryz.ntmps94
  go_wp2
  go_ret2
  refine ref_mk ?_
  simp [wV, sg, hnz]

set_option maxHeartbeats 400000 in
theorem of17 (a b : Int) (w : World) (Ha : U32 a) (Hb : U32 b) (hnz : b ≠ 0) :
    Calls Tryz.prog 127 #[.int .i64 17, .int .u32 a, .int .u32 b] w (OfPost (wV 17 a b) 0 w) := by
  obtain ⟨ha, ha'⟩ := Ha
  obtain ⟨hb, hb'⟩ := Hb
  have hs : (wrap64 (wrap32 b) == 0) = false := by
    have := sg_zero b hb hb'
    simp only [sg] at this
    simpa [this] using hnz
  have hs' : ¬ wrap64 (wrap32 b) = 0 := by simpa using hs
  have hbz : (b == 0) = false := by simpa using hnz
  go_enter Tryz.func127, Tryz.ntmps127
  go_wp2
  go_ret2
  refine of_mk ?_ rfl
  simp [wV, sg, hnz]

set_option maxHeartbeats 400000 in
theorem ref17 (a b : Int) (w : World) (Ha : U32 a) (Hb : U32 b) (hnz : b ≠ 0) :
    Calls Tryz.prog 94 #[.int .i64 17, .int .u32 a, .int .u32 b] w (RefPost (wV 17 a b) true w) := by
  obtain ⟨ha, ha'⟩ := Ha
  obtain ⟨hb, hb'⟩ := Hb
  have hs : (wrap64 (wrap32 b) == 0) = false := by
    have := sg_zero b hb hb'
    simp only [sg] at this
    simpa [this] using hnz
  have hs' : ¬ wrap64 (wrap32 b) = 0 := by simpa using hs
  go_enter Tryz.func94, Tryz.ntmps94
  go_wp2
  go_ret2
  refine ref_mk ?_
  simp [wV, sg, hnz]

set_option maxHeartbeats 400000 in
theorem of16z (a : Int) (w : World) (Ha : U32 a) :
    Calls Tryz.prog 127 #[.int .i64 16, .int .u32 a, .int .u32 0] w (OfPost 0 7 w) := by
  obtain ⟨ha, ha'⟩ := Ha
  have hs2 : wrap64 (wrap32 0) = 0 := by simp [wrap64, wrap32]
  have hs : (wrap64 (wrap32 0) == 0) = true := by simp [hs2]
  go_enter Tryz.func127, Tryz.ntmps127
  go_wp2
  go_ret2
  exact ⟨rfl, rfl⟩

set_option maxHeartbeats 400000 in
theorem of17z (a : Int) (w : World) (Ha : U32 a) :
    Calls Tryz.prog 127 #[.int .i64 17, .int .u32 a, .int .u32 0] w (OfPost 0 7 w) := by
  obtain ⟨ha, ha'⟩ := Ha
  have hs2 : wrap64 (wrap32 0) = 0 := by simp [wrap64, wrap32]
  have hs : (wrap64 (wrap32 0) == 0) = true := by simp [hs2]
  go_enter Tryz.func127, Tryz.ntmps127
  go_wp2
  go_ret2
  exact ⟨rfl, rfl⟩

set_option maxHeartbeats 400000 in
theorem ref16z (a : Int) (w : World) (Ha : U32 a) :
    Calls Tryz.prog 94 #[.int .i64 16, .int .u32 a, .int .u32 0] w (RefPost 0 false w) := by
  obtain ⟨ha, ha'⟩ := Ha
  have hs2 : wrap64 (wrap32 0) = 0 := by simp [wrap64, wrap32]
  have hs : (wrap64 (wrap32 0) == 0) = true := by simp [hs2]
  go_enter Tryz.func94, Tryz.ntmps94
  go_wp2
  go_ret2
  exact ⟨rfl, rfl⟩

set_option maxHeartbeats 400000 in
theorem ref17z (a : Int) (w : World) (Ha : U32 a) :
    Calls Tryz.prog 94 #[.int .i64 17, .int .u32 a, .int .u32 0] w (RefPost 0 false w) := by
  obtain ⟨ha, ha'⟩ := Ha
  have hs2 : wrap64 (wrap32 0) = 0 := by simp [wrap64, wrap32]
  have hs : (wrap64 (wrap32 0) == 0) = true := by simp [hs2]
  go_enter Tryz.func94, Tryz.ntmps94
  go_wp2
  go_ret2
  exact ⟨rfl, rfl⟩

set_option maxHeartbeats 400000 in
theorem of_none (op a b : Int) (w : World) (h : op < 1 ∨ 17 < op) :
    Calls Tryz.prog 127 #[.int .i64 op, .int .u32 a, .int .u32 b] w (OfPost 0 1 w) := by
  have h1 : (op == 1) = false := by simp; omega
  have h2 : (op == 2) = false := by simp; omega
  have h3 : (op == 3) = false := by simp; omega
  have h4 : (op == 4) = false := by simp; omega
  have h5 : (op == 5) = false := by simp; omega
  have h6 : (op == 6) = false := by simp; omega
  have h7 : (op == 7) = false := by simp; omega
  have h8 : (op == 8) = false := by simp; omega
  have h9 : (op == 9) = false := by simp; omega
  have h10 : (op == 10) = false := by simp; omega
  have h11 : (op == 11) = false := by simp; omega
  have h12 : (op == 12) = false := by simp; omega
  have h13 : (op == 13) = false := by simp; omega
  have h14 : (op == 14) = false := by simp; omega
  have h15 : (op == 15) = false := by simp; omega
  have h16 : (op == 16) = false := by simp; omega
  have h17 : (op == 17) = false := by simp; omega
  clear h
  go_enter Tryz.func127, Tryz.ntmps127
  go_wp2
  go_ret2
  exact ⟨rfl, rfl⟩

theorem of_good (op a b : Int) (w : World) (Ha : U32 a) (Hb : U32 b) (h1 : 1 ≤ op) (h2 : op ≤ 17) (hz : ¬ (16 ≤ op ∧ b = 0)) :
    Calls Tryz.prog 127 #[.int .i64 op, .int .u32 a, .int .u32 b] w (OfPost (wV op a b) 0 w) := by
  rcases (show op = 1 ∨ op = 2 ∨ op = 3 ∨ op = 4 ∨ op = 5 ∨ op = 6 ∨ op = 7 ∨ op = 8 ∨ op = 9 ∨ op = 10 ∨ op = 11 ∨ op = 12 ∨ op = 13 ∨ op = 14 ∨ op = 15 ∨ op = 16 ∨ op = 17 from by omega) with rfl | rfl | rfl | rfl | rfl | rfl | rfl | rfl | rfl | rfl | rfl | rfl | rfl | rfl | rfl | rfl | rfl
  · exact of1 a b w Ha Hb
  · exact of2 a b w Ha Hb
  · exact of3 a b w Ha Hb
  · exact of4 a b w Ha Hb
  · exact of5 a b w Ha Hb
  · exact of6 a b w Ha Hb
  · exact of7 a b w Ha Hb
  · exact of8 a b w Ha Hb
  · exact of9 a b w Ha Hb
  · exact of10 a b w Ha Hb
  · exact of11 a b w Ha Hb
  · exact of12 a b w Ha Hb
  · exact of13 a b w Ha Hb
  · exact of14 a b w Ha Hb
  · exact of15 a b w Ha Hb
  · exact of16 a b w Ha Hb (fun e => hz ⟨by omega, e⟩)
  · exact of17 a b w Ha Hb (fun e => hz ⟨by omega, e⟩)

theorem ref_good (op a b : Int) (w : World) (Ha : U32 a) (Hb : U32 b) (h1 : 1 ≤ op) (h2 : op ≤ 17) (hz : ¬ (16 ≤ op ∧ b = 0)) :
    Calls Tryz.prog 94 #[.int .i64 op, .int .u32 a, .int .u32 b] w (RefPost (wV op a b) true w) := by
  rcases (show op = 1 ∨ op = 2 ∨ op = 3 ∨ op = 4 ∨ op = 5 ∨ op = 6 ∨ op = 7 ∨ op = 8 ∨ op = 9 ∨ op = 10 ∨ op = 11 ∨ op = 12 ∨ op = 13 ∨ op = 14 ∨ op = 15 ∨ op = 16 ∨ op = 17 from by omega) with rfl | rfl | rfl | rfl | rfl | rfl | rfl | rfl | rfl | rfl | rfl | rfl | rfl | rfl | rfl | rfl | rfl
  · exact ref1 a b w Ha Hb
  · exact ref2 a b w Ha Hb
  · exact ref3 a b w Ha Hb
  · exact ref4 a b w Ha Hb
  · exact ref5 a b w Ha Hb
  · exact ref6 a b w Ha Hb
  · exact ref7 a b w Ha Hb
  · exact ref8 a b w Ha Hb
  · exact ref9 a b w Ha Hb
  · exact ref10 a b w Ha Hb
  · exact ref11 a b w Ha Hb
  · exact ref12 a b w Ha Hb
  · exact ref13 a b w Ha Hb
  · exact ref14 a b w Ha Hb
  · exact ref15 a b w Ha Hb
  · exact ref16 a b w Ha Hb (fun e => hz ⟨by omega, e⟩)
  · exact ref17 a b w Ha Hb (fun e => hz ⟨by omega, e⟩)

theorem of_zero (op a : Int) (w : World) (Ha : U32 a) (h1 : 16 ≤ op) (h2 : op ≤ 17) :
    Calls Tryz.prog 127 #[.int .i64 op, .int .u32 a, .int .u32 0] w (OfPost 0 7 w) := by
  rcases (show op = 16 ∨ op = 17 from by omega) with rfl | rfl
  · exact of16z a w Ha
  · exact of17z a w Ha

theorem ref_zero (op a : Int) (w : World) (Ha : U32 a) (h1 : 16 ≤ op) (h2 : op ≤ 17) :
    Calls Tryz.prog 94 #[.int .i64 op, .int .u32 a, .int .u32 0] w (RefPost 0 false w) := by
  rcases (show op = 16 ∨ op = 17 from by omega) with rfl | rfl
  · exact ref16z a w Ha
  · exact ref17z a w Ha

def BoolPost (b : Bool) (w : World) (e : Ending) (w' : World) : Prop := e = .returned (.bool b) ∧ w = w'
theorem has_yes (op : Int) (w : World) (h1 : 1 ≤ op) (h2 : op ≤ 17) : Calls Tryz.prog 93 #[.int .i64 op] w (BoolPost true w) := by
  go_enter Tryz.func93, Tryz.ntmps93
  go_wp2
  go_ret
  exact ⟨rfl, rfl⟩
theorem has_no (op : Int) (w : World) (h : op < 1 ∨ 17 < op) : Calls Tryz.prog 93 #[.int .i64 op] w (BoolPost false w) := by
  rcases h with h | h
  · go_enter Tryz.func93, Tryz.ntmps93
    go_wp2
    go_ret
    exact ⟨rfl, rfl⟩
  · have h1 : 1 ≤ op := by omega
    have h2 : decide (op ≤ 17) = false := by simp; omega
    go_enter Tryz.func93, Tryz.ntmps93
    go_wp2
    go_ret
    exact ⟨rfl, rfl⟩
end Go.Proofs.YtbgmdikcbglpiaaGreatDoor.Wo
