/-
  The word of an instruction that may be is it again. Conditions: the fields are as the op's form has them; the tables lie in the world.
-/
import Derived.Test.YtlhdmdhecamlfaaDoorWakes
namespace Go.Proofs.YtlhdmdhecamlfaaDoor
open Go.RowKit

section
variable {n : Nat} {d a b m : Int}
theorem ok_wd (h : Fit n d a b m) (hn : n < 34) : okW (wd n d a b m) = true := by
  obtain ⟨e0, e1, e2, e3, e4⟩ := wd_back h hn
  rw [ok_near (by rw [e0]; exact hn)]
  unfold okB
  rw [e0, e1, e2, e3, e4, fit_ins h rfl]
  simp
theorem x_wd (h : Fit n d a b m) (hn : n < 34) : xo (wd n d a b m) = n ∧ xd (wd n d a b m) = d ∧ xa (wd n d a b m) = a ∧ xb (wd n d a b m) = b ∧ xm (wd n d a b m) = m := by
  obtain ⟨e0, e1, e2, e3, e4⟩ := wd_back h hn
  obtain ⟨f0, f1, f2, f3, f4⟩ := x_yes (ok_wd h hn)
  rw [e0] at f0 f1 f2 f3 f4
  exact ⟨f0, f1.trans e1, f2.trans e2, f3.trans e3, f4.trans e4⟩
theorem bins_back (w : World) (H : Tab w) (h : Fit n d a b m) (hn : n < 34) : Calls Tryd.prog 12 #[.int .u32 (wd n d a b m)] w (InsTwo n d a b m 0 w) := by
  obtain ⟨u0, u1⟩ := wd_u32 h hn
  have := bins_yes _ w H u0 u1 (ok_wd h hn)
  obtain ⟨f0, f1, f2, f3, f4⟩ := x_wd h hn
  rw [f0, f1, f2, f3, f4] at this
  exact this
end
end Go.Proofs.YtlhdmdhecamlfaaDoor
