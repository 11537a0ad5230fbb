/-
  How the argument of the laws of layer 8 is opened: a struct of two slices; that the table of powers lies in the world out of the row s condition; a world that meets it.
-/
import Derived.Test.YtddbfhdhldnoiaaDoorLp
import Derived.ProofKit
import Derived.SizedLaws
import Derived.LaidMore
import Derived.Stop.Joined
import Derived.Deep.Slices
import Derived.Lib.LaidTab
import Derived.OpenShut
namespace Go.Proofs.YtddbfhdhldnoiaaDoor
open Go.ChangeShapes Go.WideShapes Go.ChangeAt Go.RowKit Go.Joins

theorem Tryd.own : ownKnob Tryd.prog.godebug = none := by kernel_rfl
theorem Tryd.laidOut : laidOutB Tryd.prog = true := by kernel_rfl
theorem Tryd.cells25 : Tryd.prog.cellsOf 25 = 2 := by kernel_rfl
theorem Tryd.cells87 : Tryd.prog.cellsOf 87 = 1 := by kernel_rfl
theorem Tryd.cells97 : Tryd.prog.cellsOf 97 = 20 := by kernel_rfl
def laid3 : List (String × DataW Unit) := [("math/bits.deBruijn32tab", Rows.laid_math_bits_deBruijn32tab), ("math/bits.deBruijn64tab", Rows.laid_math_bits_deBruijn64tab), ("internal/strconv.uint64pow10", Rows.laid_internal_strconv_uint64pow10)]
theorem pow_data : Rows.laid_internal_strconv_uint64pow10 = (Lib.tabData .u64 Lib.pow10Tab : DataW Unit) := by kernel_rfl
theorem door_met (os : Os) (args : Array Value) : laidMetH Tryd.prog laid3 ((World.doorLaid Tryd.prog 34 os).forCall (fun _ _ => 0) ⟨#[], args, []⟩).memory :=
  laidMetH_of_parts3 (fuel := 8) (laidMet_of_run' 8 (by kernel_rfl) (by kernel_rfl)) (by kernel_rfl) (by kernel_rfl)
theorem tab_of_laid {W : World} (h : laidMetH Tryd.prog laid3 W) : Tab W := by
  rw [MakeChecks.laidMetH_plain _ _ _ (by kernel_rfl)] at h
  obtain ⟨ps, ⟨_, _, _, _, _, _, _, _, _, _, ⟨_, _, _, _, _, _, _, _, _, _, ⟨g2, t2, cs2, f2, p2, q2, hg2, ht2, hv2, hd2, _, _⟩, _⟩, _⟩, _, _⟩ := h
  have G2 : Tryd.prog.globalNamed "internal/strconv.uint64pow10" = some 1 := by kernel_rfl
  have T2 : (Tryd.prog.globals[1]?).map (·.type) = some 97 := by kernel_rfl
  obtain rfl := Option.some.inj (G2.symm.trans hg2)
  obtain rfl := Option.some.inj (T2.symm.trans ht2)
  rw [pow_data] at hd2
  have hp : Lib.TabIs Tryd.prog W "internal/strconv.uint64pow10" .u64 Lib.pow10Tab := by
    unfold Lib.TabIs
    rw [hv2, ← Lib.cells_of_tab Tryd.underlying97 Tryd.underlying87 Tryd.cells87 Tryd.cells97 hd2]
  exact ⟨hp, World.block_lt_of_cell? W _ (hp.cell G2 0 (by decide))⟩
section
variable {H : Type} {enc : TypeId × Value → H} {W : World}
set_option maxRecDepth 100000 in
theorem sl_open {t e m : Nat} {v : Value} {y : DataW H × List MemPlace} (hu : Tryd.prog.underlying t = some (.slice e)) (h : DataW.trod enc Tryd.prog W 0 (fun _ => true) true m t [v] = some y) : ∃ A n c, v = .slice A n c := by
  rcases Deep.open_slice hu h with ⟨hcs, _⟩ | ⟨ad, len, cap, mm, n, D, Pl, hcs, hb, hl, hm, hmm, hx, hi⟩
  · simp at hcs
    exact ⟨none, 0, 0, hcs⟩
  · simp at hcs
    exact ⟨some ad, len, cap, hcs⟩
set_option maxRecDepth 100000 in
theorem ask_open {r : Reach} {b0 : Nat} {v : Value} {d : DataW H} {p : List MemPlace}
    (hv : Value.okWide Tryd.prog W r b0 25 v) (h : DataW.Trod enc Tryd.prog W 0 (fun _ => true) true 25 v d p) :
    ∃ A1 n1 c1 A2 n2 c2, v = .agg #[.slice A1 n1 c1, .slice A2 n2 c2] := by
  obtain ⟨c0, c1, y0, y1, m, rfl, rfl, rfl, hy0, hy1⟩ := open_agg2 Tryd.underlying25 (by kernel_rfl) Tryd.cells25 hv h
  obtain ⟨A1, n1, k1, rfl⟩ := sl_open Tryd.underlying22 hy0
  obtain ⟨A2, n2, k2, rfl⟩ := sl_open Tryd.underlying23 hy1
  exact ⟨A1, n1, k1, A2, n2, k2, rfl⟩
end
end Go.Proofs.YtddbfhdhldnoiaaDoor
