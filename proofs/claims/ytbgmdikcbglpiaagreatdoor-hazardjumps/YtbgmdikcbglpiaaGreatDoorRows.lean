/-
  NARROWER THAN 'FOR EVERY INPUT', by the rows' own cells (each row's printed sentence says how): PipeCycles: laid · HazardFinds: laid · HazardSame: laid · HazardReads: laid · HazardWrites: laid · HazardJumps: laid.
  DERIVED. THE GIVEN ROWS OF THIS SEAT. 6 by the template 'for every input the law returns true; each argument reads behind the call as it read before'; 0 by the template 'total and deterministic' (their statements: YtbgmdikcbglpiaaGreatDoorTotals.lean).
  GIVEN WITH THE SEED: the statements are not yours to turn. If you find one false, say at which input.
  Laid BY PROGRAM, IN A SANDBOX (cutbox-rows.mjs): the forced cells as the released guide's own fill.sh prints them over the translation 987004c186d60d61… (all of the seat's roots in one cut). By AI agents, Wed Nov 11 2026. No macro, syntax, notation, axiom, sorry.
-/
import Derived.Test.YtbgmdikcbglpiaaGreatDoorChecked
import GoSem.Claim
import GoSem.ClaimJoined
import GoSem.ClaimMapViews
import Derived.JoinedTies
import Derived.KernelRfl
namespace Go.Proofs.YtbgmdikcbglpiaaGreatDoor
/- THE CELL 'sum', in the pinned program and in every row, IS THE sha256 OF THE DUMP (.gsa) THAT YtbgmdikcbglpiaaGreatDoorProg.lean LOADS. Nothing in Lean hashes anything: it is a label: what it is worth is what the hold of that sum in a sandbox is worth. -/
noncomputable def Tryz.pinned : Pinned := { name := "ytbgmdikcbglpiaagreatdoor", sum := "987004c186d60d6172fe0535f4d1884566f4547e2310b25719744eb67cfe4d5c", checked := Tryz.checked }
namespace Rows
def none {H : Type} : Left H := { results := [], args := [] }

/- WHAT THE LISTED PACKAGE-LEVEL VARIABLES READ AS WHEN THE CALL BEGINS. Each datum BY PROGRAM (the guide's laid-datum.mjs) off the statement by which the dump's own 'gosem.cut.vars' lays the variable. In a bare row this is a premise. The card (YtbgmdikcbglpiaaGreatDoorCards.lean) ties it to the program's text. -/
def laid_sledge_isa_ops {H : Type} : DataW H := .agg [.agg [.lit (.string [110, 111, 112]), .lit (.int .i64 0), .lit (.int .i64 1), .lit (.int .i64 15)], .agg [.lit (.string [97, 100, 100]), .lit (.int .i64 1), .lit (.int .i64 1), .lit (.int .i64 3)], .agg [.lit (.string [115, 117, 98]), .lit (.int .i64 1), .lit (.int .i64 1), .lit (.int .i64 3)], .agg [.lit (.string [97, 110, 100]), .lit (.int .i64 1), .lit (.int .i64 1), .lit (.int .i64 3)], .agg [.lit (.string [111, 114]), .lit (.int .i64 1), .lit (.int .i64 1), .lit (.int .i64 3)], .agg [.lit (.string [120, 111, 114]), .lit (.int .i64 1), .lit (.int .i64 1), .lit (.int .i64 3)], .agg [.lit (.string [115, 104, 108]), .lit (.int .i64 1), .lit (.int .i64 1), .lit (.int .i64 3)], .agg [.lit (.string [115, 104, 114]), .lit (.int .i64 1), .lit (.int .i64 1), .lit (.int .i64 3)], .agg [.lit (.string [115, 97, 114]), .lit (.int .i64 1), .lit (.int .i64 1), .lit (.int .i64 3)], .agg [.lit (.string [115, 108, 116]), .lit (.int .i64 1), .lit (.int .i64 1), .lit (.int .i64 3)], .agg [.lit (.string [115, 108, 116, 117]), .lit (.int .i64 1), .lit (.int .i64 1), .lit (.int .i64 3)], .agg [.lit (.string [101, 113]), .lit (.int .i64 1), .lit (.int .i64 1), .lit (.int .i64 3)], .agg [.lit (.string [109, 105, 110]), .lit (.int .i64 1), .lit (.int .i64 1), .lit (.int .i64 3)], .agg [.lit (.string [109, 97, 120]), .lit (.int .i64 1), .lit (.int .i64 1), .lit (.int .i64 3)], .agg [.lit (.string [109, 117, 108]), .lit (.int .i64 1), .lit (.int .i64 2), .lit (.int .i64 8)], .agg [.lit (.string [109, 117, 108, 104]), .lit (.int .i64 1), .lit (.int .i64 2), .lit (.int .i64 8)], .agg [.lit (.string [100, 105, 118]), .lit (.int .i64 1), .lit (.int .i64 4), .lit (.int .i64 8)], .agg [.lit (.string [114, 101, 109]), .lit (.int .i64 1), .lit (.int .i64 4), .lit (.int .i64 8)], .agg [.lit (.string [99, 97, 100, 100]), .lit (.int .i64 1), .lit (.int .i64 1), .lit (.int .i64 2)], .agg [.lit (.string [99, 115, 117, 98]), .lit (.int .i64 1), .lit (.int .i64 1), .lit (.int .i64 2)], .agg [.lit (.string [99, 109, 117, 108]), .lit (.int .i64 1), .lit (.int .i64 3), .lit (.int .i64 8)], .agg [.lit (.string [99, 111, 110, 106]), .lit (.int .i64 2), .lit (.int .i64 1), .lit (.int .i64 2)], .agg [.lit (.string [97, 100, 100, 105]), .lit (.int .i64 3), .lit (.int .i64 1), .lit (.int .i64 3)], .agg [.lit (.string [108, 105]), .lit (.int .i64 4), .lit (.int .i64 1), .lit (.int .i64 3)], .agg [.lit (.string [108, 100]), .lit (.int .i64 3), .lit (.int .i64 3), .lit (.int .i64 4)], .agg [.lit (.string [115, 116]), .lit (.int .i64 5), .lit (.int .i64 1), .lit (.int .i64 4)], .agg [.lit (.string [105, 110]), .lit (.int .i64 6), .lit (.int .i64 2), .lit (.int .i64 4)], .agg [.lit (.string [111, 117, 116]), .lit (.int .i64 7), .lit (.int .i64 1), .lit (.int .i64 4)], .agg [.lit (.string [106, 109, 112]), .lit (.int .i64 8), .lit (.int .i64 1), .lit (.int .i64 1)], .agg [.lit (.string [98, 122]), .lit (.int .i64 9), .lit (.int .i64 1), .lit (.int .i64 1)], .agg [.lit (.string [98, 110, 122]), .lit (.int .i64 9), .lit (.int .i64 1), .lit (.int .i64 1)], .agg [.lit (.string [99, 97, 108, 108]), .lit (.int .i64 8), .lit (.int .i64 1), .lit (.int .i64 1)], .agg [.lit (.string [114, 101, 116]), .lit (.int .i64 0), .lit (.int .i64 1), .lit (.int .i64 1)], .agg [.lit (.string [104, 97, 108, 116]), .lit (.int .i64 0), .lit (.int .i64 1), .lit (.int .i64 1)]]
def laid_sledge_isa_shapes {H : Type} : DataW H := .agg [.agg [.lit (.bool false), .lit (.bool false), .lit (.bool false), .lit (.int .i64 0), .lit (.int .i64 0), .lit (.bool false)], .agg [.lit (.bool true), .lit (.bool true), .lit (.bool true), .lit (.int .i64 0), .lit (.int .i64 0), .lit (.bool false)], .agg [.lit (.bool true), .lit (.bool true), .lit (.bool false), .lit (.int .i64 0), .lit (.int .i64 0), .lit (.bool false)], .agg [.lit (.bool true), .lit (.bool true), .lit (.bool false), .lit (.int .i64 (-8192)), .lit (.int .i64 8191), .lit (.bool false)], .agg [.lit (.bool true), .lit (.bool false), .lit (.bool false), .lit (.int .i64 (-131072)), .lit (.int .i64 131071), .lit (.bool false)], .agg [.lit (.bool false), .lit (.bool true), .lit (.bool true), .lit (.int .i64 (-8192)), .lit (.int .i64 8191), .lit (.bool false)], .agg [.lit (.bool true), .lit (.bool false), .lit (.bool false), .lit (.int .i64 0), .lit (.int .i64 0), .lit (.bool false)], .agg [.lit (.bool false), .lit (.bool true), .lit (.bool false), .lit (.int .i64 0), .lit (.int .i64 0), .lit (.bool false)], .agg [.lit (.bool false), .lit (.bool false), .lit (.bool false), .lit (.int .i64 0), .lit (.int .i64 1023), .lit (.bool true)], .agg [.lit (.bool false), .lit (.bool true), .lit (.bool false), .lit (.int .i64 0), .lit (.int .i64 1023), .lit (.bool true)]]

/-- 'sledgelaw6.PipeCycles': WHATEVER THE INPUT: true; the input reads as it did. -/
def pipeCyclesSpec : ChangeSpec := { name := "pipeCycles", fn := fun _ => fun
  | [d] => { results := [.lit (.bool true)], args := [d] }
  | _ => none }
def pipeCyclesRow : OpenClaim := { program := "ytbgmdikcbglpiaagreatdoor", sum := "987004c186d60d6172fe0535f4d1884566f4547e2310b25719744eb67cfe4d5c", func := "sledge/sledgelaw6.PipeCycles", spec := "pipeCycles", unfollowed := true, recurses := true, named := ["sledge/isa.ops", "sledge/isa.shapes"], apart := false, laid := [("sledge/isa.ops", laid_sledge_isa_ops), ("sledge/isa.shapes", laid_sledge_isa_shapes)] }
def PipeCyclesSaid : Prop := pipeCyclesRow.holds Tryz.pinned (OpenSpec.ofChange pipeCyclesSpec)

/-- ITS FALSE NEIGHBOUR: 'it returns false'. Refute it at one input. -/
def pipeCyclesWrong : ChangeSpec := { name := "pipeCycles", fn := fun _ => fun
  | [d] => { results := [.lit (.bool false)], args := [d] }
  | _ => none }
def PipeCyclesWrongFalsely : Prop := pipeCyclesRow.holds Tryz.pinned (OpenSpec.ofChange pipeCyclesWrong)

/-- 'sledgelaw7.HazardFinds': WHATEVER THE INPUT: true; the input reads as it did. -/
def hazardFindsSpec : ChangeSpec := { name := "hazardFinds", fn := fun _ => fun
  | [d] => { results := [.lit (.bool true)], args := [d] }
  | _ => none }
def hazardFindsRow : OpenClaim := { program := "ytbgmdikcbglpiaagreatdoor", sum := "987004c186d60d6172fe0535f4d1884566f4547e2310b25719744eb67cfe4d5c", func := "sledge/sledgelaw7.HazardFinds", spec := "hazardFinds", unfollowed := true, recurses := true, named := ["sledge/isa.ops", "sledge/isa.shapes"], apart := false, laid := [("sledge/isa.ops", laid_sledge_isa_ops), ("sledge/isa.shapes", laid_sledge_isa_shapes)] }
def HazardFindsSaid : Prop := hazardFindsRow.holds Tryz.pinned (OpenSpec.ofChange hazardFindsSpec)

/-- ITS FALSE NEIGHBOUR: 'it returns false'. Refute it at one input. -/
def hazardFindsWrong : ChangeSpec := { name := "hazardFinds", fn := fun _ => fun
  | [d] => { results := [.lit (.bool false)], args := [d] }
  | _ => none }
def HazardFindsWrongFalsely : Prop := hazardFindsRow.holds Tryz.pinned (OpenSpec.ofChange hazardFindsWrong)

/-- 'sledgelaw7.HazardSame': WHATEVER THE INPUT: true; the input reads as it did. -/
def hazardSameSpec : ChangeSpec := { name := "hazardSame", fn := fun _ => fun
  | [d] => { results := [.lit (.bool true)], args := [d] }
  | _ => none }
def hazardSameRow : OpenClaim := { program := "ytbgmdikcbglpiaagreatdoor", sum := "987004c186d60d6172fe0535f4d1884566f4547e2310b25719744eb67cfe4d5c", func := "sledge/sledgelaw7.HazardSame", spec := "hazardSame", unfollowed := true, recurses := true, named := ["sledge/isa.ops", "sledge/isa.shapes"], apart := false, laid := [("sledge/isa.ops", laid_sledge_isa_ops), ("sledge/isa.shapes", laid_sledge_isa_shapes)] }
def HazardSameSaid : Prop := hazardSameRow.holds Tryz.pinned (OpenSpec.ofChange hazardSameSpec)

/-- ITS FALSE NEIGHBOUR: 'it returns false'. Refute it at one input. -/
def hazardSameWrong : ChangeSpec := { name := "hazardSame", fn := fun _ => fun
  | [d] => { results := [.lit (.bool false)], args := [d] }
  | _ => none }
def HazardSameWrongFalsely : Prop := hazardSameRow.holds Tryz.pinned (OpenSpec.ofChange hazardSameWrong)

/-- 'sledgelaw7.HazardReads': WHATEVER THE INPUT: true; the input reads as it did. -/
def hazardReadsSpec : ChangeSpec := { name := "hazardReads", fn := fun _ => fun
  | [d] => { results := [.lit (.bool true)], args := [d] }
  | _ => none }
def hazardReadsRow : OpenClaim := { program := "ytbgmdikcbglpiaagreatdoor", sum := "987004c186d60d6172fe0535f4d1884566f4547e2310b25719744eb67cfe4d5c", func := "sledge/sledgelaw7.HazardReads", spec := "hazardReads", unfollowed := true, recurses := true, named := ["sledge/isa.ops", "sledge/isa.shapes"], apart := false, laid := [("sledge/isa.ops", laid_sledge_isa_ops), ("sledge/isa.shapes", laid_sledge_isa_shapes)] }
def HazardReadsSaid : Prop := hazardReadsRow.holds Tryz.pinned (OpenSpec.ofChange hazardReadsSpec)

/-- ITS FALSE NEIGHBOUR: 'it returns false'. Refute it at one input. -/
def hazardReadsWrong : ChangeSpec := { name := "hazardReads", fn := fun _ => fun
  | [d] => { results := [.lit (.bool false)], args := [d] }
  | _ => none }
def HazardReadsWrongFalsely : Prop := hazardReadsRow.holds Tryz.pinned (OpenSpec.ofChange hazardReadsWrong)

/-- 'sledgelaw7.HazardWrites': WHATEVER THE INPUT: true; the input reads as it did. -/
def hazardWritesSpec : ChangeSpec := { name := "hazardWrites", fn := fun _ => fun
  | [d] => { results := [.lit (.bool true)], args := [d] }
  | _ => none }
def hazardWritesRow : OpenClaim := { program := "ytbgmdikcbglpiaagreatdoor", sum := "987004c186d60d6172fe0535f4d1884566f4547e2310b25719744eb67cfe4d5c", func := "sledge/sledgelaw7.HazardWrites", spec := "hazardWrites", unfollowed := true, recurses := true, named := ["sledge/isa.ops", "sledge/isa.shapes"], apart := false, laid := [("sledge/isa.ops", laid_sledge_isa_ops), ("sledge/isa.shapes", laid_sledge_isa_shapes)] }
def HazardWritesSaid : Prop := hazardWritesRow.holds Tryz.pinned (OpenSpec.ofChange hazardWritesSpec)

/-- ITS FALSE NEIGHBOUR: 'it returns false'. Refute it at one input. -/
def hazardWritesWrong : ChangeSpec := { name := "hazardWrites", fn := fun _ => fun
  | [d] => { results := [.lit (.bool false)], args := [d] }
  | _ => none }
def HazardWritesWrongFalsely : Prop := hazardWritesRow.holds Tryz.pinned (OpenSpec.ofChange hazardWritesWrong)

/-- 'sledgelaw7.HazardJumps': WHATEVER THE INPUT: true; the input reads as it did. -/
def hazardJumpsSpec : ChangeSpec := { name := "hazardJumps", fn := fun _ => fun
  | [d] => { results := [.lit (.bool true)], args := [d] }
  | _ => none }
def hazardJumpsRow : OpenClaim := { program := "ytbgmdikcbglpiaagreatdoor", sum := "987004c186d60d6172fe0535f4d1884566f4547e2310b25719744eb67cfe4d5c", func := "sledge/sledgelaw7.HazardJumps", spec := "hazardJumps", unfollowed := true, recurses := true, named := ["sledge/isa.ops", "sledge/isa.shapes"], apart := false, laid := [("sledge/isa.ops", laid_sledge_isa_ops), ("sledge/isa.shapes", laid_sledge_isa_shapes)] }
def HazardJumpsSaid : Prop := hazardJumpsRow.holds Tryz.pinned (OpenSpec.ofChange hazardJumpsSpec)

/-- ITS FALSE NEIGHBOUR: 'it returns false'. Refute it at one input. -/
def hazardJumpsWrong : ChangeSpec := { name := "hazardJumps", fn := fun _ => fun
  | [d] => { results := [.lit (.bool false)], args := [d] }
  | _ => none }
def HazardJumpsWrongFalsely : Prop := hazardJumpsRow.holds Tryz.pinned (OpenSpec.ofChange hazardJumpsWrong)

/- THE SECOND FORM. 'bulk': how many values and letters a reading holds, each counted each time it is reached (what is shared counts as often as it is met; a slice's spare places count too). A statement '..UptoSaid' is the law's where the arguments, and the package variables that the reading takes, are together of bulk at most 1048576: NARROWER than '..Said'. Prove '..Said' where nothing that the law and all that it calls make is longer than what came in: it says more and counts as full. Else prove '..UptoSaid'. A law counts once. -/
mutual
def uptoBulk {H : Type} : DataW H → Nat
  | .lit (.string bytes) => bytes.length + 1
  | .lit _ => 1
  | .nil => 1
  | .ptr d => uptoBulk d + 1
  | .slice elems spare => uptoBulkAll elems + uptoBulkAll spare + 1
  | .agg parts => uptoBulkAll parts + 1
  | .iface _ d => uptoBulk d + 1
  | .map entries => uptoBulkEntries entries + 1
  | .held _ => 1
def uptoBulkAll {H : Type} : List (DataW H) → Nat
  | [] => 0
  | d :: r => uptoBulk d + uptoBulkAll r
def uptoBulkEntries {H : Type} : List (Lit × DataW H) → Nat
  | [] => 0
  | x :: r => uptoBulkEntry x + uptoBulkEntries r
def uptoBulkEntry {H : Type} : Lit × DataW H → Nat
  | (.string bytes, d) => bytes.length + uptoBulk d + 1
  | (_, d) => uptoBulk d + 1
 end
def uptoSmall : (H : Type) → List (DataW H) → Bool := fun _ ds => decide (uptoBulkAll ds ≤ 1048576)
def OpenSpec.upto (s : _root_.Go.ChangeSpec) : _root_.Go.OpenSpec := { _root_.Go.OpenSpec.ofChange s with cond := some uptoSmall }

/-- 'sledgelaw6.PipeCycles', WHERE WHAT IT READS IS OF BULK AT MOST 1048576: true; the input reads as it did. -/
def pipeCyclesUptoRow : OpenClaim := { program := "ytbgmdikcbglpiaagreatdoor", sum := "987004c186d60d6172fe0535f4d1884566f4547e2310b25719744eb67cfe4d5c", func := "sledge/sledgelaw6.PipeCycles", spec := "pipeCycles", unfollowed := true, recurses := true, named := ["sledge/isa.ops", "sledge/isa.shapes"], apart := false, laid := [("sledge/isa.ops", laid_sledge_isa_ops), ("sledge/isa.shapes", laid_sledge_isa_shapes)], narrowed := true }
def PipeCyclesUptoSaid : Prop := pipeCyclesUptoRow.holds Tryz.pinned (OpenSpec.upto pipeCyclesSpec)

/-- 'sledgelaw7.HazardFinds', WHERE WHAT IT READS IS OF BULK AT MOST 1048576: true; the input reads as it did. -/
def hazardFindsUptoRow : OpenClaim := { program := "ytbgmdikcbglpiaagreatdoor", sum := "987004c186d60d6172fe0535f4d1884566f4547e2310b25719744eb67cfe4d5c", func := "sledge/sledgelaw7.HazardFinds", spec := "hazardFinds", unfollowed := true, recurses := true, named := ["sledge/isa.ops", "sledge/isa.shapes"], apart := false, laid := [("sledge/isa.ops", laid_sledge_isa_ops), ("sledge/isa.shapes", laid_sledge_isa_shapes)], narrowed := true }
def HazardFindsUptoSaid : Prop := hazardFindsUptoRow.holds Tryz.pinned (OpenSpec.upto hazardFindsSpec)

/-- 'sledgelaw7.HazardSame', WHERE WHAT IT READS IS OF BULK AT MOST 1048576: true; the input reads as it did. -/
def hazardSameUptoRow : OpenClaim := { program := "ytbgmdikcbglpiaagreatdoor", sum := "987004c186d60d6172fe0535f4d1884566f4547e2310b25719744eb67cfe4d5c", func := "sledge/sledgelaw7.HazardSame", spec := "hazardSame", unfollowed := true, recurses := true, named := ["sledge/isa.ops", "sledge/isa.shapes"], apart := false, laid := [("sledge/isa.ops", laid_sledge_isa_ops), ("sledge/isa.shapes", laid_sledge_isa_shapes)], narrowed := true }
def HazardSameUptoSaid : Prop := hazardSameUptoRow.holds Tryz.pinned (OpenSpec.upto hazardSameSpec)

/-- 'sledgelaw7.HazardReads', WHERE WHAT IT READS IS OF BULK AT MOST 1048576: true; the input reads as it did. -/
def hazardReadsUptoRow : OpenClaim := { program := "ytbgmdikcbglpiaagreatdoor", sum := "987004c186d60d6172fe0535f4d1884566f4547e2310b25719744eb67cfe4d5c", func := "sledge/sledgelaw7.HazardReads", spec := "hazardReads", unfollowed := true, recurses := true, named := ["sledge/isa.ops", "sledge/isa.shapes"], apart := false, laid := [("sledge/isa.ops", laid_sledge_isa_ops), ("sledge/isa.shapes", laid_sledge_isa_shapes)], narrowed := true }
def HazardReadsUptoSaid : Prop := hazardReadsUptoRow.holds Tryz.pinned (OpenSpec.upto hazardReadsSpec)

/-- 'sledgelaw7.HazardWrites', WHERE WHAT IT READS IS OF BULK AT MOST 1048576: true; the input reads as it did. -/
def hazardWritesUptoRow : OpenClaim := { program := "ytbgmdikcbglpiaagreatdoor", sum := "987004c186d60d6172fe0535f4d1884566f4547e2310b25719744eb67cfe4d5c", func := "sledge/sledgelaw7.HazardWrites", spec := "hazardWrites", unfollowed := true, recurses := true, named := ["sledge/isa.ops", "sledge/isa.shapes"], apart := false, laid := [("sledge/isa.ops", laid_sledge_isa_ops), ("sledge/isa.shapes", laid_sledge_isa_shapes)], narrowed := true }
def HazardWritesUptoSaid : Prop := hazardWritesUptoRow.holds Tryz.pinned (OpenSpec.upto hazardWritesSpec)

/-- 'sledgelaw7.HazardJumps', WHERE WHAT IT READS IS OF BULK AT MOST 1048576: true; the input reads as it did. -/
def hazardJumpsUptoRow : OpenClaim := { program := "ytbgmdikcbglpiaagreatdoor", sum := "987004c186d60d6172fe0535f4d1884566f4547e2310b25719744eb67cfe4d5c", func := "sledge/sledgelaw7.HazardJumps", spec := "hazardJumps", unfollowed := true, recurses := true, named := ["sledge/isa.ops", "sledge/isa.shapes"], apart := false, laid := [("sledge/isa.ops", laid_sledge_isa_ops), ("sledge/isa.shapes", laid_sledge_isa_shapes)], narrowed := true }
def HazardJumpsUptoSaid : Prop := hazardJumpsUptoRow.holds Tryz.pinned (OpenSpec.upto hazardJumpsSpec)

end Rows
end Go.Proofs.YtbgmdikcbglpiaaGreatDoor
