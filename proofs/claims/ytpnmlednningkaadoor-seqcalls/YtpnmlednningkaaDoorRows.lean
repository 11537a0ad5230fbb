/-
  NARROWER THAN 'FOR EVERY INPUT', by the rows' own cells (each row's printed sentence says how): SeqSteps: laid · SeqGoes: laid · SeqAlu: laid · SeqPairs: laid · SeqQuotients: laid · SeqMemory: laid · SeqJumps: laid · SeqCalls: laid · SeqPorts: laid.
  DERIVED. THE GIVEN ROWS OF THIS SEAT. 9 by the template 'for every input the law returns true; each argument reads behind the call as it read before'; 0 by the template 'total and deterministic' (their statements: YtpnmlednningkaaDoorTotals.lean).
  GIVEN WITH THE SEED: the statements are not yours to turn. If you find one false, say at which input.
  Laid BY PROGRAM, IN A SANDBOX (cutbox-rows.mjs): the forced cells as the released guide's own fill.sh prints them over the translation 4bb4c9334a65ef8b… (all of the seat's roots in one cut). By AI agents, Wed Nov 11 2026. No macro, syntax, notation, axiom, sorry.
-/
import Derived.Test.YtpnmlednningkaaDoorChecked
import GoSem.Claim
import GoSem.ClaimJoined
import GoSem.ClaimMapViews
import Derived.JoinedTies
import Derived.KernelRfl
namespace Go.Proofs.YtpnmlednningkaaDoor
/- THE CELL 'sum', in the pinned program and in every row, IS THE sha256 OF THE DUMP (.gsa) THAT YtpnmlednningkaaDoorProg.lean LOADS. Nothing in Lean hashes anything: it is a label: what it is worth is what the hold of that sum in a sandbox is worth. -/
noncomputable def Tryd.pinned : Pinned := { name := "ytpnmlednningkaadoor", sum := "4bb4c9334a65ef8ba2329fda95b12704a34c8c83e2efe97ecf102f5138177dd2", checked := Tryd.checked }
namespace Rows
def none {H : Type} : Left H := { results := [], args := [] }

/- WHAT THE LISTED PACKAGE-LEVEL VARIABLES READ AS WHEN THE CALL BEGINS. Each datum BY PROGRAM (the guide's laid-datum.mjs) off the statement by which the dump's own 'gosem.cut.vars' lays the variable. In a bare row this is a premise. The card (YtpnmlednningkaaDoorCards.lean) ties it to the program's text. -/
def laid_sledge_isa_ops {H : Type} : DataW H := .agg [.agg [.lit (.string [110, 111, 112]), .lit (.int .i64 0), .lit (.int .i64 1), .lit (.int .i64 15)], .agg [.lit (.string [97, 100, 100]), .lit (.int .i64 1), .lit (.int .i64 1), .lit (.int .i64 3)], .agg [.lit (.string [115, 117, 98]), .lit (.int .i64 1), .lit (.int .i64 1), .lit (.int .i64 3)], .agg [.lit (.string [97, 110, 100]), .lit (.int .i64 1), .lit (.int .i64 1), .lit (.int .i64 3)], .agg [.lit (.string [111, 114]), .lit (.int .i64 1), .lit (.int .i64 1), .lit (.int .i64 3)], .agg [.lit (.string [120, 111, 114]), .lit (.int .i64 1), .lit (.int .i64 1), .lit (.int .i64 3)], .agg [.lit (.string [115, 104, 108]), .lit (.int .i64 1), .lit (.int .i64 1), .lit (.int .i64 3)], .agg [.lit (.string [115, 104, 114]), .lit (.int .i64 1), .lit (.int .i64 1), .lit (.int .i64 3)], .agg [.lit (.string [115, 97, 114]), .lit (.int .i64 1), .lit (.int .i64 1), .lit (.int .i64 3)], .agg [.lit (.string [115, 108, 116]), .lit (.int .i64 1), .lit (.int .i64 1), .lit (.int .i64 3)], .agg [.lit (.string [115, 108, 116, 117]), .lit (.int .i64 1), .lit (.int .i64 1), .lit (.int .i64 3)], .agg [.lit (.string [101, 113]), .lit (.int .i64 1), .lit (.int .i64 1), .lit (.int .i64 3)], .agg [.lit (.string [109, 105, 110]), .lit (.int .i64 1), .lit (.int .i64 1), .lit (.int .i64 3)], .agg [.lit (.string [109, 97, 120]), .lit (.int .i64 1), .lit (.int .i64 1), .lit (.int .i64 3)], .agg [.lit (.string [109, 117, 108]), .lit (.int .i64 1), .lit (.int .i64 2), .lit (.int .i64 8)], .agg [.lit (.string [109, 117, 108, 104]), .lit (.int .i64 1), .lit (.int .i64 2), .lit (.int .i64 8)], .agg [.lit (.string [100, 105, 118]), .lit (.int .i64 1), .lit (.int .i64 4), .lit (.int .i64 8)], .agg [.lit (.string [114, 101, 109]), .lit (.int .i64 1), .lit (.int .i64 4), .lit (.int .i64 8)], .agg [.lit (.string [99, 97, 100, 100]), .lit (.int .i64 1), .lit (.int .i64 1), .lit (.int .i64 2)], .agg [.lit (.string [99, 115, 117, 98]), .lit (.int .i64 1), .lit (.int .i64 1), .lit (.int .i64 2)], .agg [.lit (.string [99, 109, 117, 108]), .lit (.int .i64 1), .lit (.int .i64 3), .lit (.int .i64 8)], .agg [.lit (.string [99, 111, 110, 106]), .lit (.int .i64 2), .lit (.int .i64 1), .lit (.int .i64 2)], .agg [.lit (.string [97, 100, 100, 105]), .lit (.int .i64 3), .lit (.int .i64 1), .lit (.int .i64 3)], .agg [.lit (.string [108, 105]), .lit (.int .i64 4), .lit (.int .i64 1), .lit (.int .i64 3)], .agg [.lit (.string [108, 100]), .lit (.int .i64 3), .lit (.int .i64 3), .lit (.int .i64 4)], .agg [.lit (.string [115, 116]), .lit (.int .i64 5), .lit (.int .i64 1), .lit (.int .i64 4)], .agg [.lit (.string [105, 110]), .lit (.int .i64 6), .lit (.int .i64 2), .lit (.int .i64 4)], .agg [.lit (.string [111, 117, 116]), .lit (.int .i64 7), .lit (.int .i64 1), .lit (.int .i64 4)], .agg [.lit (.string [106, 109, 112]), .lit (.int .i64 8), .lit (.int .i64 1), .lit (.int .i64 1)], .agg [.lit (.string [98, 122]), .lit (.int .i64 9), .lit (.int .i64 1), .lit (.int .i64 1)], .agg [.lit (.string [98, 110, 122]), .lit (.int .i64 9), .lit (.int .i64 1), .lit (.int .i64 1)], .agg [.lit (.string [99, 97, 108, 108]), .lit (.int .i64 8), .lit (.int .i64 1), .lit (.int .i64 1)], .agg [.lit (.string [114, 101, 116]), .lit (.int .i64 0), .lit (.int .i64 1), .lit (.int .i64 1)], .agg [.lit (.string [104, 97, 108, 116]), .lit (.int .i64 0), .lit (.int .i64 1), .lit (.int .i64 1)]]
def laid_sledge_isa_shapes {H : Type} : DataW H := .agg [.agg [.lit (.bool false), .lit (.bool false), .lit (.bool false), .lit (.int .i64 0), .lit (.int .i64 0), .lit (.bool false)], .agg [.lit (.bool true), .lit (.bool true), .lit (.bool true), .lit (.int .i64 0), .lit (.int .i64 0), .lit (.bool false)], .agg [.lit (.bool true), .lit (.bool true), .lit (.bool false), .lit (.int .i64 0), .lit (.int .i64 0), .lit (.bool false)], .agg [.lit (.bool true), .lit (.bool true), .lit (.bool false), .lit (.int .i64 (-8192)), .lit (.int .i64 8191), .lit (.bool false)], .agg [.lit (.bool true), .lit (.bool false), .lit (.bool false), .lit (.int .i64 (-131072)), .lit (.int .i64 131071), .lit (.bool false)], .agg [.lit (.bool false), .lit (.bool true), .lit (.bool true), .lit (.int .i64 (-8192)), .lit (.int .i64 8191), .lit (.bool false)], .agg [.lit (.bool true), .lit (.bool false), .lit (.bool false), .lit (.int .i64 0), .lit (.int .i64 0), .lit (.bool false)], .agg [.lit (.bool false), .lit (.bool true), .lit (.bool false), .lit (.int .i64 0), .lit (.int .i64 0), .lit (.bool false)], .agg [.lit (.bool false), .lit (.bool false), .lit (.bool false), .lit (.int .i64 0), .lit (.int .i64 1023), .lit (.bool true)], .agg [.lit (.bool false), .lit (.bool true), .lit (.bool false), .lit (.int .i64 0), .lit (.int .i64 1023), .lit (.bool true)]]

/-- 'sledgelaw5.SeqSteps': WHATEVER THE INPUT: true; the input reads as it did. -/
def seqStepsSpec : ChangeSpec := { name := "seqSteps", fn := fun _ => fun
  | [d] => { results := [.lit (.bool true)], args := [d] }
  | _ => none }
def seqStepsRow : OpenClaim := { program := "ytpnmlednningkaadoor", sum := "4bb4c9334a65ef8ba2329fda95b12704a34c8c83e2efe97ecf102f5138177dd2", func := "sledge/sledgelaw5.SeqSteps", spec := "seqSteps", unfollowed := true, recurses := true, named := ["sledge/isa.ops", "sledge/isa.shapes"], apart := false, laid := [("sledge/isa.ops", laid_sledge_isa_ops), ("sledge/isa.shapes", laid_sledge_isa_shapes)] }
def SeqStepsSaid : Prop := seqStepsRow.holds Tryd.pinned (OpenSpec.ofChange seqStepsSpec)

/-- ITS FALSE NEIGHBOUR: 'it returns false'. Refute it at one input. -/
def seqStepsWrong : ChangeSpec := { name := "seqSteps", fn := fun _ => fun
  | [d] => { results := [.lit (.bool false)], args := [d] }
  | _ => none }
def SeqStepsWrongFalsely : Prop := seqStepsRow.holds Tryd.pinned (OpenSpec.ofChange seqStepsWrong)

/-- 'sledgelaw5.SeqGoes': WHATEVER THE INPUT: true; the input reads as it did. -/
def seqGoesSpec : ChangeSpec := { name := "seqGoes", fn := fun _ => fun
  | [d] => { results := [.lit (.bool true)], args := [d] }
  | _ => none }
def seqGoesRow : OpenClaim := { program := "ytpnmlednningkaadoor", sum := "4bb4c9334a65ef8ba2329fda95b12704a34c8c83e2efe97ecf102f5138177dd2", func := "sledge/sledgelaw5.SeqGoes", spec := "seqGoes", unfollowed := true, recurses := true, named := ["sledge/isa.ops", "sledge/isa.shapes"], apart := false, laid := [("sledge/isa.ops", laid_sledge_isa_ops), ("sledge/isa.shapes", laid_sledge_isa_shapes)] }
def SeqGoesSaid : Prop := seqGoesRow.holds Tryd.pinned (OpenSpec.ofChange seqGoesSpec)

/-- ITS FALSE NEIGHBOUR: 'it returns false'. Refute it at one input. -/
def seqGoesWrong : ChangeSpec := { name := "seqGoes", fn := fun _ => fun
  | [d] => { results := [.lit (.bool false)], args := [d] }
  | _ => none }
def SeqGoesWrongFalsely : Prop := seqGoesRow.holds Tryd.pinned (OpenSpec.ofChange seqGoesWrong)

/-- 'sledgelaw5.SeqAlu': WHATEVER THE INPUT: true; the input reads as it did. -/
def seqAluSpec : ChangeSpec := { name := "seqAlu", fn := fun _ => fun
  | [d] => { results := [.lit (.bool true)], args := [d] }
  | _ => none }
def seqAluRow : OpenClaim := { program := "ytpnmlednningkaadoor", sum := "4bb4c9334a65ef8ba2329fda95b12704a34c8c83e2efe97ecf102f5138177dd2", func := "sledge/sledgelaw5.SeqAlu", spec := "seqAlu", unfollowed := true, recurses := true, named := ["sledge/isa.ops", "sledge/isa.shapes"], apart := false, laid := [("sledge/isa.ops", laid_sledge_isa_ops), ("sledge/isa.shapes", laid_sledge_isa_shapes)] }
def SeqAluSaid : Prop := seqAluRow.holds Tryd.pinned (OpenSpec.ofChange seqAluSpec)

/-- ITS FALSE NEIGHBOUR: 'it returns false'. Refute it at one input. -/
def seqAluWrong : ChangeSpec := { name := "seqAlu", fn := fun _ => fun
  | [d] => { results := [.lit (.bool false)], args := [d] }
  | _ => none }
def SeqAluWrongFalsely : Prop := seqAluRow.holds Tryd.pinned (OpenSpec.ofChange seqAluWrong)

/-- 'sledgelaw5.SeqPairs': WHATEVER THE INPUT: true; the input reads as it did. -/
def seqPairsSpec : ChangeSpec := { name := "seqPairs", fn := fun _ => fun
  | [d] => { results := [.lit (.bool true)], args := [d] }
  | _ => none }
def seqPairsRow : OpenClaim := { program := "ytpnmlednningkaadoor", sum := "4bb4c9334a65ef8ba2329fda95b12704a34c8c83e2efe97ecf102f5138177dd2", func := "sledge/sledgelaw5.SeqPairs", spec := "seqPairs", unfollowed := true, recurses := true, named := ["sledge/isa.ops", "sledge/isa.shapes"], apart := false, laid := [("sledge/isa.ops", laid_sledge_isa_ops), ("sledge/isa.shapes", laid_sledge_isa_shapes)] }
def SeqPairsSaid : Prop := seqPairsRow.holds Tryd.pinned (OpenSpec.ofChange seqPairsSpec)

/-- ITS FALSE NEIGHBOUR: 'it returns false'. Refute it at one input. -/
def seqPairsWrong : ChangeSpec := { name := "seqPairs", fn := fun _ => fun
  | [d] => { results := [.lit (.bool false)], args := [d] }
  | _ => none }
def SeqPairsWrongFalsely : Prop := seqPairsRow.holds Tryd.pinned (OpenSpec.ofChange seqPairsWrong)

/-- 'sledgelaw5.SeqQuotients': WHATEVER THE INPUT: true; the input reads as it did. -/
def seqQuotientsSpec : ChangeSpec := { name := "seqQuotients", fn := fun _ => fun
  | [d] => { results := [.lit (.bool true)], args := [d] }
  | _ => none }
def seqQuotientsRow : OpenClaim := { program := "ytpnmlednningkaadoor", sum := "4bb4c9334a65ef8ba2329fda95b12704a34c8c83e2efe97ecf102f5138177dd2", func := "sledge/sledgelaw5.SeqQuotients", spec := "seqQuotients", unfollowed := true, recurses := true, named := ["sledge/isa.ops", "sledge/isa.shapes"], apart := false, laid := [("sledge/isa.ops", laid_sledge_isa_ops), ("sledge/isa.shapes", laid_sledge_isa_shapes)] }
def SeqQuotientsSaid : Prop := seqQuotientsRow.holds Tryd.pinned (OpenSpec.ofChange seqQuotientsSpec)

/-- ITS FALSE NEIGHBOUR: 'it returns false'. Refute it at one input. -/
def seqQuotientsWrong : ChangeSpec := { name := "seqQuotients", fn := fun _ => fun
  | [d] => { results := [.lit (.bool false)], args := [d] }
  | _ => none }
def SeqQuotientsWrongFalsely : Prop := seqQuotientsRow.holds Tryd.pinned (OpenSpec.ofChange seqQuotientsWrong)

/-- 'sledgelaw5.SeqMemory': WHATEVER THE INPUT: true; the input reads as it did. -/
def seqMemorySpec : ChangeSpec := { name := "seqMemory", fn := fun _ => fun
  | [d] => { results := [.lit (.bool true)], args := [d] }
  | _ => none }
def seqMemoryRow : OpenClaim := { program := "ytpnmlednningkaadoor", sum := "4bb4c9334a65ef8ba2329fda95b12704a34c8c83e2efe97ecf102f5138177dd2", func := "sledge/sledgelaw5.SeqMemory", spec := "seqMemory", unfollowed := true, recurses := true, named := ["sledge/isa.ops", "sledge/isa.shapes"], apart := false, laid := [("sledge/isa.ops", laid_sledge_isa_ops), ("sledge/isa.shapes", laid_sledge_isa_shapes)] }
def SeqMemorySaid : Prop := seqMemoryRow.holds Tryd.pinned (OpenSpec.ofChange seqMemorySpec)

/-- ITS FALSE NEIGHBOUR: 'it returns false'. Refute it at one input. -/
def seqMemoryWrong : ChangeSpec := { name := "seqMemory", fn := fun _ => fun
  | [d] => { results := [.lit (.bool false)], args := [d] }
  | _ => none }
def SeqMemoryWrongFalsely : Prop := seqMemoryRow.holds Tryd.pinned (OpenSpec.ofChange seqMemoryWrong)

/-- 'sledgelaw5.SeqJumps': WHATEVER THE INPUT: true; the input reads as it did. -/
def seqJumpsSpec : ChangeSpec := { name := "seqJumps", fn := fun _ => fun
  | [d] => { results := [.lit (.bool true)], args := [d] }
  | _ => none }
def seqJumpsRow : OpenClaim := { program := "ytpnmlednningkaadoor", sum := "4bb4c9334a65ef8ba2329fda95b12704a34c8c83e2efe97ecf102f5138177dd2", func := "sledge/sledgelaw5.SeqJumps", spec := "seqJumps", unfollowed := true, recurses := true, named := ["sledge/isa.ops", "sledge/isa.shapes"], apart := false, laid := [("sledge/isa.ops", laid_sledge_isa_ops), ("sledge/isa.shapes", laid_sledge_isa_shapes)] }
def SeqJumpsSaid : Prop := seqJumpsRow.holds Tryd.pinned (OpenSpec.ofChange seqJumpsSpec)

/-- ITS FALSE NEIGHBOUR: 'it returns false'. Refute it at one input. -/
def seqJumpsWrong : ChangeSpec := { name := "seqJumps", fn := fun _ => fun
  | [d] => { results := [.lit (.bool false)], args := [d] }
  | _ => none }
def SeqJumpsWrongFalsely : Prop := seqJumpsRow.holds Tryd.pinned (OpenSpec.ofChange seqJumpsWrong)

/-- 'sledgelaw5.SeqCalls': WHATEVER THE INPUT: true; the input reads as it did. -/
def seqCallsSpec : ChangeSpec := { name := "seqCalls", fn := fun _ => fun
  | [d] => { results := [.lit (.bool true)], args := [d] }
  | _ => none }
def seqCallsRow : OpenClaim := { program := "ytpnmlednningkaadoor", sum := "4bb4c9334a65ef8ba2329fda95b12704a34c8c83e2efe97ecf102f5138177dd2", func := "sledge/sledgelaw5.SeqCalls", spec := "seqCalls", unfollowed := true, recurses := true, named := ["sledge/isa.ops", "sledge/isa.shapes"], apart := false, laid := [("sledge/isa.ops", laid_sledge_isa_ops), ("sledge/isa.shapes", laid_sledge_isa_shapes)] }
def SeqCallsSaid : Prop := seqCallsRow.holds Tryd.pinned (OpenSpec.ofChange seqCallsSpec)

/-- ITS FALSE NEIGHBOUR: 'it returns false'. Refute it at one input. -/
def seqCallsWrong : ChangeSpec := { name := "seqCalls", fn := fun _ => fun
  | [d] => { results := [.lit (.bool false)], args := [d] }
  | _ => none }
def SeqCallsWrongFalsely : Prop := seqCallsRow.holds Tryd.pinned (OpenSpec.ofChange seqCallsWrong)

/-- 'sledgelaw5.SeqPorts': WHATEVER THE INPUT: true; the input reads as it did. -/
def seqPortsSpec : ChangeSpec := { name := "seqPorts", fn := fun _ => fun
  | [d] => { results := [.lit (.bool true)], args := [d] }
  | _ => none }
def seqPortsRow : OpenClaim := { program := "ytpnmlednningkaadoor", sum := "4bb4c9334a65ef8ba2329fda95b12704a34c8c83e2efe97ecf102f5138177dd2", func := "sledge/sledgelaw5.SeqPorts", spec := "seqPorts", unfollowed := true, recurses := true, named := ["sledge/isa.ops", "sledge/isa.shapes"], apart := false, laid := [("sledge/isa.ops", laid_sledge_isa_ops), ("sledge/isa.shapes", laid_sledge_isa_shapes)] }
def SeqPortsSaid : Prop := seqPortsRow.holds Tryd.pinned (OpenSpec.ofChange seqPortsSpec)

/-- ITS FALSE NEIGHBOUR: 'it returns false'. Refute it at one input. -/
def seqPortsWrong : ChangeSpec := { name := "seqPorts", fn := fun _ => fun
  | [d] => { results := [.lit (.bool false)], args := [d] }
  | _ => none }
def SeqPortsWrongFalsely : Prop := seqPortsRow.holds Tryd.pinned (OpenSpec.ofChange seqPortsWrong)

/- THE SECOND FORM. 'bulk': how many values and letters a reading holds, each counted each time it is reached (what is shared counts as often as it is met; a slice's spare places count too). A statement '..UptoSaid' is the law's where the arguments, and the package variables that the reading takes, are together of bulk at most 1048576: NARROWER than '..Said'. Prove '..Said' where nothing that the law and all that it calls make is longer than what came in: it says more and counts as full. Else prove '..UptoSaid'. A law counts once. -/
mutual
def uptoBulk {H : Type} : DataW H → Nat
  | .lit (.string bytes) => bytes.length + 1
  | .lit _ => 1
  | .nil => 1
  | .ptr d => uptoBulk d + 1
  | .slice elems spare => uptoBulkAll elems + uptoBulkAll spare + 1
  | .agg parts => uptoBulkAll parts + 1
  | .iface _ d => uptoBulk d + 1
  | .map entries => uptoBulkEntries entries + 1
  | .held _ => 1
def uptoBulkAll {H : Type} : List (DataW H) → Nat
  | [] => 0
  | d :: r => uptoBulk d + uptoBulkAll r
def uptoBulkEntries {H : Type} : List (Lit × DataW H) → Nat
  | [] => 0
  | x :: r => uptoBulkEntry x + uptoBulkEntries r
def uptoBulkEntry {H : Type} : Lit × DataW H → Nat
  | (.string bytes, d) => bytes.length + uptoBulk d + 1
  | (_, d) => uptoBulk d + 1
 end
def uptoSmall : (H : Type) → List (DataW H) → Bool := fun _ ds => decide (uptoBulkAll ds ≤ 1048576)
def OpenSpec.upto (s : _root_.Go.ChangeSpec) : _root_.Go.OpenSpec := { _root_.Go.OpenSpec.ofChange s with cond := some uptoSmall }

/-- 'sledgelaw5.SeqSteps', WHERE WHAT IT READS IS OF BULK AT MOST 1048576: true; the input reads as it did. -/
def seqStepsUptoRow : OpenClaim := { program := "ytpnmlednningkaadoor", sum := "4bb4c9334a65ef8ba2329fda95b12704a34c8c83e2efe97ecf102f5138177dd2", func := "sledge/sledgelaw5.SeqSteps", spec := "seqSteps", unfollowed := true, recurses := true, named := ["sledge/isa.ops", "sledge/isa.shapes"], apart := false, laid := [("sledge/isa.ops", laid_sledge_isa_ops), ("sledge/isa.shapes", laid_sledge_isa_shapes)], narrowed := true }
def SeqStepsUptoSaid : Prop := seqStepsUptoRow.holds Tryd.pinned (OpenSpec.upto seqStepsSpec)

/-- 'sledgelaw5.SeqGoes', WHERE WHAT IT READS IS OF BULK AT MOST 1048576: true; the input reads as it did. -/
def seqGoesUptoRow : OpenClaim := { program := "ytpnmlednningkaadoor", sum := "4bb4c9334a65ef8ba2329fda95b12704a34c8c83e2efe97ecf102f5138177dd2", func := "sledge/sledgelaw5.SeqGoes", spec := "seqGoes", unfollowed := true, recurses := true, named := ["sledge/isa.ops", "sledge/isa.shapes"], apart := false, laid := [("sledge/isa.ops", laid_sledge_isa_ops), ("sledge/isa.shapes", laid_sledge_isa_shapes)], narrowed := true }
def SeqGoesUptoSaid : Prop := seqGoesUptoRow.holds Tryd.pinned (OpenSpec.upto seqGoesSpec)

/-- 'sledgelaw5.SeqAlu', WHERE WHAT IT READS IS OF BULK AT MOST 1048576: true; the input reads as it did. -/
def seqAluUptoRow : OpenClaim := { program := "ytpnmlednningkaadoor", sum := "4bb4c9334a65ef8ba2329fda95b12704a34c8c83e2efe97ecf102f5138177dd2", func := "sledge/sledgelaw5.SeqAlu", spec := "seqAlu", unfollowed := true, recurses := true, named := ["sledge/isa.ops", "sledge/isa.shapes"], apart := false, laid := [("sledge/isa.ops", laid_sledge_isa_ops), ("sledge/isa.shapes", laid_sledge_isa_shapes)], narrowed := true }
def SeqAluUptoSaid : Prop := seqAluUptoRow.holds Tryd.pinned (OpenSpec.upto seqAluSpec)

/-- 'sledgelaw5.SeqPairs', WHERE WHAT IT READS IS OF BULK AT MOST 1048576: true; the input reads as it did. -/
def seqPairsUptoRow : OpenClaim := { program := "ytpnmlednningkaadoor", sum := "4bb4c9334a65ef8ba2329fda95b12704a34c8c83e2efe97ecf102f5138177dd2", func := "sledge/sledgelaw5.SeqPairs", spec := "seqPairs", unfollowed := true, recurses := true, named := ["sledge/isa.ops", "sledge/isa.shapes"], apart := false, laid := [("sledge/isa.ops", laid_sledge_isa_ops), ("sledge/isa.shapes", laid_sledge_isa_shapes)], narrowed := true }
def SeqPairsUptoSaid : Prop := seqPairsUptoRow.holds Tryd.pinned (OpenSpec.upto seqPairsSpec)

/-- 'sledgelaw5.SeqQuotients', WHERE WHAT IT READS IS OF BULK AT MOST 1048576: true; the input reads as it did. -/
def seqQuotientsUptoRow : OpenClaim := { program := "ytpnmlednningkaadoor", sum := "4bb4c9334a65ef8ba2329fda95b12704a34c8c83e2efe97ecf102f5138177dd2", func := "sledge/sledgelaw5.SeqQuotients", spec := "seqQuotients", unfollowed := true, recurses := true, named := ["sledge/isa.ops", "sledge/isa.shapes"], apart := false, laid := [("sledge/isa.ops", laid_sledge_isa_ops), ("sledge/isa.shapes", laid_sledge_isa_shapes)], narrowed := true }
def SeqQuotientsUptoSaid : Prop := seqQuotientsUptoRow.holds Tryd.pinned (OpenSpec.upto seqQuotientsSpec)

/-- 'sledgelaw5.SeqMemory', WHERE WHAT IT READS IS OF BULK AT MOST 1048576: true; the input reads as it did. -/
def seqMemoryUptoRow : OpenClaim := { program := "ytpnmlednningkaadoor", sum := "4bb4c9334a65ef8ba2329fda95b12704a34c8c83e2efe97ecf102f5138177dd2", func := "sledge/sledgelaw5.SeqMemory", spec := "seqMemory", unfollowed := true, recurses := true, named := ["sledge/isa.ops", "sledge/isa.shapes"], apart := false, laid := [("sledge/isa.ops", laid_sledge_isa_ops), ("sledge/isa.shapes", laid_sledge_isa_shapes)], narrowed := true }
def SeqMemoryUptoSaid : Prop := seqMemoryUptoRow.holds Tryd.pinned (OpenSpec.upto seqMemorySpec)

/-- 'sledgelaw5.SeqJumps', WHERE WHAT IT READS IS OF BULK AT MOST 1048576: true; the input reads as it did. -/
def seqJumpsUptoRow : OpenClaim := { program := "ytpnmlednningkaadoor", sum := "4bb4c9334a65ef8ba2329fda95b12704a34c8c83e2efe97ecf102f5138177dd2", func := "sledge/sledgelaw5.SeqJumps", spec := "seqJumps", unfollowed := true, recurses := true, named := ["sledge/isa.ops", "sledge/isa.shapes"], apart := false, laid := [("sledge/isa.ops", laid_sledge_isa_ops), ("sledge/isa.shapes", laid_sledge_isa_shapes)], narrowed := true }
def SeqJumpsUptoSaid : Prop := seqJumpsUptoRow.holds Tryd.pinned (OpenSpec.upto seqJumpsSpec)

/-- 'sledgelaw5.SeqCalls', WHERE WHAT IT READS IS OF BULK AT MOST 1048576: true; the input reads as it did. -/
def seqCallsUptoRow : OpenClaim := { program := "ytpnmlednningkaadoor", sum := "4bb4c9334a65ef8ba2329fda95b12704a34c8c83e2efe97ecf102f5138177dd2", func := "sledge/sledgelaw5.SeqCalls", spec := "seqCalls", unfollowed := true, recurses := true, named := ["sledge/isa.ops", "sledge/isa.shapes"], apart := false, laid := [("sledge/isa.ops", laid_sledge_isa_ops), ("sledge/isa.shapes", laid_sledge_isa_shapes)], narrowed := true }
def SeqCallsUptoSaid : Prop := seqCallsUptoRow.holds Tryd.pinned (OpenSpec.upto seqCallsSpec)

/-- 'sledgelaw5.SeqPorts', WHERE WHAT IT READS IS OF BULK AT MOST 1048576: true; the input reads as it did. -/
def seqPortsUptoRow : OpenClaim := { program := "ytpnmlednningkaadoor", sum := "4bb4c9334a65ef8ba2329fda95b12704a34c8c83e2efe97ecf102f5138177dd2", func := "sledge/sledgelaw5.SeqPorts", spec := "seqPorts", unfollowed := true, recurses := true, named := ["sledge/isa.ops", "sledge/isa.shapes"], apart := false, laid := [("sledge/isa.ops", laid_sledge_isa_ops), ("sledge/isa.shapes", laid_sledge_isa_shapes)], narrowed := true }
def SeqPortsUptoSaid : Prop := seqPortsUptoRow.holds Tryd.pinned (OpenSpec.upto seqPortsSpec)

end Rows
end Go.Proofs.YtpnmlednningkaaDoor
