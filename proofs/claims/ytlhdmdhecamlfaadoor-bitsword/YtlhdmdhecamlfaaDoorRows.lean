/-
  NARROWER THAN 'FOR EVERY INPUT', by the rows' own cells (each row's printed sentence says how): BitsWord: laid · BitsBundles: laid · BitsBack: laid · BitsEach: laid · BitsNone: laid.
  DERIVED. THE GIVEN ROWS OF THIS SEAT. 5 by the template 'for every input the law returns true; each argument reads behind the call as it read before'; 0 by the template 'total and deterministic' (their statements: YtlhdmdhecamlfaaDoorTotals.lean).
  GIVEN WITH THE SEED: the statements are not yours to turn. If you find one false, say at which input.
  Laid BY PROGRAM, IN A SANDBOX (cutbox-rows.mjs): the forced cells as the released guide's own fill.sh prints them over the translation 3f6de54829a658c4… (all of the seat's roots in one cut). By AI agents, Wed Nov 11 2026. No macro, syntax, notation, axiom, sorry.
-/
import Derived.Test.YtlhdmdhecamlfaaDoorChecked
import GoSem.Claim
import GoSem.ClaimJoined
import GoSem.ClaimMapViews
import Derived.JoinedTies
import Derived.KernelRfl
namespace Go.Proofs.YtlhdmdhecamlfaaDoor
/- THE CELL 'sum', in the pinned program and in every row, IS THE sha256 OF THE DUMP (.gsa) THAT YtlhdmdhecamlfaaDoorProg.lean LOADS. Nothing in Lean hashes anything: it is a label: what it is worth is what the hold of that sum in a sandbox is worth. -/
noncomputable def Tryd.pinned : Pinned := { name := "ytlhdmdhecamlfaadoor", sum := "3f6de54829a658c4a18d4c1272eba4a85844056cfe68c960bf9df9128bf37ece", checked := Tryd.checked }
namespace Rows
def none {H : Type} : Left H := { results := [], args := [] }

/- WHAT THE LISTED PACKAGE-LEVEL VARIABLES READ AS WHEN THE CALL BEGINS. Each datum BY PROGRAM (the guide's laid-datum.mjs) off the statement by which the dump's own 'gosem.cut.vars' lays the variable. In a bare row this is a premise. The card (YtlhdmdhecamlfaaDoorCards.lean) ties it to the program's text. -/
def laid_sledge_isa_ops {H : Type} : DataW H := .agg [.agg [.lit (.string [110, 111, 112]), .lit (.int .i64 0), .lit (.int .i64 1), .lit (.int .i64 15)], .agg [.lit (.string [97, 100, 100]), .lit (.int .i64 1), .lit (.int .i64 1), .lit (.int .i64 3)], .agg [.lit (.string [115, 117, 98]), .lit (.int .i64 1), .lit (.int .i64 1), .lit (.int .i64 3)], .agg [.lit (.string [97, 110, 100]), .lit (.int .i64 1), .lit (.int .i64 1), .lit (.int .i64 3)], .agg [.lit (.string [111, 114]), .lit (.int .i64 1), .lit (.int .i64 1), .lit (.int .i64 3)], .agg [.lit (.string [120, 111, 114]), .lit (.int .i64 1), .lit (.int .i64 1), .lit (.int .i64 3)], .agg [.lit (.string [115, 104, 108]), .lit (.int .i64 1), .lit (.int .i64 1), .lit (.int .i64 3)], .agg [.lit (.string [115, 104, 114]), .lit (.int .i64 1), .lit (.int .i64 1), .lit (.int .i64 3)], .agg [.lit (.string [115, 97, 114]), .lit (.int .i64 1), .lit (.int .i64 1), .lit (.int .i64 3)], .agg [.lit (.string [115, 108, 116]), .lit (.int .i64 1), .lit (.int .i64 1), .lit (.int .i64 3)], .agg [.lit (.string [115, 108, 116, 117]), .lit (.int .i64 1), .lit (.int .i64 1), .lit (.int .i64 3)], .agg [.lit (.string [101, 113]), .lit (.int .i64 1), .lit (.int .i64 1), .lit (.int .i64 3)], .agg [.lit (.string [109, 105, 110]), .lit (.int .i64 1), .lit (.int .i64 1), .lit (.int .i64 3)], .agg [.lit (.string [109, 97, 120]), .lit (.int .i64 1), .lit (.int .i64 1), .lit (.int .i64 3)], .agg [.lit (.string [109, 117, 108]), .lit (.int .i64 1), .lit (.int .i64 2), .lit (.int .i64 8)], .agg [.lit (.string [109, 117, 108, 104]), .lit (.int .i64 1), .lit (.int .i64 2), .lit (.int .i64 8)], .agg [.lit (.string [100, 105, 118]), .lit (.int .i64 1), .lit (.int .i64 4), .lit (.int .i64 8)], .agg [.lit (.string [114, 101, 109]), .lit (.int .i64 1), .lit (.int .i64 4), .lit (.int .i64 8)], .agg [.lit (.string [99, 97, 100, 100]), .lit (.int .i64 1), .lit (.int .i64 1), .lit (.int .i64 2)], .agg [.lit (.string [99, 115, 117, 98]), .lit (.int .i64 1), .lit (.int .i64 1), .lit (.int .i64 2)], .agg [.lit (.string [99, 109, 117, 108]), .lit (.int .i64 1), .lit (.int .i64 3), .lit (.int .i64 8)], .agg [.lit (.string [99, 111, 110, 106]), .lit (.int .i64 2), .lit (.int .i64 1), .lit (.int .i64 2)], .agg [.lit (.string [97, 100, 100, 105]), .lit (.int .i64 3), .lit (.int .i64 1), .lit (.int .i64 3)], .agg [.lit (.string [108, 105]), .lit (.int .i64 4), .lit (.int .i64 1), .lit (.int .i64 3)], .agg [.lit (.string [108, 100]), .lit (.int .i64 3), .lit (.int .i64 3), .lit (.int .i64 4)], .agg [.lit (.string [115, 116]), .lit (.int .i64 5), .lit (.int .i64 1), .lit (.int .i64 4)], .agg [.lit (.string [105, 110]), .lit (.int .i64 6), .lit (.int .i64 2), .lit (.int .i64 4)], .agg [.lit (.string [111, 117, 116]), .lit (.int .i64 7), .lit (.int .i64 1), .lit (.int .i64 4)], .agg [.lit (.string [106, 109, 112]), .lit (.int .i64 8), .lit (.int .i64 1), .lit (.int .i64 1)], .agg [.lit (.string [98, 122]), .lit (.int .i64 9), .lit (.int .i64 1), .lit (.int .i64 1)], .agg [.lit (.string [98, 110, 122]), .lit (.int .i64 9), .lit (.int .i64 1), .lit (.int .i64 1)], .agg [.lit (.string [99, 97, 108, 108]), .lit (.int .i64 8), .lit (.int .i64 1), .lit (.int .i64 1)], .agg [.lit (.string [114, 101, 116]), .lit (.int .i64 0), .lit (.int .i64 1), .lit (.int .i64 1)], .agg [.lit (.string [104, 97, 108, 116]), .lit (.int .i64 0), .lit (.int .i64 1), .lit (.int .i64 1)]]
def laid_sledge_isa_shapes {H : Type} : DataW H := .agg [.agg [.lit (.bool false), .lit (.bool false), .lit (.bool false), .lit (.int .i64 0), .lit (.int .i64 0), .lit (.bool false)], .agg [.lit (.bool true), .lit (.bool true), .lit (.bool true), .lit (.int .i64 0), .lit (.int .i64 0), .lit (.bool false)], .agg [.lit (.bool true), .lit (.bool true), .lit (.bool false), .lit (.int .i64 0), .lit (.int .i64 0), .lit (.bool false)], .agg [.lit (.bool true), .lit (.bool true), .lit (.bool false), .lit (.int .i64 (-8192)), .lit (.int .i64 8191), .lit (.bool false)], .agg [.lit (.bool true), .lit (.bool false), .lit (.bool false), .lit (.int .i64 (-131072)), .lit (.int .i64 131071), .lit (.bool false)], .agg [.lit (.bool false), .lit (.bool true), .lit (.bool true), .lit (.int .i64 (-8192)), .lit (.int .i64 8191), .lit (.bool false)], .agg [.lit (.bool true), .lit (.bool false), .lit (.bool false), .lit (.int .i64 0), .lit (.int .i64 0), .lit (.bool false)], .agg [.lit (.bool false), .lit (.bool true), .lit (.bool false), .lit (.int .i64 0), .lit (.int .i64 0), .lit (.bool false)], .agg [.lit (.bool false), .lit (.bool false), .lit (.bool false), .lit (.int .i64 0), .lit (.int .i64 1023), .lit (.bool true)], .agg [.lit (.bool false), .lit (.bool true), .lit (.bool false), .lit (.int .i64 0), .lit (.int .i64 1023), .lit (.bool true)]]
def laid_sledge_bits_layouts {H : Type} : DataW H := .agg [.agg [.lit (.int .i64 0), .lit (.int .i64 0), .lit (.int .i64 0), .lit (.int .i64 0), .lit (.bool false)], .agg [.lit (.int .i64 22), .lit (.int .i64 18), .lit (.int .i64 14), .lit (.int .i64 0), .lit (.bool false)], .agg [.lit (.int .i64 22), .lit (.int .i64 18), .lit (.int .i64 0), .lit (.int .i64 0), .lit (.bool false)], .agg [.lit (.int .i64 22), .lit (.int .i64 18), .lit (.int .i64 0), .lit (.int .i64 14), .lit (.bool false)], .agg [.lit (.int .i64 22), .lit (.int .i64 0), .lit (.int .i64 0), .lit (.int .i64 18), .lit (.bool false)], .agg [.lit (.int .i64 0), .lit (.int .i64 18), .lit (.int .i64 22), .lit (.int .i64 14), .lit (.bool false)], .agg [.lit (.int .i64 22), .lit (.int .i64 0), .lit (.int .i64 0), .lit (.int .i64 0), .lit (.bool false)], .agg [.lit (.int .i64 0), .lit (.int .i64 18), .lit (.int .i64 0), .lit (.int .i64 0), .lit (.bool false)], .agg [.lit (.int .i64 0), .lit (.int .i64 0), .lit (.int .i64 0), .lit (.int .i64 18), .lit (.bool true)], .agg [.lit (.int .i64 0), .lit (.int .i64 18), .lit (.int .i64 0), .lit (.int .i64 14), .lit (.bool true)]]

/-- 'sledgelaw4.BitsWord': WHATEVER THE INPUT: true; the input reads as it did. -/
def bitsWordSpec : ChangeSpec := { name := "bitsWord", fn := fun _ => fun
  | [d] => { results := [.lit (.bool true)], args := [d] }
  | _ => none }
def bitsWordRow : OpenClaim := { program := "ytlhdmdhecamlfaadoor", sum := "3f6de54829a658c4a18d4c1272eba4a85844056cfe68c960bf9df9128bf37ece", func := "sledge/sledgelaw4.BitsWord", spec := "bitsWord", named := ["sledge/bits.layouts", "sledge/isa.ops", "sledge/isa.shapes"], apart := false, laid := [("sledge/isa.ops", laid_sledge_isa_ops), ("sledge/isa.shapes", laid_sledge_isa_shapes), ("sledge/bits.layouts", laid_sledge_bits_layouts)] }
def BitsWordSaid : Prop := bitsWordRow.holds Tryd.pinned (OpenSpec.ofChange bitsWordSpec)

/-- ITS FALSE NEIGHBOUR: 'it returns false'. Refute it at one input. -/
def bitsWordWrong : ChangeSpec := { name := "bitsWord", fn := fun _ => fun
  | [d] => { results := [.lit (.bool false)], args := [d] }
  | _ => none }
def BitsWordWrongFalsely : Prop := bitsWordRow.holds Tryd.pinned (OpenSpec.ofChange bitsWordWrong)

/-- 'sledgelaw4.BitsBundles': WHATEVER THE INPUT: true; the input reads as it did. -/
def bitsBundlesSpec : ChangeSpec := { name := "bitsBundles", fn := fun _ => fun
  | [d] => { results := [.lit (.bool true)], args := [d] }
  | _ => none }
def bitsBundlesRow : OpenClaim := { program := "ytlhdmdhecamlfaadoor", sum := "3f6de54829a658c4a18d4c1272eba4a85844056cfe68c960bf9df9128bf37ece", func := "sledge/sledgelaw4.BitsBundles", spec := "bitsBundles", named := ["sledge/isa.ops", "sledge/isa.shapes", "sledge/bits.layouts"], apart := false, laid := [("sledge/isa.ops", laid_sledge_isa_ops), ("sledge/isa.shapes", laid_sledge_isa_shapes), ("sledge/bits.layouts", laid_sledge_bits_layouts)] }
def BitsBundlesSaid : Prop := bitsBundlesRow.holds Tryd.pinned (OpenSpec.ofChange bitsBundlesSpec)

/-- ITS FALSE NEIGHBOUR: 'it returns false'. Refute it at one input. -/
def bitsBundlesWrong : ChangeSpec := { name := "bitsBundles", fn := fun _ => fun
  | [d] => { results := [.lit (.bool false)], args := [d] }
  | _ => none }
def BitsBundlesWrongFalsely : Prop := bitsBundlesRow.holds Tryd.pinned (OpenSpec.ofChange bitsBundlesWrong)

/-- 'sledgelaw4.BitsBack': WHATEVER THE INPUT: true; the input reads as it did. -/
def bitsBackSpec : ChangeSpec := { name := "bitsBack", fn := fun _ => fun
  | [d] => { results := [.lit (.bool true)], args := [d] }
  | _ => none }
def bitsBackRow : OpenClaim := { program := "ytlhdmdhecamlfaadoor", sum := "3f6de54829a658c4a18d4c1272eba4a85844056cfe68c960bf9df9128bf37ece", func := "sledge/sledgelaw4.BitsBack", spec := "bitsBack", named := ["sledge/bits.layouts", "sledge/isa.ops", "sledge/isa.shapes"], apart := false, laid := [("sledge/isa.ops", laid_sledge_isa_ops), ("sledge/isa.shapes", laid_sledge_isa_shapes), ("sledge/bits.layouts", laid_sledge_bits_layouts)] }
def BitsBackSaid : Prop := bitsBackRow.holds Tryd.pinned (OpenSpec.ofChange bitsBackSpec)

/-- ITS FALSE NEIGHBOUR: 'it returns false'. Refute it at one input. -/
def bitsBackWrong : ChangeSpec := { name := "bitsBack", fn := fun _ => fun
  | [d] => { results := [.lit (.bool false)], args := [d] }
  | _ => none }
def BitsBackWrongFalsely : Prop := bitsBackRow.holds Tryd.pinned (OpenSpec.ofChange bitsBackWrong)

/-- 'sledgelaw4.BitsEach': WHATEVER THE INPUT: true; the input reads as it did. -/
def bitsEachSpec : ChangeSpec := { name := "bitsEach", fn := fun _ => fun
  | [d] => { results := [.lit (.bool true)], args := [d] }
  | _ => none }
def bitsEachRow : OpenClaim := { program := "ytlhdmdhecamlfaadoor", sum := "3f6de54829a658c4a18d4c1272eba4a85844056cfe68c960bf9df9128bf37ece", func := "sledge/sledgelaw4.BitsEach", spec := "bitsEach", named := ["sledge/bits.layouts", "sledge/isa.ops", "sledge/isa.shapes"], apart := false, laid := [("sledge/isa.ops", laid_sledge_isa_ops), ("sledge/isa.shapes", laid_sledge_isa_shapes), ("sledge/bits.layouts", laid_sledge_bits_layouts)] }
def BitsEachSaid : Prop := bitsEachRow.holds Tryd.pinned (OpenSpec.ofChange bitsEachSpec)

/-- ITS FALSE NEIGHBOUR: 'it returns false'. Refute it at one input. -/
def bitsEachWrong : ChangeSpec := { name := "bitsEach", fn := fun _ => fun
  | [d] => { results := [.lit (.bool false)], args := [d] }
  | _ => none }
def BitsEachWrongFalsely : Prop := bitsEachRow.holds Tryd.pinned (OpenSpec.ofChange bitsEachWrong)

/-- 'sledgelaw4.BitsNone': WHATEVER THE INPUT: true; the input reads as it did. -/
def bitsNoneSpec : ChangeSpec := { name := "bitsNone", fn := fun _ => fun
  | [d] => { results := [.lit (.bool true)], args := [d] }
  | _ => none }
def bitsNoneRow : OpenClaim := { program := "ytlhdmdhecamlfaadoor", sum := "3f6de54829a658c4a18d4c1272eba4a85844056cfe68c960bf9df9128bf37ece", func := "sledge/sledgelaw4.BitsNone", spec := "bitsNone", named := ["sledge/bits.layouts", "sledge/isa.ops", "sledge/isa.shapes"], apart := false, laid := [("sledge/isa.ops", laid_sledge_isa_ops), ("sledge/isa.shapes", laid_sledge_isa_shapes), ("sledge/bits.layouts", laid_sledge_bits_layouts)] }
def BitsNoneSaid : Prop := bitsNoneRow.holds Tryd.pinned (OpenSpec.ofChange bitsNoneSpec)

/-- ITS FALSE NEIGHBOUR: 'it returns false'. Refute it at one input. -/
def bitsNoneWrong : ChangeSpec := { name := "bitsNone", fn := fun _ => fun
  | [d] => { results := [.lit (.bool false)], args := [d] }
  | _ => none }
def BitsNoneWrongFalsely : Prop := bitsNoneRow.holds Tryd.pinned (OpenSpec.ofChange bitsNoneWrong)

/- THE SECOND FORM. 'bulk': how many values and letters a reading holds, each counted each time it is reached (what is shared counts as often as it is met; a slice's spare places count too). A statement '..UptoSaid' is the law's where the arguments, and the package variables that the reading takes, are together of bulk at most 1048576: NARROWER than '..Said'. Prove '..Said' where nothing that the law and all that it calls make is longer than what came in: it says more and counts as full. Else prove '..UptoSaid'. A law counts once. -/
mutual
def uptoBulk {H : Type} : DataW H → Nat
  | .lit (.string bytes) => bytes.length + 1
  | .lit _ => 1
  | .nil => 1
  | .ptr d => uptoBulk d + 1
  | .slice elems spare => uptoBulkAll elems + uptoBulkAll spare + 1
  | .agg parts => uptoBulkAll parts + 1
  | .iface _ d => uptoBulk d + 1
  | .map entries => uptoBulkEntries entries + 1
  | .held _ => 1
def uptoBulkAll {H : Type} : List (DataW H) → Nat
  | [] => 0
  | d :: r => uptoBulk d + uptoBulkAll r
def uptoBulkEntries {H : Type} : List (Lit × DataW H) → Nat
  | [] => 0
  | x :: r => uptoBulkEntry x + uptoBulkEntries r
def uptoBulkEntry {H : Type} : Lit × DataW H → Nat
  | (.string bytes, d) => bytes.length + uptoBulk d + 1
  | (_, d) => uptoBulk d + 1
 end
def uptoSmall : (H : Type) → List (DataW H) → Bool := fun _ ds => decide (uptoBulkAll ds ≤ 1048576)
def OpenSpec.upto (s : _root_.Go.ChangeSpec) : _root_.Go.OpenSpec := { _root_.Go.OpenSpec.ofChange s with cond := some uptoSmall }

/-- 'sledgelaw4.BitsWord', WHERE WHAT IT READS IS OF BULK AT MOST 1048576: true; the input reads as it did. -/
def bitsWordUptoRow : OpenClaim := { program := "ytlhdmdhecamlfaadoor", sum := "3f6de54829a658c4a18d4c1272eba4a85844056cfe68c960bf9df9128bf37ece", func := "sledge/sledgelaw4.BitsWord", spec := "bitsWord", named := ["sledge/bits.layouts", "sledge/isa.ops", "sledge/isa.shapes"], apart := false, laid := [("sledge/isa.ops", laid_sledge_isa_ops), ("sledge/isa.shapes", laid_sledge_isa_shapes), ("sledge/bits.layouts", laid_sledge_bits_layouts)], narrowed := true }
def BitsWordUptoSaid : Prop := bitsWordUptoRow.holds Tryd.pinned (OpenSpec.upto bitsWordSpec)

/-- 'sledgelaw4.BitsBundles', WHERE WHAT IT READS IS OF BULK AT MOST 1048576: true; the input reads as it did. -/
def bitsBundlesUptoRow : OpenClaim := { program := "ytlhdmdhecamlfaadoor", sum := "3f6de54829a658c4a18d4c1272eba4a85844056cfe68c960bf9df9128bf37ece", func := "sledge/sledgelaw4.BitsBundles", spec := "bitsBundles", named := ["sledge/isa.ops", "sledge/isa.shapes", "sledge/bits.layouts"], apart := false, laid := [("sledge/isa.ops", laid_sledge_isa_ops), ("sledge/isa.shapes", laid_sledge_isa_shapes), ("sledge/bits.layouts", laid_sledge_bits_layouts)], narrowed := true }
def BitsBundlesUptoSaid : Prop := bitsBundlesUptoRow.holds Tryd.pinned (OpenSpec.upto bitsBundlesSpec)

/-- 'sledgelaw4.BitsBack', WHERE WHAT IT READS IS OF BULK AT MOST 1048576: true; the input reads as it did. -/
def bitsBackUptoRow : OpenClaim := { program := "ytlhdmdhecamlfaadoor", sum := "3f6de54829a658c4a18d4c1272eba4a85844056cfe68c960bf9df9128bf37ece", func := "sledge/sledgelaw4.BitsBack", spec := "bitsBack", named := ["sledge/bits.layouts", "sledge/isa.ops", "sledge/isa.shapes"], apart := false, laid := [("sledge/isa.ops", laid_sledge_isa_ops), ("sledge/isa.shapes", laid_sledge_isa_shapes), ("sledge/bits.layouts", laid_sledge_bits_layouts)], narrowed := true }
def BitsBackUptoSaid : Prop := bitsBackUptoRow.holds Tryd.pinned (OpenSpec.upto bitsBackSpec)

/-- 'sledgelaw4.BitsEach', WHERE WHAT IT READS IS OF BULK AT MOST 1048576: true; the input reads as it did. -/
def bitsEachUptoRow : OpenClaim := { program := "ytlhdmdhecamlfaadoor", sum := "3f6de54829a658c4a18d4c1272eba4a85844056cfe68c960bf9df9128bf37ece", func := "sledge/sledgelaw4.BitsEach", spec := "bitsEach", named := ["sledge/bits.layouts", "sledge/isa.ops", "sledge/isa.shapes"], apart := false, laid := [("sledge/isa.ops", laid_sledge_isa_ops), ("sledge/isa.shapes", laid_sledge_isa_shapes), ("sledge/bits.layouts", laid_sledge_bits_layouts)], narrowed := true }
def BitsEachUptoSaid : Prop := bitsEachUptoRow.holds Tryd.pinned (OpenSpec.upto bitsEachSpec)

/-- 'sledgelaw4.BitsNone', WHERE WHAT IT READS IS OF BULK AT MOST 1048576: true; the input reads as it did. -/
def bitsNoneUptoRow : OpenClaim := { program := "ytlhdmdhecamlfaadoor", sum := "3f6de54829a658c4a18d4c1272eba4a85844056cfe68c960bf9df9128bf37ece", func := "sledge/sledgelaw4.BitsNone", spec := "bitsNone", named := ["sledge/bits.layouts", "sledge/isa.ops", "sledge/isa.shapes"], apart := false, laid := [("sledge/isa.ops", laid_sledge_isa_ops), ("sledge/isa.shapes", laid_sledge_isa_shapes), ("sledge/bits.layouts", laid_sledge_bits_layouts)], narrowed := true }
def BitsNoneUptoSaid : Prop := bitsNoneUptoRow.holds Tryd.pinned (OpenSpec.upto bitsNoneSpec)

end Rows
end Go.Proofs.YtlhdmdhecamlfaaDoor
