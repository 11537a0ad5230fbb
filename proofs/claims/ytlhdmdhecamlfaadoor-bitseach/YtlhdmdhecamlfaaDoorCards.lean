/-
  DERIVED. GIVEN WITH THE SEED: THE CARDS: each row of YtlhdmdhecamlfaaDoorRows.lean that lists a variable, with what it lists TIED to the program's text (the seventh form; the later family's looks); each row that meets fmt, with fmt's text TOLD by the authors' own Lean function (tested against real Go, not proved from fmt's source: count such statements apart). THE CARD IS WHAT COUNTS. Prove the row's statement (the work); the ties are given (YtlhdmdhecamlfaaDoorTie.lean); close each card by the builder's one call (the guide's Derived/Test/ToyasCard.lean, 'card_holds'). Laid BY PROGRAM, IN A SANDBOX (cutbox-door.mjs). By AI agents, Wed Nov 11 2026. No macro, syntax, notation, axiom, sorry.
-/
import Derived.Test.YtlhdmdhecamlfaaDoorRows
import GoSem.ClaimSeven
namespace Go.Proofs.YtlhdmdhecamlfaaDoor
namespace Rows

/-- THE TIED CARD OF 'sledgelaw4.BitsWord'. -/
def bitsWordCard : Claim7 := { stood := { row := bitsWordRow, standIns := [], harness := (true, "79e8441cd212ec706c07a2fbcfcbf321ce68c45ed99a58596d4fddb66d902b0b"), looks := false }, kinds := [], alts := [], laidByText := true, laidKinds := [.data, .data, .data], laidTests := true, laidLooks := .later }
def BitsWordCardSaid : Prop := Claim7.holds Tryd.pinned (.plain (OpenSpec.ofChange bitsWordSpec)) bitsWordCard

/-- THE TIED CARD OF 'sledgelaw4.BitsBundles'. -/
def bitsBundlesCard : Claim7 := { stood := { row := bitsBundlesRow, standIns := [], harness := (true, "79e8441cd212ec706c07a2fbcfcbf321ce68c45ed99a58596d4fddb66d902b0b"), looks := false }, kinds := [], alts := [], laidByText := true, laidKinds := [.data, .data, .data], laidTests := true, laidLooks := .later }
def BitsBundlesCardSaid : Prop := Claim7.holds Tryd.pinned (.plain (OpenSpec.ofChange bitsBundlesSpec)) bitsBundlesCard

/-- THE TIED CARD OF 'sledgelaw4.BitsBack'. -/
def bitsBackCard : Claim7 := { stood := { row := bitsBackRow, standIns := [], harness := (true, "79e8441cd212ec706c07a2fbcfcbf321ce68c45ed99a58596d4fddb66d902b0b"), looks := false }, kinds := [], alts := [], laidByText := true, laidKinds := [.data, .data, .data], laidTests := true, laidLooks := .later }
def BitsBackCardSaid : Prop := Claim7.holds Tryd.pinned (.plain (OpenSpec.ofChange bitsBackSpec)) bitsBackCard

/-- THE TIED CARD OF 'sledgelaw4.BitsEach'. -/
def bitsEachCard : Claim7 := { stood := { row := bitsEachRow, standIns := [], harness := (true, "79e8441cd212ec706c07a2fbcfcbf321ce68c45ed99a58596d4fddb66d902b0b"), looks := false }, kinds := [], alts := [], laidByText := true, laidKinds := [.data, .data, .data], laidTests := true, laidLooks := .later }
def BitsEachCardSaid : Prop := Claim7.holds Tryd.pinned (.plain (OpenSpec.ofChange bitsEachSpec)) bitsEachCard

/-- THE TIED CARD OF 'sledgelaw4.BitsNone'. -/
def bitsNoneCard : Claim7 := { stood := { row := bitsNoneRow, standIns := [], harness := (true, "79e8441cd212ec706c07a2fbcfcbf321ce68c45ed99a58596d4fddb66d902b0b"), looks := false }, kinds := [], alts := [], laidByText := true, laidKinds := [.data, .data, .data], laidTests := true, laidLooks := .later }
def BitsNoneCardSaid : Prop := Claim7.holds Tryd.pinned (.plain (OpenSpec.ofChange bitsNoneSpec)) bitsNoneCard

/-- THE SECOND FORM's CARD OF 'sledgelaw4.BitsWord'. -/
def bitsWordUptoCard : Claim7 := { stood := { row := bitsWordUptoRow, standIns := [], harness := (true, "79e8441cd212ec706c07a2fbcfcbf321ce68c45ed99a58596d4fddb66d902b0b"), looks := false }, kinds := [], alts := [], laidByText := true, laidKinds := [.data, .data, .data], laidTests := true, laidLooks := .later }
def BitsWordUptoCardSaid : Prop := Claim7.holds Tryd.pinned (.plain (OpenSpec.upto bitsWordSpec)) bitsWordUptoCard

/-- THE SECOND FORM's CARD OF 'sledgelaw4.BitsBundles'. -/
def bitsBundlesUptoCard : Claim7 := { stood := { row := bitsBundlesUptoRow, standIns := [], harness := (true, "79e8441cd212ec706c07a2fbcfcbf321ce68c45ed99a58596d4fddb66d902b0b"), looks := false }, kinds := [], alts := [], laidByText := true, laidKinds := [.data, .data, .data], laidTests := true, laidLooks := .later }
def BitsBundlesUptoCardSaid : Prop := Claim7.holds Tryd.pinned (.plain (OpenSpec.upto bitsBundlesSpec)) bitsBundlesUptoCard

/-- THE SECOND FORM's CARD OF 'sledgelaw4.BitsBack'. -/
def bitsBackUptoCard : Claim7 := { stood := { row := bitsBackUptoRow, standIns := [], harness := (true, "79e8441cd212ec706c07a2fbcfcbf321ce68c45ed99a58596d4fddb66d902b0b"), looks := false }, kinds := [], alts := [], laidByText := true, laidKinds := [.data, .data, .data], laidTests := true, laidLooks := .later }
def BitsBackUptoCardSaid : Prop := Claim7.holds Tryd.pinned (.plain (OpenSpec.upto bitsBackSpec)) bitsBackUptoCard

/-- THE SECOND FORM's CARD OF 'sledgelaw4.BitsEach'. -/
def bitsEachUptoCard : Claim7 := { stood := { row := bitsEachUptoRow, standIns := [], harness := (true, "79e8441cd212ec706c07a2fbcfcbf321ce68c45ed99a58596d4fddb66d902b0b"), looks := false }, kinds := [], alts := [], laidByText := true, laidKinds := [.data, .data, .data], laidTests := true, laidLooks := .later }
def BitsEachUptoCardSaid : Prop := Claim7.holds Tryd.pinned (.plain (OpenSpec.upto bitsEachSpec)) bitsEachUptoCard

/-- THE SECOND FORM's CARD OF 'sledgelaw4.BitsNone'. -/
def bitsNoneUptoCard : Claim7 := { stood := { row := bitsNoneUptoRow, standIns := [], harness := (true, "79e8441cd212ec706c07a2fbcfcbf321ce68c45ed99a58596d4fddb66d902b0b"), looks := false }, kinds := [], alts := [], laidByText := true, laidKinds := [.data, .data, .data], laidTests := true, laidLooks := .later }
def BitsNoneUptoCardSaid : Prop := Claim7.holds Tryd.pinned (.plain (OpenSpec.upto bitsNoneSpec)) bitsNoneUptoCard
end Rows
end Go.Proofs.YtlhdmdhecamlfaaDoor
