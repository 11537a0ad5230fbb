/-
  DERIVED. GIVEN WITH THE SEED: THE CARDS: each row of YtbgmdikcbglpiaaGreatDoorRows.lean that lists a variable, with what it lists TIED to the program's text (the seventh form; the later family's looks); each row that meets fmt, with fmt's text TOLD by the authors' own Lean function (tested against real Go, not proved from fmt's source: count such statements apart). THE CARD IS WHAT COUNTS. Prove the row's statement (the work); the ties are given (YtbgmdikcbglpiaaGreatDoorTie.lean); close each card by the builder's one call (the guide's Derived/Test/ToyasCard.lean, 'card_holds'). Laid BY PROGRAM, IN A SANDBOX (cutbox-door.mjs). By AI agents, Wed Nov 11 2026. No macro, syntax, notation, axiom, sorry.
-/
import Derived.Test.YtbgmdikcbglpiaaGreatDoorRows
import GoSem.ClaimSeven
namespace Go.Proofs.YtbgmdikcbglpiaaGreatDoor
namespace Rows

/-- THE TIED CARD OF 'sledgelaw6.PipeCycles'. -/
def pipeCyclesCard : Claim7 := { stood := { row := pipeCyclesRow, standIns := [], harness := (true, "ac63c17528025e8854cbb8db7202ac6c6f24c2364e32435f60590f3e02fad764"), looks := false }, kinds := [], alts := [], laidByText := true, laidKinds := [.data, .data], laidTests := true, laidLooks := .later }
def PipeCyclesCardSaid : Prop := Claim7.holds Tryz.pinned (.plain (OpenSpec.ofChange pipeCyclesSpec)) pipeCyclesCard

/-- THE TIED CARD OF 'sledgelaw7.HazardFinds'. -/
def hazardFindsCard : Claim7 := { stood := { row := hazardFindsRow, standIns := [], harness := (true, "ac63c17528025e8854cbb8db7202ac6c6f24c2364e32435f60590f3e02fad764"), looks := false }, kinds := [], alts := [], laidByText := true, laidKinds := [.data, .data], laidTests := true, laidLooks := .later }
def HazardFindsCardSaid : Prop := Claim7.holds Tryz.pinned (.plain (OpenSpec.ofChange hazardFindsSpec)) hazardFindsCard

/-- THE TIED CARD OF 'sledgelaw7.HazardSame'. -/
def hazardSameCard : Claim7 := { stood := { row := hazardSameRow, standIns := [], harness := (true, "ac63c17528025e8854cbb8db7202ac6c6f24c2364e32435f60590f3e02fad764"), looks := false }, kinds := [], alts := [], laidByText := true, laidKinds := [.data, .data], laidTests := true, laidLooks := .later }
def HazardSameCardSaid : Prop := Claim7.holds Tryz.pinned (.plain (OpenSpec.ofChange hazardSameSpec)) hazardSameCard

/-- THE TIED CARD OF 'sledgelaw7.HazardReads'. -/
def hazardReadsCard : Claim7 := { stood := { row := hazardReadsRow, standIns := [], harness := (true, "ac63c17528025e8854cbb8db7202ac6c6f24c2364e32435f60590f3e02fad764"), looks := false }, kinds := [], alts := [], laidByText := true, laidKinds := [.data, .data], laidTests := true, laidLooks := .later }
def HazardReadsCardSaid : Prop := Claim7.holds Tryz.pinned (.plain (OpenSpec.ofChange hazardReadsSpec)) hazardReadsCard

/-- THE TIED CARD OF 'sledgelaw7.HazardWrites'. -/
def hazardWritesCard : Claim7 := { stood := { row := hazardWritesRow, standIns := [], harness := (true, "ac63c17528025e8854cbb8db7202ac6c6f24c2364e32435f60590f3e02fad764"), looks := false }, kinds := [], alts := [], laidByText := true, laidKinds := [.data, .data], laidTests := true, laidLooks := .later }
def HazardWritesCardSaid : Prop := Claim7.holds Tryz.pinned (.plain (OpenSpec.ofChange hazardWritesSpec)) hazardWritesCard

/-- THE TIED CARD OF 'sledgelaw7.HazardJumps'. -/
def hazardJumpsCard : Claim7 := { stood := { row := hazardJumpsRow, standIns := [], harness := (true, "ac63c17528025e8854cbb8db7202ac6c6f24c2364e32435f60590f3e02fad764"), looks := false }, kinds := [], alts := [], laidByText := true, laidKinds := [.data, .data], laidTests := true, laidLooks := .later }
def HazardJumpsCardSaid : Prop := Claim7.holds Tryz.pinned (.plain (OpenSpec.ofChange hazardJumpsSpec)) hazardJumpsCard

/-- THE SECOND FORM's CARD OF 'sledgelaw6.PipeCycles'. -/
def pipeCyclesUptoCard : Claim7 := { stood := { row := pipeCyclesUptoRow, standIns := [], harness := (true, "ac63c17528025e8854cbb8db7202ac6c6f24c2364e32435f60590f3e02fad764"), looks := false }, kinds := [], alts := [], laidByText := true, laidKinds := [.data, .data], laidTests := true, laidLooks := .later }
def PipeCyclesUptoCardSaid : Prop := Claim7.holds Tryz.pinned (.plain (OpenSpec.upto pipeCyclesSpec)) pipeCyclesUptoCard

/-- THE SECOND FORM's CARD OF 'sledgelaw7.HazardFinds'. -/
def hazardFindsUptoCard : Claim7 := { stood := { row := hazardFindsUptoRow, standIns := [], harness := (true, "ac63c17528025e8854cbb8db7202ac6c6f24c2364e32435f60590f3e02fad764"), looks := false }, kinds := [], alts := [], laidByText := true, laidKinds := [.data, .data], laidTests := true, laidLooks := .later }
def HazardFindsUptoCardSaid : Prop := Claim7.holds Tryz.pinned (.plain (OpenSpec.upto hazardFindsSpec)) hazardFindsUptoCard

/-- THE SECOND FORM's CARD OF 'sledgelaw7.HazardSame'. -/
def hazardSameUptoCard : Claim7 := { stood := { row := hazardSameUptoRow, standIns := [], harness := (true, "ac63c17528025e8854cbb8db7202ac6c6f24c2364e32435f60590f3e02fad764"), looks := false }, kinds := [], alts := [], laidByText := true, laidKinds := [.data, .data], laidTests := true, laidLooks := .later }
def HazardSameUptoCardSaid : Prop := Claim7.holds Tryz.pinned (.plain (OpenSpec.upto hazardSameSpec)) hazardSameUptoCard

/-- THE SECOND FORM's CARD OF 'sledgelaw7.HazardReads'. -/
def hazardReadsUptoCard : Claim7 := { stood := { row := hazardReadsUptoRow, standIns := [], harness := (true, "ac63c17528025e8854cbb8db7202ac6c6f24c2364e32435f60590f3e02fad764"), looks := false }, kinds := [], alts := [], laidByText := true, laidKinds := [.data, .data], laidTests := true, laidLooks := .later }
def HazardReadsUptoCardSaid : Prop := Claim7.holds Tryz.pinned (.plain (OpenSpec.upto hazardReadsSpec)) hazardReadsUptoCard

/-- THE SECOND FORM's CARD OF 'sledgelaw7.HazardWrites'. -/
def hazardWritesUptoCard : Claim7 := { stood := { row := hazardWritesUptoRow, standIns := [], harness := (true, "ac63c17528025e8854cbb8db7202ac6c6f24c2364e32435f60590f3e02fad764"), looks := false }, kinds := [], alts := [], laidByText := true, laidKinds := [.data, .data], laidTests := true, laidLooks := .later }
def HazardWritesUptoCardSaid : Prop := Claim7.holds Tryz.pinned (.plain (OpenSpec.upto hazardWritesSpec)) hazardWritesUptoCard

/-- THE SECOND FORM's CARD OF 'sledgelaw7.HazardJumps'. -/
def hazardJumpsUptoCard : Claim7 := { stood := { row := hazardJumpsUptoRow, standIns := [], harness := (true, "ac63c17528025e8854cbb8db7202ac6c6f24c2364e32435f60590f3e02fad764"), looks := false }, kinds := [], alts := [], laidByText := true, laidKinds := [.data, .data], laidTests := true, laidLooks := .later }
def HazardJumpsUptoCardSaid : Prop := Claim7.holds Tryz.pinned (.plain (OpenSpec.upto hazardJumpsSpec)) hazardJumpsUptoCard
end Rows
end Go.Proofs.YtbgmdikcbglpiaaGreatDoor
