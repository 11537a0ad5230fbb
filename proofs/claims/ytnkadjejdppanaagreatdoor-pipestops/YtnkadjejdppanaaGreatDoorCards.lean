/-
  DERIVED. GIVEN WITH THE SEED: THE CARDS: each row of YtnkadjejdppanaaGreatDoorRows.lean that lists a variable, with what it lists TIED to the program's text (the seventh form; the later family's looks); each row that meets fmt, with fmt's text TOLD by the authors' own Lean function (tested against real Go, not proved from fmt's source: count such statements apart). THE CARD IS WHAT COUNTS. Prove the row's statement (the work); the ties are given (YtnkadjejdppanaaGreatDoorTie.lean); close each card by the builder's one call (the guide's Derived/Test/ToyasCard.lean, 'card_holds'). Laid BY PROGRAM, IN A SANDBOX (cutbox-door.mjs). By AI agents, Wed Nov 11 2026. No macro, syntax, notation, axiom, sorry.
-/
import Derived.Test.YtnkadjejdppanaaGreatDoorRows
import GoSem.ClaimSeven
namespace Go.Proofs.YtnkadjejdppanaaGreatDoor
namespace Rows

/-- THE TIED CARD OF 'sledgelaw6.PipeCycles'. -/
def pipeCyclesCard : Claim7 := { stood := { row := pipeCyclesRow, standIns := [], harness := (true, "b8551272a335710393b7d89b7d87eb379fca644c910b63f88170117eea4883a7"), looks := false }, kinds := [], alts := [], laidByText := true, laidKinds := [.data, .data], laidTests := true, laidLooks := .later }
def PipeCyclesCardSaid : Prop := Claim7.holds Tryz.pinned (.plain (OpenSpec.ofChange pipeCyclesSpec)) pipeCyclesCard

/-- THE TIED CARD OF 'sledgelaw6.PipeJumps'. -/
def pipeJumpsCard : Claim7 := { stood := { row := pipeJumpsRow, standIns := [], harness := (true, "b8551272a335710393b7d89b7d87eb379fca644c910b63f88170117eea4883a7"), looks := false }, kinds := [], alts := [], laidByText := true, laidKinds := [.data, .data], laidTests := true, laidLooks := .later }
def PipeJumpsCardSaid : Prop := Claim7.holds Tryz.pinned (.plain (OpenSpec.ofChange pipeJumpsSpec)) pipeJumpsCard

/-- THE TIED CARD OF 'sledgelaw6.PipeCalls'. -/
def pipeCallsCard : Claim7 := { stood := { row := pipeCallsRow, standIns := [], harness := (true, "b8551272a335710393b7d89b7d87eb379fca644c910b63f88170117eea4883a7"), looks := false }, kinds := [], alts := [], laidByText := true, laidKinds := [.data, .data], laidTests := true, laidLooks := .later }
def PipeCallsCardSaid : Prop := Claim7.holds Tryz.pinned (.plain (OpenSpec.ofChange pipeCallsSpec)) pipeCallsCard

/-- THE TIED CARD OF 'sledgelaw6.PipeStops'. -/
def pipeStopsCard : Claim7 := { stood := { row := pipeStopsRow, standIns := [], harness := (true, "b8551272a335710393b7d89b7d87eb379fca644c910b63f88170117eea4883a7"), looks := false }, kinds := [], alts := [], laidByText := true, laidKinds := [.data, .data], laidTests := true, laidLooks := .later }
def PipeStopsCardSaid : Prop := Claim7.holds Tryz.pinned (.plain (OpenSpec.ofChange pipeStopsSpec)) pipeStopsCard

/-- THE TIED CARD OF 'sledgelaw6.PipePorts'. -/
def pipePortsCard : Claim7 := { stood := { row := pipePortsRow, standIns := [], harness := (true, "b8551272a335710393b7d89b7d87eb379fca644c910b63f88170117eea4883a7"), looks := false }, kinds := [], alts := [], laidByText := true, laidKinds := [.data, .data], laidTests := true, laidLooks := .later }
def PipePortsCardSaid : Prop := Claim7.holds Tryz.pinned (.plain (OpenSpec.ofChange pipePortsSpec)) pipePortsCard

/-- THE TIED CARD OF 'sledgelaw7.HazardFinds'. -/
def hazardFindsCard : Claim7 := { stood := { row := hazardFindsRow, standIns := [], harness := (true, "b8551272a335710393b7d89b7d87eb379fca644c910b63f88170117eea4883a7"), looks := false }, kinds := [], alts := [], laidByText := true, laidKinds := [.data, .data], laidTests := true, laidLooks := .later }
def HazardFindsCardSaid : Prop := Claim7.holds Tryz.pinned (.plain (OpenSpec.ofChange hazardFindsSpec)) hazardFindsCard

/-- THE TIED CARD OF 'sledgelaw7.HazardSame'. -/
def hazardSameCard : Claim7 := { stood := { row := hazardSameRow, standIns := [], harness := (true, "b8551272a335710393b7d89b7d87eb379fca644c910b63f88170117eea4883a7"), looks := false }, kinds := [], alts := [], laidByText := true, laidKinds := [.data, .data], laidTests := true, laidLooks := .later }
def HazardSameCardSaid : Prop := Claim7.holds Tryz.pinned (.plain (OpenSpec.ofChange hazardSameSpec)) hazardSameCard

/-- THE TIED CARD OF 'sledgelaw7.HazardReads'. -/
def hazardReadsCard : Claim7 := { stood := { row := hazardReadsRow, standIns := [], harness := (true, "b8551272a335710393b7d89b7d87eb379fca644c910b63f88170117eea4883a7"), looks := false }, kinds := [], alts := [], laidByText := true, laidKinds := [.data, .data], laidTests := true, laidLooks := .later }
def HazardReadsCardSaid : Prop := Claim7.holds Tryz.pinned (.plain (OpenSpec.ofChange hazardReadsSpec)) hazardReadsCard

/-- THE TIED CARD OF 'sledgelaw7.HazardWrites'. -/
def hazardWritesCard : Claim7 := { stood := { row := hazardWritesRow, standIns := [], harness := (true, "b8551272a335710393b7d89b7d87eb379fca644c910b63f88170117eea4883a7"), looks := false }, kinds := [], alts := [], laidByText := true, laidKinds := [.data, .data], laidTests := true, laidLooks := .later }
def HazardWritesCardSaid : Prop := Claim7.holds Tryz.pinned (.plain (OpenSpec.ofChange hazardWritesSpec)) hazardWritesCard

/-- THE SECOND FORM's CARD OF 'sledgelaw6.PipeCycles'. -/
def pipeCyclesUptoCard : Claim7 := { stood := { row := pipeCyclesUptoRow, standIns := [], harness := (true, "b8551272a335710393b7d89b7d87eb379fca644c910b63f88170117eea4883a7"), looks := false }, kinds := [], alts := [], laidByText := true, laidKinds := [.data, .data], laidTests := true, laidLooks := .later }
def PipeCyclesUptoCardSaid : Prop := Claim7.holds Tryz.pinned (.plain (OpenSpec.upto pipeCyclesSpec)) pipeCyclesUptoCard

/-- THE SECOND FORM's CARD OF 'sledgelaw6.PipeJumps'. -/
def pipeJumpsUptoCard : Claim7 := { stood := { row := pipeJumpsUptoRow, standIns := [], harness := (true, "b8551272a335710393b7d89b7d87eb379fca644c910b63f88170117eea4883a7"), looks := false }, kinds := [], alts := [], laidByText := true, laidKinds := [.data, .data], laidTests := true, laidLooks := .later }
def PipeJumpsUptoCardSaid : Prop := Claim7.holds Tryz.pinned (.plain (OpenSpec.upto pipeJumpsSpec)) pipeJumpsUptoCard

/-- THE SECOND FORM's CARD OF 'sledgelaw6.PipeCalls'. -/
def pipeCallsUptoCard : Claim7 := { stood := { row := pipeCallsUptoRow, standIns := [], harness := (true, "b8551272a335710393b7d89b7d87eb379fca644c910b63f88170117eea4883a7"), looks := false }, kinds := [], alts := [], laidByText := true, laidKinds := [.data, .data], laidTests := true, laidLooks := .later }
def PipeCallsUptoCardSaid : Prop := Claim7.holds Tryz.pinned (.plain (OpenSpec.upto pipeCallsSpec)) pipeCallsUptoCard

/-- THE SECOND FORM's CARD OF 'sledgelaw6.PipeStops'. -/
def pipeStopsUptoCard : Claim7 := { stood := { row := pipeStopsUptoRow, standIns := [], harness := (true, "b8551272a335710393b7d89b7d87eb379fca644c910b63f88170117eea4883a7"), looks := false }, kinds := [], alts := [], laidByText := true, laidKinds := [.data, .data], laidTests := true, laidLooks := .later }
def PipeStopsUptoCardSaid : Prop := Claim7.holds Tryz.pinned (.plain (OpenSpec.upto pipeStopsSpec)) pipeStopsUptoCard

/-- THE SECOND FORM's CARD OF 'sledgelaw6.PipePorts'. -/
def pipePortsUptoCard : Claim7 := { stood := { row := pipePortsUptoRow, standIns := [], harness := (true, "b8551272a335710393b7d89b7d87eb379fca644c910b63f88170117eea4883a7"), looks := false }, kinds := [], alts := [], laidByText := true, laidKinds := [.data, .data], laidTests := true, laidLooks := .later }
def PipePortsUptoCardSaid : Prop := Claim7.holds Tryz.pinned (.plain (OpenSpec.upto pipePortsSpec)) pipePortsUptoCard

/-- THE SECOND FORM's CARD OF 'sledgelaw7.HazardFinds'. -/
def hazardFindsUptoCard : Claim7 := { stood := { row := hazardFindsUptoRow, standIns := [], harness := (true, "b8551272a335710393b7d89b7d87eb379fca644c910b63f88170117eea4883a7"), looks := false }, kinds := [], alts := [], laidByText := true, laidKinds := [.data, .data], laidTests := true, laidLooks := .later }
def HazardFindsUptoCardSaid : Prop := Claim7.holds Tryz.pinned (.plain (OpenSpec.upto hazardFindsSpec)) hazardFindsUptoCard

/-- THE SECOND FORM's CARD OF 'sledgelaw7.HazardSame'. -/
def hazardSameUptoCard : Claim7 := { stood := { row := hazardSameUptoRow, standIns := [], harness := (true, "b8551272a335710393b7d89b7d87eb379fca644c910b63f88170117eea4883a7"), looks := false }, kinds := [], alts := [], laidByText := true, laidKinds := [.data, .data], laidTests := true, laidLooks := .later }
def HazardSameUptoCardSaid : Prop := Claim7.holds Tryz.pinned (.plain (OpenSpec.upto hazardSameSpec)) hazardSameUptoCard

/-- THE SECOND FORM's CARD OF 'sledgelaw7.HazardReads'. -/
def hazardReadsUptoCard : Claim7 := { stood := { row := hazardReadsUptoRow, standIns := [], harness := (true, "b8551272a335710393b7d89b7d87eb379fca644c910b63f88170117eea4883a7"), looks := false }, kinds := [], alts := [], laidByText := true, laidKinds := [.data, .data], laidTests := true, laidLooks := .later }
def HazardReadsUptoCardSaid : Prop := Claim7.holds Tryz.pinned (.plain (OpenSpec.upto hazardReadsSpec)) hazardReadsUptoCard

/-- THE SECOND FORM's CARD OF 'sledgelaw7.HazardWrites'. -/
def hazardWritesUptoCard : Claim7 := { stood := { row := hazardWritesUptoRow, standIns := [], harness := (true, "b8551272a335710393b7d89b7d87eb379fca644c910b63f88170117eea4883a7"), looks := false }, kinds := [], alts := [], laidByText := true, laidKinds := [.data, .data], laidTests := true, laidLooks := .later }
def HazardWritesUptoCardSaid : Prop := Claim7.holds Tryz.pinned (.plain (OpenSpec.upto hazardWritesSpec)) hazardWritesUptoCard
end Rows
end Go.Proofs.YtnkadjejdppanaaGreatDoor
