/-
  DERIVED. GIVEN WITH THE SEED: THE CARDS: each row of YtbkikibdnpffpaaGreatDoorRows.lean that lists a variable, with what it lists TIED to the program's text (the seventh form; the later family's looks); each row that meets fmt, with fmt's text TOLD by the authors' own Lean function (tested against real Go, not proved from fmt's source: count such statements apart). THE CARD IS WHAT COUNTS. Prove the row's statement (the work); the ties are given (YtbkikibdnpffpaaGreatDoorTie.lean); close each card by the builder's one call (the guide's Derived/Test/ToyasCard.lean, 'card_holds'). Laid BY PROGRAM, IN A SANDBOX (cutbox-door.mjs). By AI agents, Wed Nov 11 2026. No macro, syntax, notation, axiom, sorry.
-/
import Derived.Test.YtbkikibdnpffpaaGreatDoorRows
import GoSem.ClaimSeven
namespace Go.Proofs.YtbkikibdnpffpaaGreatDoor
namespace Rows

/-- THE TIED CARD OF 'sledgelaw6.PipeCycles'. -/
def pipeCyclesCard : Claim7 := { stood := { row := pipeCyclesRow, standIns := [], harness := (true, "e028c07b7173f788ce8cae85362f43fe45e43d9f6146f830550e65a34afa1fa2"), looks := false }, kinds := [], alts := [], laidByText := true, laidKinds := [.data, .data], laidTests := true, laidLooks := .later }
def PipeCyclesCardSaid : Prop := Claim7.holds Tryz.pinned (.plain (OpenSpec.ofChange pipeCyclesSpec)) pipeCyclesCard

/-- THE TIED CARD OF 'sledgelaw6.PipeJumps'. -/
def pipeJumpsCard : Claim7 := { stood := { row := pipeJumpsRow, standIns := [], harness := (true, "e028c07b7173f788ce8cae85362f43fe45e43d9f6146f830550e65a34afa1fa2"), looks := false }, kinds := [], alts := [], laidByText := true, laidKinds := [.data, .data], laidTests := true, laidLooks := .later }
def PipeJumpsCardSaid : Prop := Claim7.holds Tryz.pinned (.plain (OpenSpec.ofChange pipeJumpsSpec)) pipeJumpsCard

/-- THE TIED CARD OF 'sledgelaw6.PipeCalls'. -/
def pipeCallsCard : Claim7 := { stood := { row := pipeCallsRow, standIns := [], harness := (true, "e028c07b7173f788ce8cae85362f43fe45e43d9f6146f830550e65a34afa1fa2"), looks := false }, kinds := [], alts := [], laidByText := true, laidKinds := [.data, .data], laidTests := true, laidLooks := .later }
def PipeCallsCardSaid : Prop := Claim7.holds Tryz.pinned (.plain (OpenSpec.ofChange pipeCallsSpec)) pipeCallsCard

/-- THE TIED CARD OF 'sledgelaw6.PipeStops'. -/
def pipeStopsCard : Claim7 := { stood := { row := pipeStopsRow, standIns := [], harness := (true, "e028c07b7173f788ce8cae85362f43fe45e43d9f6146f830550e65a34afa1fa2"), looks := false }, kinds := [], alts := [], laidByText := true, laidKinds := [.data, .data], laidTests := true, laidLooks := .later }
def PipeStopsCardSaid : Prop := Claim7.holds Tryz.pinned (.plain (OpenSpec.ofChange pipeStopsSpec)) pipeStopsCard

/-- THE TIED CARD OF 'sledgelaw6.PipeHalts'. -/
def pipeHaltsCard : Claim7 := { stood := { row := pipeHaltsRow, standIns := [], harness := (true, "e028c07b7173f788ce8cae85362f43fe45e43d9f6146f830550e65a34afa1fa2"), looks := false }, kinds := [], alts := [], laidByText := true, laidKinds := [.data, .data], laidTests := true, laidLooks := .later }
def PipeHaltsCardSaid : Prop := Claim7.holds Tryz.pinned (.plain (OpenSpec.ofChange pipeHaltsSpec)) pipeHaltsCard

/-- THE TIED CARD OF 'sledgelaw6.PipePorts'. -/
def pipePortsCard : Claim7 := { stood := { row := pipePortsRow, standIns := [], harness := (true, "e028c07b7173f788ce8cae85362f43fe45e43d9f6146f830550e65a34afa1fa2"), looks := false }, kinds := [], alts := [], laidByText := true, laidKinds := [.data, .data], laidTests := true, laidLooks := .later }
def PipePortsCardSaid : Prop := Claim7.holds Tryz.pinned (.plain (OpenSpec.ofChange pipePortsSpec)) pipePortsCard

/-- THE SECOND FORM's CARD OF 'sledgelaw6.PipeCycles'. -/
def pipeCyclesUptoCard : Claim7 := { stood := { row := pipeCyclesUptoRow, standIns := [], harness := (true, "e028c07b7173f788ce8cae85362f43fe45e43d9f6146f830550e65a34afa1fa2"), looks := false }, kinds := [], alts := [], laidByText := true, laidKinds := [.data, .data], laidTests := true, laidLooks := .later }
def PipeCyclesUptoCardSaid : Prop := Claim7.holds Tryz.pinned (.plain (OpenSpec.upto pipeCyclesSpec)) pipeCyclesUptoCard

/-- THE SECOND FORM's CARD OF 'sledgelaw6.PipeJumps'. -/
def pipeJumpsUptoCard : Claim7 := { stood := { row := pipeJumpsUptoRow, standIns := [], harness := (true, "e028c07b7173f788ce8cae85362f43fe45e43d9f6146f830550e65a34afa1fa2"), looks := false }, kinds := [], alts := [], laidByText := true, laidKinds := [.data, .data], laidTests := true, laidLooks := .later }
def PipeJumpsUptoCardSaid : Prop := Claim7.holds Tryz.pinned (.plain (OpenSpec.upto pipeJumpsSpec)) pipeJumpsUptoCard

/-- THE SECOND FORM's CARD OF 'sledgelaw6.PipeCalls'. -/
def pipeCallsUptoCard : Claim7 := { stood := { row := pipeCallsUptoRow, standIns := [], harness := (true, "e028c07b7173f788ce8cae85362f43fe45e43d9f6146f830550e65a34afa1fa2"), looks := false }, kinds := [], alts := [], laidByText := true, laidKinds := [.data, .data], laidTests := true, laidLooks := .later }
def PipeCallsUptoCardSaid : Prop := Claim7.holds Tryz.pinned (.plain (OpenSpec.upto pipeCallsSpec)) pipeCallsUptoCard

/-- THE SECOND FORM's CARD OF 'sledgelaw6.PipeStops'. -/
def pipeStopsUptoCard : Claim7 := { stood := { row := pipeStopsUptoRow, standIns := [], harness := (true, "e028c07b7173f788ce8cae85362f43fe45e43d9f6146f830550e65a34afa1fa2"), looks := false }, kinds := [], alts := [], laidByText := true, laidKinds := [.data, .data], laidTests := true, laidLooks := .later }
def PipeStopsUptoCardSaid : Prop := Claim7.holds Tryz.pinned (.plain (OpenSpec.upto pipeStopsSpec)) pipeStopsUptoCard

/-- THE SECOND FORM's CARD OF 'sledgelaw6.PipeHalts'. -/
def pipeHaltsUptoCard : Claim7 := { stood := { row := pipeHaltsUptoRow, standIns := [], harness := (true, "e028c07b7173f788ce8cae85362f43fe45e43d9f6146f830550e65a34afa1fa2"), looks := false }, kinds := [], alts := [], laidByText := true, laidKinds := [.data, .data], laidTests := true, laidLooks := .later }
def PipeHaltsUptoCardSaid : Prop := Claim7.holds Tryz.pinned (.plain (OpenSpec.upto pipeHaltsSpec)) pipeHaltsUptoCard

/-- THE SECOND FORM's CARD OF 'sledgelaw6.PipePorts'. -/
def pipePortsUptoCard : Claim7 := { stood := { row := pipePortsUptoRow, standIns := [], harness := (true, "e028c07b7173f788ce8cae85362f43fe45e43d9f6146f830550e65a34afa1fa2"), looks := false }, kinds := [], alts := [], laidByText := true, laidKinds := [.data, .data], laidTests := true, laidLooks := .later }
def PipePortsUptoCardSaid : Prop := Claim7.holds Tryz.pinned (.plain (OpenSpec.upto pipePortsSpec)) pipePortsUptoCard
end Rows
end Go.Proofs.YtbkikibdnpffpaaGreatDoor
