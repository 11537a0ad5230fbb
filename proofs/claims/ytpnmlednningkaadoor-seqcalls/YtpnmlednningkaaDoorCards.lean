/-
  DERIVED. GIVEN WITH THE SEED: THE CARDS: each row of YtpnmlednningkaaDoorRows.lean that lists a variable, with what it lists TIED to the program's text (the seventh form; the later family's looks); each row that meets fmt, with fmt's text TOLD by the authors' own Lean function (tested against real Go, not proved from fmt's source: count such statements apart). THE CARD IS WHAT COUNTS. Prove the row's statement (the work); the ties are given (YtpnmlednningkaaDoorTie.lean); close each card by the builder's one call (the guide's Derived/Test/ToyasCard.lean, 'card_holds'). Laid BY PROGRAM, IN A SANDBOX (cutbox-door.mjs). By AI agents, Wed Nov 11 2026. No macro, syntax, notation, axiom, sorry.
-/
import Derived.Test.YtpnmlednningkaaDoorRows
import GoSem.ClaimSeven
namespace Go.Proofs.YtpnmlednningkaaDoor
namespace Rows

/-- THE TIED CARD OF 'sledgelaw5.SeqSteps'. -/
def seqStepsCard : Claim7 := { stood := { row := seqStepsRow, standIns := [], harness := (true, "1f13804dd45b0a3bbb7c7e7d622f441db961b7cea4b7b449f0f21ae591faa215"), looks := false }, kinds := [], alts := [], laidByText := true, laidKinds := [.data, .data], laidTests := true, laidLooks := .later }
def SeqStepsCardSaid : Prop := Claim7.holds Tryd.pinned (.plain (OpenSpec.ofChange seqStepsSpec)) seqStepsCard

/-- THE TIED CARD OF 'sledgelaw5.SeqGoes'. -/
def seqGoesCard : Claim7 := { stood := { row := seqGoesRow, standIns := [], harness := (true, "1f13804dd45b0a3bbb7c7e7d622f441db961b7cea4b7b449f0f21ae591faa215"), looks := false }, kinds := [], alts := [], laidByText := true, laidKinds := [.data, .data], laidTests := true, laidLooks := .later }
def SeqGoesCardSaid : Prop := Claim7.holds Tryd.pinned (.plain (OpenSpec.ofChange seqGoesSpec)) seqGoesCard

/-- THE TIED CARD OF 'sledgelaw5.SeqAlu'. -/
def seqAluCard : Claim7 := { stood := { row := seqAluRow, standIns := [], harness := (true, "1f13804dd45b0a3bbb7c7e7d622f441db961b7cea4b7b449f0f21ae591faa215"), looks := false }, kinds := [], alts := [], laidByText := true, laidKinds := [.data, .data], laidTests := true, laidLooks := .later }
def SeqAluCardSaid : Prop := Claim7.holds Tryd.pinned (.plain (OpenSpec.ofChange seqAluSpec)) seqAluCard

/-- THE TIED CARD OF 'sledgelaw5.SeqPairs'. -/
def seqPairsCard : Claim7 := { stood := { row := seqPairsRow, standIns := [], harness := (true, "1f13804dd45b0a3bbb7c7e7d622f441db961b7cea4b7b449f0f21ae591faa215"), looks := false }, kinds := [], alts := [], laidByText := true, laidKinds := [.data, .data], laidTests := true, laidLooks := .later }
def SeqPairsCardSaid : Prop := Claim7.holds Tryd.pinned (.plain (OpenSpec.ofChange seqPairsSpec)) seqPairsCard

/-- THE TIED CARD OF 'sledgelaw5.SeqQuotients'. -/
def seqQuotientsCard : Claim7 := { stood := { row := seqQuotientsRow, standIns := [], harness := (true, "1f13804dd45b0a3bbb7c7e7d622f441db961b7cea4b7b449f0f21ae591faa215"), looks := false }, kinds := [], alts := [], laidByText := true, laidKinds := [.data, .data], laidTests := true, laidLooks := .later }
def SeqQuotientsCardSaid : Prop := Claim7.holds Tryd.pinned (.plain (OpenSpec.ofChange seqQuotientsSpec)) seqQuotientsCard

/-- THE TIED CARD OF 'sledgelaw5.SeqMemory'. -/
def seqMemoryCard : Claim7 := { stood := { row := seqMemoryRow, standIns := [], harness := (true, "1f13804dd45b0a3bbb7c7e7d622f441db961b7cea4b7b449f0f21ae591faa215"), looks := false }, kinds := [], alts := [], laidByText := true, laidKinds := [.data, .data], laidTests := true, laidLooks := .later }
def SeqMemoryCardSaid : Prop := Claim7.holds Tryd.pinned (.plain (OpenSpec.ofChange seqMemorySpec)) seqMemoryCard

/-- THE TIED CARD OF 'sledgelaw5.SeqJumps'. -/
def seqJumpsCard : Claim7 := { stood := { row := seqJumpsRow, standIns := [], harness := (true, "1f13804dd45b0a3bbb7c7e7d622f441db961b7cea4b7b449f0f21ae591faa215"), looks := false }, kinds := [], alts := [], laidByText := true, laidKinds := [.data, .data], laidTests := true, laidLooks := .later }
def SeqJumpsCardSaid : Prop := Claim7.holds Tryd.pinned (.plain (OpenSpec.ofChange seqJumpsSpec)) seqJumpsCard

/-- THE TIED CARD OF 'sledgelaw5.SeqCalls'. -/
def seqCallsCard : Claim7 := { stood := { row := seqCallsRow, standIns := [], harness := (true, "1f13804dd45b0a3bbb7c7e7d622f441db961b7cea4b7b449f0f21ae591faa215"), looks := false }, kinds := [], alts := [], laidByText := true, laidKinds := [.data, .data], laidTests := true, laidLooks := .later }
def SeqCallsCardSaid : Prop := Claim7.holds Tryd.pinned (.plain (OpenSpec.ofChange seqCallsSpec)) seqCallsCard

/-- THE TIED CARD OF 'sledgelaw5.SeqPorts'. -/
def seqPortsCard : Claim7 := { stood := { row := seqPortsRow, standIns := [], harness := (true, "1f13804dd45b0a3bbb7c7e7d622f441db961b7cea4b7b449f0f21ae591faa215"), looks := false }, kinds := [], alts := [], laidByText := true, laidKinds := [.data, .data], laidTests := true, laidLooks := .later }
def SeqPortsCardSaid : Prop := Claim7.holds Tryd.pinned (.plain (OpenSpec.ofChange seqPortsSpec)) seqPortsCard

/-- THE SECOND FORM's CARD OF 'sledgelaw5.SeqSteps'. -/
def seqStepsUptoCard : Claim7 := { stood := { row := seqStepsUptoRow, standIns := [], harness := (true, "1f13804dd45b0a3bbb7c7e7d622f441db961b7cea4b7b449f0f21ae591faa215"), looks := false }, kinds := [], alts := [], laidByText := true, laidKinds := [.data, .data], laidTests := true, laidLooks := .later }
def SeqStepsUptoCardSaid : Prop := Claim7.holds Tryd.pinned (.plain (OpenSpec.upto seqStepsSpec)) seqStepsUptoCard

/-- THE SECOND FORM's CARD OF 'sledgelaw5.SeqGoes'. -/
def seqGoesUptoCard : Claim7 := { stood := { row := seqGoesUptoRow, standIns := [], harness := (true, "1f13804dd45b0a3bbb7c7e7d622f441db961b7cea4b7b449f0f21ae591faa215"), looks := false }, kinds := [], alts := [], laidByText := true, laidKinds := [.data, .data], laidTests := true, laidLooks := .later }
def SeqGoesUptoCardSaid : Prop := Claim7.holds Tryd.pinned (.plain (OpenSpec.upto seqGoesSpec)) seqGoesUptoCard

/-- THE SECOND FORM's CARD OF 'sledgelaw5.SeqAlu'. -/
def seqAluUptoCard : Claim7 := { stood := { row := seqAluUptoRow, standIns := [], harness := (true, "1f13804dd45b0a3bbb7c7e7d622f441db961b7cea4b7b449f0f21ae591faa215"), looks := false }, kinds := [], alts := [], laidByText := true, laidKinds := [.data, .data], laidTests := true, laidLooks := .later }
def SeqAluUptoCardSaid : Prop := Claim7.holds Tryd.pinned (.plain (OpenSpec.upto seqAluSpec)) seqAluUptoCard

/-- THE SECOND FORM's CARD OF 'sledgelaw5.SeqPairs'. -/
def seqPairsUptoCard : Claim7 := { stood := { row := seqPairsUptoRow, standIns := [], harness := (true, "1f13804dd45b0a3bbb7c7e7d622f441db961b7cea4b7b449f0f21ae591faa215"), looks := false }, kinds := [], alts := [], laidByText := true, laidKinds := [.data, .data], laidTests := true, laidLooks := .later }
def SeqPairsUptoCardSaid : Prop := Claim7.holds Tryd.pinned (.plain (OpenSpec.upto seqPairsSpec)) seqPairsUptoCard

/-- THE SECOND FORM's CARD OF 'sledgelaw5.SeqQuotients'. -/
def seqQuotientsUptoCard : Claim7 := { stood := { row := seqQuotientsUptoRow, standIns := [], harness := (true, "1f13804dd45b0a3bbb7c7e7d622f441db961b7cea4b7b449f0f21ae591faa215"), looks := false }, kinds := [], alts := [], laidByText := true, laidKinds := [.data, .data], laidTests := true, laidLooks := .later }
def SeqQuotientsUptoCardSaid : Prop := Claim7.holds Tryd.pinned (.plain (OpenSpec.upto seqQuotientsSpec)) seqQuotientsUptoCard

/-- THE SECOND FORM's CARD OF 'sledgelaw5.SeqMemory'. -/
def seqMemoryUptoCard : Claim7 := { stood := { row := seqMemoryUptoRow, standIns := [], harness := (true, "1f13804dd45b0a3bbb7c7e7d622f441db961b7cea4b7b449f0f21ae591faa215"), looks := false }, kinds := [], alts := [], laidByText := true, laidKinds := [.data, .data], laidTests := true, laidLooks := .later }
def SeqMemoryUptoCardSaid : Prop := Claim7.holds Tryd.pinned (.plain (OpenSpec.upto seqMemorySpec)) seqMemoryUptoCard

/-- THE SECOND FORM's CARD OF 'sledgelaw5.SeqJumps'. -/
def seqJumpsUptoCard : Claim7 := { stood := { row := seqJumpsUptoRow, standIns := [], harness := (true, "1f13804dd45b0a3bbb7c7e7d622f441db961b7cea4b7b449f0f21ae591faa215"), looks := false }, kinds := [], alts := [], laidByText := true, laidKinds := [.data, .data], laidTests := true, laidLooks := .later }
def SeqJumpsUptoCardSaid : Prop := Claim7.holds Tryd.pinned (.plain (OpenSpec.upto seqJumpsSpec)) seqJumpsUptoCard

/-- THE SECOND FORM's CARD OF 'sledgelaw5.SeqCalls'. -/
def seqCallsUptoCard : Claim7 := { stood := { row := seqCallsUptoRow, standIns := [], harness := (true, "1f13804dd45b0a3bbb7c7e7d622f441db961b7cea4b7b449f0f21ae591faa215"), looks := false }, kinds := [], alts := [], laidByText := true, laidKinds := [.data, .data], laidTests := true, laidLooks := .later }
def SeqCallsUptoCardSaid : Prop := Claim7.holds Tryd.pinned (.plain (OpenSpec.upto seqCallsSpec)) seqCallsUptoCard

/-- THE SECOND FORM's CARD OF 'sledgelaw5.SeqPorts'. -/
def seqPortsUptoCard : Claim7 := { stood := { row := seqPortsUptoRow, standIns := [], harness := (true, "1f13804dd45b0a3bbb7c7e7d622f441db961b7cea4b7b449f0f21ae591faa215"), looks := false }, kinds := [], alts := [], laidByText := true, laidKinds := [.data, .data], laidTests := true, laidLooks := .later }
def SeqPortsUptoCardSaid : Prop := Claim7.holds Tryd.pinned (.plain (OpenSpec.upto seqPortsSpec)) seqPortsUptoCard
end Rows
end Go.Proofs.YtpnmlednningkaaDoor
