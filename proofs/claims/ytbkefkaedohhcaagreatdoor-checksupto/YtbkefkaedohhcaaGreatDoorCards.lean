/-
  DERIVED. GIVEN WITH THE SEED: THE CARDS: each row of YtbkefkaedohhcaaGreatDoorRows.lean that lists a variable, with what it lists TIED to the program's text (the seventh form; the later family's looks); each row that meets fmt, with fmt's text TOLD by the authors' own Lean function (tested against real Go, not proved from fmt's source: count such statements apart). THE CARD IS WHAT COUNTS. Prove the row's statement (the work); the ties are given (YtbkefkaedohhcaaGreatDoorTie.lean); close each card by the builder's one call (the guide's Derived/Test/ToyasCard.lean, 'card_holds'). Laid BY PROGRAM, IN A SANDBOX (cutbox-door.mjs). By AI agents, Wed Nov 11 2026. No macro, syntax, notation, axiom, sorry.
-/
import Derived.Test.YtbkefkaedohhcaaGreatDoorRows
import GoSem.ClaimSeven
namespace Go.Proofs.YtbkefkaedohhcaaGreatDoor
namespace Rows

/-- THE TIED CARD OF 'boundedlaw.Checks'. -/
def checksCard : Claim7 := { stood := { row := checksRow, standIns := [], harness := (true, "18518c45ba81442642c4deee4b9982a2a608860a2941c96cde6ff19346659503"), looks := true }, kinds := [], alts := [], laidByText := true, laidKinds := [.data, .data, .data, .data, .sentinel, .sentinel, .pinned], laidTests := true, laidLooks := .later }
def ChecksCardSaid : Prop := Claim7.holds Tryz.pinned (.plain (OpenSpec.ofChange checksSpec)) checksCard

/-- THE TIED CARD OF 'boundedlaw.Traces'. -/
def tracesCard : Claim7 := { stood := { row := tracesRow, standIns := [], harness := (true, "18518c45ba81442642c4deee4b9982a2a608860a2941c96cde6ff19346659503"), looks := true }, kinds := [], alts := [], laidByText := true, laidKinds := [.data, .data, .data, .data, .sentinel, .sentinel, .pinned], laidTests := true, laidLooks := .later }
def TracesCardSaid : Prop := Claim7.holds Tryz.pinned (.plain (OpenSpec.ofChange tracesSpec)) tracesCard

/-- THE TIED CARD OF 'boundedkeep.Steps'. -/
def stepsCard : Claim7 := { stood := { row := stepsRow, standIns := [], harness := (true, "18518c45ba81442642c4deee4b9982a2a608860a2941c96cde6ff19346659503"), looks := true }, kinds := [], alts := [], laidByText := true, laidKinds := [.data, .data, .data, .data, .sentinel, .sentinel, .pinned], laidTests := true, laidLooks := .later }
def StepsCardSaid : Prop := Claim7.holds Tryz.pinned (.plain (OpenSpec.ofChange stepsSpec)) stepsCard

/-- THE TIED CARD OF 'boundedkeep.Counting'. -/
def countingCard : Claim7 := { stood := { row := countingRow, standIns := [], harness := (true, "18518c45ba81442642c4deee4b9982a2a608860a2941c96cde6ff19346659503"), looks := true }, kinds := [], alts := [], laidByText := true, laidKinds := [.data, .data, .data, .data, .sentinel, .sentinel, .pinned], laidTests := true, laidLooks := .later }
def CountingCardSaid : Prop := Claim7.holds Tryz.pinned (.plain (OpenSpec.ofChange countingSpec)) countingCard

/-- THE TIED CARD OF 'boundedkeep.Spelled'. -/
def spelledCard : Claim7 := { stood := { row := spelledRow, standIns := [], harness := (true, "18518c45ba81442642c4deee4b9982a2a608860a2941c96cde6ff19346659503"), looks := true }, kinds := [], alts := [], laidByText := true, laidKinds := [.data, .data, .data, .data, .sentinel, .sentinel, .pinned], laidTests := true, laidLooks := .later }
def SpelledCardSaid : Prop := Claim7.holds Tryz.pinned (.plain (OpenSpec.ofChange spelledSpec)) spelledCard

/-- THE SECOND FORM's CARD OF 'boundedlaw.Checks'. -/
def checksUptoCard : Claim7 := { stood := { row := checksUptoRow, standIns := [], harness := (true, "18518c45ba81442642c4deee4b9982a2a608860a2941c96cde6ff19346659503"), looks := true }, kinds := [], alts := [], laidByText := true, laidKinds := [.data, .data, .data, .data, .sentinel, .sentinel, .pinned], laidTests := true, laidLooks := .later }
def ChecksUptoCardSaid : Prop := Claim7.holds Tryz.pinned (.plain (OpenSpec.upto checksSpec)) checksUptoCard

/-- THE SECOND FORM's CARD OF 'boundedlaw.Traces'. -/
def tracesUptoCard : Claim7 := { stood := { row := tracesUptoRow, standIns := [], harness := (true, "18518c45ba81442642c4deee4b9982a2a608860a2941c96cde6ff19346659503"), looks := true }, kinds := [], alts := [], laidByText := true, laidKinds := [.data, .data, .data, .data, .sentinel, .sentinel, .pinned], laidTests := true, laidLooks := .later }
def TracesUptoCardSaid : Prop := Claim7.holds Tryz.pinned (.plain (OpenSpec.upto tracesSpec)) tracesUptoCard

/-- THE SECOND FORM's CARD OF 'boundedkeep.Steps'. -/
def stepsUptoCard : Claim7 := { stood := { row := stepsUptoRow, standIns := [], harness := (true, "18518c45ba81442642c4deee4b9982a2a608860a2941c96cde6ff19346659503"), looks := true }, kinds := [], alts := [], laidByText := true, laidKinds := [.data, .data, .data, .data, .sentinel, .sentinel, .pinned], laidTests := true, laidLooks := .later }
def StepsUptoCardSaid : Prop := Claim7.holds Tryz.pinned (.plain (OpenSpec.upto stepsSpec)) stepsUptoCard

/-- THE SECOND FORM's CARD OF 'boundedkeep.Counting'. -/
def countingUptoCard : Claim7 := { stood := { row := countingUptoRow, standIns := [], harness := (true, "18518c45ba81442642c4deee4b9982a2a608860a2941c96cde6ff19346659503"), looks := true }, kinds := [], alts := [], laidByText := true, laidKinds := [.data, .data, .data, .data, .sentinel, .sentinel, .pinned], laidTests := true, laidLooks := .later }
def CountingUptoCardSaid : Prop := Claim7.holds Tryz.pinned (.plain (OpenSpec.upto countingSpec)) countingUptoCard

/-- THE SECOND FORM's CARD OF 'boundedkeep.Spelled'. -/
def spelledUptoCard : Claim7 := { stood := { row := spelledUptoRow, standIns := [], harness := (true, "18518c45ba81442642c4deee4b9982a2a608860a2941c96cde6ff19346659503"), looks := true }, kinds := [], alts := [], laidByText := true, laidKinds := [.data, .data, .data, .data, .sentinel, .sentinel, .pinned], laidTests := true, laidLooks := .later }
def SpelledUptoCardSaid : Prop := Claim7.holds Tryz.pinned (.plain (OpenSpec.upto spelledSpec)) spelledUptoCard
end Rows
end Go.Proofs.YtbkefkaedohhcaaGreatDoor
