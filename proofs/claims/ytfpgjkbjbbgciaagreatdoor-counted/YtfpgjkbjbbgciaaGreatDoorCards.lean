/-
  DERIVED. GIVEN WITH THE SEED: THE CARDS: each row of YtfpgjkbjbbgciaaGreatDoorRows.lean that lists a variable, with what it lists TIED to the program's text (the seventh form; the later family's looks); each row that meets fmt, with fmt's text TOLD by the authors' own Lean function (tested against real Go, not proved from fmt's source: count such statements apart). THE CARD IS WHAT COUNTS. Prove the row's statement (the work); the ties are given (YtfpgjkbjbbgciaaGreatDoorTie.lean); close each card by the builder's one call (the guide's Derived/Test/ToyasCard.lean, 'card_holds'). Laid BY PROGRAM, IN A SANDBOX (cutbox-door.mjs). By AI agents, Wed Nov 11 2026. No macro, syntax, notation, axiom, sorry.
-/
import Derived.Test.YtfpgjkbjbbgciaaGreatDoorRows
import GoSem.ClaimSeven
namespace Go.Proofs.YtfpgjkbjbbgciaaGreatDoor
namespace Rows

/-- THE TIED CARD OF 'boundedlaw.Checks'. -/
def checksCard : Claim7 := { stood := { row := checksRow, standIns := [], harness := (true, "4cddcb9cd2a3ebd9fb315ddead9d7898df40c3c35ec96db4209691eec8e772cb"), looks := true }, kinds := [], alts := [], laidByText := true, laidKinds := [.data, .data, .data, .data, .sentinel, .sentinel, .pinned], laidTests := true, laidLooks := .later }
def ChecksCardSaid : Prop := Claim7.holds Tryz.pinned (.plain (OpenSpec.ofChange checksSpec)) checksCard

/-- THE TIED CARD OF 'boundedlaw.Traces'. -/
def tracesCard : Claim7 := { stood := { row := tracesRow, standIns := [], harness := (true, "4cddcb9cd2a3ebd9fb315ddead9d7898df40c3c35ec96db4209691eec8e772cb"), looks := true }, kinds := [], alts := [], laidByText := true, laidKinds := [.data, .data, .data, .data, .sentinel, .sentinel, .pinned], laidTests := true, laidLooks := .later }
def TracesCardSaid : Prop := Claim7.holds Tryz.pinned (.plain (OpenSpec.ofChange tracesSpec)) tracesCard

/-- THE TIED CARD OF 'boundedlaw.Sound'. -/
def soundCard : Claim7 := { stood := { row := soundRow, standIns := [], harness := (true, "4cddcb9cd2a3ebd9fb315ddead9d7898df40c3c35ec96db4209691eec8e772cb"), looks := true }, kinds := [], alts := [], laidByText := true, laidKinds := [.data, .data, .data, .data, .sentinel, .sentinel, .pinned], laidTests := true, laidLooks := .later }
def SoundCardSaid : Prop := Claim7.holds Tryz.pinned (.plain (OpenSpec.ofChange soundSpec)) soundCard

/-- THE TIED CARD OF 'boundedlaw.Runs'. -/
def runsCard : Claim7 := { stood := { row := runsRow, standIns := [], harness := (true, "4cddcb9cd2a3ebd9fb315ddead9d7898df40c3c35ec96db4209691eec8e772cb"), looks := true }, kinds := [], alts := [], laidByText := true, laidKinds := [.data, .data, .data, .data, .sentinel, .sentinel, .pinned], laidTests := true, laidLooks := .later }
def RunsCardSaid : Prop := Claim7.holds Tryz.pinned (.plain (OpenSpec.ofChange runsSpec)) runsCard

/-- THE TIED CARD OF 'boundedlaw.All'. -/
def allCard : Claim7 := { stood := { row := allRow, standIns := [], harness := (true, "4cddcb9cd2a3ebd9fb315ddead9d7898df40c3c35ec96db4209691eec8e772cb"), looks := true }, kinds := [], alts := [], laidByText := true, laidKinds := [.data, .data, .data, .data, .sentinel, .sentinel, .pinned], laidTests := true, laidLooks := .later }
def AllCardSaid : Prop := Claim7.holds Tryz.pinned (.plain (OpenSpec.ofChange allSpec)) allCard

/-- THE TIED CARD OF 'boundedkeep.Counted'. -/
def countedCard : Claim7 := { stood := { row := countedRow, standIns := [], harness := (true, "4cddcb9cd2a3ebd9fb315ddead9d7898df40c3c35ec96db4209691eec8e772cb"), looks := true }, kinds := [], alts := [], laidByText := true, laidKinds := [.data, .data, .data, .data, .sentinel, .sentinel, .pinned], laidTests := true, laidLooks := .later }
def CountedCardSaid : Prop := Claim7.holds Tryz.pinned (.plain (OpenSpec.ofChange countedSpec)) countedCard

/-- THE TIED CARD OF 'boundedkeep.Ended'. -/
def endedCard : Claim7 := { stood := { row := endedRow, standIns := [], harness := (true, "4cddcb9cd2a3ebd9fb315ddead9d7898df40c3c35ec96db4209691eec8e772cb"), looks := true }, kinds := [], alts := [], laidByText := true, laidKinds := [.data, .data, .data, .data, .sentinel, .sentinel, .pinned], laidTests := true, laidLooks := .later }
def EndedCardSaid : Prop := Claim7.holds Tryz.pinned (.plain (OpenSpec.ofChange endedSpec)) endedCard

/-- THE TIED CARD OF 'boundedkeep.Endless'. -/
def endlessCard : Claim7 := { stood := { row := endlessRow, standIns := [], harness := (true, "4cddcb9cd2a3ebd9fb315ddead9d7898df40c3c35ec96db4209691eec8e772cb"), looks := true }, kinds := [], alts := [], laidByText := true, laidKinds := [.data, .data, .data, .data, .sentinel, .sentinel, .pinned], laidTests := true, laidLooks := .later }
def EndlessCardSaid : Prop := Claim7.holds Tryz.pinned (.plain (OpenSpec.ofChange endlessSpec)) endlessCard

/-- THE TIED CARD OF 'boundedkeep.Unsure'. -/
def unsureCard : Claim7 := { stood := { row := unsureRow, standIns := [], harness := (true, "4cddcb9cd2a3ebd9fb315ddead9d7898df40c3c35ec96db4209691eec8e772cb"), looks := true }, kinds := [], alts := [], laidByText := true, laidKinds := [.data, .data, .data, .data, .sentinel, .sentinel, .pinned], laidTests := true, laidLooks := .later }
def UnsureCardSaid : Prop := Claim7.holds Tryz.pinned (.plain (OpenSpec.ofChange unsureSpec)) unsureCard

/-- THE TIED CARD OF 'boundedkeep.Steps'. -/
def stepsCard : Claim7 := { stood := { row := stepsRow, standIns := [], harness := (true, "4cddcb9cd2a3ebd9fb315ddead9d7898df40c3c35ec96db4209691eec8e772cb"), looks := true }, kinds := [], alts := [], laidByText := true, laidKinds := [.data, .data, .data, .data, .sentinel, .sentinel, .pinned], laidTests := true, laidLooks := .later }
def StepsCardSaid : Prop := Claim7.holds Tryz.pinned (.plain (OpenSpec.ofChange stepsSpec)) stepsCard

/-- THE TIED CARD OF 'boundedkeep.Counting'. -/
def countingCard : Claim7 := { stood := { row := countingRow, standIns := [], harness := (true, "4cddcb9cd2a3ebd9fb315ddead9d7898df40c3c35ec96db4209691eec8e772cb"), looks := true }, kinds := [], alts := [], laidByText := true, laidKinds := [.data, .data, .data, .data, .sentinel, .sentinel, .pinned], laidTests := true, laidLooks := .later }
def CountingCardSaid : Prop := Claim7.holds Tryz.pinned (.plain (OpenSpec.ofChange countingSpec)) countingCard

/-- THE TIED CARD OF 'boundedkeep.Spelled'. -/
def spelledCard : Claim7 := { stood := { row := spelledRow, standIns := [], harness := (true, "4cddcb9cd2a3ebd9fb315ddead9d7898df40c3c35ec96db4209691eec8e772cb"), looks := true }, kinds := [], alts := [], laidByText := true, laidKinds := [.data, .data, .data, .data, .sentinel, .sentinel, .pinned], laidTests := true, laidLooks := .later }
def SpelledCardSaid : Prop := Claim7.holds Tryz.pinned (.plain (OpenSpec.ofChange spelledSpec)) spelledCard

/-- THE SECOND FORM's CARD OF 'boundedlaw.Checks'. -/
def checksUptoCard : Claim7 := { stood := { row := checksUptoRow, standIns := [], harness := (true, "4cddcb9cd2a3ebd9fb315ddead9d7898df40c3c35ec96db4209691eec8e772cb"), looks := true }, kinds := [], alts := [], laidByText := true, laidKinds := [.data, .data, .data, .data, .sentinel, .sentinel, .pinned], laidTests := true, laidLooks := .later }
def ChecksUptoCardSaid : Prop := Claim7.holds Tryz.pinned (.plain (OpenSpec.upto checksSpec)) checksUptoCard

/-- THE SECOND FORM's CARD OF 'boundedlaw.Traces'. -/
def tracesUptoCard : Claim7 := { stood := { row := tracesUptoRow, standIns := [], harness := (true, "4cddcb9cd2a3ebd9fb315ddead9d7898df40c3c35ec96db4209691eec8e772cb"), looks := true }, kinds := [], alts := [], laidByText := true, laidKinds := [.data, .data, .data, .data, .sentinel, .sentinel, .pinned], laidTests := true, laidLooks := .later }
def TracesUptoCardSaid : Prop := Claim7.holds Tryz.pinned (.plain (OpenSpec.upto tracesSpec)) tracesUptoCard

/-- THE SECOND FORM's CARD OF 'boundedlaw.Sound'. -/
def soundUptoCard : Claim7 := { stood := { row := soundUptoRow, standIns := [], harness := (true, "4cddcb9cd2a3ebd9fb315ddead9d7898df40c3c35ec96db4209691eec8e772cb"), looks := true }, kinds := [], alts := [], laidByText := true, laidKinds := [.data, .data, .data, .data, .sentinel, .sentinel, .pinned], laidTests := true, laidLooks := .later }
def SoundUptoCardSaid : Prop := Claim7.holds Tryz.pinned (.plain (OpenSpec.upto soundSpec)) soundUptoCard

/-- THE SECOND FORM's CARD OF 'boundedlaw.Runs'. -/
def runsUptoCard : Claim7 := { stood := { row := runsUptoRow, standIns := [], harness := (true, "4cddcb9cd2a3ebd9fb315ddead9d7898df40c3c35ec96db4209691eec8e772cb"), looks := true }, kinds := [], alts := [], laidByText := true, laidKinds := [.data, .data, .data, .data, .sentinel, .sentinel, .pinned], laidTests := true, laidLooks := .later }
def RunsUptoCardSaid : Prop := Claim7.holds Tryz.pinned (.plain (OpenSpec.upto runsSpec)) runsUptoCard

/-- THE SECOND FORM's CARD OF 'boundedlaw.All'. -/
def allUptoCard : Claim7 := { stood := { row := allUptoRow, standIns := [], harness := (true, "4cddcb9cd2a3ebd9fb315ddead9d7898df40c3c35ec96db4209691eec8e772cb"), looks := true }, kinds := [], alts := [], laidByText := true, laidKinds := [.data, .data, .data, .data, .sentinel, .sentinel, .pinned], laidTests := true, laidLooks := .later }
def AllUptoCardSaid : Prop := Claim7.holds Tryz.pinned (.plain (OpenSpec.upto allSpec)) allUptoCard

/-- THE SECOND FORM's CARD OF 'boundedkeep.Counted'. -/
def countedUptoCard : Claim7 := { stood := { row := countedUptoRow, standIns := [], harness := (true, "4cddcb9cd2a3ebd9fb315ddead9d7898df40c3c35ec96db4209691eec8e772cb"), looks := true }, kinds := [], alts := [], laidByText := true, laidKinds := [.data, .data, .data, .data, .sentinel, .sentinel, .pinned], laidTests := true, laidLooks := .later }
def CountedUptoCardSaid : Prop := Claim7.holds Tryz.pinned (.plain (OpenSpec.upto countedSpec)) countedUptoCard

/-- THE SECOND FORM's CARD OF 'boundedkeep.Ended'. -/
def endedUptoCard : Claim7 := { stood := { row := endedUptoRow, standIns := [], harness := (true, "4cddcb9cd2a3ebd9fb315ddead9d7898df40c3c35ec96db4209691eec8e772cb"), looks := true }, kinds := [], alts := [], laidByText := true, laidKinds := [.data, .data, .data, .data, .sentinel, .sentinel, .pinned], laidTests := true, laidLooks := .later }
def EndedUptoCardSaid : Prop := Claim7.holds Tryz.pinned (.plain (OpenSpec.upto endedSpec)) endedUptoCard

/-- THE SECOND FORM's CARD OF 'boundedkeep.Endless'. -/
def endlessUptoCard : Claim7 := { stood := { row := endlessUptoRow, standIns := [], harness := (true, "4cddcb9cd2a3ebd9fb315ddead9d7898df40c3c35ec96db4209691eec8e772cb"), looks := true }, kinds := [], alts := [], laidByText := true, laidKinds := [.data, .data, .data, .data, .sentinel, .sentinel, .pinned], laidTests := true, laidLooks := .later }
def EndlessUptoCardSaid : Prop := Claim7.holds Tryz.pinned (.plain (OpenSpec.upto endlessSpec)) endlessUptoCard

/-- THE SECOND FORM's CARD OF 'boundedkeep.Unsure'. -/
def unsureUptoCard : Claim7 := { stood := { row := unsureUptoRow, standIns := [], harness := (true, "4cddcb9cd2a3ebd9fb315ddead9d7898df40c3c35ec96db4209691eec8e772cb"), looks := true }, kinds := [], alts := [], laidByText := true, laidKinds := [.data, .data, .data, .data, .sentinel, .sentinel, .pinned], laidTests := true, laidLooks := .later }
def UnsureUptoCardSaid : Prop := Claim7.holds Tryz.pinned (.plain (OpenSpec.upto unsureSpec)) unsureUptoCard

/-- THE SECOND FORM's CARD OF 'boundedkeep.Steps'. -/
def stepsUptoCard : Claim7 := { stood := { row := stepsUptoRow, standIns := [], harness := (true, "4cddcb9cd2a3ebd9fb315ddead9d7898df40c3c35ec96db4209691eec8e772cb"), looks := true }, kinds := [], alts := [], laidByText := true, laidKinds := [.data, .data, .data, .data, .sentinel, .sentinel, .pinned], laidTests := true, laidLooks := .later }
def StepsUptoCardSaid : Prop := Claim7.holds Tryz.pinned (.plain (OpenSpec.upto stepsSpec)) stepsUptoCard

/-- THE SECOND FORM's CARD OF 'boundedkeep.Counting'. -/
def countingUptoCard : Claim7 := { stood := { row := countingUptoRow, standIns := [], harness := (true, "4cddcb9cd2a3ebd9fb315ddead9d7898df40c3c35ec96db4209691eec8e772cb"), looks := true }, kinds := [], alts := [], laidByText := true, laidKinds := [.data, .data, .data, .data, .sentinel, .sentinel, .pinned], laidTests := true, laidLooks := .later }
def CountingUptoCardSaid : Prop := Claim7.holds Tryz.pinned (.plain (OpenSpec.upto countingSpec)) countingUptoCard

/-- THE SECOND FORM's CARD OF 'boundedkeep.Spelled'. -/
def spelledUptoCard : Claim7 := { stood := { row := spelledUptoRow, standIns := [], harness := (true, "4cddcb9cd2a3ebd9fb315ddead9d7898df40c3c35ec96db4209691eec8e772cb"), looks := true }, kinds := [], alts := [], laidByText := true, laidKinds := [.data, .data, .data, .data, .sentinel, .sentinel, .pinned], laidTests := true, laidLooks := .later }
def SpelledUptoCardSaid : Prop := Claim7.holds Tryz.pinned (.plain (OpenSpec.upto spelledSpec)) spelledUptoCard
end Rows
end Go.Proofs.YtfpgjkbjbbgciaaGreatDoor
