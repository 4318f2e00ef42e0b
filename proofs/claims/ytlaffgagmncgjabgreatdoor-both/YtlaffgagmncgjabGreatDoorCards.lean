/-
  DERIVED. GIVEN WITH THE SEED: THE CARDS: each row of YtlaffgagmncgjabGreatDoorRows.lean that lists a variable, with what it lists TIED to the program's text (the seventh form; the later family's looks); each row that meets fmt, with fmt's text TOLD by the authors' own Lean function (tested against real Go, not proved from fmt's source: count such statements apart). THE CARD IS WHAT COUNTS. Prove the row's statement (the work); the ties are given (YtlaffgagmncgjabGreatDoorTie.lean); close each card by the builder's one call (the guide's Derived/Test/ToyasCard.lean, 'card_holds'). Laid BY PROGRAM, IN A SANDBOX (cutbox-door.mjs). By AI agents, Wed Nov 11 2026. No macro, syntax, notation, axiom, sorry.
-/
import Derived.Test.YtlaffgagmncgjabGreatDoorRows
import GoSem.ClaimSeven
namespace Go.Proofs.YtlaffgagmncgjabGreatDoor
namespace Rows

/-- THE TIED CARD OF 'patcheslaw.All'. -/
def allCard : Claim7 := { stood := { row := allRow, standIns := [], harness := (true, "6e2fcf4a4daff4a52cc8d41ddbf6105de166d653d6d42281a7a0a1e385e63e0a"), looks := false }, kinds := [], alts := [], laidByText := true, laidKinds := [.data, .data, .data], laidTests := true, laidLooks := .later }
def AllCardSaid : Prop := Claim7.holds Tryz.pinned (.plain (OpenSpec.ofChange allSpec)) allCard

/-- THE TIED CARD OF 'patcheskeep.Recorded'. -/
def recordedCard : Claim7 := { stood := { row := recordedRow, standIns := [], harness := (true, "6e2fcf4a4daff4a52cc8d41ddbf6105de166d653d6d42281a7a0a1e385e63e0a"), looks := false }, kinds := [], alts := [], laidByText := true, laidKinds := [.data, .data, .data], laidTests := true, laidLooks := .later }
def RecordedCardSaid : Prop := Claim7.holds Tryz.pinned (.plain (OpenSpec.ofChange recordedSpec)) recordedCard

/-- THE TIED CARD OF 'patcheskeep.Both'. -/
def bothCard : Claim7 := { stood := { row := bothRow, standIns := [], harness := (true, "6e2fcf4a4daff4a52cc8d41ddbf6105de166d653d6d42281a7a0a1e385e63e0a"), looks := false }, kinds := [], alts := [], laidByText := true, laidKinds := [.data, .data, .data], laidTests := true, laidLooks := .later }
def BothCardSaid : Prop := Claim7.holds Tryz.pinned (.plain (OpenSpec.ofChange bothSpec)) bothCard

/-- THE SECOND FORM's CARD OF 'patcheslaw.All'. -/
def allUptoCard : Claim7 := { stood := { row := allUptoRow, standIns := [], harness := (true, "6e2fcf4a4daff4a52cc8d41ddbf6105de166d653d6d42281a7a0a1e385e63e0a"), looks := false }, kinds := [], alts := [], laidByText := true, laidKinds := [.data, .data, .data], laidTests := true, laidLooks := .later }
def AllUptoCardSaid : Prop := Claim7.holds Tryz.pinned (.plain (OpenSpec.upto allSpec)) allUptoCard

/-- THE SECOND FORM's CARD OF 'patcheskeep.Recorded'. -/
def recordedUptoCard : Claim7 := { stood := { row := recordedUptoRow, standIns := [], harness := (true, "6e2fcf4a4daff4a52cc8d41ddbf6105de166d653d6d42281a7a0a1e385e63e0a"), looks := false }, kinds := [], alts := [], laidByText := true, laidKinds := [.data, .data, .data], laidTests := true, laidLooks := .later }
def RecordedUptoCardSaid : Prop := Claim7.holds Tryz.pinned (.plain (OpenSpec.upto recordedSpec)) recordedUptoCard

/-- THE SECOND FORM's CARD OF 'patcheskeep.Both'. -/
def bothUptoCard : Claim7 := { stood := { row := bothUptoRow, standIns := [], harness := (true, "6e2fcf4a4daff4a52cc8d41ddbf6105de166d653d6d42281a7a0a1e385e63e0a"), looks := false }, kinds := [], alts := [], laidByText := true, laidKinds := [.data, .data, .data], laidTests := true, laidLooks := .later }
def BothUptoCardSaid : Prop := Claim7.holds Tryz.pinned (.plain (OpenSpec.upto bothSpec)) bothUptoCard
end Rows
end Go.Proofs.YtlaffgagmncgjabGreatDoor
