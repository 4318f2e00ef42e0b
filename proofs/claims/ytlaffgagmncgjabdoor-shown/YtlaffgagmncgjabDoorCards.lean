/-
  DERIVED. GIVEN WITH THE SEED: THE CARDS: each row of YtlaffgagmncgjabDoorRows.lean that lists a variable, with what it lists TIED to the program's text (the seventh form; the later family's looks); each row that meets fmt, with fmt's text TOLD by the authors' own Lean function (tested against real Go, not proved from fmt's source: count such statements apart). THE CARD IS WHAT COUNTS. Prove the row's statement (the work); the ties are given (YtlaffgagmncgjabDoorTie.lean); close each card by the builder's one call (the guide's Derived/Test/ToyasCard.lean, 'card_holds'). Laid BY PROGRAM, IN A SANDBOX (cutbox-door.mjs). By AI agents, Wed Nov 11 2026. No macro, syntax, notation, axiom, sorry.
-/
import Derived.Test.YtlaffgagmncgjabDoorRows
import GoSem.ClaimSeven
namespace Go.Proofs.YtlaffgagmncgjabDoor
namespace Rows

/-- THE TIED CARD OF 'patcheskeep.Came'. -/
def cameCard : Claim7 := { stood := { row := cameRow, standIns := [], harness := (true, "ceb013dce4efb699df5cdcf54919e37bd06b415639f340ef01fb73a6184ffa82"), looks := false }, kinds := [], alts := [], laidByText := true, laidKinds := [.data, .data, .data], laidTests := true, laidLooks := .later }
def CameCardSaid : Prop := Claim7.holds Tryd.pinned (.plain (OpenSpec.ofChange cameSpec)) cameCard

/-- THE TIED CARD OF 'patcheskeep.Went'. -/
def wentCard : Claim7 := { stood := { row := wentRow, standIns := [], harness := (true, "ceb013dce4efb699df5cdcf54919e37bd06b415639f340ef01fb73a6184ffa82"), looks := false }, kinds := [], alts := [], laidByText := true, laidKinds := [.data, .data, .data], laidTests := true, laidLooks := .later }
def WentCardSaid : Prop := Claim7.holds Tryd.pinned (.plain (OpenSpec.ofChange wentSpec)) wentCard

/-- THE TIED CARD OF 'patcheskeep.Ordered'. -/
def orderedCard : Claim7 := { stood := { row := orderedRow, standIns := [], harness := (true, "ceb013dce4efb699df5cdcf54919e37bd06b415639f340ef01fb73a6184ffa82"), looks := false }, kinds := [], alts := [], laidByText := true, laidKinds := [.data, .data, .data], laidTests := true, laidLooks := .later }
def OrderedCardSaid : Prop := Claim7.holds Tryd.pinned (.plain (OpenSpec.ofChange orderedSpec)) orderedCard

/-- THE TIED CARD OF 'patcheskeep.Met'. -/
def metCard : Claim7 := { stood := { row := metRow, standIns := [], harness := (true, "ceb013dce4efb699df5cdcf54919e37bd06b415639f340ef01fb73a6184ffa82"), looks := false }, kinds := [], alts := [], laidByText := true, laidKinds := [.data, .data, .data], laidTests := true, laidLooks := .later }
def MetCardSaid : Prop := Claim7.holds Tryd.pinned (.plain (OpenSpec.ofChange metSpec)) metCard

/-- THE TIED CARD OF 'patcheskeep.Shown'. -/
def shownCard : Claim7 := { stood := { row := shownRow, standIns := [], harness := (true, "ceb013dce4efb699df5cdcf54919e37bd06b415639f340ef01fb73a6184ffa82"), looks := false }, kinds := [], alts := [], laidByText := true, laidKinds := [.data, .data, .data], laidTests := true, laidLooks := .later }
def ShownCardSaid : Prop := Claim7.holds Tryd.pinned (.plain (OpenSpec.ofChange shownSpec)) shownCard

/-- THE TIED CARD OF 'patcheskeep.Known'. -/
def knownCard : Claim7 := { stood := { row := knownRow, standIns := [], harness := (true, "ceb013dce4efb699df5cdcf54919e37bd06b415639f340ef01fb73a6184ffa82"), looks := false }, kinds := [], alts := [], laidByText := true, laidKinds := [.data, .data, .data], laidTests := true, laidLooks := .later }
def KnownCardSaid : Prop := Claim7.holds Tryd.pinned (.plain (OpenSpec.ofChange knownSpec)) knownCard

/-- THE SECOND FORM's CARD OF 'patcheskeep.Came'. -/
def cameUptoCard : Claim7 := { stood := { row := cameUptoRow, standIns := [], harness := (true, "ceb013dce4efb699df5cdcf54919e37bd06b415639f340ef01fb73a6184ffa82"), looks := false }, kinds := [], alts := [], laidByText := true, laidKinds := [.data, .data, .data], laidTests := true, laidLooks := .later }
def CameUptoCardSaid : Prop := Claim7.holds Tryd.pinned (.plain (OpenSpec.upto cameSpec)) cameUptoCard

/-- THE SECOND FORM's CARD OF 'patcheskeep.Went'. -/
def wentUptoCard : Claim7 := { stood := { row := wentUptoRow, standIns := [], harness := (true, "ceb013dce4efb699df5cdcf54919e37bd06b415639f340ef01fb73a6184ffa82"), looks := false }, kinds := [], alts := [], laidByText := true, laidKinds := [.data, .data, .data], laidTests := true, laidLooks := .later }
def WentUptoCardSaid : Prop := Claim7.holds Tryd.pinned (.plain (OpenSpec.upto wentSpec)) wentUptoCard

/-- THE SECOND FORM's CARD OF 'patcheskeep.Ordered'. -/
def orderedUptoCard : Claim7 := { stood := { row := orderedUptoRow, standIns := [], harness := (true, "ceb013dce4efb699df5cdcf54919e37bd06b415639f340ef01fb73a6184ffa82"), looks := false }, kinds := [], alts := [], laidByText := true, laidKinds := [.data, .data, .data], laidTests := true, laidLooks := .later }
def OrderedUptoCardSaid : Prop := Claim7.holds Tryd.pinned (.plain (OpenSpec.upto orderedSpec)) orderedUptoCard

/-- THE SECOND FORM's CARD OF 'patcheskeep.Met'. -/
def metUptoCard : Claim7 := { stood := { row := metUptoRow, standIns := [], harness := (true, "ceb013dce4efb699df5cdcf54919e37bd06b415639f340ef01fb73a6184ffa82"), looks := false }, kinds := [], alts := [], laidByText := true, laidKinds := [.data, .data, .data], laidTests := true, laidLooks := .later }
def MetUptoCardSaid : Prop := Claim7.holds Tryd.pinned (.plain (OpenSpec.upto metSpec)) metUptoCard

/-- THE SECOND FORM's CARD OF 'patcheskeep.Shown'. -/
def shownUptoCard : Claim7 := { stood := { row := shownUptoRow, standIns := [], harness := (true, "ceb013dce4efb699df5cdcf54919e37bd06b415639f340ef01fb73a6184ffa82"), looks := false }, kinds := [], alts := [], laidByText := true, laidKinds := [.data, .data, .data], laidTests := true, laidLooks := .later }
def ShownUptoCardSaid : Prop := Claim7.holds Tryd.pinned (.plain (OpenSpec.upto shownSpec)) shownUptoCard

/-- THE SECOND FORM's CARD OF 'patcheskeep.Known'. -/
def knownUptoCard : Claim7 := { stood := { row := knownUptoRow, standIns := [], harness := (true, "ceb013dce4efb699df5cdcf54919e37bd06b415639f340ef01fb73a6184ffa82"), looks := false }, kinds := [], alts := [], laidByText := true, laidKinds := [.data, .data, .data], laidTests := true, laidLooks := .later }
def KnownUptoCardSaid : Prop := Claim7.holds Tryd.pinned (.plain (OpenSpec.upto knownSpec)) knownUptoCard
end Rows
end Go.Proofs.YtlaffgagmncgjabDoor
