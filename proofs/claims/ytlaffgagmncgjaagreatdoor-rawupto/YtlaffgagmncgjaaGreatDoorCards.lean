/-
  DERIVED. GIVEN WITH THE SEED: THE CARDS: each row of YtlaffgagmncgjaaGreatDoorRows.lean that lists a variable, with what it lists TIED to the program's text (the seventh form; the later family's looks); each row that meets fmt, with fmt's text TOLD by the authors' own Lean function (tested against real Go, not proved from fmt's source: count such statements apart). THE CARD IS WHAT COUNTS. Prove the row's statement (the work); the ties are given (YtlaffgagmncgjaaGreatDoorTie.lean); close each card by the builder's one call (the guide's Derived/Test/ToyasCard.lean, 'card_holds'). Laid BY PROGRAM, IN A SANDBOX (cutbox-door.mjs). By AI agents, Wed Nov 11 2026. No macro, syntax, notation, axiom, sorry.
-/
import Derived.Test.YtlaffgagmncgjaaGreatDoorRows
import GoSem.ClaimSeven
namespace Go.Proofs.YtlaffgagmncgjaaGreatDoor
namespace Rows

/-- THE TIED CARD OF 'patcheslaw.Applies'. -/
def appliesCard : Claim7 := { stood := { row := appliesRow, standIns := [], harness := (true, "76d7a2d8179fc69a02eac6c254253b280077ff427307b300129274fbf34d5969"), looks := false }, kinds := [], alts := [], laidByText := true, laidKinds := [.data, .data, .data], laidTests := true, laidLooks := .later }
def AppliesCardSaid : Prop := Claim7.holds Tryz.pinned (.plain (OpenSpec.ofChange appliesSpec)) appliesCard

/-- THE TIED CARD OF 'patcheslaw.Unapplies'. -/
def unappliesCard : Claim7 := { stood := { row := unappliesRow, standIns := [], harness := (true, "76d7a2d8179fc69a02eac6c254253b280077ff427307b300129274fbf34d5969"), looks := false }, kinds := [], alts := [], laidByText := true, laidKinds := [.data, .data, .data], laidTests := true, laidLooks := .later }
def UnappliesCardSaid : Prop := Claim7.holds Tryz.pinned (.plain (OpenSpec.ofChange unappliesSpec)) unappliesCard

/-- THE TIED CARD OF 'patcheslaw.Pulls'. -/
def pullsCard : Claim7 := { stood := { row := pullsRow, standIns := [], harness := (true, "76d7a2d8179fc69a02eac6c254253b280077ff427307b300129274fbf34d5969"), looks := false }, kinds := [], alts := [], laidByText := true, laidKinds := [.data, .data, .data], laidTests := true, laidLooks := .later }
def PullsCardSaid : Prop := Claim7.holds Tryz.pinned (.plain (OpenSpec.ofChange pullsSpec)) pullsCard

/-- THE TIED CARD OF 'patcheslaw.Shows'. -/
def showsCard : Claim7 := { stood := { row := showsRow, standIns := [], harness := (true, "76d7a2d8179fc69a02eac6c254253b280077ff427307b300129274fbf34d5969"), looks := false }, kinds := [], alts := [], laidByText := true, laidKinds := [.data, .data, .data], laidTests := true, laidLooks := .later }
def ShowsCardSaid : Prop := Claim7.holds Tryz.pinned (.plain (OpenSpec.ofChange showsSpec)) showsCard

/-- THE TIED CARD OF 'patcheslaw.Logs'. -/
def logsCard : Claim7 := { stood := { row := logsRow, standIns := [], harness := (true, "76d7a2d8179fc69a02eac6c254253b280077ff427307b300129274fbf34d5969"), looks := false }, kinds := [], alts := [], laidByText := true, laidKinds := [.data, .data, .data], laidTests := true, laidLooks := .later }
def LogsCardSaid : Prop := Claim7.holds Tryz.pinned (.plain (OpenSpec.ofChange logsSpec)) logsCard

/-- THE TIED CARD OF 'patcheslaw.Texts'. -/
def textsCard : Claim7 := { stood := { row := textsRow, standIns := [], harness := (true, "76d7a2d8179fc69a02eac6c254253b280077ff427307b300129274fbf34d5969"), looks := false }, kinds := [], alts := [], laidByText := true, laidKinds := [.data, .data, .data], laidTests := true, laidLooks := .later }
def TextsCardSaid : Prop := Claim7.holds Tryz.pinned (.plain (OpenSpec.ofChange textsSpec)) textsCard

/-- THE TIED CARD OF 'patcheslaw.Records'. -/
def recordsCard : Claim7 := { stood := { row := recordsRow, standIns := [], harness := (true, "76d7a2d8179fc69a02eac6c254253b280077ff427307b300129274fbf34d5969"), looks := false }, kinds := [], alts := [], laidByText := true, laidKinds := [.data, .data, .data], laidTests := true, laidLooks := .later }
def RecordsCardSaid : Prop := Claim7.holds Tryz.pinned (.plain (OpenSpec.ofChange recordsSpec)) recordsCard

/-- THE TIED CARD OF 'patcheslaw.Credits'. -/
def creditsCard : Claim7 := { stood := { row := creditsRow, standIns := [], harness := (true, "76d7a2d8179fc69a02eac6c254253b280077ff427307b300129274fbf34d5969"), looks := false }, kinds := [], alts := [], laidByText := true, laidKinds := [.data, .data, .data], laidTests := true, laidLooks := .later }
def CreditsCardSaid : Prop := Claim7.holds Tryz.pinned (.plain (OpenSpec.ofChange creditsSpec)) creditsCard

/-- THE TIED CARD OF 'patcheslaw.Bundles'. -/
def bundlesCard : Claim7 := { stood := { row := bundlesRow, standIns := [], harness := (true, "76d7a2d8179fc69a02eac6c254253b280077ff427307b300129274fbf34d5969"), looks := false }, kinds := [], alts := [], laidByText := true, laidKinds := [.data, .data, .data], laidTests := true, laidLooks := .later }
def BundlesCardSaid : Prop := Claim7.holds Tryz.pinned (.plain (OpenSpec.ofChange bundlesSpec)) bundlesCard

/-- THE TIED CARD OF 'patcheslaw.Loads'. -/
def loadsCard : Claim7 := { stood := { row := loadsRow, standIns := [], harness := (true, "76d7a2d8179fc69a02eac6c254253b280077ff427307b300129274fbf34d5969"), looks := false }, kinds := [], alts := [], laidByText := true, laidKinds := [.data, .data, .data], laidTests := true, laidLooks := .later }
def LoadsCardSaid : Prop := Claim7.holds Tryz.pinned (.plain (OpenSpec.ofChange loadsSpec)) loadsCard

/-- THE TIED CARD OF 'patcheslaw.Owned'. -/
def ownedCard : Claim7 := { stood := { row := ownedRow, standIns := [], harness := (true, "76d7a2d8179fc69a02eac6c254253b280077ff427307b300129274fbf34d5969"), looks := false }, kinds := [], alts := [], laidByText := true, laidKinds := [.data, .data, .data], laidTests := true, laidLooks := .later }
def OwnedCardSaid : Prop := Claim7.holds Tryz.pinned (.plain (OpenSpec.ofChange ownedSpec)) ownedCard

/-- THE TIED CARD OF 'patcheslaw.Raw'. -/
def rawCard : Claim7 := { stood := { row := rawRow, standIns := [], harness := (true, "76d7a2d8179fc69a02eac6c254253b280077ff427307b300129274fbf34d5969"), looks := false }, kinds := [], alts := [], laidByText := true, laidKinds := [.data, .data, .data], laidTests := true, laidLooks := .later }
def RawCardSaid : Prop := Claim7.holds Tryz.pinned (.plain (OpenSpec.ofChange rawSpec)) rawCard

/-- THE SECOND FORM's CARD OF 'patcheslaw.Applies'. -/
def appliesUptoCard : Claim7 := { stood := { row := appliesUptoRow, standIns := [], harness := (true, "76d7a2d8179fc69a02eac6c254253b280077ff427307b300129274fbf34d5969"), looks := false }, kinds := [], alts := [], laidByText := true, laidKinds := [.data, .data, .data], laidTests := true, laidLooks := .later }
def AppliesUptoCardSaid : Prop := Claim7.holds Tryz.pinned (.plain (OpenSpec.upto appliesSpec)) appliesUptoCard

/-- THE SECOND FORM's CARD OF 'patcheslaw.Unapplies'. -/
def unappliesUptoCard : Claim7 := { stood := { row := unappliesUptoRow, standIns := [], harness := (true, "76d7a2d8179fc69a02eac6c254253b280077ff427307b300129274fbf34d5969"), looks := false }, kinds := [], alts := [], laidByText := true, laidKinds := [.data, .data, .data], laidTests := true, laidLooks := .later }
def UnappliesUptoCardSaid : Prop := Claim7.holds Tryz.pinned (.plain (OpenSpec.upto unappliesSpec)) unappliesUptoCard

/-- THE SECOND FORM's CARD OF 'patcheslaw.Pulls'. -/
def pullsUptoCard : Claim7 := { stood := { row := pullsUptoRow, standIns := [], harness := (true, "76d7a2d8179fc69a02eac6c254253b280077ff427307b300129274fbf34d5969"), looks := false }, kinds := [], alts := [], laidByText := true, laidKinds := [.data, .data, .data], laidTests := true, laidLooks := .later }
def PullsUptoCardSaid : Prop := Claim7.holds Tryz.pinned (.plain (OpenSpec.upto pullsSpec)) pullsUptoCard

/-- THE SECOND FORM's CARD OF 'patcheslaw.Shows'. -/
def showsUptoCard : Claim7 := { stood := { row := showsUptoRow, standIns := [], harness := (true, "76d7a2d8179fc69a02eac6c254253b280077ff427307b300129274fbf34d5969"), looks := false }, kinds := [], alts := [], laidByText := true, laidKinds := [.data, .data, .data], laidTests := true, laidLooks := .later }
def ShowsUptoCardSaid : Prop := Claim7.holds Tryz.pinned (.plain (OpenSpec.upto showsSpec)) showsUptoCard

/-- THE SECOND FORM's CARD OF 'patcheslaw.Logs'. -/
def logsUptoCard : Claim7 := { stood := { row := logsUptoRow, standIns := [], harness := (true, "76d7a2d8179fc69a02eac6c254253b280077ff427307b300129274fbf34d5969"), looks := false }, kinds := [], alts := [], laidByText := true, laidKinds := [.data, .data, .data], laidTests := true, laidLooks := .later }
def LogsUptoCardSaid : Prop := Claim7.holds Tryz.pinned (.plain (OpenSpec.upto logsSpec)) logsUptoCard

/-- THE SECOND FORM's CARD OF 'patcheslaw.Texts'. -/
def textsUptoCard : Claim7 := { stood := { row := textsUptoRow, standIns := [], harness := (true, "76d7a2d8179fc69a02eac6c254253b280077ff427307b300129274fbf34d5969"), looks := false }, kinds := [], alts := [], laidByText := true, laidKinds := [.data, .data, .data], laidTests := true, laidLooks := .later }
def TextsUptoCardSaid : Prop := Claim7.holds Tryz.pinned (.plain (OpenSpec.upto textsSpec)) textsUptoCard

/-- THE SECOND FORM's CARD OF 'patcheslaw.Records'. -/
def recordsUptoCard : Claim7 := { stood := { row := recordsUptoRow, standIns := [], harness := (true, "76d7a2d8179fc69a02eac6c254253b280077ff427307b300129274fbf34d5969"), looks := false }, kinds := [], alts := [], laidByText := true, laidKinds := [.data, .data, .data], laidTests := true, laidLooks := .later }
def RecordsUptoCardSaid : Prop := Claim7.holds Tryz.pinned (.plain (OpenSpec.upto recordsSpec)) recordsUptoCard

/-- THE SECOND FORM's CARD OF 'patcheslaw.Credits'. -/
def creditsUptoCard : Claim7 := { stood := { row := creditsUptoRow, standIns := [], harness := (true, "76d7a2d8179fc69a02eac6c254253b280077ff427307b300129274fbf34d5969"), looks := false }, kinds := [], alts := [], laidByText := true, laidKinds := [.data, .data, .data], laidTests := true, laidLooks := .later }
def CreditsUptoCardSaid : Prop := Claim7.holds Tryz.pinned (.plain (OpenSpec.upto creditsSpec)) creditsUptoCard

/-- THE SECOND FORM's CARD OF 'patcheslaw.Bundles'. -/
def bundlesUptoCard : Claim7 := { stood := { row := bundlesUptoRow, standIns := [], harness := (true, "76d7a2d8179fc69a02eac6c254253b280077ff427307b300129274fbf34d5969"), looks := false }, kinds := [], alts := [], laidByText := true, laidKinds := [.data, .data, .data], laidTests := true, laidLooks := .later }
def BundlesUptoCardSaid : Prop := Claim7.holds Tryz.pinned (.plain (OpenSpec.upto bundlesSpec)) bundlesUptoCard

/-- THE SECOND FORM's CARD OF 'patcheslaw.Loads'. -/
def loadsUptoCard : Claim7 := { stood := { row := loadsUptoRow, standIns := [], harness := (true, "76d7a2d8179fc69a02eac6c254253b280077ff427307b300129274fbf34d5969"), looks := false }, kinds := [], alts := [], laidByText := true, laidKinds := [.data, .data, .data], laidTests := true, laidLooks := .later }
def LoadsUptoCardSaid : Prop := Claim7.holds Tryz.pinned (.plain (OpenSpec.upto loadsSpec)) loadsUptoCard

/-- THE SECOND FORM's CARD OF 'patcheslaw.Owned'. -/
def ownedUptoCard : Claim7 := { stood := { row := ownedUptoRow, standIns := [], harness := (true, "76d7a2d8179fc69a02eac6c254253b280077ff427307b300129274fbf34d5969"), looks := false }, kinds := [], alts := [], laidByText := true, laidKinds := [.data, .data, .data], laidTests := true, laidLooks := .later }
def OwnedUptoCardSaid : Prop := Claim7.holds Tryz.pinned (.plain (OpenSpec.upto ownedSpec)) ownedUptoCard

/-- THE SECOND FORM's CARD OF 'patcheslaw.Raw'. -/
def rawUptoCard : Claim7 := { stood := { row := rawUptoRow, standIns := [], harness := (true, "76d7a2d8179fc69a02eac6c254253b280077ff427307b300129274fbf34d5969"), looks := false }, kinds := [], alts := [], laidByText := true, laidKinds := [.data, .data, .data], laidTests := true, laidLooks := .later }
def RawUptoCardSaid : Prop := Claim7.holds Tryz.pinned (.plain (OpenSpec.upto rawSpec)) rawUptoCard
end Rows
end Go.Proofs.YtlaffgagmncgjaaGreatDoor
