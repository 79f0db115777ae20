/-
  DERIVED. GIVEN WITH THE SEED: THE CARDS: each row of YtngnhdiafbjfkaaDoorRows.lean that lists a variable, with what it lists TIED to the program's text (the seventh form; the later family's looks); each row that meets fmt, with fmt's text TOLD by the authors' own Lean function (tested against real Go, not proved from fmt's source: count such statements apart). THE CARD IS WHAT COUNTS. Prove the row's statement (the work); the ties are given (YtngnhdiafbjfkaaDoorTie.lean); close each card by the builder's one call (the guide's Derived/Test/ToyasCard.lean, 'card_holds'). Laid BY PROGRAM, IN A SANDBOX (cutbox-door.mjs). By AI agents, Wed Nov 11 2026. No macro, syntax, notation, axiom, sorry.
-/
import Derived.Test.YtngnhdiafbjfkaaDoorRows
import GoSem.ClaimSeven
namespace Go.Proofs.YtngnhdiafbjfkaaDoor
namespace Rows

/-- THE TIED CARD OF 'cursitorlaw16.VersionChecks'. -/
def versionChecksCard : Claim7 := { stood := { row := versionChecksRow, standIns := [], harness := (true, "91a4372bff281b5ae408e41ebea4cf3de11f6f407672fb0c20105a89c85ac067"), looks := false }, kinds := [], alts := [], laidByText := true, laidKinds := [.data], laidTests := true, laidLooks := .later }
def VersionChecksCardSaid : Prop := Claim7.holds Tryd.pinned (.plain (OpenSpec.ofChange versionChecksSpec)) versionChecksCard

/-- THE TIED CARD OF 'cursitorlaw16.VersionNames'. -/
def versionNamesCard : Claim7 := { stood := { row := versionNamesRow, standIns := [], harness := (true, "91a4372bff281b5ae408e41ebea4cf3de11f6f407672fb0c20105a89c85ac067"), looks := false }, kinds := [], alts := [], laidByText := true, laidKinds := [.data], laidTests := true, laidLooks := .later }
def VersionNamesCardSaid : Prop := Claim7.holds Tryd.pinned (.plain (OpenSpec.ofChange versionNamesSpec)) versionNamesCard

/-- THE TIED CARD OF 'cursitorlaw17.RequestWrites'. -/
def requestWritesCard : Claim7 := { stood := { row := requestWritesRow, standIns := [], harness := (true, "91a4372bff281b5ae408e41ebea4cf3de11f6f407672fb0c20105a89c85ac067"), looks := false }, kinds := [], alts := [], laidByText := true, laidKinds := [.data], laidTests := true, laidLooks := .later }
def RequestWritesCardSaid : Prop := Claim7.holds Tryd.pinned (.plain (OpenSpec.ofChange requestWritesSpec)) requestWritesCard

/-- THE TIED CARD OF 'cursitorlaw17.RequestReads'. -/
def requestReadsCard : Claim7 := { stood := { row := requestReadsRow, standIns := [], harness := (true, "91a4372bff281b5ae408e41ebea4cf3de11f6f407672fb0c20105a89c85ac067"), looks := false }, kinds := [], alts := [], laidByText := true, laidKinds := [.data], laidTests := true, laidLooks := .later }
def RequestReadsCardSaid : Prop := Claim7.holds Tryd.pinned (.plain (OpenSpec.ofChange requestReadsSpec)) requestReadsCard

/-- THE SECOND FORM's CARD OF 'cursitorlaw16.VersionChecks'. -/
def versionChecksUptoCard : Claim7 := { stood := { row := versionChecksUptoRow, standIns := [], harness := (true, "91a4372bff281b5ae408e41ebea4cf3de11f6f407672fb0c20105a89c85ac067"), looks := false }, kinds := [], alts := [], laidByText := true, laidKinds := [.data], laidTests := true, laidLooks := .later }
def VersionChecksUptoCardSaid : Prop := Claim7.holds Tryd.pinned (.plain (OpenSpec.upto versionChecksSpec)) versionChecksUptoCard

/-- THE SECOND FORM's CARD OF 'cursitorlaw16.VersionNames'. -/
def versionNamesUptoCard : Claim7 := { stood := { row := versionNamesUptoRow, standIns := [], harness := (true, "91a4372bff281b5ae408e41ebea4cf3de11f6f407672fb0c20105a89c85ac067"), looks := false }, kinds := [], alts := [], laidByText := true, laidKinds := [.data], laidTests := true, laidLooks := .later }
def VersionNamesUptoCardSaid : Prop := Claim7.holds Tryd.pinned (.plain (OpenSpec.upto versionNamesSpec)) versionNamesUptoCard

/-- THE SECOND FORM's CARD OF 'cursitorlaw17.RequestWrites'. -/
def requestWritesUptoCard : Claim7 := { stood := { row := requestWritesUptoRow, standIns := [], harness := (true, "91a4372bff281b5ae408e41ebea4cf3de11f6f407672fb0c20105a89c85ac067"), looks := false }, kinds := [], alts := [], laidByText := true, laidKinds := [.data], laidTests := true, laidLooks := .later }
def RequestWritesUptoCardSaid : Prop := Claim7.holds Tryd.pinned (.plain (OpenSpec.upto requestWritesSpec)) requestWritesUptoCard

/-- THE SECOND FORM's CARD OF 'cursitorlaw17.RequestReads'. -/
def requestReadsUptoCard : Claim7 := { stood := { row := requestReadsUptoRow, standIns := [], harness := (true, "91a4372bff281b5ae408e41ebea4cf3de11f6f407672fb0c20105a89c85ac067"), looks := false }, kinds := [], alts := [], laidByText := true, laidKinds := [.data], laidTests := true, laidLooks := .later }
def RequestReadsUptoCardSaid : Prop := Claim7.holds Tryd.pinned (.plain (OpenSpec.upto requestReadsSpec)) requestReadsUptoCard
end Rows
end Go.Proofs.YtngnhdiafbjfkaaDoor
