/-
  DERIVED. GIVEN WITH THE SEED: THE CARDS: each row of YtenojajfacacoaaGreatDoorRows.lean that lists a variable, with what it lists TIED to the program's text (the seventh form; the later family's looks); each row that meets fmt, with fmt's text TOLD by the authors' own Lean function (tested against real Go, not proved from fmt's source: count such statements apart). THE CARD IS WHAT COUNTS. Prove the row's statement (the work); the ties are given (YtenojajfacacoaaGreatDoorTie.lean); close each card by the builder's one call (the guide's Derived/Test/ToyasCard.lean, 'card_holds'). Laid BY PROGRAM, IN A SANDBOX (cutbox-door.mjs). By AI agents, Wed Nov 11 2026. No macro, syntax, notation, axiom, sorry.
-/
import Derived.Test.YtenojajfacacoaaGreatDoorRows
import GoSem.ClaimSeven
namespace Go.Proofs.YtenojajfacacoaaGreatDoor
namespace Rows

/-- THE TIED CARD OF 'cursitorlaw26.ReportPlays'. -/
def reportPlaysCard : Claim7 := { stood := { row := reportPlaysRow, standIns := [], harness := (true, "1495ee024d418667052059264823ec10b3241a022bce8fae782c9032ae9832bc"), looks := true }, kinds := [], alts := [], laidByText := true, laidKinds := [.data, .data, .data, .data, .sentinel, .sentinel, .pinned], laidTests := true, laidLooks := .later }
def ReportPlaysCardSaid : Prop := Claim7.holds Tryz.pinned (.plain (OpenSpec.ofChange reportPlaysSpec)) reportPlaysCard

/-- THE TIED CARD OF 'cursitorlaw26.ReportRaws'. -/
def reportRawsCard : Claim7 := { stood := { row := reportRawsRow, standIns := [], harness := (true, "1495ee024d418667052059264823ec10b3241a022bce8fae782c9032ae9832bc"), looks := true }, kinds := [], alts := [], laidByText := true, laidKinds := [.data, .data, .data, .data, .sentinel, .sentinel, .pinned], laidTests := true, laidLooks := .later }
def ReportRawsCardSaid : Prop := Claim7.holds Tryz.pinned (.plain (OpenSpec.ofChange reportRawsSpec)) reportRawsCard

/-- THE TIED CARD OF 'cursitortop.WholePlayed'. -/
def wholePlayedCard : Claim7 := { stood := { row := wholePlayedRow, standIns := [], harness := (true, "1495ee024d418667052059264823ec10b3241a022bce8fae782c9032ae9832bc"), looks := true }, kinds := [], alts := [], laidByText := true, laidKinds := [.data, .data, .data, .data, .sentinel, .sentinel, .pinned], laidTests := true, laidLooks := .later }
def WholePlayedCardSaid : Prop := Claim7.holds Tryz.pinned (.plain (OpenSpec.ofChange wholePlayedSpec)) wholePlayedCard

/-- THE SECOND FORM's CARD OF 'cursitorlaw26.ReportPlays'. -/
def reportPlaysUptoCard : Claim7 := { stood := { row := reportPlaysUptoRow, standIns := [], harness := (true, "1495ee024d418667052059264823ec10b3241a022bce8fae782c9032ae9832bc"), looks := true }, kinds := [], alts := [], laidByText := true, laidKinds := [.data, .data, .data, .data, .sentinel, .sentinel, .pinned], laidTests := true, laidLooks := .later }
def ReportPlaysUptoCardSaid : Prop := Claim7.holds Tryz.pinned (.plain (OpenSpec.upto reportPlaysSpec)) reportPlaysUptoCard

/-- THE SECOND FORM's CARD OF 'cursitorlaw26.ReportRaws'. -/
def reportRawsUptoCard : Claim7 := { stood := { row := reportRawsUptoRow, standIns := [], harness := (true, "1495ee024d418667052059264823ec10b3241a022bce8fae782c9032ae9832bc"), looks := true }, kinds := [], alts := [], laidByText := true, laidKinds := [.data, .data, .data, .data, .sentinel, .sentinel, .pinned], laidTests := true, laidLooks := .later }
def ReportRawsUptoCardSaid : Prop := Claim7.holds Tryz.pinned (.plain (OpenSpec.upto reportRawsSpec)) reportRawsUptoCard

/-- THE SECOND FORM's CARD OF 'cursitortop.WholePlayed'. -/
def wholePlayedUptoCard : Claim7 := { stood := { row := wholePlayedUptoRow, standIns := [], harness := (true, "1495ee024d418667052059264823ec10b3241a022bce8fae782c9032ae9832bc"), looks := true }, kinds := [], alts := [], laidByText := true, laidKinds := [.data, .data, .data, .data, .sentinel, .sentinel, .pinned], laidTests := true, laidLooks := .later }
def WholePlayedUptoCardSaid : Prop := Claim7.holds Tryz.pinned (.plain (OpenSpec.upto wholePlayedSpec)) wholePlayedUptoCard
end Rows
end Go.Proofs.YtenojajfacacoaaGreatDoor
