/-
  DERIVED. GIVEN WITH THE SEED: THE CARDS: each row of YthppodbjjfkmfaaDoorRows.lean that lists a variable, with what it lists TIED to the program's text (the seventh form; the later family's looks); each row that meets fmt, with fmt's text TOLD by the authors' own Lean function (tested against real Go, not proved from fmt's source: count such statements apart). THE CARD IS WHAT COUNTS. Prove the row's statement (the work); the ties are given (YthppodbjjfkmfaaDoorTie.lean); close each card by the builder's one call (the guide's Derived/Test/ToyasCard.lean, 'card_holds'). Laid BY PROGRAM, IN A SANDBOX (cutbox-door.mjs). By AI agents, Wed Nov 11 2026. No macro, syntax, notation, axiom, sorry.
-/
import Derived.Test.YthppodbjjfkmfaaDoorRows
import GoSem.ClaimSeven
namespace Go.Proofs.YthppodbjjfkmfaaDoor
namespace Rows

/-- THE TIED CARD OF 'cursitortop.WholeTxns'. -/
def wholeTxnsCard : Claim7 := { stood := { row := wholeTxnsRow, standIns := [], harness := (true, "78e712f7490489459749f37c81ded691038c371d35b792d02057a8a670fdfeea"), looks := false }, kinds := [], alts := [], laidByText := true, laidKinds := [.data], laidTests := true, laidLooks := .later }
def WholeTxnsCardSaid : Prop := Claim7.holds Tryd.pinned (.plain (OpenSpec.ofChange wholeTxnsSpec)) wholeTxnsCard

/-- THE SECOND FORM's CARD OF 'cursitortop.WholeTxns'. -/
def wholeTxnsUptoCard : Claim7 := { stood := { row := wholeTxnsUptoRow, standIns := [], harness := (true, "78e712f7490489459749f37c81ded691038c371d35b792d02057a8a670fdfeea"), looks := false }, kinds := [], alts := [], laidByText := true, laidKinds := [.data], laidTests := true, laidLooks := .later }
def WholeTxnsUptoCardSaid : Prop := Claim7.holds Tryd.pinned (.plain (OpenSpec.upto wholeTxnsSpec)) wholeTxnsUptoCard
end Rows
end Go.Proofs.YthppodbjjfkmfaaDoor
