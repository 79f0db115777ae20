/-
  DERIVED. GIVEN WITH THE SEED: THE CARDS: each row of YtmpehoebgifmnaaDoorRows.lean that lists a variable, with what it lists TIED to the program's text (the seventh form; the later family's looks); each row that meets fmt, with fmt's text TOLD by the authors' own Lean function (tested against real Go, not proved from fmt's source: count such statements apart). THE CARD IS WHAT COUNTS. Prove the row's statement (the work); the ties are given (YtmpehoebgifmnaaDoorTie.lean); close each card by the builder's one call (the guide's Derived/Test/ToyasCard.lean, 'card_holds'). Laid BY PROGRAM, IN A SANDBOX (cutbox-door.mjs). By AI agents, Wed Nov 11 2026. No macro, syntax, notation, axiom, sorry.
-/
import Derived.Test.YtmpehoebgifmnaaDoorRows
import GoSem.ClaimSeven
namespace Go.Proofs.YtmpehoebgifmnaaDoor
namespace Rows

/-- THE TIED CARD OF 'cursitortop.WholeLog'. -/
def wholeLogCard : Claim7 := { stood := { row := wholeLogRow, standIns := [], harness := (true, "8f37322e41880acd97c0196be40df95a90dc0abd372b89ce04cf0e016a465402"), looks := false }, kinds := [], alts := [], laidByText := true, laidKinds := [.data], laidTests := true, laidLooks := .later }
def WholeLogCardSaid : Prop := Claim7.holds Tryd.pinned (.plain (OpenSpec.ofChange wholeLogSpec)) wholeLogCard

/-- THE SECOND FORM's CARD OF 'cursitortop.WholeLog'. -/
def wholeLogUptoCard : Claim7 := { stood := { row := wholeLogUptoRow, standIns := [], harness := (true, "8f37322e41880acd97c0196be40df95a90dc0abd372b89ce04cf0e016a465402"), looks := false }, kinds := [], alts := [], laidByText := true, laidKinds := [.data], laidTests := true, laidLooks := .later }
def WholeLogUptoCardSaid : Prop := Claim7.holds Tryd.pinned (.plain (OpenSpec.upto wholeLogSpec)) wholeLogUptoCard
end Rows
end Go.Proofs.YtmpehoebgifmnaaDoor
