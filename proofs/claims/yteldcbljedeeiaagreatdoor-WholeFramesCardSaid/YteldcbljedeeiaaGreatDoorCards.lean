/-
  DERIVED. GIVEN WITH THE SEED: THE CARDS: each row of YteldcbljedeeiaaGreatDoorRows.lean that lists a variable, with what it lists TIED to the program's text (the seventh form; the later family's looks); each row that meets fmt, with fmt's text TOLD by the authors' own Lean function (tested against real Go, not proved from fmt's source: count such statements apart). THE CARD IS WHAT COUNTS. Prove the row's statement (the work); the ties are given (YteldcbljedeeiaaGreatDoorTie.lean); close each card by the builder's one call (the guide's Derived/Test/ToyasCard.lean, 'card_holds'). Laid BY PROGRAM, IN A SANDBOX (cutbox-door.mjs). By AI agents, Wed Nov 11 2026. No macro, syntax, notation, axiom, sorry.
-/
import Derived.Test.YteldcbljedeeiaaGreatDoorRows
import GoSem.ClaimSeven
namespace Go.Proofs.YteldcbljedeeiaaGreatDoor
namespace Rows

/-- THE TIED CARD OF 'cursitorlaw21.FrameEncodes'. -/
def frameEncodesCard : Claim7 := { stood := { row := frameEncodesRow, standIns := [], harness := (true, "6a3585da49ec85037d8e603bf17a08694bb090eb73b7db563579c4f2a22db05f"), looks := false }, kinds := [], alts := [], laidByText := true, laidKinds := [.data], laidTests := true, laidLooks := .later }
def FrameEncodesCardSaid : Prop := Claim7.holds Tryz.pinned (.plain (OpenSpec.ofChange frameEncodesSpec)) frameEncodesCard

/-- THE TIED CARD OF 'cursitorlaw21.FrameDecodes'. -/
def frameDecodesCard : Claim7 := { stood := { row := frameDecodesRow, standIns := [], harness := (true, "6a3585da49ec85037d8e603bf17a08694bb090eb73b7db563579c4f2a22db05f"), looks := false }, kinds := [], alts := [], laidByText := true, laidKinds := [.data], laidTests := true, laidLooks := .later }
def FrameDecodesCardSaid : Prop := Claim7.holds Tryz.pinned (.plain (OpenSpec.ofChange frameDecodesSpec)) frameDecodesCard

/-- THE TIED CARD OF 'cursitorlaw21.FrameRows'. -/
def frameRowsCard : Claim7 := { stood := { row := frameRowsRow, standIns := [], harness := (true, "6a3585da49ec85037d8e603bf17a08694bb090eb73b7db563579c4f2a22db05f"), looks := false }, kinds := [], alts := [], laidByText := true, laidKinds := [.data], laidTests := true, laidLooks := .later }
def FrameRowsCardSaid : Prop := Claim7.holds Tryz.pinned (.plain (OpenSpec.ofChange frameRowsSpec)) frameRowsCard

/-- THE TIED CARD OF 'cursitorlaw22.SplitFeeds'. -/
def splitFeedsCard : Claim7 := { stood := { row := splitFeedsRow, standIns := [], harness := (true, "6a3585da49ec85037d8e603bf17a08694bb090eb73b7db563579c4f2a22db05f"), looks := false }, kinds := [], alts := [], laidByText := true, laidKinds := [.data], laidTests := true, laidLooks := .later }
def SplitFeedsCardSaid : Prop := Claim7.holds Tryz.pinned (.plain (OpenSpec.ofChange splitFeedsSpec)) splitFeedsCard

/-- THE TIED CARD OF 'cursitorlaw22.SplitRows'. -/
def splitRowsCard : Claim7 := { stood := { row := splitRowsRow, standIns := [], harness := (true, "6a3585da49ec85037d8e603bf17a08694bb090eb73b7db563579c4f2a22db05f"), looks := false }, kinds := [], alts := [], laidByText := true, laidKinds := [.data], laidTests := true, laidLooks := .later }
def SplitRowsCardSaid : Prop := Claim7.holds Tryz.pinned (.plain (OpenSpec.ofChange splitRowsSpec)) splitRowsCard

/-- THE TIED CARD OF 'cursitortop.WholeFrames'. -/
def wholeFramesCard : Claim7 := { stood := { row := wholeFramesRow, standIns := [], harness := (true, "6a3585da49ec85037d8e603bf17a08694bb090eb73b7db563579c4f2a22db05f"), looks := false }, kinds := [], alts := [], laidByText := true, laidKinds := [.data], laidTests := true, laidLooks := .later }
def WholeFramesCardSaid : Prop := Claim7.holds Tryz.pinned (.plain (OpenSpec.ofChange wholeFramesSpec)) wholeFramesCard

/-- THE TIED CARD OF 'cursitortop.WholeStrict'. -/
def wholeStrictCard : Claim7 := { stood := { row := wholeStrictRow, standIns := [], harness := (true, "6a3585da49ec85037d8e603bf17a08694bb090eb73b7db563579c4f2a22db05f"), looks := false }, kinds := [], alts := [], laidByText := true, laidKinds := [.data], laidTests := true, laidLooks := .later }
def WholeStrictCardSaid : Prop := Claim7.holds Tryz.pinned (.plain (OpenSpec.ofChange wholeStrictSpec)) wholeStrictCard

/-- THE SECOND FORM's CARD OF 'cursitorlaw21.FrameEncodes'. -/
def frameEncodesUptoCard : Claim7 := { stood := { row := frameEncodesUptoRow, standIns := [], harness := (true, "6a3585da49ec85037d8e603bf17a08694bb090eb73b7db563579c4f2a22db05f"), looks := false }, kinds := [], alts := [], laidByText := true, laidKinds := [.data], laidTests := true, laidLooks := .later }
def FrameEncodesUptoCardSaid : Prop := Claim7.holds Tryz.pinned (.plain (OpenSpec.upto frameEncodesSpec)) frameEncodesUptoCard

/-- THE SECOND FORM's CARD OF 'cursitorlaw21.FrameDecodes'. -/
def frameDecodesUptoCard : Claim7 := { stood := { row := frameDecodesUptoRow, standIns := [], harness := (true, "6a3585da49ec85037d8e603bf17a08694bb090eb73b7db563579c4f2a22db05f"), looks := false }, kinds := [], alts := [], laidByText := true, laidKinds := [.data], laidTests := true, laidLooks := .later }
def FrameDecodesUptoCardSaid : Prop := Claim7.holds Tryz.pinned (.plain (OpenSpec.upto frameDecodesSpec)) frameDecodesUptoCard

/-- THE SECOND FORM's CARD OF 'cursitorlaw21.FrameRows'. -/
def frameRowsUptoCard : Claim7 := { stood := { row := frameRowsUptoRow, standIns := [], harness := (true, "6a3585da49ec85037d8e603bf17a08694bb090eb73b7db563579c4f2a22db05f"), looks := false }, kinds := [], alts := [], laidByText := true, laidKinds := [.data], laidTests := true, laidLooks := .later }
def FrameRowsUptoCardSaid : Prop := Claim7.holds Tryz.pinned (.plain (OpenSpec.upto frameRowsSpec)) frameRowsUptoCard

/-- THE SECOND FORM's CARD OF 'cursitorlaw22.SplitFeeds'. -/
def splitFeedsUptoCard : Claim7 := { stood := { row := splitFeedsUptoRow, standIns := [], harness := (true, "6a3585da49ec85037d8e603bf17a08694bb090eb73b7db563579c4f2a22db05f"), looks := false }, kinds := [], alts := [], laidByText := true, laidKinds := [.data], laidTests := true, laidLooks := .later }
def SplitFeedsUptoCardSaid : Prop := Claim7.holds Tryz.pinned (.plain (OpenSpec.upto splitFeedsSpec)) splitFeedsUptoCard

/-- THE SECOND FORM's CARD OF 'cursitorlaw22.SplitRows'. -/
def splitRowsUptoCard : Claim7 := { stood := { row := splitRowsUptoRow, standIns := [], harness := (true, "6a3585da49ec85037d8e603bf17a08694bb090eb73b7db563579c4f2a22db05f"), looks := false }, kinds := [], alts := [], laidByText := true, laidKinds := [.data], laidTests := true, laidLooks := .later }
def SplitRowsUptoCardSaid : Prop := Claim7.holds Tryz.pinned (.plain (OpenSpec.upto splitRowsSpec)) splitRowsUptoCard

/-- THE SECOND FORM's CARD OF 'cursitortop.WholeFrames'. -/
def wholeFramesUptoCard : Claim7 := { stood := { row := wholeFramesUptoRow, standIns := [], harness := (true, "6a3585da49ec85037d8e603bf17a08694bb090eb73b7db563579c4f2a22db05f"), looks := false }, kinds := [], alts := [], laidByText := true, laidKinds := [.data], laidTests := true, laidLooks := .later }
def WholeFramesUptoCardSaid : Prop := Claim7.holds Tryz.pinned (.plain (OpenSpec.upto wholeFramesSpec)) wholeFramesUptoCard

/-- THE SECOND FORM's CARD OF 'cursitortop.WholeStrict'. -/
def wholeStrictUptoCard : Claim7 := { stood := { row := wholeStrictUptoRow, standIns := [], harness := (true, "6a3585da49ec85037d8e603bf17a08694bb090eb73b7db563579c4f2a22db05f"), looks := false }, kinds := [], alts := [], laidByText := true, laidKinds := [.data], laidTests := true, laidLooks := .later }
def WholeStrictUptoCardSaid : Prop := Claim7.holds Tryz.pinned (.plain (OpenSpec.upto wholeStrictSpec)) wholeStrictUptoCard
end Rows
end Go.Proofs.YteldcbljedeeiaaGreatDoor
