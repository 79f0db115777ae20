/-
  NARROWER THAN 'FOR EVERY INPUT', by the rows' own cells (each row's printed sentence says how): FrameEncodes: laid · FrameDecodes: laid · FrameRows: laid · SplitFeeds: laid · SplitRows: laid · WholeFrames: laid · WholeStrict: laid.
  DERIVED. THE GIVEN ROWS OF THIS SEAT. 7 by the template 'for every input the law returns true; each argument reads behind the call as it read before'; 0 by the template 'total and deterministic' (their statements: YteldcbljedeeiaaGreatDoorTotals.lean).
  GIVEN WITH THE SEED: the statements are not yours to turn. If you find one false, say at which input.
  Laid BY PROGRAM, IN A SANDBOX (cutbox-rows.mjs): the forced cells as the released guide's own fill.sh prints them over the translation 3730310a2bfbd5ce… (all of the seat's roots in one cut). By AI agents, Wed Nov 11 2026. No macro, syntax, notation, axiom, sorry.
-/
import Derived.Test.YteldcbljedeeiaaGreatDoorChecked
import GoSem.Claim
import GoSem.ClaimJoined
import GoSem.ClaimMapViews
import Derived.JoinedTies
import Derived.KernelRfl
namespace Go.Proofs.YteldcbljedeeiaaGreatDoor
/- THE CELL 'sum', in the pinned program and in every row, IS THE sha256 OF THE DUMP (.gsa) THAT YteldcbljedeeiaaGreatDoorProg.lean LOADS. Nothing in Lean hashes anything: it is a label: what it is worth is what the hold of that sum in a sandbox is worth. -/
noncomputable def Tryz.pinned : Pinned := { name := "yteldcbljedeeiaagreatdoor", sum := "3730310a2bfbd5ceff0372a9b375307078003d1b343915d547878f60bc0a4b49", checked := Tryz.checked }
namespace Rows
def none {H : Type} : Left H := { results := [], args := [] }

/- WHAT THE LISTED PACKAGE-LEVEL VARIABLES READ AS WHEN THE CALL BEGINS. Each datum BY PROGRAM (the guide's laid-datum.mjs) off the statement by which the dump's own 'gosem.cut.vars' lays the variable. In a bare row this is a premise. The card (YteldcbljedeeiaaGreatDoorCards.lean) ties it to the program's text. -/
def laid_cursitor_version_requests {H : Type} : DataW H := .agg [.agg [.lit (.int .i64 0), .lit (.string [112, 114, 111, 100, 117, 99, 101]), .lit (.int .i64 3), .lit (.int .i64 4)], .agg [.lit (.int .i64 22), .lit (.string [98, 101, 103, 105, 110]), .lit (.int .i64 0), .lit (.int .i64 1)], .agg [.lit (.int .i64 24), .lit (.string [97, 100, 100]), .lit (.int .i64 0), .lit (.int .i64 0)], .agg [.lit (.int .i64 26), .lit (.string [101, 110, 100]), .lit (.int .i64 0), .lit (.int .i64 0)], .agg [.lit (.int .i64 27), .lit (.string [109, 97, 114, 107]), .lit (.int .i64 0), .lit (.int .i64 1)]]

/-- 'cursitorlaw21.FrameEncodes': WHATEVER THE INPUT: true; the input reads as it did. -/
def frameEncodesSpec : ChangeSpec := { name := "frameEncodes", fn := fun _ => fun
  | [d] => { results := [.lit (.bool true)], args := [d] }
  | _ => none }
def frameEncodesRow : OpenClaim := { program := "yteldcbljedeeiaagreatdoor", sum := "3730310a2bfbd5ceff0372a9b375307078003d1b343915d547878f60bc0a4b49", func := "cursitor/cursitorlaw21.FrameEncodes", spec := "frameEncodes", unfollowed := true, recurses := true, named := ["cursitor/version.requests"], apart := false, laid := [("cursitor/version.requests", laid_cursitor_version_requests)] }
def FrameEncodesSaid : Prop := frameEncodesRow.holds Tryz.pinned (OpenSpec.ofChange frameEncodesSpec)

/-- ITS FALSE NEIGHBOUR: 'it returns false'. Refute it at one input. -/
def frameEncodesWrong : ChangeSpec := { name := "frameEncodes", fn := fun _ => fun
  | [d] => { results := [.lit (.bool false)], args := [d] }
  | _ => none }
def FrameEncodesWrongFalsely : Prop := frameEncodesRow.holds Tryz.pinned (OpenSpec.ofChange frameEncodesWrong)

/-- 'cursitorlaw21.FrameDecodes': WHATEVER THE INPUT: true; the input reads as it did. -/
def frameDecodesSpec : ChangeSpec := { name := "frameDecodes", fn := fun _ => fun
  | [d] => { results := [.lit (.bool true)], args := [d] }
  | _ => none }
def frameDecodesRow : OpenClaim := { program := "yteldcbljedeeiaagreatdoor", sum := "3730310a2bfbd5ceff0372a9b375307078003d1b343915d547878f60bc0a4b49", func := "cursitor/cursitorlaw21.FrameDecodes", spec := "frameDecodes", unfollowed := true, recurses := true, named := ["cursitor/version.requests"], apart := false, laid := [("cursitor/version.requests", laid_cursitor_version_requests)] }
def FrameDecodesSaid : Prop := frameDecodesRow.holds Tryz.pinned (OpenSpec.ofChange frameDecodesSpec)

/-- ITS FALSE NEIGHBOUR: 'it returns false'. Refute it at one input. -/
def frameDecodesWrong : ChangeSpec := { name := "frameDecodes", fn := fun _ => fun
  | [d] => { results := [.lit (.bool false)], args := [d] }
  | _ => none }
def FrameDecodesWrongFalsely : Prop := frameDecodesRow.holds Tryz.pinned (OpenSpec.ofChange frameDecodesWrong)

/-- 'cursitorlaw21.FrameRows': WHATEVER THE INPUT: true; the input reads as it did. -/
def frameRowsSpec : ChangeSpec := { name := "frameRows", fn := fun _ => fun
  | [d] => { results := [.lit (.bool true)], args := [d] }
  | _ => none }
def frameRowsRow : OpenClaim := { program := "yteldcbljedeeiaagreatdoor", sum := "3730310a2bfbd5ceff0372a9b375307078003d1b343915d547878f60bc0a4b49", func := "cursitor/cursitorlaw21.FrameRows", spec := "frameRows", unfollowed := true, recurses := true, named := ["cursitor/version.requests"], apart := false, laid := [("cursitor/version.requests", laid_cursitor_version_requests)] }
def FrameRowsSaid : Prop := frameRowsRow.holds Tryz.pinned (OpenSpec.ofChange frameRowsSpec)

/-- ITS FALSE NEIGHBOUR: 'it returns false'. Refute it at one input. -/
def frameRowsWrong : ChangeSpec := { name := "frameRows", fn := fun _ => fun
  | [d] => { results := [.lit (.bool false)], args := [d] }
  | _ => none }
def FrameRowsWrongFalsely : Prop := frameRowsRow.holds Tryz.pinned (OpenSpec.ofChange frameRowsWrong)

/-- 'cursitorlaw22.SplitFeeds': WHATEVER THE INPUT: true; the input reads as it did. -/
def splitFeedsSpec : ChangeSpec := { name := "splitFeeds", fn := fun _ => fun
  | [d1, d2] => { results := [.lit (.bool true)], args := [d1, d2] }
  | _ => none }
def splitFeedsRow : OpenClaim := { program := "yteldcbljedeeiaagreatdoor", sum := "3730310a2bfbd5ceff0372a9b375307078003d1b343915d547878f60bc0a4b49", func := "cursitor/cursitorlaw22.SplitFeeds", spec := "splitFeeds", unfollowed := true, recurses := true, named := ["cursitor/version.requests"], apart := false, laid := [("cursitor/version.requests", laid_cursitor_version_requests)] }
def SplitFeedsSaid : Prop := splitFeedsRow.holds Tryz.pinned (OpenSpec.ofChange splitFeedsSpec)

/-- ITS FALSE NEIGHBOUR: 'it returns false'. Refute it at one input. -/
def splitFeedsWrong : ChangeSpec := { name := "splitFeeds", fn := fun _ => fun
  | [d1, d2] => { results := [.lit (.bool false)], args := [d1, d2] }
  | _ => none }
def SplitFeedsWrongFalsely : Prop := splitFeedsRow.holds Tryz.pinned (OpenSpec.ofChange splitFeedsWrong)

/-- 'cursitorlaw22.SplitRows': WHATEVER THE INPUT: true; the input reads as it did. -/
def splitRowsSpec : ChangeSpec := { name := "splitRows", fn := fun _ => fun
  | [d1, d2, d3] => { results := [.lit (.bool true)], args := [d1, d2, d3] }
  | _ => none }
def splitRowsRow : OpenClaim := { program := "yteldcbljedeeiaagreatdoor", sum := "3730310a2bfbd5ceff0372a9b375307078003d1b343915d547878f60bc0a4b49", func := "cursitor/cursitorlaw22.SplitRows", spec := "splitRows", unfollowed := true, recurses := true, named := ["cursitor/version.requests"], apart := false, laid := [("cursitor/version.requests", laid_cursitor_version_requests)] }
def SplitRowsSaid : Prop := splitRowsRow.holds Tryz.pinned (OpenSpec.ofChange splitRowsSpec)

/-- ITS FALSE NEIGHBOUR: 'it returns false'. Refute it at one input. -/
def splitRowsWrong : ChangeSpec := { name := "splitRows", fn := fun _ => fun
  | [d1, d2, d3] => { results := [.lit (.bool false)], args := [d1, d2, d3] }
  | _ => none }
def SplitRowsWrongFalsely : Prop := splitRowsRow.holds Tryz.pinned (OpenSpec.ofChange splitRowsWrong)

/-- 'cursitortop.WholeFrames': WHATEVER THE INPUT: true; the input reads as it did. -/
def wholeFramesSpec : ChangeSpec := { name := "wholeFrames", fn := fun _ => fun
  | [d1, d2, d3] => { results := [.lit (.bool true)], args := [d1, d2, d3] }
  | _ => none }
def wholeFramesRow : OpenClaim := { program := "yteldcbljedeeiaagreatdoor", sum := "3730310a2bfbd5ceff0372a9b375307078003d1b343915d547878f60bc0a4b49", func := "cursitor/cursitortop.WholeFrames", spec := "wholeFrames", unfollowed := true, recurses := true, named := ["cursitor/version.requests"], apart := false, laid := [("cursitor/version.requests", laid_cursitor_version_requests)] }
def WholeFramesSaid : Prop := wholeFramesRow.holds Tryz.pinned (OpenSpec.ofChange wholeFramesSpec)

/-- ITS FALSE NEIGHBOUR: 'it returns false'. Refute it at one input. -/
def wholeFramesWrong : ChangeSpec := { name := "wholeFrames", fn := fun _ => fun
  | [d1, d2, d3] => { results := [.lit (.bool false)], args := [d1, d2, d3] }
  | _ => none }
def WholeFramesWrongFalsely : Prop := wholeFramesRow.holds Tryz.pinned (OpenSpec.ofChange wholeFramesWrong)

/-- 'cursitortop.WholeStrict': WHATEVER THE INPUT: true; the input reads as it did. -/
def wholeStrictSpec : ChangeSpec := { name := "wholeStrict", fn := fun _ => fun
  | [d1, d2] => { results := [.lit (.bool true)], args := [d1, d2] }
  | _ => none }
def wholeStrictRow : OpenClaim := { program := "yteldcbljedeeiaagreatdoor", sum := "3730310a2bfbd5ceff0372a9b375307078003d1b343915d547878f60bc0a4b49", func := "cursitor/cursitortop.WholeStrict", spec := "wholeStrict", unfollowed := true, recurses := true, named := ["cursitor/version.requests"], apart := false, laid := [("cursitor/version.requests", laid_cursitor_version_requests)] }
def WholeStrictSaid : Prop := wholeStrictRow.holds Tryz.pinned (OpenSpec.ofChange wholeStrictSpec)

/-- ITS FALSE NEIGHBOUR: 'it returns false'. Refute it at one input. -/
def wholeStrictWrong : ChangeSpec := { name := "wholeStrict", fn := fun _ => fun
  | [d1, d2] => { results := [.lit (.bool false)], args := [d1, d2] }
  | _ => none }
def WholeStrictWrongFalsely : Prop := wholeStrictRow.holds Tryz.pinned (OpenSpec.ofChange wholeStrictWrong)

/- THE SECOND FORM. 'bulk': how many values and letters a reading holds, each counted each time it is reached (what is shared counts as often as it is met; a slice's spare places count too). A statement '..UptoSaid' is the law's where the arguments, and the package variables that the reading takes, are together of bulk at most 1048576: NARROWER than '..Said'. Prove '..Said' where nothing that the law and all that it calls make is longer than what came in: it says more and counts as full. Else prove '..UptoSaid'. A law counts once. -/
mutual
def uptoBulk {H : Type} : DataW H → Nat
  | .lit (.string bytes) => bytes.length + 1
  | .lit _ => 1
  | .nil => 1
  | .ptr d => uptoBulk d + 1
  | .slice elems spare => uptoBulkAll elems + uptoBulkAll spare + 1
  | .agg parts => uptoBulkAll parts + 1
  | .iface _ d => uptoBulk d + 1
  | .map entries => uptoBulkEntries entries + 1
  | .held _ => 1
def uptoBulkAll {H : Type} : List (DataW H) → Nat
  | [] => 0
  | d :: r => uptoBulk d + uptoBulkAll r
def uptoBulkEntries {H : Type} : List (Lit × DataW H) → Nat
  | [] => 0
  | x :: r => uptoBulkEntry x + uptoBulkEntries r
def uptoBulkEntry {H : Type} : Lit × DataW H → Nat
  | (.string bytes, d) => bytes.length + uptoBulk d + 1
  | (_, d) => uptoBulk d + 1
 end
def uptoSmall : (H : Type) → List (DataW H) → Bool := fun _ ds => decide (uptoBulkAll ds ≤ 1048576)
def OpenSpec.upto (s : _root_.Go.ChangeSpec) : _root_.Go.OpenSpec := { _root_.Go.OpenSpec.ofChange s with cond := some uptoSmall }

/-- 'cursitorlaw21.FrameEncodes', WHERE WHAT IT READS IS OF BULK AT MOST 1048576: true; the input reads as it did. -/
def frameEncodesUptoRow : OpenClaim := { program := "yteldcbljedeeiaagreatdoor", sum := "3730310a2bfbd5ceff0372a9b375307078003d1b343915d547878f60bc0a4b49", func := "cursitor/cursitorlaw21.FrameEncodes", spec := "frameEncodes", unfollowed := true, recurses := true, named := ["cursitor/version.requests"], apart := false, laid := [("cursitor/version.requests", laid_cursitor_version_requests)], narrowed := true }
def FrameEncodesUptoSaid : Prop := frameEncodesUptoRow.holds Tryz.pinned (OpenSpec.upto frameEncodesSpec)

/-- 'cursitorlaw21.FrameDecodes', WHERE WHAT IT READS IS OF BULK AT MOST 1048576: true; the input reads as it did. -/
def frameDecodesUptoRow : OpenClaim := { program := "yteldcbljedeeiaagreatdoor", sum := "3730310a2bfbd5ceff0372a9b375307078003d1b343915d547878f60bc0a4b49", func := "cursitor/cursitorlaw21.FrameDecodes", spec := "frameDecodes", unfollowed := true, recurses := true, named := ["cursitor/version.requests"], apart := false, laid := [("cursitor/version.requests", laid_cursitor_version_requests)], narrowed := true }
def FrameDecodesUptoSaid : Prop := frameDecodesUptoRow.holds Tryz.pinned (OpenSpec.upto frameDecodesSpec)

/-- 'cursitorlaw21.FrameRows', WHERE WHAT IT READS IS OF BULK AT MOST 1048576: true; the input reads as it did. -/
def frameRowsUptoRow : OpenClaim := { program := "yteldcbljedeeiaagreatdoor", sum := "3730310a2bfbd5ceff0372a9b375307078003d1b343915d547878f60bc0a4b49", func := "cursitor/cursitorlaw21.FrameRows", spec := "frameRows", unfollowed := true, recurses := true, named := ["cursitor/version.requests"], apart := false, laid := [("cursitor/version.requests", laid_cursitor_version_requests)], narrowed := true }
def FrameRowsUptoSaid : Prop := frameRowsUptoRow.holds Tryz.pinned (OpenSpec.upto frameRowsSpec)

/-- 'cursitorlaw22.SplitFeeds', WHERE WHAT IT READS IS OF BULK AT MOST 1048576: true; the input reads as it did. -/
def splitFeedsUptoRow : OpenClaim := { program := "yteldcbljedeeiaagreatdoor", sum := "3730310a2bfbd5ceff0372a9b375307078003d1b343915d547878f60bc0a4b49", func := "cursitor/cursitorlaw22.SplitFeeds", spec := "splitFeeds", unfollowed := true, recurses := true, named := ["cursitor/version.requests"], apart := false, laid := [("cursitor/version.requests", laid_cursitor_version_requests)], narrowed := true }
def SplitFeedsUptoSaid : Prop := splitFeedsUptoRow.holds Tryz.pinned (OpenSpec.upto splitFeedsSpec)

/-- 'cursitorlaw22.SplitRows', WHERE WHAT IT READS IS OF BULK AT MOST 1048576: true; the input reads as it did. -/
def splitRowsUptoRow : OpenClaim := { program := "yteldcbljedeeiaagreatdoor", sum := "3730310a2bfbd5ceff0372a9b375307078003d1b343915d547878f60bc0a4b49", func := "cursitor/cursitorlaw22.SplitRows", spec := "splitRows", unfollowed := true, recurses := true, named := ["cursitor/version.requests"], apart := false, laid := [("cursitor/version.requests", laid_cursitor_version_requests)], narrowed := true }
def SplitRowsUptoSaid : Prop := splitRowsUptoRow.holds Tryz.pinned (OpenSpec.upto splitRowsSpec)

/-- 'cursitortop.WholeFrames', WHERE WHAT IT READS IS OF BULK AT MOST 1048576: true; the input reads as it did. -/
def wholeFramesUptoRow : OpenClaim := { program := "yteldcbljedeeiaagreatdoor", sum := "3730310a2bfbd5ceff0372a9b375307078003d1b343915d547878f60bc0a4b49", func := "cursitor/cursitortop.WholeFrames", spec := "wholeFrames", unfollowed := true, recurses := true, named := ["cursitor/version.requests"], apart := false, laid := [("cursitor/version.requests", laid_cursitor_version_requests)], narrowed := true }
def WholeFramesUptoSaid : Prop := wholeFramesUptoRow.holds Tryz.pinned (OpenSpec.upto wholeFramesSpec)

/-- 'cursitortop.WholeStrict', WHERE WHAT IT READS IS OF BULK AT MOST 1048576: true; the input reads as it did. -/
def wholeStrictUptoRow : OpenClaim := { program := "yteldcbljedeeiaagreatdoor", sum := "3730310a2bfbd5ceff0372a9b375307078003d1b343915d547878f60bc0a4b49", func := "cursitor/cursitortop.WholeStrict", spec := "wholeStrict", unfollowed := true, recurses := true, named := ["cursitor/version.requests"], apart := false, laid := [("cursitor/version.requests", laid_cursitor_version_requests)], narrowed := true }
def WholeStrictUptoSaid : Prop := wholeStrictUptoRow.holds Tryz.pinned (OpenSpec.upto wholeStrictSpec)

end Rows
end Go.Proofs.YteldcbljedeeiaaGreatDoor
