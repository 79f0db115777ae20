/-
  No cell of these rows narrows 'for every input' (looked for: loops, veiled, ifaces, maps, wideKeys, modest, calm, conditions, laid).
  DERIVED. THE GIVEN ROWS OF THIS SEAT. 9 by the template 'for every input the law returns true; each argument reads behind the call as it read before'; 0 by the template 'total and deterministic' (their statements: YtcjgdlfcfcabiaaTotals.lean).
  GIVEN WITH THE SEED: the statements are not yours to turn. If you find one false, say at which input.
  Laid BY PROGRAM, IN A SANDBOX (cutbox-rows.mjs): the forced cells as the released guide's own fill.sh prints them over the translation 361e1419de5e3965… (all of the seat's roots in one cut). By AI agents, Wed Nov 11 2026. No macro, syntax, notation, axiom, sorry.
-/
import Derived.Test.YtcjgdlfcfcabiaaChecked
import GoSem.Claim
import GoSem.ClaimJoined
import GoSem.ClaimMapViews
import Derived.JoinedTies
import Derived.KernelRfl
namespace Go.Proofs.Ytcjgdlfcfcabiaa
/- THE CELL 'sum', in the pinned program and in every row, IS THE sha256 OF THE DUMP (.gsa) THAT YtcjgdlfcfcabiaaProg.lean LOADS. Nothing in Lean hashes anything: it is a label: what it is worth is what the hold of that sum in a sandbox is worth. -/
noncomputable def Try.pinned : Pinned := { name := "ytcjgdlfcfcabiaa", sum := "361e1419de5e3965ac5c98220532902ce69c032698dcf85a1594f87e0e13765f", checked := Try.checked }
namespace Rows
def none {H : Type} : Left H := { results := [], args := [] }

/-- 'cursitorlaw09.AttrChecks': WHATEVER THE INPUT: true; the input reads as it did. -/
def attrChecksSpec : ChangeSpec := { name := "attrChecks", fn := fun _ => fun
  | [d] => { results := [.lit (.bool true)], args := [d] }
  | _ => none }
def attrChecksRow : OpenClaim := { program := "ytcjgdlfcfcabiaa", sum := "361e1419de5e3965ac5c98220532902ce69c032698dcf85a1594f87e0e13765f", func := "cursitor/cursitorlaw09.AttrChecks", spec := "attrChecks", apart := false }
def AttrChecksSaid : Prop := attrChecksRow.holds Try.pinned (OpenSpec.ofChange attrChecksSpec)

/-- ITS FALSE NEIGHBOUR: 'it returns false'. Refute it at one input. -/
def attrChecksWrong : ChangeSpec := { name := "attrChecks", fn := fun _ => fun
  | [d] => { results := [.lit (.bool false)], args := [d] }
  | _ => none }
def AttrChecksWrongFalsely : Prop := attrChecksRow.holds Try.pinned (OpenSpec.ofChange attrChecksWrong)

/-- 'cursitorlaw09.AttrBack': WHATEVER THE INPUT: true; the input reads as it did. -/
def attrBackSpec : ChangeSpec := { name := "attrBack", fn := fun _ => fun
  | [d1, d2, d3] => { results := [.lit (.bool true)], args := [d1, d2, d3] }
  | _ => none }
def attrBackRow : OpenClaim := { program := "ytcjgdlfcfcabiaa", sum := "361e1419de5e3965ac5c98220532902ce69c032698dcf85a1594f87e0e13765f", func := "cursitor/cursitorlaw09.AttrBack", spec := "attrBack", apart := false }
def AttrBackSaid : Prop := attrBackRow.holds Try.pinned (OpenSpec.ofChange attrBackSpec)

/-- ITS FALSE NEIGHBOUR: 'it returns false'. Refute it at one input. -/
def attrBackWrong : ChangeSpec := { name := "attrBack", fn := fun _ => fun
  | [d1, d2, d3] => { results := [.lit (.bool false)], args := [d1, d2, d3] }
  | _ => none }
def AttrBackWrongFalsely : Prop := attrBackRow.holds Try.pinned (OpenSpec.ofChange attrBackWrong)

/-- 'cursitorlaw10.PrefixWrites': WHATEVER THE INPUT: true; the input reads as it did. -/
def prefixWritesSpec : ChangeSpec := { name := "prefixWrites", fn := fun _ => fun
  | [d] => { results := [.lit (.bool true)], args := [d] }
  | _ => none }
def prefixWritesRow : OpenClaim := { program := "ytcjgdlfcfcabiaa", sum := "361e1419de5e3965ac5c98220532902ce69c032698dcf85a1594f87e0e13765f", func := "cursitor/cursitorlaw10.PrefixWrites", spec := "prefixWrites", apart := false }
def PrefixWritesSaid : Prop := prefixWritesRow.holds Try.pinned (OpenSpec.ofChange prefixWritesSpec)

/-- ITS FALSE NEIGHBOUR: 'it returns false'. Refute it at one input. -/
def prefixWritesWrong : ChangeSpec := { name := "prefixWrites", fn := fun _ => fun
  | [d] => { results := [.lit (.bool false)], args := [d] }
  | _ => none }
def PrefixWritesWrongFalsely : Prop := prefixWritesRow.holds Try.pinned (OpenSpec.ofChange prefixWritesWrong)

/-- 'cursitorlaw10.PrefixReads': WHATEVER THE INPUT: true; the input reads as it did. -/
def prefixReadsSpec : ChangeSpec := { name := "prefixReads", fn := fun _ => fun
  | [d] => { results := [.lit (.bool true)], args := [d] }
  | _ => none }
def prefixReadsRow : OpenClaim := { program := "ytcjgdlfcfcabiaa", sum := "361e1419de5e3965ac5c98220532902ce69c032698dcf85a1594f87e0e13765f", func := "cursitor/cursitorlaw10.PrefixReads", spec := "prefixReads", apart := false }
def PrefixReadsSaid : Prop := prefixReadsRow.holds Try.pinned (OpenSpec.ofChange prefixReadsSpec)

/-- ITS FALSE NEIGHBOUR: 'it returns false'. Refute it at one input. -/
def prefixReadsWrong : ChangeSpec := { name := "prefixReads", fn := fun _ => fun
  | [d] => { results := [.lit (.bool false)], args := [d] }
  | _ => none }
def PrefixReadsWrongFalsely : Prop := prefixReadsRow.holds Try.pinned (OpenSpec.ofChange prefixReadsWrong)

/-- 'cursitorlaw11.BatchControls': WHATEVER THE INPUT: true; the input reads as it did. -/
def batchControlsSpec : ChangeSpec := { name := "batchControls", fn := fun _ => fun
  | [d] => { results := [.lit (.bool true)], args := [d] }
  | _ => none }
def batchControlsRow : OpenClaim := { program := "ytcjgdlfcfcabiaa", sum := "361e1419de5e3965ac5c98220532902ce69c032698dcf85a1594f87e0e13765f", func := "cursitor/cursitorlaw11.BatchControls", spec := "batchControls", unfollowed := true, recurses := true, apart := false }
def BatchControlsSaid : Prop := batchControlsRow.holds Try.pinned (OpenSpec.ofChange batchControlsSpec)

/-- ITS FALSE NEIGHBOUR: 'it returns false'. Refute it at one input. -/
def batchControlsWrong : ChangeSpec := { name := "batchControls", fn := fun _ => fun
  | [d] => { results := [.lit (.bool false)], args := [d] }
  | _ => none }
def BatchControlsWrongFalsely : Prop := batchControlsRow.holds Try.pinned (OpenSpec.ofChange batchControlsWrong)

/-- 'cursitorlaw11.BatchHarms': WHATEVER THE INPUT: true; the input reads as it did. -/
def batchHarmsSpec : ChangeSpec := { name := "batchHarms", fn := fun _ => fun
  | [d1, d2, d3] => { results := [.lit (.bool true)], args := [d1, d2, d3] }
  | _ => none }
def batchHarmsRow : OpenClaim := { program := "ytcjgdlfcfcabiaa", sum := "361e1419de5e3965ac5c98220532902ce69c032698dcf85a1594f87e0e13765f", func := "cursitor/cursitorlaw11.BatchHarms", spec := "batchHarms", unfollowed := true, recurses := true, apart := false }
def BatchHarmsSaid : Prop := batchHarmsRow.holds Try.pinned (OpenSpec.ofChange batchHarmsSpec)

/-- ITS FALSE NEIGHBOUR: 'it returns false'. Refute it at one input. -/
def batchHarmsWrong : ChangeSpec := { name := "batchHarms", fn := fun _ => fun
  | [d1, d2, d3] => { results := [.lit (.bool false)], args := [d1, d2, d3] }
  | _ => none }
def BatchHarmsWrongFalsely : Prop := batchHarmsRow.holds Try.pinned (OpenSpec.ofChange batchHarmsWrong)

/-- 'cursitorlaw11.BatchRows': WHATEVER THE INPUT: true; the input reads as it did. -/
def batchRowsSpec : ChangeSpec := { name := "batchRows", fn := fun _ => fun
  | [d] => { results := [.lit (.bool true)], args := [d] }
  | _ => none }
def batchRowsRow : OpenClaim := { program := "ytcjgdlfcfcabiaa", sum := "361e1419de5e3965ac5c98220532902ce69c032698dcf85a1594f87e0e13765f", func := "cursitor/cursitorlaw11.BatchRows", spec := "batchRows", unfollowed := true, recurses := true, apart := false }
def BatchRowsSaid : Prop := batchRowsRow.holds Try.pinned (OpenSpec.ofChange batchRowsSpec)

/-- ITS FALSE NEIGHBOUR: 'it returns false'. Refute it at one input. -/
def batchRowsWrong : ChangeSpec := { name := "batchRows", fn := fun _ => fun
  | [d] => { results := [.lit (.bool false)], args := [d] }
  | _ => none }
def BatchRowsWrongFalsely : Prop := batchRowsRow.holds Try.pinned (OpenSpec.ofChange batchRowsWrong)

/-- 'cursitorlaw12.MarkerReads': WHATEVER THE INPUT: true; the input reads as it did. -/
def markerReadsSpec : ChangeSpec := { name := "markerReads", fn := fun _ => fun
  | [d] => { results := [.lit (.bool true)], args := [d] }
  | _ => none }
def markerReadsRow : OpenClaim := { program := "ytcjgdlfcfcabiaa", sum := "361e1419de5e3965ac5c98220532902ce69c032698dcf85a1594f87e0e13765f", func := "cursitor/cursitorlaw12.MarkerReads", spec := "markerReads", unfollowed := true, recurses := true, apart := false }
def MarkerReadsSaid : Prop := markerReadsRow.holds Try.pinned (OpenSpec.ofChange markerReadsSpec)

/-- ITS FALSE NEIGHBOUR: 'it returns false'. Refute it at one input. -/
def markerReadsWrong : ChangeSpec := { name := "markerReads", fn := fun _ => fun
  | [d] => { results := [.lit (.bool false)], args := [d] }
  | _ => none }
def MarkerReadsWrongFalsely : Prop := markerReadsRow.holds Try.pinned (OpenSpec.ofChange markerReadsWrong)

/-- 'cursitortop.WholeBits': WHATEVER THE INPUT: true; the input reads as it did. -/
def wholeBitsSpec : ChangeSpec := { name := "wholeBits", fn := fun _ => fun
  | [d1, d2, d3] => { results := [.lit (.bool true)], args := [d1, d2, d3] }
  | _ => none }
def wholeBitsRow : OpenClaim := { program := "ytcjgdlfcfcabiaa", sum := "361e1419de5e3965ac5c98220532902ce69c032698dcf85a1594f87e0e13765f", func := "cursitor/cursitortop.WholeBits", spec := "wholeBits", apart := false }
def WholeBitsSaid : Prop := wholeBitsRow.holds Try.pinned (OpenSpec.ofChange wholeBitsSpec)

/-- ITS FALSE NEIGHBOUR: 'it returns false'. Refute it at one input. -/
def wholeBitsWrong : ChangeSpec := { name := "wholeBits", fn := fun _ => fun
  | [d1, d2, d3] => { results := [.lit (.bool false)], args := [d1, d2, d3] }
  | _ => none }
def WholeBitsWrongFalsely : Prop := wholeBitsRow.holds Try.pinned (OpenSpec.ofChange wholeBitsWrong)

/- THE SECOND FORM. 'bulk': how many values and letters a reading holds, each counted each time it is reached (what is shared counts as often as it is met; a slice's spare places count too). A statement '..UptoSaid' is the law's where the arguments, and the package variables that the reading takes, are together of bulk at most 1048576: NARROWER than '..Said'. Prove '..Said' where nothing that the law and all that it calls make is longer than what came in: it says more and counts as full. Else prove '..UptoSaid'. A law counts once. -/
mutual
def uptoBulk {H : Type} : DataW H → Nat
  | .lit (.string bytes) => bytes.length + 1
  | .lit _ => 1
  | .nil => 1
  | .ptr d => uptoBulk d + 1
  | .slice elems spare => uptoBulkAll elems + uptoBulkAll spare + 1
  | .agg parts => uptoBulkAll parts + 1
  | .iface _ d => uptoBulk d + 1
  | .map entries => uptoBulkEntries entries + 1
  | .held _ => 1
def uptoBulkAll {H : Type} : List (DataW H) → Nat
  | [] => 0
  | d :: r => uptoBulk d + uptoBulkAll r
def uptoBulkEntries {H : Type} : List (Lit × DataW H) → Nat
  | [] => 0
  | x :: r => uptoBulkEntry x + uptoBulkEntries r
def uptoBulkEntry {H : Type} : Lit × DataW H → Nat
  | (.string bytes, d) => bytes.length + uptoBulk d + 1
  | (_, d) => uptoBulk d + 1
 end
def uptoSmall : (H : Type) → List (DataW H) → Bool := fun _ ds => decide (uptoBulkAll ds ≤ 1048576)
def OpenSpec.upto (s : _root_.Go.ChangeSpec) : _root_.Go.OpenSpec := { _root_.Go.OpenSpec.ofChange s with cond := some uptoSmall }

/-- 'cursitorlaw09.AttrChecks', WHERE WHAT IT READS IS OF BULK AT MOST 1048576: true; the input reads as it did. -/
def attrChecksUptoRow : OpenClaim := { program := "ytcjgdlfcfcabiaa", sum := "361e1419de5e3965ac5c98220532902ce69c032698dcf85a1594f87e0e13765f", func := "cursitor/cursitorlaw09.AttrChecks", spec := "attrChecks", apart := false, narrowed := true }
def AttrChecksUptoSaid : Prop := attrChecksUptoRow.holds Try.pinned (OpenSpec.upto attrChecksSpec)

/-- 'cursitorlaw09.AttrBack', WHERE WHAT IT READS IS OF BULK AT MOST 1048576: true; the input reads as it did. -/
def attrBackUptoRow : OpenClaim := { program := "ytcjgdlfcfcabiaa", sum := "361e1419de5e3965ac5c98220532902ce69c032698dcf85a1594f87e0e13765f", func := "cursitor/cursitorlaw09.AttrBack", spec := "attrBack", apart := false, narrowed := true }
def AttrBackUptoSaid : Prop := attrBackUptoRow.holds Try.pinned (OpenSpec.upto attrBackSpec)

/-- 'cursitorlaw10.PrefixWrites', WHERE WHAT IT READS IS OF BULK AT MOST 1048576: true; the input reads as it did. -/
def prefixWritesUptoRow : OpenClaim := { program := "ytcjgdlfcfcabiaa", sum := "361e1419de5e3965ac5c98220532902ce69c032698dcf85a1594f87e0e13765f", func := "cursitor/cursitorlaw10.PrefixWrites", spec := "prefixWrites", apart := false, narrowed := true }
def PrefixWritesUptoSaid : Prop := prefixWritesUptoRow.holds Try.pinned (OpenSpec.upto prefixWritesSpec)

/-- 'cursitorlaw10.PrefixReads', WHERE WHAT IT READS IS OF BULK AT MOST 1048576: true; the input reads as it did. -/
def prefixReadsUptoRow : OpenClaim := { program := "ytcjgdlfcfcabiaa", sum := "361e1419de5e3965ac5c98220532902ce69c032698dcf85a1594f87e0e13765f", func := "cursitor/cursitorlaw10.PrefixReads", spec := "prefixReads", apart := false, narrowed := true }
def PrefixReadsUptoSaid : Prop := prefixReadsUptoRow.holds Try.pinned (OpenSpec.upto prefixReadsSpec)

/-- 'cursitorlaw11.BatchControls', WHERE WHAT IT READS IS OF BULK AT MOST 1048576: true; the input reads as it did. -/
def batchControlsUptoRow : OpenClaim := { program := "ytcjgdlfcfcabiaa", sum := "361e1419de5e3965ac5c98220532902ce69c032698dcf85a1594f87e0e13765f", func := "cursitor/cursitorlaw11.BatchControls", spec := "batchControls", unfollowed := true, recurses := true, apart := false, narrowed := true }
def BatchControlsUptoSaid : Prop := batchControlsUptoRow.holds Try.pinned (OpenSpec.upto batchControlsSpec)

/-- 'cursitorlaw11.BatchHarms', WHERE WHAT IT READS IS OF BULK AT MOST 1048576: true; the input reads as it did. -/
def batchHarmsUptoRow : OpenClaim := { program := "ytcjgdlfcfcabiaa", sum := "361e1419de5e3965ac5c98220532902ce69c032698dcf85a1594f87e0e13765f", func := "cursitor/cursitorlaw11.BatchHarms", spec := "batchHarms", unfollowed := true, recurses := true, apart := false, narrowed := true }
def BatchHarmsUptoSaid : Prop := batchHarmsUptoRow.holds Try.pinned (OpenSpec.upto batchHarmsSpec)

/-- 'cursitorlaw11.BatchRows', WHERE WHAT IT READS IS OF BULK AT MOST 1048576: true; the input reads as it did. -/
def batchRowsUptoRow : OpenClaim := { program := "ytcjgdlfcfcabiaa", sum := "361e1419de5e3965ac5c98220532902ce69c032698dcf85a1594f87e0e13765f", func := "cursitor/cursitorlaw11.BatchRows", spec := "batchRows", unfollowed := true, recurses := true, apart := false, narrowed := true }
def BatchRowsUptoSaid : Prop := batchRowsUptoRow.holds Try.pinned (OpenSpec.upto batchRowsSpec)

/-- 'cursitorlaw12.MarkerReads', WHERE WHAT IT READS IS OF BULK AT MOST 1048576: true; the input reads as it did. -/
def markerReadsUptoRow : OpenClaim := { program := "ytcjgdlfcfcabiaa", sum := "361e1419de5e3965ac5c98220532902ce69c032698dcf85a1594f87e0e13765f", func := "cursitor/cursitorlaw12.MarkerReads", spec := "markerReads", unfollowed := true, recurses := true, apart := false, narrowed := true }
def MarkerReadsUptoSaid : Prop := markerReadsUptoRow.holds Try.pinned (OpenSpec.upto markerReadsSpec)

/-- 'cursitortop.WholeBits', WHERE WHAT IT READS IS OF BULK AT MOST 1048576: true; the input reads as it did. -/
def wholeBitsUptoRow : OpenClaim := { program := "ytcjgdlfcfcabiaa", sum := "361e1419de5e3965ac5c98220532902ce69c032698dcf85a1594f87e0e13765f", func := "cursitor/cursitortop.WholeBits", spec := "wholeBits", apart := false, narrowed := true }
def WholeBitsUptoSaid : Prop := wholeBitsUptoRow.holds Try.pinned (OpenSpec.upto wholeBitsSpec)

end Rows
end Go.Proofs.Ytcjgdlfcfcabiaa
