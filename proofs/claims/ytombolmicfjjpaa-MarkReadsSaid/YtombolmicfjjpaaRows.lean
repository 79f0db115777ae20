/-
  No cell of these rows narrows 'for every input' (looked for: loops, veiled, ifaces, maps, wideKeys, modest, calm, conditions, laid).
  DERIVED. THE GIVEN ROWS OF THIS SEAT. 10 by the template 'for every input the law returns true; each argument reads behind the call as it read before'; 0 by the template 'total and deterministic' (their statements: YtombolmicfjjpaaTotals.lean).
  GIVEN WITH THE SEED: the statements are not yours to turn. If you find one false, say at which input.
  Laid BY PROGRAM, IN A SANDBOX (cutbox-rows.mjs): the forced cells as the released guide's own fill.sh prints them over the translation 851f50a89c475ffa… (all of the seat's roots in one cut). By AI agents, Wed Nov 11 2026. No macro, syntax, notation, axiom, sorry.
-/
import Derived.Test.YtombolmicfjjpaaChecked
import GoSem.Claim
import GoSem.ClaimJoined
import GoSem.ClaimMapViews
import Derived.JoinedTies
import Derived.KernelRfl
namespace Go.Proofs.Ytombolmicfjjpaa
/- THE CELL 'sum', in the pinned program and in every row, IS THE sha256 OF THE DUMP (.gsa) THAT YtombolmicfjjpaaProg.lean LOADS. Nothing in Lean hashes anything: it is a label: what it is worth is what the hold of that sum in a sandbox is worth. -/
noncomputable def Try.pinned : Pinned := { name := "ytombolmicfjjpaa", sum := "851f50a89c475ffaf27e7f4b61e6099f3fd82d460a3dcec83bdbb1b055c395d8", checked := Try.checked }
namespace Rows
def none {H : Type} : Left H := { results := [], args := [] }

/-- 'cursitorlaw14.ValueEncodes': WHATEVER THE INPUT: true; the input reads as it did. -/
def valueEncodesSpec : ChangeSpec := { name := "valueEncodes", fn := fun _ => fun
  | [d] => { results := [.lit (.bool true)], args := [d] }
  | _ => none }
def valueEncodesRow : OpenClaim := { program := "ytombolmicfjjpaa", sum := "851f50a89c475ffaf27e7f4b61e6099f3fd82d460a3dcec83bdbb1b055c395d8", func := "cursitor/cursitorlaw14.ValueEncodes", spec := "valueEncodes", unfollowed := true, recurses := true, apart := false }
def ValueEncodesSaid : Prop := valueEncodesRow.holds Try.pinned (OpenSpec.ofChange valueEncodesSpec)

/-- ITS FALSE NEIGHBOUR: 'it returns false'. Refute it at one input. -/
def valueEncodesWrong : ChangeSpec := { name := "valueEncodes", fn := fun _ => fun
  | [d] => { results := [.lit (.bool false)], args := [d] }
  | _ => none }
def ValueEncodesWrongFalsely : Prop := valueEncodesRow.holds Try.pinned (OpenSpec.ofChange valueEncodesWrong)

/-- 'cursitorlaw14.ValueDecodes': WHATEVER THE INPUT: true; the input reads as it did. -/
def valueDecodesSpec : ChangeSpec := { name := "valueDecodes", fn := fun _ => fun
  | [d] => { results := [.lit (.bool true)], args := [d] }
  | _ => none }
def valueDecodesRow : OpenClaim := { program := "ytombolmicfjjpaa", sum := "851f50a89c475ffaf27e7f4b61e6099f3fd82d460a3dcec83bdbb1b055c395d8", func := "cursitor/cursitorlaw14.ValueDecodes", spec := "valueDecodes", apart := false }
def ValueDecodesSaid : Prop := valueDecodesRow.holds Try.pinned (OpenSpec.ofChange valueDecodesSpec)

/-- ITS FALSE NEIGHBOUR: 'it returns false'. Refute it at one input. -/
def valueDecodesWrong : ChangeSpec := { name := "valueDecodes", fn := fun _ => fun
  | [d] => { results := [.lit (.bool false)], args := [d] }
  | _ => none }
def ValueDecodesWrongFalsely : Prop := valueDecodesRow.holds Try.pinned (OpenSpec.ofChange valueDecodesWrong)

/-- 'cursitorlaw14.ValueTopics': WHATEVER THE INPUT: true; the input reads as it did. -/
def valueTopicsSpec : ChangeSpec := { name := "valueTopics", fn := fun _ => fun
  | [d1, d2, d3] => { results := [.lit (.bool true)], args := [d1, d2, d3] }
  | _ => none }
def valueTopicsRow : OpenClaim := { program := "ytombolmicfjjpaa", sum := "851f50a89c475ffaf27e7f4b61e6099f3fd82d460a3dcec83bdbb1b055c395d8", func := "cursitor/cursitorlaw14.ValueTopics", spec := "valueTopics", unfollowed := true, recurses := true, apart := false }
def ValueTopicsSaid : Prop := valueTopicsRow.holds Try.pinned (OpenSpec.ofChange valueTopicsSpec)

/-- ITS FALSE NEIGHBOUR: 'it returns false'. Refute it at one input. -/
def valueTopicsWrong : ChangeSpec := { name := "valueTopics", fn := fun _ => fun
  | [d1, d2, d3] => { results := [.lit (.bool false)], args := [d1, d2, d3] }
  | _ => none }
def ValueTopicsWrongFalsely : Prop := valueTopicsRow.holds Try.pinned (OpenSpec.ofChange valueTopicsWrong)

/-- 'cursitortop.WholeEntries': WHATEVER THE INPUT: true; the input reads as it did. -/
def wholeEntriesSpec : ChangeSpec := { name := "wholeEntries", fn := fun _ => fun
  | [d1, d2, d3] => { results := [.lit (.bool true)], args := [d1, d2, d3] }
  | _ => none }
def wholeEntriesRow : OpenClaim := { program := "ytombolmicfjjpaa", sum := "851f50a89c475ffaf27e7f4b61e6099f3fd82d460a3dcec83bdbb1b055c395d8", func := "cursitor/cursitortop.WholeEntries", spec := "wholeEntries", apart := false }
def WholeEntriesSaid : Prop := wholeEntriesRow.holds Try.pinned (OpenSpec.ofChange wholeEntriesSpec)

/-- ITS FALSE NEIGHBOUR: 'it returns false'. Refute it at one input. -/
def wholeEntriesWrong : ChangeSpec := { name := "wholeEntries", fn := fun _ => fun
  | [d1, d2, d3] => { results := [.lit (.bool false)], args := [d1, d2, d3] }
  | _ => none }
def WholeEntriesWrongFalsely : Prop := wholeEntriesRow.holds Try.pinned (OpenSpec.ofChange wholeEntriesWrong)

/-- 'cursitorlaw18.TxnWrites': WHATEVER THE INPUT: true; the input reads as it did. -/
def txnWritesSpec : ChangeSpec := { name := "txnWrites", fn := fun _ => fun
  | [d1, d2, d3] => { results := [.lit (.bool true)], args := [d1, d2, d3] }
  | _ => none }
def txnWritesRow : OpenClaim := { program := "ytombolmicfjjpaa", sum := "851f50a89c475ffaf27e7f4b61e6099f3fd82d460a3dcec83bdbb1b055c395d8", func := "cursitor/cursitorlaw18.TxnWrites", spec := "txnWrites", unfollowed := true, recurses := true, apart := false }
def TxnWritesSaid : Prop := txnWritesRow.holds Try.pinned (OpenSpec.ofChange txnWritesSpec)

/-- ITS FALSE NEIGHBOUR: 'it returns false'. Refute it at one input. -/
def txnWritesWrong : ChangeSpec := { name := "txnWrites", fn := fun _ => fun
  | [d1, d2, d3] => { results := [.lit (.bool false)], args := [d1, d2, d3] }
  | _ => none }
def TxnWritesWrongFalsely : Prop := txnWritesRow.holds Try.pinned (OpenSpec.ofChange txnWritesWrong)

/-- 'cursitorlaw18.TxnReads': WHATEVER THE INPUT: true; the input reads as it did. -/
def txnReadsSpec : ChangeSpec := { name := "txnReads", fn := fun _ => fun
  | [d1, d2, d3] => { results := [.lit (.bool true)], args := [d1, d2, d3] }
  | _ => none }
def txnReadsRow : OpenClaim := { program := "ytombolmicfjjpaa", sum := "851f50a89c475ffaf27e7f4b61e6099f3fd82d460a3dcec83bdbb1b055c395d8", func := "cursitor/cursitorlaw18.TxnReads", spec := "txnReads", unfollowed := true, recurses := true, apart := false }
def TxnReadsSaid : Prop := txnReadsRow.holds Try.pinned (OpenSpec.ofChange txnReadsSpec)

/-- ITS FALSE NEIGHBOUR: 'it returns false'. Refute it at one input. -/
def txnReadsWrong : ChangeSpec := { name := "txnReads", fn := fun _ => fun
  | [d1, d2, d3] => { results := [.lit (.bool false)], args := [d1, d2, d3] }
  | _ => none }
def TxnReadsWrongFalsely : Prop := txnReadsRow.holds Try.pinned (OpenSpec.ofChange txnReadsWrong)

/-- 'cursitorlaw18.TxnParts': WHATEVER THE INPUT: true; the input reads as it did. -/
def txnPartsSpec : ChangeSpec := { name := "txnParts", fn := fun _ => fun
  | [d1, d2, d3] => { results := [.lit (.bool true)], args := [d1, d2, d3] }
  | _ => none }
def txnPartsRow : OpenClaim := { program := "ytombolmicfjjpaa", sum := "851f50a89c475ffaf27e7f4b61e6099f3fd82d460a3dcec83bdbb1b055c395d8", func := "cursitor/cursitorlaw18.TxnParts", spec := "txnParts", unfollowed := true, recurses := true, apart := false }
def TxnPartsSaid : Prop := txnPartsRow.holds Try.pinned (OpenSpec.ofChange txnPartsSpec)

/-- ITS FALSE NEIGHBOUR: 'it returns false'. Refute it at one input. -/
def txnPartsWrong : ChangeSpec := { name := "txnParts", fn := fun _ => fun
  | [d1, d2, d3] => { results := [.lit (.bool false)], args := [d1, d2, d3] }
  | _ => none }
def TxnPartsWrongFalsely : Prop := txnPartsRow.holds Try.pinned (OpenSpec.ofChange txnPartsWrong)

/-- 'cursitorlaw19.MarkWrites': WHATEVER THE INPUT: true; the input reads as it did. -/
def markWritesSpec : ChangeSpec := { name := "markWrites", fn := fun _ => fun
  | [d1, d2] => { results := [.lit (.bool true)], args := [d1, d2] }
  | _ => none }
def markWritesRow : OpenClaim := { program := "ytombolmicfjjpaa", sum := "851f50a89c475ffaf27e7f4b61e6099f3fd82d460a3dcec83bdbb1b055c395d8", func := "cursitor/cursitorlaw19.MarkWrites", spec := "markWrites", unfollowed := true, recurses := true, apart := false }
def MarkWritesSaid : Prop := markWritesRow.holds Try.pinned (OpenSpec.ofChange markWritesSpec)

/-- ITS FALSE NEIGHBOUR: 'it returns false'. Refute it at one input. -/
def markWritesWrong : ChangeSpec := { name := "markWrites", fn := fun _ => fun
  | [d1, d2] => { results := [.lit (.bool false)], args := [d1, d2] }
  | _ => none }
def MarkWritesWrongFalsely : Prop := markWritesRow.holds Try.pinned (OpenSpec.ofChange markWritesWrong)

/-- 'cursitorlaw19.MarkReads': WHATEVER THE INPUT: true; the input reads as it did. -/
def markReadsSpec : ChangeSpec := { name := "markReads", fn := fun _ => fun
  | [d1, d2] => { results := [.lit (.bool true)], args := [d1, d2] }
  | _ => none }
def markReadsRow : OpenClaim := { program := "ytombolmicfjjpaa", sum := "851f50a89c475ffaf27e7f4b61e6099f3fd82d460a3dcec83bdbb1b055c395d8", func := "cursitor/cursitorlaw19.MarkReads", spec := "markReads", apart := false }
def MarkReadsSaid : Prop := markReadsRow.holds Try.pinned (OpenSpec.ofChange markReadsSpec)

/-- ITS FALSE NEIGHBOUR: 'it returns false'. Refute it at one input. -/
def markReadsWrong : ChangeSpec := { name := "markReads", fn := fun _ => fun
  | [d1, d2] => { results := [.lit (.bool false)], args := [d1, d2] }
  | _ => none }
def MarkReadsWrongFalsely : Prop := markReadsRow.holds Try.pinned (OpenSpec.ofChange markReadsWrong)

/-- 'cursitorlaw24.TallyQuarters': WHATEVER THE INPUT: true; the input reads as it did. -/
def tallyQuartersSpec : ChangeSpec := { name := "tallyQuarters", fn := fun _ => fun
  | [d1, d2, d3] => { results := [.lit (.bool true)], args := [d1, d2, d3] }
  | _ => none }
def tallyQuartersRow : OpenClaim := { program := "ytombolmicfjjpaa", sum := "851f50a89c475ffaf27e7f4b61e6099f3fd82d460a3dcec83bdbb1b055c395d8", func := "cursitor/cursitorlaw24.TallyQuarters", spec := "tallyQuarters", apart := false }
def TallyQuartersSaid : Prop := tallyQuartersRow.holds Try.pinned (OpenSpec.ofChange tallyQuartersSpec)

/-- ITS FALSE NEIGHBOUR: 'it returns false'. Refute it at one input. -/
def tallyQuartersWrong : ChangeSpec := { name := "tallyQuarters", fn := fun _ => fun
  | [d1, d2, d3] => { results := [.lit (.bool false)], args := [d1, d2, d3] }
  | _ => none }
def TallyQuartersWrongFalsely : Prop := tallyQuartersRow.holds Try.pinned (OpenSpec.ofChange tallyQuartersWrong)

/- THE SECOND FORM. 'bulk': how many values and letters a reading holds, each counted each time it is reached (what is shared counts as often as it is met; a slice's spare places count too). A statement '..UptoSaid' is the law's where the arguments, and the package variables that the reading takes, are together of bulk at most 1048576: NARROWER than '..Said'. Prove '..Said' where nothing that the law and all that it calls make is longer than what came in: it says more and counts as full. Else prove '..UptoSaid'. A law counts once. -/
mutual
def uptoBulk {H : Type} : DataW H → Nat
  | .lit (.string bytes) => bytes.length + 1
  | .lit _ => 1
  | .nil => 1
  | .ptr d => uptoBulk d + 1
  | .slice elems spare => uptoBulkAll elems + uptoBulkAll spare + 1
  | .agg parts => uptoBulkAll parts + 1
  | .iface _ d => uptoBulk d + 1
  | .map entries => uptoBulkEntries entries + 1
  | .held _ => 1
def uptoBulkAll {H : Type} : List (DataW H) → Nat
  | [] => 0
  | d :: r => uptoBulk d + uptoBulkAll r
def uptoBulkEntries {H : Type} : List (Lit × DataW H) → Nat
  | [] => 0
  | x :: r => uptoBulkEntry x + uptoBulkEntries r
def uptoBulkEntry {H : Type} : Lit × DataW H → Nat
  | (.string bytes, d) => bytes.length + uptoBulk d + 1
  | (_, d) => uptoBulk d + 1
 end
def uptoSmall : (H : Type) → List (DataW H) → Bool := fun _ ds => decide (uptoBulkAll ds ≤ 1048576)
def OpenSpec.upto (s : _root_.Go.ChangeSpec) : _root_.Go.OpenSpec := { _root_.Go.OpenSpec.ofChange s with cond := some uptoSmall }

/-- 'cursitorlaw14.ValueEncodes', WHERE WHAT IT READS IS OF BULK AT MOST 1048576: true; the input reads as it did. -/
def valueEncodesUptoRow : OpenClaim := { program := "ytombolmicfjjpaa", sum := "851f50a89c475ffaf27e7f4b61e6099f3fd82d460a3dcec83bdbb1b055c395d8", func := "cursitor/cursitorlaw14.ValueEncodes", spec := "valueEncodes", unfollowed := true, recurses := true, apart := false, narrowed := true }
def ValueEncodesUptoSaid : Prop := valueEncodesUptoRow.holds Try.pinned (OpenSpec.upto valueEncodesSpec)

/-- 'cursitorlaw14.ValueDecodes', WHERE WHAT IT READS IS OF BULK AT MOST 1048576: true; the input reads as it did. -/
def valueDecodesUptoRow : OpenClaim := { program := "ytombolmicfjjpaa", sum := "851f50a89c475ffaf27e7f4b61e6099f3fd82d460a3dcec83bdbb1b055c395d8", func := "cursitor/cursitorlaw14.ValueDecodes", spec := "valueDecodes", apart := false, narrowed := true }
def ValueDecodesUptoSaid : Prop := valueDecodesUptoRow.holds Try.pinned (OpenSpec.upto valueDecodesSpec)

/-- 'cursitorlaw14.ValueTopics', WHERE WHAT IT READS IS OF BULK AT MOST 1048576: true; the input reads as it did. -/
def valueTopicsUptoRow : OpenClaim := { program := "ytombolmicfjjpaa", sum := "851f50a89c475ffaf27e7f4b61e6099f3fd82d460a3dcec83bdbb1b055c395d8", func := "cursitor/cursitorlaw14.ValueTopics", spec := "valueTopics", unfollowed := true, recurses := true, apart := false, narrowed := true }
def ValueTopicsUptoSaid : Prop := valueTopicsUptoRow.holds Try.pinned (OpenSpec.upto valueTopicsSpec)

/-- 'cursitortop.WholeEntries', WHERE WHAT IT READS IS OF BULK AT MOST 1048576: true; the input reads as it did. -/
def wholeEntriesUptoRow : OpenClaim := { program := "ytombolmicfjjpaa", sum := "851f50a89c475ffaf27e7f4b61e6099f3fd82d460a3dcec83bdbb1b055c395d8", func := "cursitor/cursitortop.WholeEntries", spec := "wholeEntries", apart := false, narrowed := true }
def WholeEntriesUptoSaid : Prop := wholeEntriesUptoRow.holds Try.pinned (OpenSpec.upto wholeEntriesSpec)

/-- 'cursitorlaw18.TxnWrites', WHERE WHAT IT READS IS OF BULK AT MOST 1048576: true; the input reads as it did. -/
def txnWritesUptoRow : OpenClaim := { program := "ytombolmicfjjpaa", sum := "851f50a89c475ffaf27e7f4b61e6099f3fd82d460a3dcec83bdbb1b055c395d8", func := "cursitor/cursitorlaw18.TxnWrites", spec := "txnWrites", unfollowed := true, recurses := true, apart := false, narrowed := true }
def TxnWritesUptoSaid : Prop := txnWritesUptoRow.holds Try.pinned (OpenSpec.upto txnWritesSpec)

/-- 'cursitorlaw18.TxnReads', WHERE WHAT IT READS IS OF BULK AT MOST 1048576: true; the input reads as it did. -/
def txnReadsUptoRow : OpenClaim := { program := "ytombolmicfjjpaa", sum := "851f50a89c475ffaf27e7f4b61e6099f3fd82d460a3dcec83bdbb1b055c395d8", func := "cursitor/cursitorlaw18.TxnReads", spec := "txnReads", unfollowed := true, recurses := true, apart := false, narrowed := true }
def TxnReadsUptoSaid : Prop := txnReadsUptoRow.holds Try.pinned (OpenSpec.upto txnReadsSpec)

/-- 'cursitorlaw18.TxnParts', WHERE WHAT IT READS IS OF BULK AT MOST 1048576: true; the input reads as it did. -/
def txnPartsUptoRow : OpenClaim := { program := "ytombolmicfjjpaa", sum := "851f50a89c475ffaf27e7f4b61e6099f3fd82d460a3dcec83bdbb1b055c395d8", func := "cursitor/cursitorlaw18.TxnParts", spec := "txnParts", unfollowed := true, recurses := true, apart := false, narrowed := true }
def TxnPartsUptoSaid : Prop := txnPartsUptoRow.holds Try.pinned (OpenSpec.upto txnPartsSpec)

/-- 'cursitorlaw19.MarkWrites', WHERE WHAT IT READS IS OF BULK AT MOST 1048576: true; the input reads as it did. -/
def markWritesUptoRow : OpenClaim := { program := "ytombolmicfjjpaa", sum := "851f50a89c475ffaf27e7f4b61e6099f3fd82d460a3dcec83bdbb1b055c395d8", func := "cursitor/cursitorlaw19.MarkWrites", spec := "markWrites", unfollowed := true, recurses := true, apart := false, narrowed := true }
def MarkWritesUptoSaid : Prop := markWritesUptoRow.holds Try.pinned (OpenSpec.upto markWritesSpec)

/-- 'cursitorlaw19.MarkReads', WHERE WHAT IT READS IS OF BULK AT MOST 1048576: true; the input reads as it did. -/
def markReadsUptoRow : OpenClaim := { program := "ytombolmicfjjpaa", sum := "851f50a89c475ffaf27e7f4b61e6099f3fd82d460a3dcec83bdbb1b055c395d8", func := "cursitor/cursitorlaw19.MarkReads", spec := "markReads", apart := false, narrowed := true }
def MarkReadsUptoSaid : Prop := markReadsUptoRow.holds Try.pinned (OpenSpec.upto markReadsSpec)

/-- 'cursitorlaw24.TallyQuarters', WHERE WHAT IT READS IS OF BULK AT MOST 1048576: true; the input reads as it did. -/
def tallyQuartersUptoRow : OpenClaim := { program := "ytombolmicfjjpaa", sum := "851f50a89c475ffaf27e7f4b61e6099f3fd82d460a3dcec83bdbb1b055c395d8", func := "cursitor/cursitorlaw24.TallyQuarters", spec := "tallyQuarters", apart := false, narrowed := true }
def TallyQuartersUptoSaid : Prop := tallyQuartersUptoRow.holds Try.pinned (OpenSpec.upto tallyQuartersSpec)

end Rows
end Go.Proofs.Ytombolmicfjjpaa
