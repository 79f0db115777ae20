/-
  No cell of these rows narrows 'for every input' (looked for: loops, veiled, ifaces, maps, wideKeys, modest, calm, conditions, laid).
  DERIVED. THE GIVEN ROWS OF THIS SEAT. 11 by the template 'for every input the law returns true; each argument reads behind the call as it read before'; 0 by the template 'total and deterministic' (their statements: YtbcfnfcmghbelaaTotals.lean).
  GIVEN WITH THE SEED: the statements are not yours to turn. If you find one false, say at which input.
  Laid BY PROGRAM, IN A SANDBOX (cutbox-rows.mjs): the forced cells as the released guide's own fill.sh prints them over the translation daa06381e5969844… (all of the seat's roots in one cut). By AI agents, Wed Nov 11 2026. No macro, syntax, notation, axiom, sorry.
-/
import Derived.Test.YtbcfnfcmghbelaaChecked
import GoSem.Claim
import GoSem.ClaimJoined
import GoSem.ClaimMapViews
import Derived.JoinedTies
import Derived.KernelRfl
namespace Go.Proofs.Ytbcfnfcmghbelaa
/- THE CELL 'sum', in the pinned program and in every row, IS THE sha256 OF THE DUMP (.gsa) THAT YtbcfnfcmghbelaaProg.lean LOADS. Nothing in Lean hashes anything: it is a label: what it is worth is what the hold of that sum in a sandbox is worth. -/
noncomputable def Try.pinned : Pinned := { name := "ytbcfnfcmghbelaa", sum := "daa06381e596984471668bf9f5b2625d8356d71b433515971121e1ad1843efcb", checked := Try.checked }
namespace Rows
def none {H : Type} : Left H := { results := [], args := [] }

/-- 'cursitorlaw01.InputReads': WHATEVER THE INPUT: true; the input reads as it did. -/
def inputReadsSpec : ChangeSpec := { name := "inputReads", fn := fun _ => fun
  | [d1, d2] => { results := [.lit (.bool true)], args := [d1, d2] }
  | _ => none }
def inputReadsRow : OpenClaim := { program := "ytbcfnfcmghbelaa", sum := "daa06381e596984471668bf9f5b2625d8356d71b433515971121e1ad1843efcb", func := "cursitor/cursitorlaw01.InputReads", spec := "inputReads", apart := false }
def InputReadsSaid : Prop := inputReadsRow.holds Try.pinned (OpenSpec.ofChange inputReadsSpec)

/-- ITS FALSE NEIGHBOUR: 'it returns false'. Refute it at one input. -/
def inputReadsWrong : ChangeSpec := { name := "inputReads", fn := fun _ => fun
  | [d1, d2] => { results := [.lit (.bool false)], args := [d1, d2] }
  | _ => none }
def InputReadsWrongFalsely : Prop := inputReadsRow.holds Try.pinned (OpenSpec.ofChange inputReadsWrong)

/-- 'cursitorlaw01.InputBack': WHATEVER THE INPUT: true; the input reads as it did. -/
def inputBackSpec : ChangeSpec := { name := "inputBack", fn := fun _ => fun
  | [d1, d2] => { results := [.lit (.bool true)], args := [d1, d2] }
  | _ => none }
def inputBackRow : OpenClaim := { program := "ytbcfnfcmghbelaa", sum := "daa06381e596984471668bf9f5b2625d8356d71b433515971121e1ad1843efcb", func := "cursitor/cursitorlaw01.InputBack", spec := "inputBack", apart := false }
def InputBackSaid : Prop := inputBackRow.holds Try.pinned (OpenSpec.ofChange inputBackSpec)

/-- ITS FALSE NEIGHBOUR: 'it returns false'. Refute it at one input. -/
def inputBackWrong : ChangeSpec := { name := "inputBack", fn := fun _ => fun
  | [d1, d2] => { results := [.lit (.bool false)], args := [d1, d2] }
  | _ => none }
def InputBackWrongFalsely : Prop := inputBackRow.holds Try.pinned (OpenSpec.ofChange inputBackWrong)

/-- 'cursitorlaw02.OutputWrites': WHATEVER THE INPUT: true; the input reads as it did. -/
def outputWritesSpec : ChangeSpec := { name := "outputWrites", fn := fun _ => fun
  | [d] => { results := [.lit (.bool true)], args := [d] }
  | _ => none }
def outputWritesRow : OpenClaim := { program := "ytbcfnfcmghbelaa", sum := "daa06381e596984471668bf9f5b2625d8356d71b433515971121e1ad1843efcb", func := "cursitor/cursitorlaw02.OutputWrites", spec := "outputWrites", apart := false }
def OutputWritesSaid : Prop := outputWritesRow.holds Try.pinned (OpenSpec.ofChange outputWritesSpec)

/-- ITS FALSE NEIGHBOUR: 'it returns false'. Refute it at one input. -/
def outputWritesWrong : ChangeSpec := { name := "outputWrites", fn := fun _ => fun
  | [d] => { results := [.lit (.bool false)], args := [d] }
  | _ => none }
def OutputWritesWrongFalsely : Prop := outputWritesRow.holds Try.pinned (OpenSpec.ofChange outputWritesWrong)

/-- 'cursitorlaw02.OutputFits': WHATEVER THE INPUT: true; the input reads as it did. -/
def outputFitsSpec : ChangeSpec := { name := "outputFits", fn := fun _ => fun
  | [d1, d2] => { results := [.lit (.bool true)], args := [d1, d2] }
  | _ => none }
def outputFitsRow : OpenClaim := { program := "ytbcfnfcmghbelaa", sum := "daa06381e596984471668bf9f5b2625d8356d71b433515971121e1ad1843efcb", func := "cursitor/cursitorlaw02.OutputFits", spec := "outputFits", apart := false }
def OutputFitsSaid : Prop := outputFitsRow.holds Try.pinned (OpenSpec.ofChange outputFitsSpec)

/-- ITS FALSE NEIGHBOUR: 'it returns false'. Refute it at one input. -/
def outputFitsWrong : ChangeSpec := { name := "outputFits", fn := fun _ => fun
  | [d1, d2] => { results := [.lit (.bool false)], args := [d1, d2] }
  | _ => none }
def OutputFitsWrongFalsely : Prop := outputFitsRow.holds Try.pinned (OpenSpec.ofChange outputFitsWrong)

/-- 'cursitorlaw03.VarintBack': WHATEVER THE INPUT: true; the input reads as it did. -/
def varintBackSpec : ChangeSpec := { name := "varintBack", fn := fun _ => fun
  | [d] => { results := [.lit (.bool true)], args := [d] }
  | _ => none }
def varintBackRow : OpenClaim := { program := "ytbcfnfcmghbelaa", sum := "daa06381e596984471668bf9f5b2625d8356d71b433515971121e1ad1843efcb", func := "cursitor/cursitorlaw03.VarintBack", spec := "varintBack", apart := false }
def VarintBackSaid : Prop := varintBackRow.holds Try.pinned (OpenSpec.ofChange varintBackSpec)

/-- ITS FALSE NEIGHBOUR: 'it returns false'. Refute it at one input. -/
def varintBackWrong : ChangeSpec := { name := "varintBack", fn := fun _ => fun
  | [d] => { results := [.lit (.bool false)], args := [d] }
  | _ => none }
def VarintBackWrongFalsely : Prop := varintBackRow.holds Try.pinned (OpenSpec.ofChange varintBackWrong)

/-- 'cursitorlaw03.VarintOne': WHATEVER THE INPUT: true; the input reads as it did. -/
def varintOneSpec : ChangeSpec := { name := "varintOne", fn := fun _ => fun
  | [d] => { results := [.lit (.bool true)], args := [d] }
  | _ => none }
def varintOneRow : OpenClaim := { program := "ytbcfnfcmghbelaa", sum := "daa06381e596984471668bf9f5b2625d8356d71b433515971121e1ad1843efcb", func := "cursitor/cursitorlaw03.VarintOne", spec := "varintOne", apart := false }
def VarintOneSaid : Prop := varintOneRow.holds Try.pinned (OpenSpec.ofChange varintOneSpec)

/-- ITS FALSE NEIGHBOUR: 'it returns false'. Refute it at one input. -/
def varintOneWrong : ChangeSpec := { name := "varintOne", fn := fun _ => fun
  | [d] => { results := [.lit (.bool false)], args := [d] }
  | _ => none }
def VarintOneWrongFalsely : Prop := varintOneRow.holds Try.pinned (OpenSpec.ofChange varintOneWrong)

/-- 'cursitorlaw04.BlobWrites': WHATEVER THE INPUT: true; the input reads as it did. -/
def blobWritesSpec : ChangeSpec := { name := "blobWrites", fn := fun _ => fun
  | [d1, d2] => { results := [.lit (.bool true)], args := [d1, d2] }
  | _ => none }
def blobWritesRow : OpenClaim := { program := "ytbcfnfcmghbelaa", sum := "daa06381e596984471668bf9f5b2625d8356d71b433515971121e1ad1843efcb", func := "cursitor/cursitorlaw04.BlobWrites", spec := "blobWrites", apart := false }
def BlobWritesSaid : Prop := blobWritesRow.holds Try.pinned (OpenSpec.ofChange blobWritesSpec)

/-- ITS FALSE NEIGHBOUR: 'it returns false'. Refute it at one input. -/
def blobWritesWrong : ChangeSpec := { name := "blobWrites", fn := fun _ => fun
  | [d1, d2] => { results := [.lit (.bool false)], args := [d1, d2] }
  | _ => none }
def BlobWritesWrongFalsely : Prop := blobWritesRow.holds Try.pinned (OpenSpec.ofChange blobWritesWrong)

/-- 'cursitorlaw04.BlobReads': WHATEVER THE INPUT: true; the input reads as it did. -/
def blobReadsSpec : ChangeSpec := { name := "blobReads", fn := fun _ => fun
  | [d1, d2] => { results := [.lit (.bool true)], args := [d1, d2] }
  | _ => none }
def blobReadsRow : OpenClaim := { program := "ytbcfnfcmghbelaa", sum := "daa06381e596984471668bf9f5b2625d8356d71b433515971121e1ad1843efcb", func := "cursitor/cursitorlaw04.BlobReads", spec := "blobReads", apart := false }
def BlobReadsSaid : Prop := blobReadsRow.holds Try.pinned (OpenSpec.ofChange blobReadsSpec)

/-- ITS FALSE NEIGHBOUR: 'it returns false'. Refute it at one input. -/
def blobReadsWrong : ChangeSpec := { name := "blobReads", fn := fun _ => fun
  | [d1, d2] => { results := [.lit (.bool false)], args := [d1, d2] }
  | _ => none }
def BlobReadsWrongFalsely : Prop := blobReadsRow.holds Try.pinned (OpenSpec.ofChange blobReadsWrong)

/-- 'cursitorlaw04.BlobBack': WHATEVER THE INPUT: true; the input reads as it did. -/
def blobBackSpec : ChangeSpec := { name := "blobBack", fn := fun _ => fun
  | [d1, d2] => { results := [.lit (.bool true)], args := [d1, d2] }
  | _ => none }
def blobBackRow : OpenClaim := { program := "ytbcfnfcmghbelaa", sum := "daa06381e596984471668bf9f5b2625d8356d71b433515971121e1ad1843efcb", func := "cursitor/cursitorlaw04.BlobBack", spec := "blobBack", apart := false }
def BlobBackSaid : Prop := blobBackRow.holds Try.pinned (OpenSpec.ofChange blobBackSpec)

/-- ITS FALSE NEIGHBOUR: 'it returns false'. Refute it at one input. -/
def blobBackWrong : ChangeSpec := { name := "blobBack", fn := fun _ => fun
  | [d1, d2] => { results := [.lit (.bool false)], args := [d1, d2] }
  | _ => none }
def BlobBackWrongFalsely : Prop := blobBackRow.holds Try.pinned (OpenSpec.ofChange blobBackWrong)

/-- 'cursitortop.WholeNumbers': WHATEVER THE INPUT: true; the input reads as it did. -/
def wholeNumbersSpec : ChangeSpec := { name := "wholeNumbers", fn := fun _ => fun
  | [d1, d2] => { results := [.lit (.bool true)], args := [d1, d2] }
  | _ => none }
def wholeNumbersRow : OpenClaim := { program := "ytbcfnfcmghbelaa", sum := "daa06381e596984471668bf9f5b2625d8356d71b433515971121e1ad1843efcb", func := "cursitor/cursitortop.WholeNumbers", spec := "wholeNumbers", apart := false }
def WholeNumbersSaid : Prop := wholeNumbersRow.holds Try.pinned (OpenSpec.ofChange wholeNumbersSpec)

/-- ITS FALSE NEIGHBOUR: 'it returns false'. Refute it at one input. -/
def wholeNumbersWrong : ChangeSpec := { name := "wholeNumbers", fn := fun _ => fun
  | [d1, d2] => { results := [.lit (.bool false)], args := [d1, d2] }
  | _ => none }
def WholeNumbersWrongFalsely : Prop := wholeNumbersRow.holds Try.pinned (OpenSpec.ofChange wholeNumbersWrong)

/-- 'cursitortop.WholeFields': WHATEVER THE INPUT: true; the input reads as it did. -/
def wholeFieldsSpec : ChangeSpec := { name := "wholeFields", fn := fun _ => fun
  | [d1, d2, d3] => { results := [.lit (.bool true)], args := [d1, d2, d3] }
  | _ => none }
def wholeFieldsRow : OpenClaim := { program := "ytbcfnfcmghbelaa", sum := "daa06381e596984471668bf9f5b2625d8356d71b433515971121e1ad1843efcb", func := "cursitor/cursitortop.WholeFields", spec := "wholeFields", unfollowed := true, recurses := true, apart := false }
def WholeFieldsSaid : Prop := wholeFieldsRow.holds Try.pinned (OpenSpec.ofChange wholeFieldsSpec)

/-- ITS FALSE NEIGHBOUR: 'it returns false'. Refute it at one input. -/
def wholeFieldsWrong : ChangeSpec := { name := "wholeFields", fn := fun _ => fun
  | [d1, d2, d3] => { results := [.lit (.bool false)], args := [d1, d2, d3] }
  | _ => none }
def WholeFieldsWrongFalsely : Prop := wholeFieldsRow.holds Try.pinned (OpenSpec.ofChange wholeFieldsWrong)

/- THE SECOND FORM. 'bulk': how many values and letters a reading holds, each counted each time it is reached (what is shared counts as often as it is met; a slice's spare places count too). A statement '..UptoSaid' is the law's where the arguments, and the package variables that the reading takes, are together of bulk at most 1048576: NARROWER than '..Said'. Prove '..Said' where nothing that the law and all that it calls make is longer than what came in: it says more and counts as full. Else prove '..UptoSaid'. A law counts once. -/
mutual
def uptoBulk {H : Type} : DataW H → Nat
  | .lit (.string bytes) => bytes.length + 1
  | .lit _ => 1
  | .nil => 1
  | .ptr d => uptoBulk d + 1
  | .slice elems spare => uptoBulkAll elems + uptoBulkAll spare + 1
  | .agg parts => uptoBulkAll parts + 1
  | .iface _ d => uptoBulk d + 1
  | .map entries => uptoBulkEntries entries + 1
  | .held _ => 1
def uptoBulkAll {H : Type} : List (DataW H) → Nat
  | [] => 0
  | d :: r => uptoBulk d + uptoBulkAll r
def uptoBulkEntries {H : Type} : List (Lit × DataW H) → Nat
  | [] => 0
  | x :: r => uptoBulkEntry x + uptoBulkEntries r
def uptoBulkEntry {H : Type} : Lit × DataW H → Nat
  | (.string bytes, d) => bytes.length + uptoBulk d + 1
  | (_, d) => uptoBulk d + 1
 end
def uptoSmall : (H : Type) → List (DataW H) → Bool := fun _ ds => decide (uptoBulkAll ds ≤ 1048576)
def OpenSpec.upto (s : _root_.Go.ChangeSpec) : _root_.Go.OpenSpec := { _root_.Go.OpenSpec.ofChange s with cond := some uptoSmall }

/-- 'cursitorlaw01.InputReads', WHERE WHAT IT READS IS OF BULK AT MOST 1048576: true; the input reads as it did. -/
def inputReadsUptoRow : OpenClaim := { program := "ytbcfnfcmghbelaa", sum := "daa06381e596984471668bf9f5b2625d8356d71b433515971121e1ad1843efcb", func := "cursitor/cursitorlaw01.InputReads", spec := "inputReads", apart := false, narrowed := true }
def InputReadsUptoSaid : Prop := inputReadsUptoRow.holds Try.pinned (OpenSpec.upto inputReadsSpec)

/-- 'cursitorlaw01.InputBack', WHERE WHAT IT READS IS OF BULK AT MOST 1048576: true; the input reads as it did. -/
def inputBackUptoRow : OpenClaim := { program := "ytbcfnfcmghbelaa", sum := "daa06381e596984471668bf9f5b2625d8356d71b433515971121e1ad1843efcb", func := "cursitor/cursitorlaw01.InputBack", spec := "inputBack", apart := false, narrowed := true }
def InputBackUptoSaid : Prop := inputBackUptoRow.holds Try.pinned (OpenSpec.upto inputBackSpec)

/-- 'cursitorlaw02.OutputWrites', WHERE WHAT IT READS IS OF BULK AT MOST 1048576: true; the input reads as it did. -/
def outputWritesUptoRow : OpenClaim := { program := "ytbcfnfcmghbelaa", sum := "daa06381e596984471668bf9f5b2625d8356d71b433515971121e1ad1843efcb", func := "cursitor/cursitorlaw02.OutputWrites", spec := "outputWrites", apart := false, narrowed := true }
def OutputWritesUptoSaid : Prop := outputWritesUptoRow.holds Try.pinned (OpenSpec.upto outputWritesSpec)

/-- 'cursitorlaw02.OutputFits', WHERE WHAT IT READS IS OF BULK AT MOST 1048576: true; the input reads as it did. -/
def outputFitsUptoRow : OpenClaim := { program := "ytbcfnfcmghbelaa", sum := "daa06381e596984471668bf9f5b2625d8356d71b433515971121e1ad1843efcb", func := "cursitor/cursitorlaw02.OutputFits", spec := "outputFits", apart := false, narrowed := true }
def OutputFitsUptoSaid : Prop := outputFitsUptoRow.holds Try.pinned (OpenSpec.upto outputFitsSpec)

/-- 'cursitorlaw03.VarintBack', WHERE WHAT IT READS IS OF BULK AT MOST 1048576: true; the input reads as it did. -/
def varintBackUptoRow : OpenClaim := { program := "ytbcfnfcmghbelaa", sum := "daa06381e596984471668bf9f5b2625d8356d71b433515971121e1ad1843efcb", func := "cursitor/cursitorlaw03.VarintBack", spec := "varintBack", apart := false, narrowed := true }
def VarintBackUptoSaid : Prop := varintBackUptoRow.holds Try.pinned (OpenSpec.upto varintBackSpec)

/-- 'cursitorlaw03.VarintOne', WHERE WHAT IT READS IS OF BULK AT MOST 1048576: true; the input reads as it did. -/
def varintOneUptoRow : OpenClaim := { program := "ytbcfnfcmghbelaa", sum := "daa06381e596984471668bf9f5b2625d8356d71b433515971121e1ad1843efcb", func := "cursitor/cursitorlaw03.VarintOne", spec := "varintOne", apart := false, narrowed := true }
def VarintOneUptoSaid : Prop := varintOneUptoRow.holds Try.pinned (OpenSpec.upto varintOneSpec)

/-- 'cursitorlaw04.BlobWrites', WHERE WHAT IT READS IS OF BULK AT MOST 1048576: true; the input reads as it did. -/
def blobWritesUptoRow : OpenClaim := { program := "ytbcfnfcmghbelaa", sum := "daa06381e596984471668bf9f5b2625d8356d71b433515971121e1ad1843efcb", func := "cursitor/cursitorlaw04.BlobWrites", spec := "blobWrites", apart := false, narrowed := true }
def BlobWritesUptoSaid : Prop := blobWritesUptoRow.holds Try.pinned (OpenSpec.upto blobWritesSpec)

/-- 'cursitorlaw04.BlobReads', WHERE WHAT IT READS IS OF BULK AT MOST 1048576: true; the input reads as it did. -/
def blobReadsUptoRow : OpenClaim := { program := "ytbcfnfcmghbelaa", sum := "daa06381e596984471668bf9f5b2625d8356d71b433515971121e1ad1843efcb", func := "cursitor/cursitorlaw04.BlobReads", spec := "blobReads", apart := false, narrowed := true }
def BlobReadsUptoSaid : Prop := blobReadsUptoRow.holds Try.pinned (OpenSpec.upto blobReadsSpec)

/-- 'cursitorlaw04.BlobBack', WHERE WHAT IT READS IS OF BULK AT MOST 1048576: true; the input reads as it did. -/
def blobBackUptoRow : OpenClaim := { program := "ytbcfnfcmghbelaa", sum := "daa06381e596984471668bf9f5b2625d8356d71b433515971121e1ad1843efcb", func := "cursitor/cursitorlaw04.BlobBack", spec := "blobBack", apart := false, narrowed := true }
def BlobBackUptoSaid : Prop := blobBackUptoRow.holds Try.pinned (OpenSpec.upto blobBackSpec)

/-- 'cursitortop.WholeNumbers', WHERE WHAT IT READS IS OF BULK AT MOST 1048576: true; the input reads as it did. -/
def wholeNumbersUptoRow : OpenClaim := { program := "ytbcfnfcmghbelaa", sum := "daa06381e596984471668bf9f5b2625d8356d71b433515971121e1ad1843efcb", func := "cursitor/cursitortop.WholeNumbers", spec := "wholeNumbers", apart := false, narrowed := true }
def WholeNumbersUptoSaid : Prop := wholeNumbersUptoRow.holds Try.pinned (OpenSpec.upto wholeNumbersSpec)

/-- 'cursitortop.WholeFields', WHERE WHAT IT READS IS OF BULK AT MOST 1048576: true; the input reads as it did. -/
def wholeFieldsUptoRow : OpenClaim := { program := "ytbcfnfcmghbelaa", sum := "daa06381e596984471668bf9f5b2625d8356d71b433515971121e1ad1843efcb", func := "cursitor/cursitortop.WholeFields", spec := "wholeFields", unfollowed := true, recurses := true, apart := false, narrowed := true }
def WholeFieldsUptoSaid : Prop := wholeFieldsUptoRow.holds Try.pinned (OpenSpec.upto wholeFieldsSpec)

end Rows
end Go.Proofs.Ytbcfnfcmghbelaa
