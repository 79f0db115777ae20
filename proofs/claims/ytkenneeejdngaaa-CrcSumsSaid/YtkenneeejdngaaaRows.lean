/-
  No cell of these rows narrows 'for every input' (looked for: loops, veiled, ifaces, maps, wideKeys, modest, calm, conditions, laid).
  DERIVED. THE GIVEN ROWS OF THIS SEAT. 12 by the template 'for every input the law returns true; each argument reads behind the call as it read before'; 0 by the template 'total and deterministic' (their statements: YtkenneeejdngaaaTotals.lean).
  GIVEN WITH THE SEED: the statements are not yours to turn. If you find one false, say at which input.
  Laid BY PROGRAM, IN A SANDBOX (cutbox-rows.mjs): the forced cells as the released guide's own fill.sh prints them over the translation 8d6b0750de34ea71… (all of the seat's roots in one cut). By AI agents, Wed Nov 11 2026. No macro, syntax, notation, axiom, sorry.
-/
import Derived.Test.YtkenneeejdngaaaChecked
import GoSem.Claim
import GoSem.ClaimJoined
import GoSem.ClaimMapViews
import Derived.JoinedTies
import Derived.KernelRfl
namespace Go.Proofs.Ytkenneeejdngaaa
/- THE CELL 'sum', in the pinned program and in every row, IS THE sha256 OF THE DUMP (.gsa) THAT YtkenneeejdngaaaProg.lean LOADS. Nothing in Lean hashes anything: it is a label: what it is worth is what the hold of that sum in a sandbox is worth. -/
noncomputable def Try.pinned : Pinned := { name := "ytkenneeejdngaaa", sum := "8d6b0750de34ea712fadd95f9c3ce4c2b7739ca4af4ecd7e0d979f2f5b82066f", checked := Try.checked }
namespace Rows
def none {H : Type} : Left H := { results := [], args := [] }

/-- 'cursitorlaw05.CrcSums': WHATEVER THE INPUT: true; the input reads as it did. -/
def crcSumsSpec : ChangeSpec := { name := "crcSums", fn := fun _ => fun
  | [d] => { results := [.lit (.bool true)], args := [d] }
  | _ => none }
def crcSumsRow : OpenClaim := { program := "ytkenneeejdngaaa", sum := "8d6b0750de34ea712fadd95f9c3ce4c2b7739ca4af4ecd7e0d979f2f5b82066f", func := "cursitor/cursitorlaw05.CrcSums", spec := "crcSums", apart := false }
def CrcSumsSaid : Prop := crcSumsRow.holds Try.pinned (OpenSpec.ofChange crcSumsSpec)

/-- ITS FALSE NEIGHBOUR: 'it returns false'. Refute it at one input. -/
def crcSumsWrong : ChangeSpec := { name := "crcSums", fn := fun _ => fun
  | [d] => { results := [.lit (.bool false)], args := [d] }
  | _ => none }
def CrcSumsWrongFalsely : Prop := crcSumsRow.holds Try.pinned (OpenSpec.ofChange crcSumsWrong)

/-- 'cursitorlaw05.CrcBursts': WHATEVER THE INPUT: true; the input reads as it did. -/
def crcBurstsSpec : ChangeSpec := { name := "crcBursts", fn := fun _ => fun
  | [d1, d2, d3] => { results := [.lit (.bool true)], args := [d1, d2, d3] }
  | _ => none }
def crcBurstsRow : OpenClaim := { program := "ytkenneeejdngaaa", sum := "8d6b0750de34ea712fadd95f9c3ce4c2b7739ca4af4ecd7e0d979f2f5b82066f", func := "cursitor/cursitorlaw05.CrcBursts", spec := "crcBursts", apart := false }
def CrcBurstsSaid : Prop := crcBurstsRow.holds Try.pinned (OpenSpec.ofChange crcBurstsSpec)

/-- ITS FALSE NEIGHBOUR: 'it returns false'. Refute it at one input. -/
def crcBurstsWrong : ChangeSpec := { name := "crcBursts", fn := fun _ => fun
  | [d1, d2, d3] => { results := [.lit (.bool false)], args := [d1, d2, d3] }
  | _ => none }
def CrcBurstsWrongFalsely : Prop := crcBurstsRow.holds Try.pinned (OpenSpec.ofChange crcBurstsWrong)

/-- 'cursitorlaw06.HeaderWrites': WHATEVER THE INPUT: true; the input reads as it did. -/
def headerWritesSpec : ChangeSpec := { name := "headerWrites", fn := fun _ => fun
  | [d] => { results := [.lit (.bool true)], args := [d] }
  | _ => none }
def headerWritesRow : OpenClaim := { program := "ytkenneeejdngaaa", sum := "8d6b0750de34ea712fadd95f9c3ce4c2b7739ca4af4ecd7e0d979f2f5b82066f", func := "cursitor/cursitorlaw06.HeaderWrites", spec := "headerWrites", apart := false }
def HeaderWritesSaid : Prop := headerWritesRow.holds Try.pinned (OpenSpec.ofChange headerWritesSpec)

/-- ITS FALSE NEIGHBOUR: 'it returns false'. Refute it at one input. -/
def headerWritesWrong : ChangeSpec := { name := "headerWrites", fn := fun _ => fun
  | [d] => { results := [.lit (.bool false)], args := [d] }
  | _ => none }
def HeaderWritesWrongFalsely : Prop := headerWritesRow.holds Try.pinned (OpenSpec.ofChange headerWritesWrong)

/-- 'cursitorlaw06.HeaderReads': WHATEVER THE INPUT: true; the input reads as it did. -/
def headerReadsSpec : ChangeSpec := { name := "headerReads", fn := fun _ => fun
  | [d] => { results := [.lit (.bool true)], args := [d] }
  | _ => none }
def headerReadsRow : OpenClaim := { program := "ytkenneeejdngaaa", sum := "8d6b0750de34ea712fadd95f9c3ce4c2b7739ca4af4ecd7e0d979f2f5b82066f", func := "cursitor/cursitorlaw06.HeaderReads", spec := "headerReads", apart := false }
def HeaderReadsSaid : Prop := headerReadsRow.holds Try.pinned (OpenSpec.ofChange headerReadsSpec)

/-- ITS FALSE NEIGHBOUR: 'it returns false'. Refute it at one input. -/
def headerReadsWrong : ChangeSpec := { name := "headerReads", fn := fun _ => fun
  | [d] => { results := [.lit (.bool false)], args := [d] }
  | _ => none }
def HeaderReadsWrongFalsely : Prop := headerReadsRow.holds Try.pinned (OpenSpec.ofChange headerReadsWrong)

/-- 'cursitorlaw06.HeaderFinds': WHATEVER THE INPUT: true; the input reads as it did. -/
def headerFindsSpec : ChangeSpec := { name := "headerFinds", fn := fun _ => fun
  | [d1, d2] => { results := [.lit (.bool true)], args := [d1, d2] }
  | _ => none }
def headerFindsRow : OpenClaim := { program := "ytkenneeejdngaaa", sum := "8d6b0750de34ea712fadd95f9c3ce4c2b7739ca4af4ecd7e0d979f2f5b82066f", func := "cursitor/cursitorlaw06.HeaderFinds", spec := "headerFinds", apart := false }
def HeaderFindsSaid : Prop := headerFindsRow.holds Try.pinned (OpenSpec.ofChange headerFindsSpec)

/-- ITS FALSE NEIGHBOUR: 'it returns false'. Refute it at one input. -/
def headerFindsWrong : ChangeSpec := { name := "headerFinds", fn := fun _ => fun
  | [d1, d2] => { results := [.lit (.bool false)], args := [d1, d2] }
  | _ => none }
def HeaderFindsWrongFalsely : Prop := headerFindsRow.holds Try.pinned (OpenSpec.ofChange headerFindsWrong)

/-- 'cursitorlaw07.RecordEncodes': WHATEVER THE INPUT: true; the input reads as it did. -/
def recordEncodesSpec : ChangeSpec := { name := "recordEncodes", fn := fun _ => fun
  | [d] => { results := [.lit (.bool true)], args := [d] }
  | _ => none }
def recordEncodesRow : OpenClaim := { program := "ytkenneeejdngaaa", sum := "8d6b0750de34ea712fadd95f9c3ce4c2b7739ca4af4ecd7e0d979f2f5b82066f", func := "cursitor/cursitorlaw07.RecordEncodes", spec := "recordEncodes", apart := false }
def RecordEncodesSaid : Prop := recordEncodesRow.holds Try.pinned (OpenSpec.ofChange recordEncodesSpec)

/-- ITS FALSE NEIGHBOUR: 'it returns false'. Refute it at one input. -/
def recordEncodesWrong : ChangeSpec := { name := "recordEncodes", fn := fun _ => fun
  | [d] => { results := [.lit (.bool false)], args := [d] }
  | _ => none }
def RecordEncodesWrongFalsely : Prop := recordEncodesRow.holds Try.pinned (OpenSpec.ofChange recordEncodesWrong)

/-- 'cursitorlaw07.RecordDecodes': WHATEVER THE INPUT: true; the input reads as it did. -/
def recordDecodesSpec : ChangeSpec := { name := "recordDecodes", fn := fun _ => fun
  | [d] => { results := [.lit (.bool true)], args := [d] }
  | _ => none }
def recordDecodesRow : OpenClaim := { program := "ytkenneeejdngaaa", sum := "8d6b0750de34ea712fadd95f9c3ce4c2b7739ca4af4ecd7e0d979f2f5b82066f", func := "cursitor/cursitorlaw07.RecordDecodes", spec := "recordDecodes", apart := false }
def RecordDecodesSaid : Prop := recordDecodesRow.holds Try.pinned (OpenSpec.ofChange recordDecodesSpec)

/-- ITS FALSE NEIGHBOUR: 'it returns false'. Refute it at one input. -/
def recordDecodesWrong : ChangeSpec := { name := "recordDecodes", fn := fun _ => fun
  | [d] => { results := [.lit (.bool false)], args := [d] }
  | _ => none }
def RecordDecodesWrongFalsely : Prop := recordDecodesRow.holds Try.pinned (OpenSpec.ofChange recordDecodesWrong)

/-- 'cursitorlaw07.RecordRows': WHATEVER THE INPUT: true; the input reads as it did. -/
def recordRowsSpec : ChangeSpec := { name := "recordRows", fn := fun _ => fun
  | [d] => { results := [.lit (.bool true)], args := [d] }
  | _ => none }
def recordRowsRow : OpenClaim := { program := "ytkenneeejdngaaa", sum := "8d6b0750de34ea712fadd95f9c3ce4c2b7739ca4af4ecd7e0d979f2f5b82066f", func := "cursitor/cursitorlaw07.RecordRows", spec := "recordRows", apart := false }
def RecordRowsSaid : Prop := recordRowsRow.holds Try.pinned (OpenSpec.ofChange recordRowsSpec)

/-- ITS FALSE NEIGHBOUR: 'it returns false'. Refute it at one input. -/
def recordRowsWrong : ChangeSpec := { name := "recordRows", fn := fun _ => fun
  | [d] => { results := [.lit (.bool false)], args := [d] }
  | _ => none }
def RecordRowsWrongFalsely : Prop := recordRowsRow.holds Try.pinned (OpenSpec.ofChange recordRowsWrong)

/-- 'cursitorlaw08.ControlWrites': WHATEVER THE INPUT: true; the input reads as it did. -/
def controlWritesSpec : ChangeSpec := { name := "controlWrites", fn := fun _ => fun
  | [d1, d2] => { results := [.lit (.bool true)], args := [d1, d2] }
  | _ => none }
def controlWritesRow : OpenClaim := { program := "ytkenneeejdngaaa", sum := "8d6b0750de34ea712fadd95f9c3ce4c2b7739ca4af4ecd7e0d979f2f5b82066f", func := "cursitor/cursitorlaw08.ControlWrites", spec := "controlWrites", unfollowed := true, recurses := true, apart := false }
def ControlWritesSaid : Prop := controlWritesRow.holds Try.pinned (OpenSpec.ofChange controlWritesSpec)

/-- ITS FALSE NEIGHBOUR: 'it returns false'. Refute it at one input. -/
def controlWritesWrong : ChangeSpec := { name := "controlWrites", fn := fun _ => fun
  | [d1, d2] => { results := [.lit (.bool false)], args := [d1, d2] }
  | _ => none }
def ControlWritesWrongFalsely : Prop := controlWritesRow.holds Try.pinned (OpenSpec.ofChange controlWritesWrong)

/-- 'cursitorlaw08.ControlRecords': WHATEVER THE INPUT: true; the input reads as it did. -/
def controlRecordsSpec : ChangeSpec := { name := "controlRecords", fn := fun _ => fun
  | [d] => { results := [.lit (.bool true)], args := [d] }
  | _ => none }
def controlRecordsRow : OpenClaim := { program := "ytkenneeejdngaaa", sum := "8d6b0750de34ea712fadd95f9c3ce4c2b7739ca4af4ecd7e0d979f2f5b82066f", func := "cursitor/cursitorlaw08.ControlRecords", spec := "controlRecords", unfollowed := true, recurses := true, apart := false }
def ControlRecordsSaid : Prop := controlRecordsRow.holds Try.pinned (OpenSpec.ofChange controlRecordsSpec)

/-- ITS FALSE NEIGHBOUR: 'it returns false'. Refute it at one input. -/
def controlRecordsWrong : ChangeSpec := { name := "controlRecords", fn := fun _ => fun
  | [d] => { results := [.lit (.bool false)], args := [d] }
  | _ => none }
def ControlRecordsWrongFalsely : Prop := controlRecordsRow.holds Try.pinned (OpenSpec.ofChange controlRecordsWrong)

/-- 'cursitortop.WholeSums': WHATEVER THE INPUT: true; the input reads as it did. -/
def wholeSumsSpec : ChangeSpec := { name := "wholeSums", fn := fun _ => fun
  | [d1, d2, d3] => { results := [.lit (.bool true)], args := [d1, d2, d3] }
  | _ => none }
def wholeSumsRow : OpenClaim := { program := "ytkenneeejdngaaa", sum := "8d6b0750de34ea712fadd95f9c3ce4c2b7739ca4af4ecd7e0d979f2f5b82066f", func := "cursitor/cursitortop.WholeSums", spec := "wholeSums", apart := false }
def WholeSumsSaid : Prop := wholeSumsRow.holds Try.pinned (OpenSpec.ofChange wholeSumsSpec)

/-- ITS FALSE NEIGHBOUR: 'it returns false'. Refute it at one input. -/
def wholeSumsWrong : ChangeSpec := { name := "wholeSums", fn := fun _ => fun
  | [d1, d2, d3] => { results := [.lit (.bool false)], args := [d1, d2, d3] }
  | _ => none }
def WholeSumsWrongFalsely : Prop := wholeSumsRow.holds Try.pinned (OpenSpec.ofChange wholeSumsWrong)

/-- 'cursitortop.WholeEnds': WHATEVER THE INPUT: true; the input reads as it did. -/
def wholeEndsSpec : ChangeSpec := { name := "wholeEnds", fn := fun _ => fun
  | [d1, d2, d3] => { results := [.lit (.bool true)], args := [d1, d2, d3] }
  | _ => none }
def wholeEndsRow : OpenClaim := { program := "ytkenneeejdngaaa", sum := "8d6b0750de34ea712fadd95f9c3ce4c2b7739ca4af4ecd7e0d979f2f5b82066f", func := "cursitor/cursitortop.WholeEnds", spec := "wholeEnds", unfollowed := true, recurses := true, apart := false }
def WholeEndsSaid : Prop := wholeEndsRow.holds Try.pinned (OpenSpec.ofChange wholeEndsSpec)

/-- ITS FALSE NEIGHBOUR: 'it returns false'. Refute it at one input. -/
def wholeEndsWrong : ChangeSpec := { name := "wholeEnds", fn := fun _ => fun
  | [d1, d2, d3] => { results := [.lit (.bool false)], args := [d1, d2, d3] }
  | _ => none }
def WholeEndsWrongFalsely : Prop := wholeEndsRow.holds Try.pinned (OpenSpec.ofChange wholeEndsWrong)

/- THE SECOND FORM. 'bulk': how many values and letters a reading holds, each counted each time it is reached (what is shared counts as often as it is met; a slice's spare places count too). A statement '..UptoSaid' is the law's where the arguments, and the package variables that the reading takes, are together of bulk at most 1048576: NARROWER than '..Said'. Prove '..Said' where nothing that the law and all that it calls make is longer than what came in: it says more and counts as full. Else prove '..UptoSaid'. A law counts once. -/
mutual
def uptoBulk {H : Type} : DataW H → Nat
  | .lit (.string bytes) => bytes.length + 1
  | .lit _ => 1
  | .nil => 1
  | .ptr d => uptoBulk d + 1
  | .slice elems spare => uptoBulkAll elems + uptoBulkAll spare + 1
  | .agg parts => uptoBulkAll parts + 1
  | .iface _ d => uptoBulk d + 1
  | .map entries => uptoBulkEntries entries + 1
  | .held _ => 1
def uptoBulkAll {H : Type} : List (DataW H) → Nat
  | [] => 0
  | d :: r => uptoBulk d + uptoBulkAll r
def uptoBulkEntries {H : Type} : List (Lit × DataW H) → Nat
  | [] => 0
  | x :: r => uptoBulkEntry x + uptoBulkEntries r
def uptoBulkEntry {H : Type} : Lit × DataW H → Nat
  | (.string bytes, d) => bytes.length + uptoBulk d + 1
  | (_, d) => uptoBulk d + 1
 end
def uptoSmall : (H : Type) → List (DataW H) → Bool := fun _ ds => decide (uptoBulkAll ds ≤ 1048576)
def OpenSpec.upto (s : _root_.Go.ChangeSpec) : _root_.Go.OpenSpec := { _root_.Go.OpenSpec.ofChange s with cond := some uptoSmall }

/-- 'cursitorlaw05.CrcSums', WHERE WHAT IT READS IS OF BULK AT MOST 1048576: true; the input reads as it did. -/
def crcSumsUptoRow : OpenClaim := { program := "ytkenneeejdngaaa", sum := "8d6b0750de34ea712fadd95f9c3ce4c2b7739ca4af4ecd7e0d979f2f5b82066f", func := "cursitor/cursitorlaw05.CrcSums", spec := "crcSums", apart := false, narrowed := true }
def CrcSumsUptoSaid : Prop := crcSumsUptoRow.holds Try.pinned (OpenSpec.upto crcSumsSpec)

/-- 'cursitorlaw05.CrcBursts', WHERE WHAT IT READS IS OF BULK AT MOST 1048576: true; the input reads as it did. -/
def crcBurstsUptoRow : OpenClaim := { program := "ytkenneeejdngaaa", sum := "8d6b0750de34ea712fadd95f9c3ce4c2b7739ca4af4ecd7e0d979f2f5b82066f", func := "cursitor/cursitorlaw05.CrcBursts", spec := "crcBursts", apart := false, narrowed := true }
def CrcBurstsUptoSaid : Prop := crcBurstsUptoRow.holds Try.pinned (OpenSpec.upto crcBurstsSpec)

/-- 'cursitorlaw06.HeaderWrites', WHERE WHAT IT READS IS OF BULK AT MOST 1048576: true; the input reads as it did. -/
def headerWritesUptoRow : OpenClaim := { program := "ytkenneeejdngaaa", sum := "8d6b0750de34ea712fadd95f9c3ce4c2b7739ca4af4ecd7e0d979f2f5b82066f", func := "cursitor/cursitorlaw06.HeaderWrites", spec := "headerWrites", apart := false, narrowed := true }
def HeaderWritesUptoSaid : Prop := headerWritesUptoRow.holds Try.pinned (OpenSpec.upto headerWritesSpec)

/-- 'cursitorlaw06.HeaderReads', WHERE WHAT IT READS IS OF BULK AT MOST 1048576: true; the input reads as it did. -/
def headerReadsUptoRow : OpenClaim := { program := "ytkenneeejdngaaa", sum := "8d6b0750de34ea712fadd95f9c3ce4c2b7739ca4af4ecd7e0d979f2f5b82066f", func := "cursitor/cursitorlaw06.HeaderReads", spec := "headerReads", apart := false, narrowed := true }
def HeaderReadsUptoSaid : Prop := headerReadsUptoRow.holds Try.pinned (OpenSpec.upto headerReadsSpec)

/-- 'cursitorlaw06.HeaderFinds', WHERE WHAT IT READS IS OF BULK AT MOST 1048576: true; the input reads as it did. -/
def headerFindsUptoRow : OpenClaim := { program := "ytkenneeejdngaaa", sum := "8d6b0750de34ea712fadd95f9c3ce4c2b7739ca4af4ecd7e0d979f2f5b82066f", func := "cursitor/cursitorlaw06.HeaderFinds", spec := "headerFinds", apart := false, narrowed := true }
def HeaderFindsUptoSaid : Prop := headerFindsUptoRow.holds Try.pinned (OpenSpec.upto headerFindsSpec)

/-- 'cursitorlaw07.RecordEncodes', WHERE WHAT IT READS IS OF BULK AT MOST 1048576: true; the input reads as it did. -/
def recordEncodesUptoRow : OpenClaim := { program := "ytkenneeejdngaaa", sum := "8d6b0750de34ea712fadd95f9c3ce4c2b7739ca4af4ecd7e0d979f2f5b82066f", func := "cursitor/cursitorlaw07.RecordEncodes", spec := "recordEncodes", apart := false, narrowed := true }
def RecordEncodesUptoSaid : Prop := recordEncodesUptoRow.holds Try.pinned (OpenSpec.upto recordEncodesSpec)

/-- 'cursitorlaw07.RecordDecodes', WHERE WHAT IT READS IS OF BULK AT MOST 1048576: true; the input reads as it did. -/
def recordDecodesUptoRow : OpenClaim := { program := "ytkenneeejdngaaa", sum := "8d6b0750de34ea712fadd95f9c3ce4c2b7739ca4af4ecd7e0d979f2f5b82066f", func := "cursitor/cursitorlaw07.RecordDecodes", spec := "recordDecodes", apart := false, narrowed := true }
def RecordDecodesUptoSaid : Prop := recordDecodesUptoRow.holds Try.pinned (OpenSpec.upto recordDecodesSpec)

/-- 'cursitorlaw07.RecordRows', WHERE WHAT IT READS IS OF BULK AT MOST 1048576: true; the input reads as it did. -/
def recordRowsUptoRow : OpenClaim := { program := "ytkenneeejdngaaa", sum := "8d6b0750de34ea712fadd95f9c3ce4c2b7739ca4af4ecd7e0d979f2f5b82066f", func := "cursitor/cursitorlaw07.RecordRows", spec := "recordRows", apart := false, narrowed := true }
def RecordRowsUptoSaid : Prop := recordRowsUptoRow.holds Try.pinned (OpenSpec.upto recordRowsSpec)

/-- 'cursitorlaw08.ControlWrites', WHERE WHAT IT READS IS OF BULK AT MOST 1048576: true; the input reads as it did. -/
def controlWritesUptoRow : OpenClaim := { program := "ytkenneeejdngaaa", sum := "8d6b0750de34ea712fadd95f9c3ce4c2b7739ca4af4ecd7e0d979f2f5b82066f", func := "cursitor/cursitorlaw08.ControlWrites", spec := "controlWrites", unfollowed := true, recurses := true, apart := false, narrowed := true }
def ControlWritesUptoSaid : Prop := controlWritesUptoRow.holds Try.pinned (OpenSpec.upto controlWritesSpec)

/-- 'cursitorlaw08.ControlRecords', WHERE WHAT IT READS IS OF BULK AT MOST 1048576: true; the input reads as it did. -/
def controlRecordsUptoRow : OpenClaim := { program := "ytkenneeejdngaaa", sum := "8d6b0750de34ea712fadd95f9c3ce4c2b7739ca4af4ecd7e0d979f2f5b82066f", func := "cursitor/cursitorlaw08.ControlRecords", spec := "controlRecords", unfollowed := true, recurses := true, apart := false, narrowed := true }
def ControlRecordsUptoSaid : Prop := controlRecordsUptoRow.holds Try.pinned (OpenSpec.upto controlRecordsSpec)

/-- 'cursitortop.WholeSums', WHERE WHAT IT READS IS OF BULK AT MOST 1048576: true; the input reads as it did. -/
def wholeSumsUptoRow : OpenClaim := { program := "ytkenneeejdngaaa", sum := "8d6b0750de34ea712fadd95f9c3ce4c2b7739ca4af4ecd7e0d979f2f5b82066f", func := "cursitor/cursitortop.WholeSums", spec := "wholeSums", apart := false, narrowed := true }
def WholeSumsUptoSaid : Prop := wholeSumsUptoRow.holds Try.pinned (OpenSpec.upto wholeSumsSpec)

/-- 'cursitortop.WholeEnds', WHERE WHAT IT READS IS OF BULK AT MOST 1048576: true; the input reads as it did. -/
def wholeEndsUptoRow : OpenClaim := { program := "ytkenneeejdngaaa", sum := "8d6b0750de34ea712fadd95f9c3ce4c2b7739ca4af4ecd7e0d979f2f5b82066f", func := "cursitor/cursitortop.WholeEnds", spec := "wholeEnds", unfollowed := true, recurses := true, apart := false, narrowed := true }
def WholeEndsUptoSaid : Prop := wholeEndsUptoRow.holds Try.pinned (OpenSpec.upto wholeEndsSpec)

end Rows
end Go.Proofs.Ytkenneeejdngaaa
