/-
  NARROWER THAN 'FOR EVERY INPUT', by the rows' own cells (each row's printed sentence says how): VersionChecks: laid · VersionNames: laid · RequestWrites: laid · RequestReads: laid.
  DERIVED. THE GIVEN ROWS OF THIS SEAT. 4 by the template 'for every input the law returns true; each argument reads behind the call as it read before'; 0 by the template 'total and deterministic' (their statements: YtngnhdiafbjfkaaDoorTotals.lean).
  GIVEN WITH THE SEED: the statements are not yours to turn. If you find one false, say at which input.
  Laid BY PROGRAM, IN A SANDBOX (cutbox-rows.mjs): the forced cells as the released guide's own fill.sh prints them over the translation bda422a82ea7c3c2… (all of the seat's roots in one cut). By AI agents, Wed Nov 11 2026. No macro, syntax, notation, axiom, sorry.
-/
import Derived.Test.YtngnhdiafbjfkaaDoorChecked
import GoSem.Claim
import GoSem.ClaimJoined
import GoSem.ClaimMapViews
import Derived.JoinedTies
import Derived.KernelRfl
namespace Go.Proofs.YtngnhdiafbjfkaaDoor
/- THE CELL 'sum', in the pinned program and in every row, IS THE sha256 OF THE DUMP (.gsa) THAT YtngnhdiafbjfkaaDoorProg.lean LOADS. Nothing in Lean hashes anything: it is a label: what it is worth is what the hold of that sum in a sandbox is worth. -/
noncomputable def Tryd.pinned : Pinned := { name := "ytngnhdiafbjfkaadoor", sum := "bda422a82ea7c3c20d46e5158413b60d8c2b6d874c53fe82ffc63db8ab039229", checked := Tryd.checked }
namespace Rows
def none {H : Type} : Left H := { results := [], args := [] }

/- WHAT THE LISTED PACKAGE-LEVEL VARIABLES READ AS WHEN THE CALL BEGINS. Each datum BY PROGRAM (the guide's laid-datum.mjs) off the statement by which the dump's own 'gosem.cut.vars' lays the variable. In a bare row this is a premise. The card (YtngnhdiafbjfkaaDoorCards.lean) ties it to the program's text. -/
def laid_cursitor_version_requests {H : Type} : DataW H := .agg [.agg [.lit (.int .i64 0), .lit (.string [112, 114, 111, 100, 117, 99, 101]), .lit (.int .i64 3), .lit (.int .i64 4)], .agg [.lit (.int .i64 22), .lit (.string [98, 101, 103, 105, 110]), .lit (.int .i64 0), .lit (.int .i64 1)], .agg [.lit (.int .i64 24), .lit (.string [97, 100, 100]), .lit (.int .i64 0), .lit (.int .i64 0)], .agg [.lit (.int .i64 26), .lit (.string [101, 110, 100]), .lit (.int .i64 0), .lit (.int .i64 0)], .agg [.lit (.int .i64 27), .lit (.string [109, 97, 114, 107]), .lit (.int .i64 0), .lit (.int .i64 1)]]

/-- 'cursitorlaw16.VersionChecks': WHATEVER THE INPUT: true; the input reads as it did. -/
def versionChecksSpec : ChangeSpec := { name := "versionChecks", fn := fun _ => fun
  | [d1, d2] => { results := [.lit (.bool true)], args := [d1, d2] }
  | _ => none }
def versionChecksRow : OpenClaim := { program := "ytngnhdiafbjfkaadoor", sum := "bda422a82ea7c3c20d46e5158413b60d8c2b6d874c53fe82ffc63db8ab039229", func := "cursitor/cursitorlaw16.VersionChecks", spec := "versionChecks", named := ["cursitor/version.requests"], apart := false, laid := [("cursitor/version.requests", laid_cursitor_version_requests)] }
def VersionChecksSaid : Prop := versionChecksRow.holds Tryd.pinned (OpenSpec.ofChange versionChecksSpec)

/-- ITS FALSE NEIGHBOUR: 'it returns false'. Refute it at one input. -/
def versionChecksWrong : ChangeSpec := { name := "versionChecks", fn := fun _ => fun
  | [d1, d2] => { results := [.lit (.bool false)], args := [d1, d2] }
  | _ => none }
def VersionChecksWrongFalsely : Prop := versionChecksRow.holds Tryd.pinned (OpenSpec.ofChange versionChecksWrong)

/-- 'cursitorlaw16.VersionNames': WHATEVER THE INPUT: true; the input reads as it did. -/
def versionNamesSpec : ChangeSpec := { name := "versionNames", fn := fun _ => fun
  | [d] => { results := [.lit (.bool true)], args := [d] }
  | _ => none }
def versionNamesRow : OpenClaim := { program := "ytngnhdiafbjfkaadoor", sum := "bda422a82ea7c3c20d46e5158413b60d8c2b6d874c53fe82ffc63db8ab039229", func := "cursitor/cursitorlaw16.VersionNames", spec := "versionNames", named := ["cursitor/version.requests"], apart := false, laid := [("cursitor/version.requests", laid_cursitor_version_requests)] }
def VersionNamesSaid : Prop := versionNamesRow.holds Tryd.pinned (OpenSpec.ofChange versionNamesSpec)

/-- ITS FALSE NEIGHBOUR: 'it returns false'. Refute it at one input. -/
def versionNamesWrong : ChangeSpec := { name := "versionNames", fn := fun _ => fun
  | [d] => { results := [.lit (.bool false)], args := [d] }
  | _ => none }
def VersionNamesWrongFalsely : Prop := versionNamesRow.holds Tryd.pinned (OpenSpec.ofChange versionNamesWrong)

/-- 'cursitorlaw17.RequestWrites': WHATEVER THE INPUT: true; the input reads as it did. -/
def requestWritesSpec : ChangeSpec := { name := "requestWrites", fn := fun _ => fun
  | [d] => { results := [.lit (.bool true)], args := [d] }
  | _ => none }
def requestWritesRow : OpenClaim := { program := "ytngnhdiafbjfkaadoor", sum := "bda422a82ea7c3c20d46e5158413b60d8c2b6d874c53fe82ffc63db8ab039229", func := "cursitor/cursitorlaw17.RequestWrites", spec := "requestWrites", named := ["cursitor/version.requests"], apart := false, laid := [("cursitor/version.requests", laid_cursitor_version_requests)] }
def RequestWritesSaid : Prop := requestWritesRow.holds Tryd.pinned (OpenSpec.ofChange requestWritesSpec)

/-- ITS FALSE NEIGHBOUR: 'it returns false'. Refute it at one input. -/
def requestWritesWrong : ChangeSpec := { name := "requestWrites", fn := fun _ => fun
  | [d] => { results := [.lit (.bool false)], args := [d] }
  | _ => none }
def RequestWritesWrongFalsely : Prop := requestWritesRow.holds Tryd.pinned (OpenSpec.ofChange requestWritesWrong)

/-- 'cursitorlaw17.RequestReads': WHATEVER THE INPUT: true; the input reads as it did. -/
def requestReadsSpec : ChangeSpec := { name := "requestReads", fn := fun _ => fun
  | [d] => { results := [.lit (.bool true)], args := [d] }
  | _ => none }
def requestReadsRow : OpenClaim := { program := "ytngnhdiafbjfkaadoor", sum := "bda422a82ea7c3c20d46e5158413b60d8c2b6d874c53fe82ffc63db8ab039229", func := "cursitor/cursitorlaw17.RequestReads", spec := "requestReads", named := ["cursitor/version.requests"], apart := false, laid := [("cursitor/version.requests", laid_cursitor_version_requests)] }
def RequestReadsSaid : Prop := requestReadsRow.holds Tryd.pinned (OpenSpec.ofChange requestReadsSpec)

/-- ITS FALSE NEIGHBOUR: 'it returns false'. Refute it at one input. -/
def requestReadsWrong : ChangeSpec := { name := "requestReads", fn := fun _ => fun
  | [d] => { results := [.lit (.bool false)], args := [d] }
  | _ => none }
def RequestReadsWrongFalsely : Prop := requestReadsRow.holds Tryd.pinned (OpenSpec.ofChange requestReadsWrong)

/- THE SECOND FORM. 'bulk': how many values and letters a reading holds, each counted each time it is reached (what is shared counts as often as it is met; a slice's spare places count too). A statement '..UptoSaid' is the law's where the arguments, and the package variables that the reading takes, are together of bulk at most 1048576: NARROWER than '..Said'. Prove '..Said' where nothing that the law and all that it calls make is longer than what came in: it says more and counts as full. Else prove '..UptoSaid'. A law counts once. -/
mutual
def uptoBulk {H : Type} : DataW H → Nat
  | .lit (.string bytes) => bytes.length + 1
  | .lit _ => 1
  | .nil => 1
  | .ptr d => uptoBulk d + 1
  | .slice elems spare => uptoBulkAll elems + uptoBulkAll spare + 1
  | .agg parts => uptoBulkAll parts + 1
  | .iface _ d => uptoBulk d + 1
  | .map entries => uptoBulkEntries entries + 1
  | .held _ => 1
def uptoBulkAll {H : Type} : List (DataW H) → Nat
  | [] => 0
  | d :: r => uptoBulk d + uptoBulkAll r
def uptoBulkEntries {H : Type} : List (Lit × DataW H) → Nat
  | [] => 0
  | x :: r => uptoBulkEntry x + uptoBulkEntries r
def uptoBulkEntry {H : Type} : Lit × DataW H → Nat
  | (.string bytes, d) => bytes.length + uptoBulk d + 1
  | (_, d) => uptoBulk d + 1
 end
def uptoSmall : (H : Type) → List (DataW H) → Bool := fun _ ds => decide (uptoBulkAll ds ≤ 1048576)
def OpenSpec.upto (s : _root_.Go.ChangeSpec) : _root_.Go.OpenSpec := { _root_.Go.OpenSpec.ofChange s with cond := some uptoSmall }

/-- 'cursitorlaw16.VersionChecks', WHERE WHAT IT READS IS OF BULK AT MOST 1048576: true; the input reads as it did. -/
def versionChecksUptoRow : OpenClaim := { program := "ytngnhdiafbjfkaadoor", sum := "bda422a82ea7c3c20d46e5158413b60d8c2b6d874c53fe82ffc63db8ab039229", func := "cursitor/cursitorlaw16.VersionChecks", spec := "versionChecks", named := ["cursitor/version.requests"], apart := false, laid := [("cursitor/version.requests", laid_cursitor_version_requests)], narrowed := true }
def VersionChecksUptoSaid : Prop := versionChecksUptoRow.holds Tryd.pinned (OpenSpec.upto versionChecksSpec)

/-- 'cursitorlaw16.VersionNames', WHERE WHAT IT READS IS OF BULK AT MOST 1048576: true; the input reads as it did. -/
def versionNamesUptoRow : OpenClaim := { program := "ytngnhdiafbjfkaadoor", sum := "bda422a82ea7c3c20d46e5158413b60d8c2b6d874c53fe82ffc63db8ab039229", func := "cursitor/cursitorlaw16.VersionNames", spec := "versionNames", named := ["cursitor/version.requests"], apart := false, laid := [("cursitor/version.requests", laid_cursitor_version_requests)], narrowed := true }
def VersionNamesUptoSaid : Prop := versionNamesUptoRow.holds Tryd.pinned (OpenSpec.upto versionNamesSpec)

/-- 'cursitorlaw17.RequestWrites', WHERE WHAT IT READS IS OF BULK AT MOST 1048576: true; the input reads as it did. -/
def requestWritesUptoRow : OpenClaim := { program := "ytngnhdiafbjfkaadoor", sum := "bda422a82ea7c3c20d46e5158413b60d8c2b6d874c53fe82ffc63db8ab039229", func := "cursitor/cursitorlaw17.RequestWrites", spec := "requestWrites", named := ["cursitor/version.requests"], apart := false, laid := [("cursitor/version.requests", laid_cursitor_version_requests)], narrowed := true }
def RequestWritesUptoSaid : Prop := requestWritesUptoRow.holds Tryd.pinned (OpenSpec.upto requestWritesSpec)

/-- 'cursitorlaw17.RequestReads', WHERE WHAT IT READS IS OF BULK AT MOST 1048576: true; the input reads as it did. -/
def requestReadsUptoRow : OpenClaim := { program := "ytngnhdiafbjfkaadoor", sum := "bda422a82ea7c3c20d46e5158413b60d8c2b6d874c53fe82ffc63db8ab039229", func := "cursitor/cursitorlaw17.RequestReads", spec := "requestReads", named := ["cursitor/version.requests"], apart := false, laid := [("cursitor/version.requests", laid_cursitor_version_requests)], narrowed := true }
def RequestReadsUptoSaid : Prop := requestReadsUptoRow.holds Tryd.pinned (OpenSpec.upto requestReadsSpec)

end Rows
end Go.Proofs.YtngnhdiafbjfkaaDoor
