/-
  NARROWER THAN 'FOR EVERY INPUT', by the rows' own cells (each row's printed sentence says how): WholeLog: laid.
  DERIVED. THE GIVEN ROWS OF THIS SEAT. 1 by the template 'for every input the law returns true; each argument reads behind the call as it read before'; 0 by the template 'total and deterministic' (their statements: YtmpehoebgifmnaaDoorTotals.lean).
  GIVEN WITH THE SEED: the statements are not yours to turn. If you find one false, say at which input.
  Laid BY PROGRAM, IN A SANDBOX (cutbox-rows.mjs): the forced cells as the released guide's own fill.sh prints them over the translation 4f1fecaa606f1ea1… (all of the seat's roots in one cut). By AI agents, Wed Nov 11 2026. No macro, syntax, notation, axiom, sorry.
-/
import Derived.Test.YtmpehoebgifmnaaDoorChecked
import GoSem.Claim
import GoSem.ClaimJoined
import GoSem.ClaimMapViews
import Derived.JoinedTies
import Derived.KernelRfl
namespace Go.Proofs.YtmpehoebgifmnaaDoor
/- THE CELL 'sum', in the pinned program and in every row, IS THE sha256 OF THE DUMP (.gsa) THAT YtmpehoebgifmnaaDoorProg.lean LOADS. Nothing in Lean hashes anything: it is a label: what it is worth is what the hold of that sum in a sandbox is worth. -/
noncomputable def Tryd.pinned : Pinned := { name := "ytmpehoebgifmnaadoor", sum := "4f1fecaa606f1ea13dc3cf4c176cccc87c437ef0b5ad12a988c5527b3c9d1160", checked := Tryd.checked }
namespace Rows
def none {H : Type} : Left H := { results := [], args := [] }

/- WHAT THE LISTED PACKAGE-LEVEL VARIABLES READ AS WHEN THE CALL BEGINS. Each datum BY PROGRAM (the guide's laid-datum.mjs) off the statement by which the dump's own 'gosem.cut.vars' lays the variable. In a bare row this is a premise. The card (YtmpehoebgifmnaaDoorCards.lean) ties it to the program's text. -/
def laid_cursitor_version_requests {H : Type} : DataW H := .agg [.agg [.lit (.int .i64 0), .lit (.string [112, 114, 111, 100, 117, 99, 101]), .lit (.int .i64 3), .lit (.int .i64 4)], .agg [.lit (.int .i64 22), .lit (.string [98, 101, 103, 105, 110]), .lit (.int .i64 0), .lit (.int .i64 1)], .agg [.lit (.int .i64 24), .lit (.string [97, 100, 100]), .lit (.int .i64 0), .lit (.int .i64 0)], .agg [.lit (.int .i64 26), .lit (.string [101, 110, 100]), .lit (.int .i64 0), .lit (.int .i64 0)], .agg [.lit (.int .i64 27), .lit (.string [109, 97, 114, 107]), .lit (.int .i64 0), .lit (.int .i64 1)]]

/-- 'cursitortop.WholeLog': WHATEVER THE INPUT: true; the input reads as it did. -/
def wholeLogSpec : ChangeSpec := { name := "wholeLog", fn := fun _ => fun
  | [d] => { results := [.lit (.bool true)], args := [d] }
  | _ => none }
def wholeLogRow : OpenClaim := { program := "ytmpehoebgifmnaadoor", sum := "4f1fecaa606f1ea13dc3cf4c176cccc87c437ef0b5ad12a988c5527b3c9d1160", func := "cursitor/cursitortop.WholeLog", spec := "wholeLog", unfollowed := true, recurses := true, named := ["cursitor/version.requests"], apart := false, laid := [("cursitor/version.requests", laid_cursitor_version_requests)] }
def WholeLogSaid : Prop := wholeLogRow.holds Tryd.pinned (OpenSpec.ofChange wholeLogSpec)

/-- ITS FALSE NEIGHBOUR: 'it returns false'. Refute it at one input. -/
def wholeLogWrong : ChangeSpec := { name := "wholeLog", fn := fun _ => fun
  | [d] => { results := [.lit (.bool false)], args := [d] }
  | _ => none }
def WholeLogWrongFalsely : Prop := wholeLogRow.holds Tryd.pinned (OpenSpec.ofChange wholeLogWrong)

/- THE SECOND FORM. 'bulk': how many values and letters a reading holds, each counted each time it is reached (what is shared counts as often as it is met; a slice's spare places count too). A statement '..UptoSaid' is the law's where the arguments, and the package variables that the reading takes, are together of bulk at most 1048576: NARROWER than '..Said'. Prove '..Said' where nothing that the law and all that it calls make is longer than what came in: it says more and counts as full. Else prove '..UptoSaid'. A law counts once. -/
mutual
def uptoBulk {H : Type} : DataW H → Nat
  | .lit (.string bytes) => bytes.length + 1
  | .lit _ => 1
  | .nil => 1
  | .ptr d => uptoBulk d + 1
  | .slice elems spare => uptoBulkAll elems + uptoBulkAll spare + 1
  | .agg parts => uptoBulkAll parts + 1
  | .iface _ d => uptoBulk d + 1
  | .map entries => uptoBulkEntries entries + 1
  | .held _ => 1
def uptoBulkAll {H : Type} : List (DataW H) → Nat
  | [] => 0
  | d :: r => uptoBulk d + uptoBulkAll r
def uptoBulkEntries {H : Type} : List (Lit × DataW H) → Nat
  | [] => 0
  | x :: r => uptoBulkEntry x + uptoBulkEntries r
def uptoBulkEntry {H : Type} : Lit × DataW H → Nat
  | (.string bytes, d) => bytes.length + uptoBulk d + 1
  | (_, d) => uptoBulk d + 1
 end
def uptoSmall : (H : Type) → List (DataW H) → Bool := fun _ ds => decide (uptoBulkAll ds ≤ 1048576)
def OpenSpec.upto (s : _root_.Go.ChangeSpec) : _root_.Go.OpenSpec := { _root_.Go.OpenSpec.ofChange s with cond := some uptoSmall }

/-- 'cursitortop.WholeLog', WHERE WHAT IT READS IS OF BULK AT MOST 1048576: true; the input reads as it did. -/
def wholeLogUptoRow : OpenClaim := { program := "ytmpehoebgifmnaadoor", sum := "4f1fecaa606f1ea13dc3cf4c176cccc87c437ef0b5ad12a988c5527b3c9d1160", func := "cursitor/cursitortop.WholeLog", spec := "wholeLog", unfollowed := true, recurses := true, named := ["cursitor/version.requests"], apart := false, laid := [("cursitor/version.requests", laid_cursitor_version_requests)], narrowed := true }
def WholeLogUptoSaid : Prop := wholeLogUptoRow.holds Tryd.pinned (OpenSpec.upto wholeLogSpec)

end Rows
end Go.Proofs.YtmpehoebgifmnaaDoor
