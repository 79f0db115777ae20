/-
  No cell of these rows narrows 'for every input' (looked for: loops, veiled, ifaces, maps, wideKeys, modest, calm, conditions, laid).
  DERIVED. THE GIVEN ROWS OF THIS SEAT. 3 by the template 'for every input the law returns true; each argument reads behind the call as it read before'; 0 by the template 'total and deterministic' (their statements: YtcjgdlfcfcabiaaGreatTotals.lean).
  GIVEN WITH THE SEED: the statements are not yours to turn. If you find one false, say at which input.
  Laid BY PROGRAM, IN A SANDBOX (cutbox-rows.mjs): the forced cells as the released guide's own fill.sh prints them over the translation 3e737486280b44c9… (all of the seat's roots in one cut). By AI agents, Wed Nov 11 2026. No macro, syntax, notation, axiom, sorry.
-/
import Derived.Test.YtcjgdlfcfcabiaaGreatChecked
import GoSem.Claim
import GoSem.ClaimJoined
import GoSem.ClaimMapViews
import Derived.JoinedTies
import Derived.KernelRfl
namespace Go.Proofs.YtcjgdlfcfcabiaaGreat
/- THE CELL 'sum', in the pinned program and in every row, IS THE sha256 OF THE DUMP (.gsa) THAT YtcjgdlfcfcabiaaGreatProg.lean LOADS. Nothing in Lean hashes anything: it is a label: what it is worth is what the hold of that sum in a sandbox is worth. -/
noncomputable def Tryz.pinned : Pinned := { name := "ytcjgdlfcfcabiaagreat", sum := "3e737486280b44c9648c7881e061fb8ba1cb6958a9e9fb9bd9e0b8052392777e", checked := Tryz.checked }
namespace Rows
def none {H : Type} : Left H := { results := [], args := [] }

/-- 'cursitorlaw11.BatchEncodes': WHATEVER THE INPUT: true; the input reads as it did. -/
def batchEncodesSpec : ChangeSpec := { name := "batchEncodes", fn := fun _ => fun
  | [d] => { results := [.lit (.bool true)], args := [d] }
  | _ => none }
def batchEncodesRow : OpenClaim := { program := "ytcjgdlfcfcabiaagreat", sum := "3e737486280b44c9648c7881e061fb8ba1cb6958a9e9fb9bd9e0b8052392777e", func := "cursitor/cursitorlaw11.BatchEncodes", spec := "batchEncodes", unfollowed := true, recurses := true, apart := false }
def BatchEncodesSaid : Prop := batchEncodesRow.holds Tryz.pinned (OpenSpec.ofChange batchEncodesSpec)

/-- ITS FALSE NEIGHBOUR: 'it returns false'. Refute it at one input. -/
def batchEncodesWrong : ChangeSpec := { name := "batchEncodes", fn := fun _ => fun
  | [d] => { results := [.lit (.bool false)], args := [d] }
  | _ => none }
def BatchEncodesWrongFalsely : Prop := batchEncodesRow.holds Tryz.pinned (OpenSpec.ofChange batchEncodesWrong)

/-- 'cursitorlaw12.MarkerMakes': WHATEVER THE INPUT: true; the input reads as it did. -/
def markerMakesSpec : ChangeSpec := { name := "markerMakes", fn := fun _ => fun
  | [d1, d2, d3] => { results := [.lit (.bool true)], args := [d1, d2, d3] }
  | _ => none }
def markerMakesRow : OpenClaim := { program := "ytcjgdlfcfcabiaagreat", sum := "3e737486280b44c9648c7881e061fb8ba1cb6958a9e9fb9bd9e0b8052392777e", func := "cursitor/cursitorlaw12.MarkerMakes", spec := "markerMakes", unfollowed := true, recurses := true, apart := false }
def MarkerMakesSaid : Prop := markerMakesRow.holds Tryz.pinned (OpenSpec.ofChange markerMakesSpec)

/-- ITS FALSE NEIGHBOUR: 'it returns false'. Refute it at one input. -/
def markerMakesWrong : ChangeSpec := { name := "markerMakes", fn := fun _ => fun
  | [d1, d2, d3] => { results := [.lit (.bool false)], args := [d1, d2, d3] }
  | _ => none }
def MarkerMakesWrongFalsely : Prop := markerMakesRow.holds Tryz.pinned (OpenSpec.ofChange markerMakesWrong)

/-- 'cursitortop.WholeMarkers': WHATEVER THE INPUT: true; the input reads as it did. -/
def wholeMarkersSpec : ChangeSpec := { name := "wholeMarkers", fn := fun _ => fun
  | [d1, d2] => { results := [.lit (.bool true)], args := [d1, d2] }
  | _ => none }
def wholeMarkersRow : OpenClaim := { program := "ytcjgdlfcfcabiaagreat", sum := "3e737486280b44c9648c7881e061fb8ba1cb6958a9e9fb9bd9e0b8052392777e", func := "cursitor/cursitortop.WholeMarkers", spec := "wholeMarkers", unfollowed := true, recurses := true, apart := false }
def WholeMarkersSaid : Prop := wholeMarkersRow.holds Tryz.pinned (OpenSpec.ofChange wholeMarkersSpec)

/-- ITS FALSE NEIGHBOUR: 'it returns false'. Refute it at one input. -/
def wholeMarkersWrong : ChangeSpec := { name := "wholeMarkers", fn := fun _ => fun
  | [d1, d2] => { results := [.lit (.bool false)], args := [d1, d2] }
  | _ => none }
def WholeMarkersWrongFalsely : Prop := wholeMarkersRow.holds Tryz.pinned (OpenSpec.ofChange wholeMarkersWrong)

/- THE SECOND FORM. 'bulk': how many values and letters a reading holds, each counted each time it is reached (what is shared counts as often as it is met; a slice's spare places count too). A statement '..UptoSaid' is the law's where the arguments, and the package variables that the reading takes, are together of bulk at most 1048576: NARROWER than '..Said'. Prove '..Said' where nothing that the law and all that it calls make is longer than what came in: it says more and counts as full. Else prove '..UptoSaid'. A law counts once. -/
mutual
def uptoBulk {H : Type} : DataW H → Nat
  | .lit (.string bytes) => bytes.length + 1
  | .lit _ => 1
  | .nil => 1
  | .ptr d => uptoBulk d + 1
  | .slice elems spare => uptoBulkAll elems + uptoBulkAll spare + 1
  | .agg parts => uptoBulkAll parts + 1
  | .iface _ d => uptoBulk d + 1
  | .map entries => uptoBulkEntries entries + 1
  | .held _ => 1
def uptoBulkAll {H : Type} : List (DataW H) → Nat
  | [] => 0
  | d :: r => uptoBulk d + uptoBulkAll r
def uptoBulkEntries {H : Type} : List (Lit × DataW H) → Nat
  | [] => 0
  | x :: r => uptoBulkEntry x + uptoBulkEntries r
def uptoBulkEntry {H : Type} : Lit × DataW H → Nat
  | (.string bytes, d) => bytes.length + uptoBulk d + 1
  | (_, d) => uptoBulk d + 1
 end
def uptoSmall : (H : Type) → List (DataW H) → Bool := fun _ ds => decide (uptoBulkAll ds ≤ 1048576)
def OpenSpec.upto (s : _root_.Go.ChangeSpec) : _root_.Go.OpenSpec := { _root_.Go.OpenSpec.ofChange s with cond := some uptoSmall }

/-- 'cursitorlaw11.BatchEncodes', WHERE WHAT IT READS IS OF BULK AT MOST 1048576: true; the input reads as it did. -/
def batchEncodesUptoRow : OpenClaim := { program := "ytcjgdlfcfcabiaagreat", sum := "3e737486280b44c9648c7881e061fb8ba1cb6958a9e9fb9bd9e0b8052392777e", func := "cursitor/cursitorlaw11.BatchEncodes", spec := "batchEncodes", unfollowed := true, recurses := true, apart := false, narrowed := true }
def BatchEncodesUptoSaid : Prop := batchEncodesUptoRow.holds Tryz.pinned (OpenSpec.upto batchEncodesSpec)

/-- 'cursitorlaw12.MarkerMakes', WHERE WHAT IT READS IS OF BULK AT MOST 1048576: true; the input reads as it did. -/
def markerMakesUptoRow : OpenClaim := { program := "ytcjgdlfcfcabiaagreat", sum := "3e737486280b44c9648c7881e061fb8ba1cb6958a9e9fb9bd9e0b8052392777e", func := "cursitor/cursitorlaw12.MarkerMakes", spec := "markerMakes", unfollowed := true, recurses := true, apart := false, narrowed := true }
def MarkerMakesUptoSaid : Prop := markerMakesUptoRow.holds Tryz.pinned (OpenSpec.upto markerMakesSpec)

/-- 'cursitortop.WholeMarkers', WHERE WHAT IT READS IS OF BULK AT MOST 1048576: true; the input reads as it did. -/
def wholeMarkersUptoRow : OpenClaim := { program := "ytcjgdlfcfcabiaagreat", sum := "3e737486280b44c9648c7881e061fb8ba1cb6958a9e9fb9bd9e0b8052392777e", func := "cursitor/cursitortop.WholeMarkers", spec := "wholeMarkers", unfollowed := true, recurses := true, apart := false, narrowed := true }
def WholeMarkersUptoSaid : Prop := wholeMarkersUptoRow.holds Tryz.pinned (OpenSpec.upto wholeMarkersSpec)

end Rows
end Go.Proofs.YtcjgdlfcfcabiaaGreat
