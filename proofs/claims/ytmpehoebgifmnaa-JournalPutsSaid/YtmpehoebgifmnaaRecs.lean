/- A text. -/
import Derived.Test.YtmpehoebgifmnaaRec8
import Derived.Test.YtmpehoebgifmnaaRec6
namespace Go.Proofs.Ytmpehoebgifmnaa
open Go.RowKit

def Know.all {α : Type} (l : List α) (k : α → Know) : Know := ⟨fun w F => ∀ x ∈ l, (k x).p w F, fun w w' F h hs hk x hx => (k x).keep w w' F (h x hx) hs hk, fun w F F' h hs x hx => (k x).mono w F F' (h x hx) hs⟩
def RRec (cs : List Value) (x : RecS × Value) : Prop := cs = [.int .i64 x.1.time, .int .i64 x.1.off, .bool x.1.key.null, .string (bb x.1.key.data), .bool x.1.val.null, .string (bb x.1.val.data), x.2]
def Know.recs (v : Value) (l : List (RecS × Value)) : Know := (Know.flat RRec v 7 l).and (Know.all l fun x => Know.flat RHdr x.2 3 x.1.hdrs)
end Go.Proofs.Ytmpehoebgifmnaa
