/- Contracts of package blob: reading. -/
import Derived.Test.YtenojajfacacoaaDoorBlob1
namespace Go.Proofs.YtenojajfacacoaaDoor
open Go.RowKit

def InS.tk (i : InS) (n : Int) : BlobS × InS := if n = -1 then (BlobS.none, i) else (⟨false, (i.take n).1⟩, (i.take n).2)
def InS.fixed (i : InS) (size : Int) : BlobS × InS := (i.int size).2.tk (i.int size).1
def InS.varied (i : InS) : BlobS × InS := i.vint.2.tk i.vint.1
def InS.bytes (i : InS) (b : BlobS) : Bs × InS := (b.data, if b.null then i.fail 4 else i)
def InS.text (i : InS) : Bs × InS := (i.fixed 2).2.bytes (i.fixed 2).1
def InS.name (i : InS) : Bs × InS := i.varied.2.bytes i.varied.1

end Go.Proofs.YtenojajfacacoaaDoor
