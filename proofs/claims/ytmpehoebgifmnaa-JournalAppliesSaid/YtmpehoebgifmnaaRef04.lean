/- A text. -/
import Derived.Test.YtmpehoebgifmnaaBlob2
import Derived.Deep.RegionHeld3
namespace Go.Proofs.Ytmpehoebgifmnaa
open Go.RowKit

def gotS (s : Bs) (head : Nat) (n : Int) : Except Int (BlobS × Nat) :=
  if n = -1 then .ok (BlobS.none, head)
  else if n < 0 then .error 4
  else if (s.length : Int) - head < n then .error 1
  else .ok (⟨false, (s.drop head).take n.toNat⟩, head + n.toNat)
def refixed (size : Nat) (s : Bs) : Except Int (BlobS × Nat) := if s.length < size then .error 1 else gotS s size (sInt (s.take size))
def revaried (s : Bs) : Except Int (BlobS × Nat) := match vgetI s with | .ok x => gotS s x.2 x.1 | .error e => .error e
end Go.Proofs.Ytmpehoebgifmnaa
