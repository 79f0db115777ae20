/- Contracts of cursitorref04. -/
import Derived.Test.YtenojajfacacoaaDoorBlob2
import Derived.Deep.RegionHeld3
namespace Go.Proofs.YtenojajfacacoaaDoor
open Go.RowKit

/-- What was read of bytes, behind a head. -/
def gotS (s : Bs) (head : Nat) (n : Int) : Except Int (BlobS × Nat) :=
  if n = -1 then .ok (BlobS.none, head)
  else if n < 0 then .error 4
  else if (s.length : Int) - head < n then .error 1
  else .ok (⟨false, (s.drop head).take n.toNat⟩, head + n.toNat)
def refixed (size : Nat) (s : Bs) : Except Int (BlobS × Nat) := if s.length < size then .error 1 else gotS s size (sInt (s.take size))
def revaried (s : Bs) : Except Int (BlobS × Nat) := match vgetI s with | .ok x => gotS s x.2 x.1 | .error e => .error e
def gotB (r : Except Int (BlobS × Nat)) : BlobS := match r with | .ok x => x.1 | .error _ => ⟨false, []⟩
def gotN (r : Except Int (BlobS × Nat)) : Nat := match r with | .ok x => x.2 | .error _ => 0
def gotV (r : Except Int (BlobS × Nat)) : Value := .agg #[.bool (gotB r).null, .string (bb (gotB r).data), .int .i64 (gotN r), .int .i64 (vE r)]

end Go.Proofs.YtenojajfacacoaaDoor
