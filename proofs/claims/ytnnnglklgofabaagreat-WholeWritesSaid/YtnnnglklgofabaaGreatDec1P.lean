/- A text. -/
import Derived.Test.YtnnnglklgofabaaGreatRecs
import Derived.Test.YtnnnglklgofabaaGreatGrow
import Derived.Test.YtnnnglklgofabaaGreatS1
import Derived.Test.YtnnnglklgofabaaGreatHdr2
namespace Go.Proofs.YtnnnglklgofabaaGreat
open Go.RowKit

def consE (x : RecS) (r : Except Int (List RecS)) : Except Int (List RecS) := match r with | .ok t => .ok (x :: t) | .error e => .error e
def unp : Nat → InS → Except Int (List RecS)
  | 0, i => if i.left = 0 then .ok [] else .error 10
  | n + 1, i => if i.left = 0 then .error 10 else if i.record.2.err = 0 then consE i.record.1 (unp n i.record.2) else .error i.record.2.err
end Go.Proofs.YtnnnglklgofabaaGreat
