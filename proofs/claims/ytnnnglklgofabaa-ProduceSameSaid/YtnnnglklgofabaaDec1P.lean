/- A text. -/
import Derived.Test.YtnnnglklgofabaaRecs
import Derived.Test.YtnnnglklgofabaaGrow
import Derived.Test.YtnnnglklgofabaaS1
import Derived.Test.YtnnnglklgofabaaHdr2
namespace Go.Proofs.Ytnnnglklgofabaa
open Go.RowKit

def consE (x : RecS) (r : Except Int (List RecS)) : Except Int (List RecS) := match r with | .ok t => .ok (x :: t) | .error e => .error e
def unp : Nat → InS → Except Int (List RecS)
  | 0, i => if i.left = 0 then .ok [] else .error 10
  | n + 1, i => if i.left = 0 then .error 10 else if i.record.2.err = 0 then consE i.record.1 (unp n i.record.2) else .error i.record.2.err
end Go.Proofs.Ytnnnglklgofabaa
