/- A text. -/
import Derived.Test.YtnnnglklgofabaaRec5
import Derived.Test.YtnnnglklgofabaaL06W
namespace Go.Proofs.Ytnnnglklgofabaa
open Go.RowKit

def smallR (x : RecS) : Int := if 500 < x.key.data.length ∨ 500 < x.val.data.length then 0 else smallN x.hdrs
end Go.Proofs.Ytnnnglklgofabaa
