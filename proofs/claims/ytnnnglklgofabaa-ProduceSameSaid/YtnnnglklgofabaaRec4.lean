/- A text. -/
import Derived.Test.YtnnnglklgofabaaRec3
namespace Go.Proofs.Ytnnnglklgofabaa
open Go.RowKit

end Go.Proofs.Ytnnnglklgofabaa
