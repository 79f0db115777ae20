/- A text. -/
import Derived.Test.YtnnnglklgofabaaRec2
namespace Go.Proofs.Ytnnnglklgofabaa
open Go.RowKit

end Go.Proofs.Ytnnnglklgofabaa
