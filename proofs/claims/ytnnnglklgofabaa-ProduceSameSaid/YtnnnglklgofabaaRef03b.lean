/- A text. -/
import Derived.Test.YtnnnglklgofabaaRef03
namespace Go.Proofs.Ytnnnglklgofabaa
open Go.RowKit

end Go.Proofs.Ytnnnglklgofabaa
