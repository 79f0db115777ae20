/- A text. -/
import Derived.Test.YtnnnglklgofabaaRef06
namespace Go.Proofs.Ytnnnglklgofabaa
open Go.RowKit

end Go.Proofs.Ytnnnglklgofabaa
