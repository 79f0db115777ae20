/- A text. -/
import Derived.Test.YtnnnglklgofabaaRef04
namespace Go.Proofs.Ytnnnglklgofabaa
open Go.RowKit

end Go.Proofs.Ytnnnglklgofabaa
