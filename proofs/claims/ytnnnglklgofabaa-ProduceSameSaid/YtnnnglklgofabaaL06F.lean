/- A text. -/
import Derived.Test.YtnnnglklgofabaaHdr3
namespace Go.Proofs.Ytnnnglklgofabaa
open Go.RowKit

end Go.Proofs.Ytnnnglklgofabaa
