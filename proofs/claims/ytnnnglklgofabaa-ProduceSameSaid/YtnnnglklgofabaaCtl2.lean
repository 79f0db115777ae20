/- A text. -/
import Derived.Test.YtnnnglklgofabaaCtlP
import Derived.Test.YtnnnglklgofabaaBlob1
import Derived.Test.YtnnnglklgofabaaBlob2
namespace Go.Proofs.Ytnnnglklgofabaa
open Go.RowKit

end Go.Proofs.Ytnnnglklgofabaa
