/- A text. -/
import Derived.Test.YtnnnglklgofabaaVPure
import Derived.Test.YtnnnglklgofabaaGrow
import Derived.Test.YtnnnglklgofabaaS3
namespace Go.Proofs.Ytnnnglklgofabaa
open Go.RowKit

end Go.Proofs.Ytnnnglklgofabaa
