/- A text. -/
import Derived.Test.YtmpehoebgifmnaaVPure
import Derived.Test.YtmpehoebgifmnaaGrow
import Derived.Test.YtmpehoebgifmnaaS3
namespace Go.Proofs.Ytmpehoebgifmnaa
open Go.RowKit

end Go.Proofs.Ytmpehoebgifmnaa
