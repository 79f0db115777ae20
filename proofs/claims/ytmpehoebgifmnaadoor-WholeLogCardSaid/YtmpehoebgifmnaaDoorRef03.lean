/- Contracts of cursitorref03. -/
import Derived.Test.YtmpehoebgifmnaaDoorVPure
import Derived.Test.YtmpehoebgifmnaaDoorGrow
import Derived.Test.YtmpehoebgifmnaaDoorS3
namespace Go.Proofs.YtmpehoebgifmnaaDoor
open Go.RowKit

end Go.Proofs.YtmpehoebgifmnaaDoor
