/- Contracts of cursitorref03. -/
import Derived.Test.YtngnhdiafbjfkaaDoorVPure
import Derived.Test.YtngnhdiafbjfkaaDoorGrow
import Derived.Test.YtngnhdiafbjfkaaDoorS3
namespace Go.Proofs.YtngnhdiafbjfkaaDoor
open Go.RowKit

end Go.Proofs.YtngnhdiafbjfkaaDoor
