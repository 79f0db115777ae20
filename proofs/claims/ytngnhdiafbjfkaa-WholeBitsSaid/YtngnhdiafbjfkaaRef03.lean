/- Contracts of cursitorref03. -/
import Derived.Test.YtngnhdiafbjfkaaVPure
import Derived.Test.YtngnhdiafbjfkaaGrow
import Derived.Test.YtngnhdiafbjfkaaS3
namespace Go.Proofs.Ytngnhdiafbjfkaa
open Go.RowKit

end Go.Proofs.Ytngnhdiafbjfkaa
