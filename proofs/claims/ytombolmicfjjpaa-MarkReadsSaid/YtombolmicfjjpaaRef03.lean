/- Contracts of cursitorref03. -/
import Derived.Test.YtombolmicfjjpaaVPure
import Derived.Test.YtombolmicfjjpaaGrow
import Derived.Test.YtombolmicfjjpaaS3
namespace Go.Proofs.Ytombolmicfjjpaa
open Go.RowKit

end Go.Proofs.Ytombolmicfjjpaa
