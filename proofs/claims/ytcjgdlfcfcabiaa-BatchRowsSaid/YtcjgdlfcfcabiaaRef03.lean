/- Contracts of cursitorref03. -/
import Derived.Test.YtcjgdlfcfcabiaaVPure
import Derived.Test.YtcjgdlfcfcabiaaGrow
import Derived.Test.YtcjgdlfcfcabiaaS3
namespace Go.Proofs.Ytcjgdlfcfcabiaa
open Go.RowKit

end Go.Proofs.Ytcjgdlfcfcabiaa
