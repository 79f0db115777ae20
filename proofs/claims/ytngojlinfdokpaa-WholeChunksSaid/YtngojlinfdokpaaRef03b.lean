/- Contracts of cursitorref03: reading. -/
import Derived.Test.YtngojlinfdokpaaRef03
namespace Go.Proofs.Ytngojlinfdokpaa
open Go.RowKit

end Go.Proofs.Ytngojlinfdokpaa
