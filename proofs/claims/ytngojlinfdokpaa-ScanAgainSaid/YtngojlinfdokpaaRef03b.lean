/- A text. -/
import Derived.Test.YtngojlinfdokpaaRef03
namespace Go.Proofs.Ytngojlinfdokpaa
open Go.RowKit

end Go.Proofs.Ytngojlinfdokpaa
