/- A text. -/
import Derived.Test.YtngojlinfdokpaaRef06
namespace Go.Proofs.Ytngojlinfdokpaa
open Go.RowKit

end Go.Proofs.Ytngojlinfdokpaa
