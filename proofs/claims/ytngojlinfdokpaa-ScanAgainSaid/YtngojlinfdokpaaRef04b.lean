/- A text. -/
import Derived.Test.YtngojlinfdokpaaRef04
namespace Go.Proofs.Ytngojlinfdokpaa
open Go.RowKit

end Go.Proofs.Ytngojlinfdokpaa
