/- A text. -/
import Derived.Test.YtngojlinfdokpaaSep
namespace Go.Proofs.Ytngojlinfdokpaa
open Go.RowKit

end Go.Proofs.Ytngojlinfdokpaa
