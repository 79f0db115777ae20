/- A text. -/
import Derived.Test.YtngojlinfdokpaaSel
namespace Go.Proofs.Ytngojlinfdokpaa
open Go.RowKit

end Go.Proofs.Ytngojlinfdokpaa
