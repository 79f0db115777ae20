/- Bytes of one's own, made of a text. -/
import Derived.Test.YtngojlinfdokpaaSel
namespace Go.Proofs.Ytngojlinfdokpaa
open Go.RowKit

end Go.Proofs.Ytngojlinfdokpaa
