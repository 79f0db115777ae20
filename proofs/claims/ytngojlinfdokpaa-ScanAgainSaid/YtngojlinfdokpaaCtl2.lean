/- A text. -/
import Derived.Test.YtngojlinfdokpaaCtlP
import Derived.Test.YtngojlinfdokpaaBlob1
import Derived.Test.YtngojlinfdokpaaBlob2
namespace Go.Proofs.Ytngojlinfdokpaa
open Go.RowKit

end Go.Proofs.Ytngojlinfdokpaa
