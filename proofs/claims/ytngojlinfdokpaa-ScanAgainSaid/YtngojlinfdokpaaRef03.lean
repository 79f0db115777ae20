/- A text. -/
import Derived.Test.YtngojlinfdokpaaVPure
import Derived.Test.YtngojlinfdokpaaGrow
import Derived.Test.YtngojlinfdokpaaS3
namespace Go.Proofs.Ytngojlinfdokpaa
open Go.RowKit

end Go.Proofs.Ytngojlinfdokpaa
