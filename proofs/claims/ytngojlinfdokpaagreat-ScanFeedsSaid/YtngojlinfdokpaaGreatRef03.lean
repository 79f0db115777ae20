/- A text. -/
import Derived.Test.YtngojlinfdokpaaGreatVPure
import Derived.Test.YtngojlinfdokpaaGreatGrow
import Derived.Test.YtngojlinfdokpaaGreatS3
namespace Go.Proofs.YtngojlinfdokpaaGreat
open Go.RowKit

end Go.Proofs.YtngojlinfdokpaaGreat
