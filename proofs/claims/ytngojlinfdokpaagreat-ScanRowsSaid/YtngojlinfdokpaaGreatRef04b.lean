/- A text. -/
import Derived.Test.YtngojlinfdokpaaGreatRef04
namespace Go.Proofs.YtngojlinfdokpaaGreat
open Go.RowKit

end Go.Proofs.YtngojlinfdokpaaGreat
