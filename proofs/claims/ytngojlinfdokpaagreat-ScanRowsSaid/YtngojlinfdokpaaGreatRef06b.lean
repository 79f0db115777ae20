/- A text. -/
import Derived.Test.YtngojlinfdokpaaGreatRef06
namespace Go.Proofs.YtngojlinfdokpaaGreat
open Go.RowKit

end Go.Proofs.YtngojlinfdokpaaGreat
