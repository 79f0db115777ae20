/- A text. -/
import Derived.Test.YtngojlinfdokpaaGreatSep
namespace Go.Proofs.YtngojlinfdokpaaGreat
open Go.RowKit

end Go.Proofs.YtngojlinfdokpaaGreat
