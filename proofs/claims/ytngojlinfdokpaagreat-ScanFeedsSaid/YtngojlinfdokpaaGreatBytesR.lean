/- A text. -/
import Derived.Test.YtngojlinfdokpaaGreatSel
namespace Go.Proofs.YtngojlinfdokpaaGreat
open Go.RowKit

end Go.Proofs.YtngojlinfdokpaaGreat
