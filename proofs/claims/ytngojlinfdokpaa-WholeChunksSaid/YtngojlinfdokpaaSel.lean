/- Things of one's own, picked. -/
import Derived.Test.YtngojlinfdokpaaSep
namespace Go.Proofs.Ytngojlinfdokpaa
open Go.RowKit

end Go.Proofs.Ytngojlinfdokpaa
