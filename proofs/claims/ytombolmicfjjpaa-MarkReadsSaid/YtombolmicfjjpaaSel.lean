/- Things of one's own, picked. -/
import Derived.Test.YtombolmicfjjpaaSep
namespace Go.Proofs.Ytombolmicfjjpaa
open Go.RowKit

end Go.Proofs.Ytombolmicfjjpaa
