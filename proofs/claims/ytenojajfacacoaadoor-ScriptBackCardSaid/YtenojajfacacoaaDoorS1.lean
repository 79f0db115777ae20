/- Contracts of input, output and cursitorref01 over things that are apart. -/
import Derived.Test.YtenojajfacacoaaDoorSep
namespace Go.Proofs.YtenojajfacacoaaDoor
open Go.RowKit

end Go.Proofs.YtenojajfacacoaaDoor
