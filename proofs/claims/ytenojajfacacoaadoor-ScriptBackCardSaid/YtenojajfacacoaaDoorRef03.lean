/- Contracts of cursitorref03. -/
import Derived.Test.YtenojajfacacoaaDoorVPure
import Derived.Test.YtenojajfacacoaaDoorGrow
import Derived.Test.YtenojajfacacoaaDoorS3
namespace Go.Proofs.YtenojajfacacoaaDoor
open Go.RowKit

end Go.Proofs.YtenojajfacacoaaDoor
