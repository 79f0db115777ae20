/- Contracts of cursitorref03. -/
import Derived.Test.YthppodbjjfkmfaaDoorVPure
import Derived.Test.YthppodbjjfkmfaaDoorGrow
import Derived.Test.YthppodbjjfkmfaaDoorS3
namespace Go.Proofs.YthppodbjjfkmfaaDoor
open Go.RowKit

end Go.Proofs.YthppodbjjfkmfaaDoor
