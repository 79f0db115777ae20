/- A text. -/
import Derived.Test.YtnnnglklgofabaaGreatRec4
import Derived.Deep.RegionHeld3
namespace Go.Proofs.YtnnnglklgofabaaGreat
open Go.RowKit

end Go.Proofs.YtnnnglklgofabaaGreat
