/- A text. -/
import Derived.Test.YtnnnglklgofabaaGreatRec3
namespace Go.Proofs.YtnnnglklgofabaaGreat
open Go.RowKit

end Go.Proofs.YtnnnglklgofabaaGreat
