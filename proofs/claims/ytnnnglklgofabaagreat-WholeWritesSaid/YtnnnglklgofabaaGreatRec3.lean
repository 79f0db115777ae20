/- A text. -/
import Derived.Test.YtnnnglklgofabaaGreatRec2
namespace Go.Proofs.YtnnnglklgofabaaGreat
open Go.RowKit

end Go.Proofs.YtnnnglklgofabaaGreat
