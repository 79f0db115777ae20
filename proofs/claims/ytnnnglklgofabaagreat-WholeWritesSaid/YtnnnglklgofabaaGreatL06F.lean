/- A text. -/
import Derived.Test.YtnnnglklgofabaaGreatHdr3
namespace Go.Proofs.YtnnnglklgofabaaGreat
open Go.RowKit

end Go.Proofs.YtnnnglklgofabaaGreat
