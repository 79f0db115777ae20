/- A text. -/
import Derived.Test.YtnnnglklgofabaaGreatRef04
namespace Go.Proofs.YtnnnglklgofabaaGreat
open Go.RowKit

end Go.Proofs.YtnnnglklgofabaaGreat
