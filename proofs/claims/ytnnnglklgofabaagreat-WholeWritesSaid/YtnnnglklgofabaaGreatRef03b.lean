/- A text. -/
import Derived.Test.YtnnnglklgofabaaGreatRef03
namespace Go.Proofs.YtnnnglklgofabaaGreat
open Go.RowKit

end Go.Proofs.YtnnnglklgofabaaGreat
