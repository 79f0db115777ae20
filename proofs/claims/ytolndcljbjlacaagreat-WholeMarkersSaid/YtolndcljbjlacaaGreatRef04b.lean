/- A text. -/
import Derived.Test.YtolndcljbjlacaaGreatRef04
namespace Go.Proofs.YtolndcljbjlacaaGreat
open Go.RowKit

end Go.Proofs.YtolndcljbjlacaaGreat
