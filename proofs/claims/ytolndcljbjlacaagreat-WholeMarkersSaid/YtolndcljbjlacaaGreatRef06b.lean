/- A text. -/
import Derived.Test.YtolndcljbjlacaaGreatRef06
namespace Go.Proofs.YtolndcljbjlacaaGreat
open Go.RowKit

end Go.Proofs.YtolndcljbjlacaaGreat
