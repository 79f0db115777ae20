/- A text. -/
import Derived.Test.YtolndcljbjlacaaGreatHdr3
namespace Go.Proofs.YtolndcljbjlacaaGreat
open Go.RowKit

end Go.Proofs.YtolndcljbjlacaaGreat
