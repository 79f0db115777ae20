/- A text. -/
import Derived.Test.YtnnnglklgofabaaGreatVPure
import Derived.Test.YtnnnglklgofabaaGreatGrow
import Derived.Test.YtnnnglklgofabaaGreatS3
namespace Go.Proofs.YtnnnglklgofabaaGreat
open Go.RowKit

end Go.Proofs.YtnnnglklgofabaaGreat
