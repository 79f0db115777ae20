/- Contracts: decoding a record; whether it may be, by the document. -/
import Derived.Test.YtombolmicfjjpaaRec5
import Derived.Test.YtombolmicfjjpaaL06W
namespace Go.Proofs.Ytombolmicfjjpaa
open Go.RowKit

end Go.Proofs.Ytombolmicfjjpaa
