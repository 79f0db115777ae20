/- Contracts of cursitorref04: reading. -/
import Derived.Test.YtenojajfacacoaaDoorRef04
namespace Go.Proofs.YtenojajfacacoaaDoor
open Go.RowKit

theorem gotV_err (e : Int) : gotV (.error e) = .agg #[.bool false, .string (bb []), .int .i64 0, .int .i64 e] := rfl

end Go.Proofs.YtenojajfacacoaaDoor
