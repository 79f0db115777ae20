/- Contracts of cursitorref08. -/
import Derived.Test.YtombolmicfjjpaaCtlP
import Derived.Test.YtombolmicfjjpaaBlob1
import Derived.Test.YtombolmicfjjpaaBlob2
namespace Go.Proofs.Ytombolmicfjjpaa
open Go.RowKit

theorem sr_bytes2 (n : Int) (hn : -9223372036854775808 ≤ n ∧ n < 9223372036854775808) {W0 w : World} {K : Know} {L : List Res} (h : St W0 w K L) :
    Calls Try.prog 75 #[.int .i64 n, .int .i64 2] w fun en w' => en = .returned (.string (bb (beBytes n 2))) ∧ St W0 w' K L := sr_bytes n 2 (by decide) hn h
theorem sr_bytes4 (n : Int) (hn : -9223372036854775808 ≤ n ∧ n < 9223372036854775808) {W0 w : World} {K : Know} {L : List Res} (h : St W0 w K L) :
    Calls Try.prog 75 #[.int .i64 n, .int .i64 4] w fun en w' => en = .returned (.string (bb (beBytes n 4))) ∧ St W0 w' K L := sr_bytes n 4 (by decide) hn h
end Go.Proofs.Ytombolmicfjjpaa
