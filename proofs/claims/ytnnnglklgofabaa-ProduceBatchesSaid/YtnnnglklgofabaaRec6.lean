/- A text. -/
import Derived.Test.YtnnnglklgofabaaRec5
import Derived.Test.YtnnnglklgofabaaL06W
namespace Go.Proofs.Ytnnnglklgofabaa
open Go.RowKit

theorem rec_readQ (p : Nat) (i : InS) (x : RecS) (k : InS) (hx : i.record = (x, k)) {W0 w : World} {K : Know} {L : List Res} (h : St W0 w K (.inp p i :: L)) :
  Calls Try.prog 100 #[inPtr p] w fun en w' => ∃ v, en = .returned (.agg #[.int .i64 x.time, .int .i64 x.off, .bool x.key.null, .string (bb x.key.data), .bool x.val.null, .string (bb x.val.data), v]) ∧ St W0 w' (K.and (Know.flat RHdr v 3 x.hdrs)) (.inp p k :: L) := by
 have h1 := rec_read p i h
 rw [hx] at h1
 exact h1

end Go.Proofs.Ytnnnglklgofabaa
