/- A text. -/
import Derived.Test.YtnnnglklgofabaaGreatRef03
namespace Go.Proofs.YtnnnglklgofabaaGreat
open Go.RowKit

set_option maxHeartbeats 1000000 in
set_option maxRecDepth 100000 in
theorem ref_fold (n : Int) (hn : -9223372036854775808 ≤ n ∧ n < 9223372036854775808) {W0 w : World} {K : Know} {L : List Res} (h : St W0 w K L) :
   Calls Tryz.prog 144 #[.int .i64 n] w fun en w' => en = .returned (.int .u64 (foldN n)) ∧ St W0 w' K L := by
 have H := Lib.hid h; have HN := Lib.hid hn; clear h hn
 by_cases h0 : n < 0
 · go_enter Tryz.func144, Tryz.ntmps144; go_wp2; go_ret; refine ⟨ret_int ?_, H.out⟩; have := HN.out; simp only [IntKind.wrap_u64, wrap64, foldN, if_pos h0]
   omega
 · go_enter Tryz.func144, Tryz.ntmps144; go_wp2; go_ret; refine ⟨ret_int ?_, H.out⟩; have := HN.out; simp only [IntKind.wrap_u64, foldN]; rw [if_neg (by omega)]
   omega

end Go.Proofs.YtnnnglklgofabaaGreat
