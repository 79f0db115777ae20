/- Layer 6, walked: HeaderFinds. -/
import Derived.Test.YtmpehoebgifmnaaDoorHdr3
namespace Go.Proofs.YtmpehoebgifmnaaDoor
open Go.RowKit

theorem find_take (l : List HdrS) (key : Bs) (k : Nat) (h : k < l.length) : findS (l.take (k + 1)) key = findStep key (findS (l.take k) key) l[k] := by
  unfold findS
  rw [List.take_succ_eq_append_getElem h, List.foldl_append]
  rfl
theorem rhdr_start {W : World} {v : Value} {l : List HdrS} (hr : RowsOf (fun _ cs x => RHdr cs x) (· < W.heap.size) W v 3 l) : St W W (Know.flat RHdr v 3 l) [] := St.start hr
end Go.Proofs.YtmpehoebgifmnaaDoor
