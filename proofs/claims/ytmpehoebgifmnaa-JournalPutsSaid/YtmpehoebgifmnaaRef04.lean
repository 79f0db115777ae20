/- A text. -/
import Derived.Test.YtmpehoebgifmnaaBlob2
import Derived.Deep.RegionHeld3
namespace Go.Proofs.Ytmpehoebgifmnaa
open Go.RowKit

set_option maxHeartbeats 1000000 in
set_option maxRecDepth 100000 in
theorem ref04_len (b : BlobS) {W0 w : World} {K : Know} {L : List Res} (h : St W0 w K L) :
   Calls Try.prog 74 #[bv b] w fun en w' => en = .returned (.int .i64 b.len) ∧ St W0 w' K L := by
 have H := Lib.hid h; clear h; obtain ⟨n, d⟩ := b
 cases n
 · go_enter Try.func74, Try.ntmps74; unfold bv; go_wp2; go_ret; exact ⟨rfl, H.out.alloc _⟩
 · go_enter Try.func74, Try.ntmps74; unfold bv; go_wp2; go_ret; exact ⟨rfl, H.out.alloc _⟩

set_option maxHeartbeats 1000000 in
set_option maxRecDepth 100000 in
theorem ref04_fixed (b : BlobS) (k : Nat) (hb : b.data.length ≤ 70368744177664) (hk : k ≤ 70368744177664) {W0 w : World} {K : Know} {L : List Res} (h : St W0 w K L) :
  Calls Try.prog 61 #[bv b, .int .i64 k] w fun en w' => en = .returned (.string (bb (beBytes b.len k ++ b.data))) ∧ St W0 w' K L := by
 have H := Lib.hid (h.allocRaw #[.bool b.null, .string (bb b.data)] 28); have HB := Lib.hid (b.len_range (by omega)); have HK := Lib.hid (show k ≤ 140737488355328 by omega); have h1 := (H.out.drew); have hsz : ¬ (9223372036854775807 < k + b.data.length) := by omega
 clear h hb hk; go_enter Try.func61, Try.ntmps61; unfold bv; go_wp2_with fail
 go_region_held3 (fun w' => w'.cell? ⟨w.heap.size, 0, none⟩ = some (.bool b.null) ∧ w'.cell? ⟨w.heap.size, 1, none⟩ = some (.string (bb b.data)) ∧ St W0 w' K (.raw w.heap.size #[.bool b.null, .string (bb b.data)] 28 :: L))
  (first | (refine ⟨?_, ?_, ?_⟩ <;> assumption) | (refine ⟨(St.cellOf (c := #[.bool b.null, .string (bb b.data)]) (T := 28) ‹St W0 _ K (.raw w.heap.size #[.bool b.null, .string (bb b.data)] 28 :: L)› (by simp) 0).trans (by simp), (St.cellOf (c := #[.bool b.null, .string (bb b.data)]) (T := 28) ‹St W0 _ K (.raw w.heap.size #[.bool b.null, .string (bb b.data)] 28 :: L)› (by simp) 1).trans (by simp), by assumption⟩))
  (first
   | (go_at_call 74; refine (ref04_len b (by first | assumption | (go_split_ands; assumption))).mono ?_; rintro e wn ⟨rfl, h⟩)
   | (go_at_call 41; refine (sr_bytes b.len k HK.out HB.out (by first | assumption | (go_split_ands; assumption))).mono ?_; rintro e wn ⟨rfl, h⟩))
 go_wp2; go_ret; exact ⟨rfl, St.drop ‹St W0 _ K (.raw w.heap.size #[.bool b.null, .string (bb b.data)] 28 :: L)›⟩

def gotS (s : Bs) (head : Nat) (n : Int) : Except Int (BlobS × Nat) :=
  if n = -1 then .ok (BlobS.none, head)
  else if n < 0 then .error 4
  else if (s.length : Int) - head < n then .error 1
  else .ok (⟨false, (s.drop head).take n.toNat⟩, head + n.toNat)
def refixed (size : Nat) (s : Bs) : Except Int (BlobS × Nat) := if s.length < size then .error 1 else gotS s size (sInt (s.take size))
def revaried (s : Bs) : Except Int (BlobS × Nat) := match vgetI s with | .ok x => gotS s x.2 x.1 | .error e => .error e
end Go.Proofs.Ytmpehoebgifmnaa
