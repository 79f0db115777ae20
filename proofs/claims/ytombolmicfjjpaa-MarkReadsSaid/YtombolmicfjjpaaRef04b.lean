/- Contracts of cursitorref04: reading. -/
import Derived.Test.YtombolmicfjjpaaRef04
namespace Go.Proofs.Ytombolmicfjjpaa
open Go.RowKit

set_option maxHeartbeats 1000000 in
set_option maxRecDepth 100000 in
theorem ref04_readFixed (s : Bs) (k : Nat) (hs : s.length ≤ 140737488355328) (hk : k ≤ 8) {W0 w : World} {K : Know} {L : List Res} (h : St W0 w K L) :
    Calls Try.prog 81 #[.string (bb s), .int .i64 k] w fun en w' => en = .returned (gotV (refixed k s)) ∧ St W0 w' K L := by
  have HS := Lib.hid hs
  by_cases h1 : s.length < k
  · have H := Lib.hid h
    clear h
    have e : refixed k s = .error 1 := if_pos h1
    rw [e]
    clear e
    go_enter Try.func81, Try.ntmps81
    go_wp2
    refine bodyPost_ret (v := gotV (.error 1)) (by simp [results, Try.results81, go_sem, gotV, gotB, gotN, vE]; try rfl) rfl ⟨rfl, H.out.alloc _⟩
  · have H := Lib.hid (h.allocRaw #[.bool false, .string ⟨#[]⟩, .int .i64 0, .int .i64 0] 128)
    have e : refixed k s = gotS s k (sInt (s.take k)) := if_neg h1
    have hk2 : (k : Int) ≤ s.length := by omega
    have HT := Lib.hid (show (s.take k).length ≤ 8 by rw [List.length_take]; omega)
    have HR := Lib.hid (sInt_range (s.take k) HT.out)
    have HK := Lib.hid (show k ≤ s.length by omega)
    rw [e]
    clear e h
    go_enter Try.func81, Try.ntmps81
    go_wp2_with (first
      | (go_at_call 76; refine (sr_int (s.take k) HT.out (by first | (first | with_reducible exact H.out | with_reducible exact H.out.p1 | with_reducible exact H.out.p2 | with_reducible exact H.out.p3 | with_reducible exact H.out.p4 | with_reducible exact H.out.p5) | ((repeat first | with_reducible refine St.drewN ?_ _ | with_reducible refine St.drew ?_ | with_reducible refine St.alloc ?_ _); first | with_reducible exact H.out | with_reducible exact H.out.p1 | with_reducible exact H.out.p2 | with_reducible exact H.out.p3 | with_reducible exact H.out.p4 | with_reducible exact H.out.p5))).mono ?_; rintro e wn ⟨rfl, h⟩; replace H := Lib.hid h; clear h; have f0 := H.out.freeOf (b := w.heap.size) (c := #[.bool false, .string ⟨#[]⟩, .int .i64 0, .int .i64 0]) (T := 128) (by simp) 0; have c0 := H.out.cellOf (b := w.heap.size) (c := #[.bool false, .string ⟨#[]⟩, .int .i64 0, .int .i64 0]) (T := 128) (by simp) 0; have f1 := H.out.freeOf (b := w.heap.size) (c := #[.bool false, .string ⟨#[]⟩, .int .i64 0, .int .i64 0]) (T := 128) (by simp) 1; have c1 := H.out.cellOf (b := w.heap.size) (c := #[.bool false, .string ⟨#[]⟩, .int .i64 0, .int .i64 0]) (T := 128) (by simp) 1; have f2 := H.out.freeOf (b := w.heap.size) (c := #[.bool false, .string ⟨#[]⟩, .int .i64 0, .int .i64 0]) (T := 128) (by simp) 2; have c2 := H.out.cellOf (b := w.heap.size) (c := #[.bool false, .string ⟨#[]⟩, .int .i64 0, .int .i64 0]) (T := 128) (by simp) 2; have f3 := H.out.freeOf (b := w.heap.size) (c := #[.bool false, .string ⟨#[]⟩, .int .i64 0, .int .i64 0]) (T := 128) (by simp) 3; have c3 := H.out.cellOf (b := w.heap.size) (c := #[.bool false, .string ⟨#[]⟩, .int .i64 0, .int .i64 0]) (T := 128) (by simp) 3; simp at c0 c1 c2 c3)
      | (go_at_call 112; refine (ref04_got s k _ HS.out HK.out HR.out (by first | (first | with_reducible exact H.out | with_reducible exact H.out.p1 | with_reducible exact H.out.p2 | with_reducible exact H.out.p3 | with_reducible exact H.out.p4 | with_reducible exact H.out.p5) | ((repeat first | with_reducible refine St.drewN ?_ _ | with_reducible refine St.drew ?_ | with_reducible refine St.alloc ?_ _); first | with_reducible exact H.out | with_reducible exact H.out.p1 | with_reducible exact H.out.p2 | with_reducible exact H.out.p3 | with_reducible exact H.out.p4 | with_reducible exact H.out.p5))).mono ?_; rintro e wn ⟨rfl, h⟩; replace H := Lib.hid h; clear h; have f0 := H.out.freeOf (b := w.heap.size) (c := #[.bool false, .string ⟨#[]⟩, .int .i64 0, .int .i64 0]) (T := 128) (by simp) 0; have c0 := H.out.cellOf (b := w.heap.size) (c := #[.bool false, .string ⟨#[]⟩, .int .i64 0, .int .i64 0]) (T := 128) (by simp) 0; have f1 := H.out.freeOf (b := w.heap.size) (c := #[.bool false, .string ⟨#[]⟩, .int .i64 0, .int .i64 0]) (T := 128) (by simp) 1; have c1 := H.out.cellOf (b := w.heap.size) (c := #[.bool false, .string ⟨#[]⟩, .int .i64 0, .int .i64 0]) (T := 128) (by simp) 1; have f2 := H.out.freeOf (b := w.heap.size) (c := #[.bool false, .string ⟨#[]⟩, .int .i64 0, .int .i64 0]) (T := 128) (by simp) 2; have c2 := H.out.cellOf (b := w.heap.size) (c := #[.bool false, .string ⟨#[]⟩, .int .i64 0, .int .i64 0]) (T := 128) (by simp) 2; have f3 := H.out.freeOf (b := w.heap.size) (c := #[.bool false, .string ⟨#[]⟩, .int .i64 0, .int .i64 0]) (T := 128) (by simp) 3; have c3 := H.out.cellOf (b := w.heap.size) (c := #[.bool false, .string ⟨#[]⟩, .int .i64 0, .int .i64 0]) (T := 128) (by simp) 3; simp at c0 c1 c2 c3; unfold gotV))
    refine bodyPost_ret (v := gotV (gotS s k (sInt (s.take k)))) (by simp [results, Try.results81, go_sem, gotV, c0, c1, c2, c3]; try rfl) rfl ⟨rfl, ?_⟩
    exact ((((H.out.rawSet 0 _).rawSet 1 _).rawSet 2 _).rawSet 3 _).drop

end Go.Proofs.Ytombolmicfjjpaa
