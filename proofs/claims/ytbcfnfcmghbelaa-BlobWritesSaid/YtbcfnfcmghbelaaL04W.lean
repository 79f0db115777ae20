/- Layer 4, walked: BlobWrites, whole. -/
import Derived.Test.YtbcfnfcmghbelaaL04C
namespace Go.Proofs.Ytbcfnfcmghbelaa
open Go.RowKit

set_option maxHeartbeats 1000000 in
set_option maxRecDepth 100000 in
theorem blobWrites_long (n : Bool) (d : Bs) (size : Int) (hl : 1000 < d.length) (hl2 : d.length ≤ 9223372036854775807) {W0 w : World} (h : St W0 w Know.none []) :
    Calls Try.prog 9 #[bv ⟨n, d⟩, .int .i64 size] w fun en w' => en = .returned (.bool true) ∧ Below W0.heap.size W0 w' := by
  have H := Lib.hid (h.allocRaw #[.bool n, .string (bb d)] 63)
  have hlen : decide ((1000 : Int) < (d.length : Int)) = true := decide_eq_true (by omega)
  clear h hl hl2
  go_enter Try.func9, Try.ntmps9
  unfold bv
  go_wp2_with (first
      | (go_at_call 47; refine (speaks04  (by first | (first | with_reducible exact H.out | with_reducible exact H.out.p1 | with_reducible exact H.out.p2 | with_reducible exact H.out.p3 | with_reducible exact H.out.p4 | with_reducible exact H.out.p5) | ((repeat first | with_reducible refine St.drewN ?_ _ | with_reducible refine St.drew ?_ | with_reducible refine St.alloc ?_ _); first | with_reducible exact H.out | with_reducible exact H.out.p1 | with_reducible exact H.out.p2 | with_reducible exact H.out.p3 | with_reducible exact H.out.p4 | with_reducible exact H.out.p5))).mono ?_; rintro e wn ⟨rfl, h⟩; replace H := Lib.hid h; clear h; have c0 := H.out.cellOf (b := w.heap.size) (c := #[.bool n, .string (bb d)]) (T := 63) (by simp) 0; have c1 := H.out.cellOf (b := w.heap.size) (c := #[.bool n, .string (bb d)]) (T := 63) (by simp) 1; simp at c0 c1))
  go_ret
  exact ⟨rfl, H.out.below⟩

theorem blobWrites_any (b : BlobS) (size : Int) (w : World) (hl : b.data.length ≤ 9223372036854775807) (hs : -9223372036854775808 ≤ size ∧ size < 9223372036854775808) :
    Calls Try.prog 9 #[bv b, .int .i64 size] w fun en w' => en = .returned (.bool true) ∧ Below w.heap.size w w' := by
  have h : St w w Know.none [] := St.start trivial
  obtain ⟨n, d⟩ := b
  by_cases h1 : 1000 < d.length
  · exact blobWrites_long n d size h1 hl h
  have h2 : d.length ≤ 1000 := by omega
  by_cases hf : fits (⟨n, d⟩ : BlobS).len size
  · obtain ⟨k, rfl⟩ : ∃ k : Nat, size = k := ⟨size.toNat, by have := hf.1; omega⟩
    cases n <;> cases d
    · exact blobWrites_D1 k h2 hf h
    · exact blobWrites_A1 _ _ k h2 hf h
    · exact blobWrites_B1 k h2 hf h
    · exact blobWrites_C1 _ _ k h2 hf h
  · cases n <;> cases d
    · exact blobWrites_D0 size h2 hf hs h
    · exact blobWrites_A0 _ _ size h2 hf hs h
    · exact blobWrites_B0 size h2 hf hs h
    · exact blobWrites_C0 _ _ size h2 hf hs h

end Go.Proofs.Ytbcfnfcmghbelaa
