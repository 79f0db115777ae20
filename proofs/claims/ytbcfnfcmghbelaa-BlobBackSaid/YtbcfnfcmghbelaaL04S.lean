/- Layer 4: that it speaks. -/
import Derived.Test.YtbcfnfcmghbelaaBlobP
import Derived.Test.YtbcfnfcmghbelaaL03S
namespace Go.Proofs.Ytbcfnfcmghbelaa
open Go.RowKit

theorem Holds.only {w : World} {r : Res} : ∀ {L : List Res} {S : Nat → Prop}, Holds L w S → r ∈ L → ∃ S', Holds [r] w S' ∧ ∀ k, S' k → S k
  | [], _, _, hm => by cases hm
  | a :: L, S, ⟨S1, S2, h1, h2, h3, h4⟩, hm => by
    cases hm with
    | head => exact ⟨S1, ⟨S1, fun _ => False, h1, fun _ h => h, fun _ _ h => h, fun k => by simp⟩, fun k hk => (h4 k).2 (.inl hk)⟩
    | tail _ hm =>
      obtain ⟨S', g1, g2⟩ := Holds.only h2 hm
      exact ⟨S', g1, fun k hk => (h4 k).2 (.inr (g2 k hk))⟩
theorem St.only {W0 w : World} {K : Know} {L : List Res} {r : Res} (h : St W0 w K L) (hm : r ∈ L) : St W0 w K [r] := by
  obtain ⟨a, S, F, b, c, d, e⟩ := h
  obtain ⟨S', g1, g2⟩ := b.only hm
  exact ⟨a, S', F, g1, fun k hk => c k (g2 k hk), d, fun k hk => ⟨(e k hk).1, fun h => (e k hk).2 (g2 k h)⟩⟩

theorem putU_1 : putU (foldN 1) = [2] := by
  have e : foldN 1 = 2 := by decide
  rw [e, putU_small (by decide)]
  decide

set_option maxHeartbeats 1000000 in
set_option maxRecDepth 100000 in
theorem speaks04 {W0 w : World} {K : Know} {L : List Res} (h : St W0 w K L) :
    Calls Try.prog 47 #[] w fun en w' => en = .returned (.bool true) ∧ St W0 w' K L := by
  have H := Lib.hid h.allocOut
  have E1 := Lib.hid (show (⟨[], 0⟩ : OutS).putFixed BlobS.none 2 = ⟨[255, 255], 0⟩ from by decide +kernel)
  have E2 := Lib.hid (show (⟨[255, 255], 0⟩ : OutS).putVaried ⟨false, [97]⟩ = ⟨[255, 255, 2, 97], 0⟩ from by (have h : (⟨[255, 255], 0⟩ : OutS).putVaried ⟨false, [97]⟩ = ((⟨[255, 255], 0⟩ : OutS).put (putU (foldN 1))).put [97] := rfl); rw [h, putU_1]; rfl)
  have E3 := Lib.hid (show (⟨[255, 255, 2, 97], 0⟩ : OutS).text = ([255, 255, 2, 97], 0) from rfl)
  have E4 := Lib.hid (show (⟨[255, 255, 2, 97], 0, 0⟩ : InS).fixed 2 = (⟨true, []⟩, ⟨[255, 255, 2, 97], 2, 0⟩) from by decide +kernel)
  have E5 := Lib.hid (show (⟨[255, 255, 2, 97], 2, 0⟩ : InS).varied = (⟨false, [97]⟩, ⟨[255, 255, 2, 97], 4, 0⟩) from by decide +kernel)
  clear h
  go_enter Try.func47, Try.ntmps47
  go_wp2_with (first
    | (go_at_call 57; refine (blob_none  (by first | (first | with_reducible exact H.out | with_reducible exact H.out.p1 | with_reducible exact H.out.p2 | with_reducible exact H.out.p3 | with_reducible exact H.out.p4 | with_reducible exact H.out.p5) | ((repeat first | with_reducible refine St.drewN ?_ _ | with_reducible refine St.drew ?_ | with_reducible refine St.alloc ?_ _); first | with_reducible exact H.out | with_reducible exact H.out.p1 | with_reducible exact H.out.p2 | with_reducible exact H.out.p3 | with_reducible exact H.out.p4 | with_reducible exact H.out.p5))).mono ?_; rintro e wn ⟨rfl, h⟩; replace H := Lib.hid h; clear h)
    | (go_at_call 48; refine (blob_putFixed _ _ BlobS.none 2 (by first | (first | with_reducible exact H.out | with_reducible exact H.out.p1 | with_reducible exact H.out.p2 | with_reducible exact H.out.p3 | with_reducible exact H.out.p4 | with_reducible exact H.out.p5) | ((repeat first | with_reducible refine St.drewN ?_ _ | with_reducible refine St.drew ?_ | with_reducible refine St.alloc ?_ _); first | with_reducible exact H.out | with_reducible exact H.out.p1 | with_reducible exact H.out.p2 | with_reducible exact H.out.p3 | with_reducible exact H.out.p4 | with_reducible exact H.out.p5)) (by simp [OutS.ok, BlobS.none])).mono ?_; (repeat first | rw [E1.out]); rintro e wn ⟨rfl, h⟩; replace H := Lib.hid h; clear h)
    | (go_at_call 56; refine (blob_of [97] (by first | (first | with_reducible exact H.out | with_reducible exact H.out.p1 | with_reducible exact H.out.p2 | with_reducible exact H.out.p3 | with_reducible exact H.out.p4 | with_reducible exact H.out.p5) | ((repeat first | with_reducible refine St.drewN ?_ _ | with_reducible refine St.drew ?_ | with_reducible refine St.alloc ?_ _); first | with_reducible exact H.out | with_reducible exact H.out.p1 | with_reducible exact H.out.p2 | with_reducible exact H.out.p3 | with_reducible exact H.out.p4 | with_reducible exact H.out.p5))).mono ?_; rintro e wn ⟨rfl, h⟩; replace H := Lib.hid h; clear h)
    | (go_at_call 49; refine (blob_putVaried _ _ ⟨false, [97]⟩ (by first | (first | with_reducible exact H.out | with_reducible exact H.out.p1 | with_reducible exact H.out.p2 | with_reducible exact H.out.p3 | with_reducible exact H.out.p4 | with_reducible exact H.out.p5) | ((repeat first | with_reducible refine St.drewN ?_ _ | with_reducible refine St.drew ?_ | with_reducible refine St.alloc ?_ _); first | with_reducible exact H.out | with_reducible exact H.out.p1 | with_reducible exact H.out.p2 | with_reducible exact H.out.p3 | with_reducible exact H.out.p4 | with_reducible exact H.out.p5)) (by simp [OutS.ok])).mono ?_; (repeat first | rw [E2.out]); rintro e wn ⟨rfl, h⟩; replace H := Lib.hid h; clear h)
    | (go_at_call 35; refine (so_text _ _ (by first | (first | with_reducible exact H.out | with_reducible exact H.out.p1 | with_reducible exact H.out.p2 | with_reducible exact H.out.p3 | with_reducible exact H.out.p4 | with_reducible exact H.out.p5) | ((repeat first | with_reducible refine St.drewN ?_ _ | with_reducible refine St.drew ?_ | with_reducible refine St.alloc ?_ _); first | with_reducible exact H.out | with_reducible exact H.out.p1 | with_reducible exact H.out.p2 | with_reducible exact H.out.p3 | with_reducible exact H.out.p4 | with_reducible exact H.out.p5))).mono ?_; (repeat first | rw [E3.out]); rintro e wn ⟨rfl, h⟩; replace H := Lib.hid h; clear h)
    | (go_at_call 15; refine (s_new [255, 255, 2, 97] (by decide) (by first | (first | with_reducible exact H.out | with_reducible exact H.out.p1 | with_reducible exact H.out.p2 | with_reducible exact H.out.p3 | with_reducible exact H.out.p4 | with_reducible exact H.out.p5) | ((repeat first | with_reducible refine St.drewN ?_ _ | with_reducible refine St.drew ?_ | with_reducible refine St.alloc ?_ _); first | with_reducible exact H.out | with_reducible exact H.out.p1 | with_reducible exact H.out.p2 | with_reducible exact H.out.p3 | with_reducible exact H.out.p4 | with_reducible exact H.out.p5))).mono ?_; rintro e wn ⟨b1, rfl, h⟩; replace H := Lib.hid h; clear h)
    | (go_at_call 60; refine (blob_fixed _ _ 2 (by first | (first | with_reducible exact H.out | with_reducible exact H.out.p1 | with_reducible exact H.out.p2 | with_reducible exact H.out.p3 | with_reducible exact H.out.p4 | with_reducible exact H.out.p5) | ((repeat first | with_reducible refine St.drewN ?_ _ | with_reducible refine St.drew ?_ | with_reducible refine St.alloc ?_ _); first | with_reducible exact H.out | with_reducible exact H.out.p1 | with_reducible exact H.out.p2 | with_reducible exact H.out.p3 | with_reducible exact H.out.p4 | with_reducible exact H.out.p5))).mono ?_; (repeat first | rw [E4.out]); rintro e wn ⟨rfl, h⟩; replace H := Lib.hid h; clear h; unfold bv)
    | (go_at_call 61; refine (blob_varied _ _ (by first | (first | with_reducible exact H.out | with_reducible exact H.out.p1 | with_reducible exact H.out.p2 | with_reducible exact H.out.p3 | with_reducible exact H.out.p4 | with_reducible exact H.out.p5) | ((repeat first | with_reducible refine St.drewN ?_ _ | with_reducible refine St.drew ?_ | with_reducible refine St.alloc ?_ _); first | with_reducible exact H.out | with_reducible exact H.out.p1 | with_reducible exact H.out.p2 | with_reducible exact H.out.p3 | with_reducible exact H.out.p4 | with_reducible exact H.out.p5))).mono ?_; (repeat first | rw [E5.out]); rintro e wn ⟨rfl, h⟩; replace H := Lib.hid h; clear h; unfold bv)
    | (go_at_call 55; refine (blob_right ⟨true, [97]⟩ (by first | (first | with_reducible exact H.out | with_reducible exact H.out.p1 | with_reducible exact H.out.p2 | with_reducible exact H.out.p3 | with_reducible exact H.out.p4 | with_reducible exact H.out.p5) | ((repeat first | with_reducible refine St.drewN ?_ _ | with_reducible refine St.drew ?_ | with_reducible refine St.alloc ?_ _); first | with_reducible exact H.out | with_reducible exact H.out.p1 | with_reducible exact H.out.p2 | with_reducible exact H.out.p3 | with_reducible exact H.out.p4 | with_reducible exact H.out.p5))).mono ?_; rintro e wn ⟨rfl, h⟩; replace H := Lib.hid h; clear h))
  go_ret
  exact ⟨rfl, H.out.drop.drop⟩

end Go.Proofs.Ytbcfnfcmghbelaa
