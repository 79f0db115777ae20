/- Layer 3: that it speaks. -/
import Derived.Test.YtbcfnfcmghbelaaVBack
namespace Go.Proofs.Ytbcfnfcmghbelaa
open Go.RowKit

theorem St.allocOut2 {W0 w : World} {K : Know} {L : List Res} (h : St W0 w K L) : St W0 ((w.alloc (.cells #[.slice none 0 0, .int .i64 0] 45)).alloc (.cells #[.slice none 0 0, .int .i64 0] 45)) K (.out (w.heap.size + 1) ⟨[], 0⟩ :: .out w.heap.size ⟨[], 0⟩ :: L) := by
  have := h.allocOut.allocOut
  rw [World.size_alloc] at this
  exact this
theorem St.allocOut3 {W0 w : World} {K : Know} {L : List Res} (h : St W0 w K L) : St W0 (((w.alloc (.cells #[.slice none 0 0, .int .i64 0] 45)).alloc (.cells #[.slice none 0 0, .int .i64 0] 45)).alloc (.cells #[.slice none 0 0, .int .i64 0] 45)) K (.out (w.heap.size + 2) ⟨[], 0⟩ :: .out (w.heap.size + 1) ⟨[], 0⟩ :: .out w.heap.size ⟨[], 0⟩ :: L) := by
  have := h.allocOut2.allocOut
  rw [World.size_alloc, World.size_alloc] at this
  exact this
theorem St.allocOut4 {W0 w : World} {K : Know} {L : List Res} (h : St W0 w K L) : St W0 ((((w.alloc (.cells #[.slice none 0 0, .int .i64 0] 45)).alloc (.cells #[.slice none 0 0, .int .i64 0] 45)).alloc (.cells #[.slice none 0 0, .int .i64 0] 45)).alloc (.cells #[.slice none 0 0, .int .i64 0] 45)) K (.out (w.heap.size + 3) ⟨[], 0⟩ :: .out (w.heap.size + 2) ⟨[], 0⟩ :: .out (w.heap.size + 1) ⟨[], 0⟩ :: .out w.heap.size ⟨[], 0⟩ :: L) := by
  have := h.allocOut3.allocOut
  rw [World.size_alloc, World.size_alloc, World.size_alloc] at this
  exact this

theorem text_ok (s : Bs) : (⟨s, 0⟩ : OutS).text = (s, 0) := rfl
theorem putU_65 : putU (foldN (-65)) = [129, 1] := by
  have e : foldN (-65) = 129 := by decide
  rw [e, putU_big (by decide), putU_small (by decide)]
  decide

set_option maxHeartbeats 1000000 in
set_option maxRecDepth 100000 in
theorem speaks03 {W0 w : World} {K : Know} {L : List Res} (h : St W0 w K L) :
    Calls Try.prog 37 #[] w fun en w' => en = .returned (.bool true) ∧ St W0 w' K L := by
  have H := Lib.hid h.allocOut
  have E1 := Lib.hid (show (⟨[], 0⟩ : OutS).putInt (-65) = ⟨[129, 1], 0⟩ from (if_pos (by decide)).trans (by rw [putU_65]; rfl))
  have E2 := Lib.hid (show (⟨[129, 1], 0⟩ : OutS).text = ([129, 1], 0) from rfl)
  have E3 := Lib.hid (show (⟨[129, 1], 0, 0⟩ : InS).vint = (-65, ⟨[129, 1], 2, 0⟩) from by decide +kernel)
  have E4 := Lib.hid (show (⟨[129, 0], 0, 0⟩ : InS).vint = (0, ⟨[129, 0], 2, 3⟩) from by decide +kernel)
  have E5 := Lib.hid (show (putU (foldN (-65))).length = 2 from by rw [putU_65]; rfl)
  clear h
  go_enter Try.func37, Try.ntmps37
  go_wp2_with (first
    | (go_at_call 39; refine (sv_putInt _ _ _ (by decide) (by first | (first | with_reducible exact H.out | with_reducible exact H.out.p1 | with_reducible exact H.out.p2 | with_reducible exact H.out.p3 | with_reducible exact H.out.p4 | with_reducible exact H.out.p5) | ((repeat first | with_reducible refine St.drewN ?_ _ | with_reducible refine St.drew ?_ | with_reducible refine St.alloc ?_ _); first | with_reducible exact H.out | with_reducible exact H.out.p1 | with_reducible exact H.out.p2 | with_reducible exact H.out.p3 | with_reducible exact H.out.p4 | with_reducible exact H.out.p5)) (by simp [OutS.ok])).mono ?_; (repeat first | rw [E1.out]); rintro e wn ⟨rfl, h⟩; replace H := Lib.hid h; clear h)
    | (go_at_call 35; refine (so_text _ _ (by first | (first | with_reducible exact H.out | with_reducible exact H.out.p1 | with_reducible exact H.out.p2 | with_reducible exact H.out.p3 | with_reducible exact H.out.p4 | with_reducible exact H.out.p5) | ((repeat first | with_reducible refine St.drewN ?_ _ | with_reducible refine St.drew ?_ | with_reducible refine St.alloc ?_ _); first | with_reducible exact H.out | with_reducible exact H.out.p1 | with_reducible exact H.out.p2 | with_reducible exact H.out.p3 | with_reducible exact H.out.p4 | with_reducible exact H.out.p5))).mono ?_; (repeat first | rw [E2.out]); rintro e wn ⟨rfl, h⟩; replace H := Lib.hid h; clear h)
    | (go_at_call 15; refine (s_new [129, 1] (by decide) (by first | (first | with_reducible exact H.out | with_reducible exact H.out.p1 | with_reducible exact H.out.p2 | with_reducible exact H.out.p3 | with_reducible exact H.out.p4 | with_reducible exact H.out.p5) | ((repeat first | with_reducible refine St.drewN ?_ _ | with_reducible refine St.drew ?_ | with_reducible refine St.alloc ?_ _); first | with_reducible exact H.out | with_reducible exact H.out.p1 | with_reducible exact H.out.p2 | with_reducible exact H.out.p3 | with_reducible exact H.out.p4 | with_reducible exact H.out.p5))).mono ?_; rintro e wn ⟨b1, rfl, h⟩; replace H := Lib.hid h; clear h)
    | (go_at_call 15; refine (s_new [129, 0] (by decide) (by first | (first | with_reducible exact H.out | with_reducible exact H.out.p1 | with_reducible exact H.out.p2 | with_reducible exact H.out.p3 | with_reducible exact H.out.p4 | with_reducible exact H.out.p5) | ((repeat first | with_reducible refine St.drewN ?_ _ | with_reducible refine St.drew ?_ | with_reducible refine St.alloc ?_ _); first | with_reducible exact H.out | with_reducible exact H.out.p1 | with_reducible exact H.out.p2 | with_reducible exact H.out.p3 | with_reducible exact H.out.p4 | with_reducible exact H.out.p5))).mono ?_; rintro e wn ⟨b2, rfl, h⟩; replace H := Lib.hid h; clear h)
    | (go_at_call 44; refine (sv_int _ _ (by first | (first | with_reducible exact H.out | with_reducible exact H.out.p1 | with_reducible exact H.out.p2 | with_reducible exact H.out.p3 | with_reducible exact H.out.p4 | with_reducible exact H.out.p5) | ((repeat first | with_reducible refine St.drewN ?_ _ | with_reducible refine St.drew ?_ | with_reducible refine St.alloc ?_ _); first | with_reducible exact H.out | with_reducible exact H.out.p1 | with_reducible exact H.out.p2 | with_reducible exact H.out.p3 | with_reducible exact H.out.p4 | with_reducible exact H.out.p5))).mono ?_; (repeat first | rw [E3.out] | rw [E4.out]); rintro e wn ⟨rfl, h⟩; replace H := Lib.hid h; clear h)
    | (go_at_call 23; refine (s_err _ _ (by first | (first | with_reducible exact H.out | with_reducible exact H.out.p1 | with_reducible exact H.out.p2 | with_reducible exact H.out.p3 | with_reducible exact H.out.p4 | with_reducible exact H.out.p5) | ((repeat first | with_reducible refine St.drewN ?_ _ | with_reducible refine St.drew ?_ | with_reducible refine St.alloc ?_ _); first | with_reducible exact H.out | with_reducible exact H.out.p1 | with_reducible exact H.out.p2 | with_reducible exact H.out.p3 | with_reducible exact H.out.p4 | with_reducible exact H.out.p5))).mono ?_; rintro e wn ⟨rfl, h⟩; replace H := Lib.hid h; clear h)
    | (go_at_call 46; refine (sv_size _ (by decide) (by first | (first | with_reducible exact H.out | with_reducible exact H.out.p1 | with_reducible exact H.out.p2 | with_reducible exact H.out.p3 | with_reducible exact H.out.p4 | with_reducible exact H.out.p5) | ((repeat first | with_reducible refine St.drewN ?_ _ | with_reducible refine St.drew ?_ | with_reducible refine St.alloc ?_ _); first | with_reducible exact H.out | with_reducible exact H.out.p1 | with_reducible exact H.out.p2 | with_reducible exact H.out.p3 | with_reducible exact H.out.p4 | with_reducible exact H.out.p5))).mono ?_; (repeat first | rw [E5.out]); rintro e wn ⟨rfl, h⟩; replace H := Lib.hid h; clear h))
  go_ret
  exact ⟨rfl, H.out.drop.drop.drop⟩

end Go.Proofs.Ytbcfnfcmghbelaa
