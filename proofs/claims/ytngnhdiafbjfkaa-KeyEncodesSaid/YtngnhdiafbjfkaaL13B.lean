/- Layer 13, walked: KeyEncodes. -/
import Derived.Test.YtngnhdiafbjfkaaL13
namespace Go.Proofs.Ytngnhdiafbjfkaa
open Go.RowKit

theorem key_right' (s : Bs) (r : Bool) (hs : s.length ≤ 140737488355328) (hr : keyRight s = r) {W0 w : World} {K : Know} {L : List Res} (h : St W0 w K L) :
    Calls Try.prog 30 #[.string (bb s)] w fun en w' => en = .returned (.bool r) ∧ St W0 w' K L := hr ▸ key_right s hs h
theorem keyRight_iff (s : Bs) : keyRight s = true ↔ 1 ≤ s.length ∧ s.length ≤ 32767 := by
  unfold keyRight
  cases s <;> simp
set_option maxHeartbeats 1000000 in
set_option maxRecDepth 100000 in
theorem keyEncodes_long (s : Bs) (hs : 40000 < s.length) (hs2 : s.length ≤ 9223372036854775807) {W0 w : World} {K : Know} {L : List Res} (h : St W0 w K L) :
    Calls Try.prog 7 #[.string (bb s)] w fun en w' => en = .returned (.bool true) ∧ Below W0.heap.size W0 w' := by
  have H := Lib.hid h
  have hlen : decide ((40000 : Int) < (s.length : Int)) = true := decide_eq_true (by omega)
  clear h hs hs2
  go_enter Try.func7, Try.ntmps7
  go_wp2_with (first
      | (go_at_call 28; refine (speaks13  (by first | (first | with_reducible exact H.out | with_reducible exact H.out.p1 | with_reducible exact H.out.p2 | with_reducible exact H.out.p3 | with_reducible exact H.out.p4 | with_reducible exact H.out.p5) | ((repeat first | with_reducible refine St.drewN ?_ _ | with_reducible refine St.drew ?_ | with_reducible refine St.alloc ?_ _); first | with_reducible exact H.out | with_reducible exact H.out.p1 | with_reducible exact H.out.p2 | with_reducible exact H.out.p3 | with_reducible exact H.out.p4 | with_reducible exact H.out.p5))).mono ?_; rintro e wn ⟨rfl, h⟩; replace H := Lib.hid h; clear h))
  go_ret
  exact ⟨rfl, H.out.below⟩

set_option maxHeartbeats 1000000 in
set_option maxRecDepth 100000 in
theorem keyEncodes_bad (s : Bs) (hs : s.length ≤ 40000) (hb : s.length < 1 ∨ 32767 < s.length) {W0 w : World} {K : Know} {L : List Res} (h : St W0 w K L) :
    Calls Try.prog 7 #[.string (bb s)] w fun en w' => en = .returned (.bool true) ∧ Below W0.heap.size W0 w' := by
  have H := Lib.hid h
  have hr : keyRight s = false := by
    cases hk : keyRight s
    · rfl
    · have := (keyRight_iff s).1 hk; omega
  have HX := Lib.hid (And.intro (show keyEnc s = ([], 4) by unfold keyEnc; rw [hr]; rfl) (And.intro hs hr))
  have HL := Lib.hid (show s.length ≤ 140737488355328 by omega)
  have hlen : decide ((40000 : Int) < (s.length : Int)) = false := decide_eq_false (by omega)
  by_cases h1 : s.length < 1
  all_goals
    have hl1 : decide ((s.length : Int) < 1) = decide (s.length < 1) := decide_eq_decide.mpr (by omega)
    first | rw [decide_eq_true h1] at hl1 | rw [decide_eq_false h1] at hl1
    have hl2 : decide (s.length < 1 ∨ 32767 < s.length) = true := decide_eq_true hb
    try have hl3 : decide ((32767 : Int) < (s.length : Int)) = true := decide_eq_true (by omega)
    clear h hs hb hr h1
    go_enter Try.func7, Try.ntmps7
    go_wp2_with (first
      | (go_at_call 28; refine (speaks13  (by first | (first | with_reducible exact H.out | with_reducible exact H.out.p1 | with_reducible exact H.out.p2 | with_reducible exact H.out.p3 | with_reducible exact H.out.p4 | with_reducible exact H.out.p5) | ((repeat first | with_reducible refine St.drewN ?_ _ | with_reducible refine St.drew ?_ | with_reducible refine St.alloc ?_ _); first | with_reducible exact H.out | with_reducible exact H.out.p1 | with_reducible exact H.out.p2 | with_reducible exact H.out.p3 | with_reducible exact H.out.p4 | with_reducible exact H.out.p5))).mono ?_; rintro e wn ⟨rfl, h⟩; replace H := Lib.hid h; clear h)
      | (go_at_call 29; refine (key_encode' s [] 4 HX.out.2.1 HX.out.1 (by first | (first | with_reducible exact H.out | with_reducible exact H.out.p1 | with_reducible exact H.out.p2 | with_reducible exact H.out.p3 | with_reducible exact H.out.p4 | with_reducible exact H.out.p5) | ((repeat first | with_reducible refine St.drewN ?_ _ | with_reducible refine St.drew ?_ | with_reducible refine St.alloc ?_ _); first | with_reducible exact H.out | with_reducible exact H.out.p1 | with_reducible exact H.out.p2 | with_reducible exact H.out.p3 | with_reducible exact H.out.p4 | with_reducible exact H.out.p5))).mono ?_; rintro e wn ⟨rfl, h⟩; replace H := Lib.hid h; clear h)
      | (go_at_call 30; refine (key_right' s false HL.out HX.out.2.2 (by first | (first | with_reducible exact H.out | with_reducible exact H.out.p1 | with_reducible exact H.out.p2 | with_reducible exact H.out.p3 | with_reducible exact H.out.p4 | with_reducible exact H.out.p5) | ((repeat first | with_reducible refine St.drewN ?_ _ | with_reducible refine St.drew ?_ | with_reducible refine St.alloc ?_ _); first | with_reducible exact H.out | with_reducible exact H.out.p1 | with_reducible exact H.out.p2 | with_reducible exact H.out.p3 | with_reducible exact H.out.p4 | with_reducible exact H.out.p5))).mono ?_; rintro e wn ⟨rfl, h⟩; replace H := Lib.hid h; clear h))
    go_ret
    exact ⟨rfl, H.out.below⟩

set_option maxHeartbeats 1000000 in
set_option maxRecDepth 100000 in
theorem keyEncodes_good (s : Bs) (hs : 1 ≤ s.length ∧ s.length ≤ 32767) {W0 w : World} {K : Know} {L : List Res} (h : St W0 w K L) :
    Calls Try.prog 7 #[.string (bb s)] w fun en w' => en = .returned (.bool true) ∧ Below W0.heap.size W0 w' := by
  have H := Lib.hid h
  have hr : keyRight s = true := (keyRight_iff s).2 hs
  have e0 : beBytes 0 2 = [0, 0] := by decide
  have hx : keyEnc s = (0 :: 0 :: (beBytes s.length 2 ++ s), 0) := by
    unfold keyEnc
    rw [hr, if_pos rfl]
    unfold keyBytes
    rw [e0]
    rfl
  have hy : keyRd (0 :: 0 :: (beBytes s.length 2 ++ s)) = (s, 0) := by
    have := keyRd_back s hr
    unfold keyBytes at this
    rw [e0] at this
    exact this
  have hl5 : (0 :: 0 :: (beBytes s.length 2 ++ s) : Bs).length ≤ 40100 := by simp only [List.length_cons, List.length_append, beBytes_length]; omega
  have HX := Lib.hid (And.intro hx (And.intro hy (And.intro hr (And.intro hl5 (show s.length ≤ 40000 by omega)))))
  have HL := Lib.hid (show s.length ≤ 140737488355328 by omega)
  have HN := Lib.hid (show -9223372036854775808 ≤ (s.length : Int) ∧ (s.length : Int) < 9223372036854775808 by omega)
  have hlen : decide ((40000 : Int) < (s.length : Int)) = false := decide_eq_false (by omega)
  have hl1 : decide ((s.length : Int) < 1) = false := decide_eq_false (by omega)
  have hl3 : decide ((32767 : Int) < (s.length : Int)) = false := decide_eq_false (by omega)
  have hcat : ∀ B : Bs, (⟨#[0, 0]⟩ : ByteArray) ++ bb B = bb (0 :: 0 :: B) := fun B => bb_append [0, 0] B
  have hz : ¬ (9223372036854775807 < 4 + s.length) := by omega
  have hz2 : ¬ (9223372036854775807 < 2 + 2 + s.length) := by omega
  have hz3 : ¬ (9223372036854775807 < 2 + 1 + 1 + s.length) := by omega
  clear h hs hr hx hy hl5 e0
  go_enter Try.func7, Try.ntmps7
  go_wp2_with (first
      | (go_at_call 28; refine (speaks13  (by first | (first | with_reducible exact H.out | with_reducible exact H.out.p1 | with_reducible exact H.out.p2 | with_reducible exact H.out.p3 | with_reducible exact H.out.p4 | with_reducible exact H.out.p5) | ((repeat first | with_reducible refine St.drewN ?_ _ | with_reducible refine St.drew ?_ | with_reducible refine St.alloc ?_ _); first | with_reducible exact H.out | with_reducible exact H.out.p1 | with_reducible exact H.out.p2 | with_reducible exact H.out.p3 | with_reducible exact H.out.p4 | with_reducible exact H.out.p5))).mono ?_; rintro e wn ⟨rfl, h⟩; replace H := Lib.hid h; clear h)
      | (go_at_call 29; refine (key_encode' s (0 :: 0 :: (beBytes s.length 2 ++ s)) 0 HX.out.2.2.2.2 HX.out.1 (by first | (first | with_reducible exact H.out | with_reducible exact H.out.p1 | with_reducible exact H.out.p2 | with_reducible exact H.out.p3 | with_reducible exact H.out.p4 | with_reducible exact H.out.p5) | ((repeat first | with_reducible refine St.drewN ?_ _ | with_reducible refine St.drew ?_ | with_reducible refine St.alloc ?_ _); first | with_reducible exact H.out | with_reducible exact H.out.p1 | with_reducible exact H.out.p2 | with_reducible exact H.out.p3 | with_reducible exact H.out.p4 | with_reducible exact H.out.p5))).mono ?_; rintro e wn ⟨rfl, h⟩; replace H := Lib.hid h; clear h)
      | (go_at_call 31; refine (key_decode' (0 :: 0 :: (beBytes s.length 2 ++ s)) s 0 HX.out.2.2.2.1 HX.out.2.1 (by first | (first | with_reducible exact H.out | with_reducible exact H.out.p1 | with_reducible exact H.out.p2 | with_reducible exact H.out.p3 | with_reducible exact H.out.p4 | with_reducible exact H.out.p5) | ((repeat first | with_reducible refine St.drewN ?_ _ | with_reducible refine St.drew ?_ | with_reducible refine St.alloc ?_ _); first | with_reducible exact H.out | with_reducible exact H.out.p1 | with_reducible exact H.out.p2 | with_reducible exact H.out.p3 | with_reducible exact H.out.p4 | with_reducible exact H.out.p5))).mono ?_; rintro e wn ⟨rfl, h⟩; replace H := Lib.hid h; clear h)
      | (go_at_call 32; refine (sr_bytes s.length 2 (by decide) HN.out (by first | (first | with_reducible exact H.out | with_reducible exact H.out.p1 | with_reducible exact H.out.p2 | with_reducible exact H.out.p3 | with_reducible exact H.out.p4 | with_reducible exact H.out.p5) | ((repeat first | with_reducible refine St.drewN ?_ _ | with_reducible refine St.drew ?_ | with_reducible refine St.alloc ?_ _); first | with_reducible exact H.out | with_reducible exact H.out.p1 | with_reducible exact H.out.p2 | with_reducible exact H.out.p3 | with_reducible exact H.out.p4 | with_reducible exact H.out.p5))).mono ?_; rintro e wn ⟨rfl, h⟩; replace H := Lib.hid h; clear h)
      | (go_at_call 30; refine (key_right' s true HL.out HX.out.2.2.1 (by first | (first | with_reducible exact H.out | with_reducible exact H.out.p1 | with_reducible exact H.out.p2 | with_reducible exact H.out.p3 | with_reducible exact H.out.p4 | with_reducible exact H.out.p5) | ((repeat first | with_reducible refine St.drewN ?_ _ | with_reducible refine St.drew ?_ | with_reducible refine St.alloc ?_ _); first | with_reducible exact H.out | with_reducible exact H.out.p1 | with_reducible exact H.out.p2 | with_reducible exact H.out.p3 | with_reducible exact H.out.p4 | with_reducible exact H.out.p5))).mono ?_; rintro e wn ⟨rfl, h⟩; replace H := Lib.hid h; clear h))
  all_goals (go_ret; exact ⟨rfl, H.out.below⟩)

theorem keyEncodes_any (s : Bs) (w : World) (hs : s.length ≤ 9223372036854775807) :
    Calls Try.prog 7 #[.string (bb s)] w fun en w' => en = .returned (.bool true) ∧ Below w.heap.size w w' := by
  have h : St w w Know.none [] := St.start trivial
  by_cases h1 : 40000 < s.length
  · exact keyEncodes_long s h1 hs h
  · by_cases h2 : s.length < 1 ∨ 32767 < s.length
    · exact keyEncodes_bad s (by omega) h2 h
    · exact keyEncodes_good s (by omega) h

end Go.Proofs.Ytngnhdiafbjfkaa
