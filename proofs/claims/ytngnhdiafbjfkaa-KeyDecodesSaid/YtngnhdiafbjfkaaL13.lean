/- Layer 13, walked. -/
import Derived.Test.YtngnhdiafbjfkaaKey2
namespace Go.Proofs.Ytngnhdiafbjfkaa
open Go.RowKit

theorem kr1 {s : Bs} (h : s.length < 2) : keyRd s = ([], 1) := if_pos h
theorem kr2 {s : Bs} (h : 2 ≤ s.length) (h2 : (!List.take 2 s == [0, 0]) = true) : keyRd s = ([], 7) := by
  have h2' : s.take 2 ≠ [0, 0] := by simpa using h2
  exact (if_neg (by omega)).trans (if_pos h2')
theorem kr3 {s : Bs} (h : 2 ≤ s.length) (h2 : (!List.take 2 s == [0, 0]) = false) (h3 : s.length < 4) : keyRd s = ([], 1) := by
  have h2' : ¬ s.take 2 ≠ [0, 0] := by simpa using h2
  exact (if_neg (by omega)).trans ((if_neg h2').trans (if_pos h3))
theorem kr4 {s : Bs} (h : 4 ≤ s.length) (h2 : (!List.take 2 s == [0, 0]) = false) (h3 : sInt ((s.drop 2).take 2) ≤ 0) : keyRd s = ([], 4) := by
  have h2' : ¬ s.take 2 ≠ [0, 0] := by simpa using h2
  exact (if_neg (by omega)).trans ((if_neg h2').trans ((if_neg (by omega)).trans (if_pos h3)))
theorem kr5 {s : Bs} (h : 4 ≤ s.length) (h2 : (!List.take 2 s == [0, 0]) = false) (h3 : ¬ sInt ((s.drop 2).take 2) ≤ 0) (h4 : (s.length : Int) - 4 < sInt ((s.drop 2).take 2)) : keyRd s = ([], 1) := by
  have h2' : ¬ s.take 2 ≠ [0, 0] := by simpa using h2
  exact (if_neg (by omega)).trans ((if_neg h2').trans ((if_neg (by omega)).trans ((if_neg h3).trans (if_pos h4))))
theorem kr6 {s : Bs} (h : 4 ≤ s.length) (h2 : (!List.take 2 s == [0, 0]) = false) (h3 : ¬ sInt ((s.drop 2).take 2) ≤ 0) (h4 : sInt ((s.drop 2).take 2) < (s.length : Int) - 4) : keyRd s = ([], 2) := by
  have h2' : ¬ s.take 2 ≠ [0, 0] := by simpa using h2
  exact (if_neg (by omega)).trans ((if_neg h2').trans ((if_neg (by omega)).trans ((if_neg h3).trans ((if_neg (by omega)).trans (if_pos h4)))))
theorem kr7 {s : Bs} (h : 4 ≤ s.length) (h2 : (!List.take 2 s == [0, 0]) = false) (h3 : ¬ sInt ((s.drop 2).take 2) ≤ 0) (h4 : sInt ((s.drop 2).take 2) = (s.length : Int) - 4) : keyRd s = ((s.drop 4).take (s.length - 4), 0) := by
  rw [List.take_of_length_le (by rw [List.length_drop]; omega)]
  have h2' : ¬ s.take 2 ≠ [0, 0] := by simpa using h2
  exact (if_neg (by omega)).trans ((if_neg h2').trans ((if_neg (by omega)).trans ((if_neg h3).trans ((if_neg (by omega)).trans (if_neg (by omega))))))

set_option maxHeartbeats 1000000 in
set_option maxRecDepth 100000 in
theorem l13_read (s : Bs) (hs : s.length ≤ 40000) {W0 w : World} {K : Know} {L : List Res} (h : St W0 w K L) :
    Calls Try.prog 33 #[.string (bb s)] w fun en w' => en = .returned (.tuple #[.string (bb (keyRd s).1), .int .i64 (keyRd s).2]) ∧ St W0 w' K L := by
  have H := Lib.hid h
  clear h
  have hl4 : ((s.drop 2).take 2).length ≤ 8 := by rw [List.length_take]; omega
  have HL := Lib.hid hl4
  clear hl4
  go_enter Try.func33, Try.ntmps33
  go_wp2_with (go_at_call 48; refine (sr_int ((s.drop 2).take 2) HL.out (by first | (first | with_reducible exact H.out | with_reducible exact H.out.p1 | with_reducible exact H.out.p2 | with_reducible exact H.out.p3 | with_reducible exact H.out.p4 | with_reducible exact H.out.p5) | ((repeat first | with_reducible refine St.drewN ?_ _ | with_reducible refine St.drew ?_ | with_reducible refine St.alloc ?_ _); first | with_reducible exact H.out | with_reducible exact H.out.p1 | with_reducible exact H.out.p2 | with_reducible exact H.out.p3 | with_reducible exact H.out.p4 | with_reducible exact H.out.p5))).mono ?_; rintro e wn ⟨rfl, h⟩; replace H := Lib.hid h; clear h)
  all_goals (go_ret2; first
    | (rw [kr1 (by first | omega | (simp at *; omega))]; exact ⟨rfl, H.out⟩)
    | (rw [kr2 (by first | omega | (simp at *; omega)) (by assumption)]; exact ⟨rfl, H.out⟩)
    | (rw [kr3 (by first | omega | (simp at *; omega)) (by assumption) (by first | omega | (simp at *; omega))]; exact ⟨rfl, H.out⟩)
    | (rw [kr4 (by first | omega | (simp at *; omega)) (by assumption) (by first | omega | (simp at *; omega))]; exact ⟨rfl, H.out⟩)
    | (rw [kr5 (by first | omega | (simp at *; omega)) (by assumption) (by first | omega | (simp at *; omega)) (by first | omega | (simp at *; omega))]; exact ⟨rfl, H.out⟩)
    | (rw [kr6 (by first | omega | (simp at *; omega)) (by assumption) (by first | omega | (simp at *; omega)) (by first | omega | (simp at *; omega))]; exact ⟨rfl, H.out⟩)
    | (rw [kr7 (by first | omega | (simp at *; omega)) (by assumption) (by first | omega | (simp at *; omega)) (by first | omega | (simp at *; omega))]; exact ⟨rfl, H.out⟩))

theorem key_encode' (s x : Bs) (e : Int) (hs : s.length ≤ 40000) (hx : keyEnc s = (x, e)) {W0 w : World} {K : Know} {L : List Res} (h : St W0 w K L) :
    Calls Try.prog 29 #[.string (bb s)] w fun en w' => en = .returned (.tuple #[.string (bb x), .int .i64 e]) ∧ St W0 w' K L := by
  have := key_encode s hs h
  rw [hx] at this
  exact this
theorem key_decode' (s x : Bs) (e : Int) (hs : s.length ≤ 40100) (hx : keyRd s = (x, e)) {W0 w : World} {K : Know} {L : List Res} (h : St W0 w K L) :
    Calls Try.prog 31 #[.string (bb s)] w fun en w' => en = .returned (.tuple #[.string (bb x), .int .i64 e]) ∧ St W0 w' K L := by
  have := key_decode s hs h
  rw [keyDec_eq, hx] at this
  exact this
theorem l13_read' (s x : Bs) (e : Int) (hs : s.length ≤ 40000) (hx : keyRd s = (x, e)) {W0 w : World} {K : Know} {L : List Res} (h : St W0 w K L) :
    Calls Try.prog 33 #[.string (bb s)] w fun en w' => en = .returned (.tuple #[.string (bb x), .int .i64 e]) ∧ St W0 w' K L := by
  have := l13_read s hs h
  rw [hx] at this
  exact this

set_option maxHeartbeats 1000000 in
set_option maxRecDepth 100000 in
theorem speaks13 {W0 w : World} {K : Know} {L : List Res} (h : St W0 w K L) :
    Calls Try.prog 28 #[] w fun en w' => en = .returned (.bool true) ∧ St W0 w' K L := by
  have H := Lib.hid h
  have tok1 : True := trivial
  clear h
  go_enter Try.func28, Try.ntmps28
  go_wp2_with (first
    | (go_at_call 29; refine (key_encode' [97] [0, 0, 0, 1, 97] 0 (by decide) (by decide +kernel) (by first | (first | with_reducible exact H.out | with_reducible exact H.out.p1 | with_reducible exact H.out.p2 | with_reducible exact H.out.p3 | with_reducible exact H.out.p4 | with_reducible exact H.out.p5) | ((repeat first | with_reducible refine St.drewN ?_ _ | with_reducible refine St.drew ?_ | with_reducible refine St.alloc ?_ _); first | with_reducible exact H.out | with_reducible exact H.out.p1 | with_reducible exact H.out.p2 | with_reducible exact H.out.p3 | with_reducible exact H.out.p4 | with_reducible exact H.out.p5))).mono ?_; rintro e wn ⟨rfl, h⟩; replace H := Lib.hid h; clear h)
    | (go_at_call 31; have _t := tok1; clear _t; refine (key_decode' [0, 0, 0, 1, 97] [97] 0 (by decide) (by decide +kernel) (by first | (first | with_reducible exact H.out | with_reducible exact H.out.p1 | with_reducible exact H.out.p2 | with_reducible exact H.out.p3 | with_reducible exact H.out.p4 | with_reducible exact H.out.p5) | ((repeat first | with_reducible refine St.drewN ?_ _ | with_reducible refine St.drew ?_ | with_reducible refine St.alloc ?_ _); first | with_reducible exact H.out | with_reducible exact H.out.p1 | with_reducible exact H.out.p2 | with_reducible exact H.out.p3 | with_reducible exact H.out.p4 | with_reducible exact H.out.p5))).mono ?_; rintro e wn ⟨rfl, h⟩; replace H := Lib.hid h; clear h; clear tok1)
    | (go_at_call 31; refine (key_decode' [0, 0, 0, 0] [] 4 (by decide) (by decide +kernel) (by first | (first | with_reducible exact H.out | with_reducible exact H.out.p1 | with_reducible exact H.out.p2 | with_reducible exact H.out.p3 | with_reducible exact H.out.p4 | with_reducible exact H.out.p5) | ((repeat first | with_reducible refine St.drewN ?_ _ | with_reducible refine St.drew ?_ | with_reducible refine St.alloc ?_ _); first | with_reducible exact H.out | with_reducible exact H.out.p1 | with_reducible exact H.out.p2 | with_reducible exact H.out.p3 | with_reducible exact H.out.p4 | with_reducible exact H.out.p5))).mono ?_; rintro e wn ⟨rfl, h⟩; replace H := Lib.hid h; clear h))
  go_ret
  exact ⟨rfl, H.out⟩

set_option maxHeartbeats 1000000 in
set_option maxRecDepth 100000 in
theorem keyDecodes_walk (s : Bs) (x : Bs) (e : Int) (hs : s.length ≤ 40000) (hx : keyRd s = (x, e)) (hxl : x.length ≤ 40000) (hc : e = 0 → keyEnc x = (s, 0)) {W0 w : World} {K : Know} {L : List Res} (h : St W0 w K L) :
    Calls Try.prog 8 #[.string (bb s)] w fun en w' => en = .returned (.bool true) ∧ Below W0.heap.size W0 w' := by
  have H := Lib.hid h
  have HX := Lib.hid (And.intro hx (And.intro hs hxl))
  have hlen : decide ((40000 : Int) < (s.length : Int)) = false := decide_eq_false (by omega)
  clear h hx
  by_cases he : e = 0
  · subst he
    have HE := Lib.hid (hc rfl)
    clear hc hs hxl
    go_enter Try.func8, Try.ntmps8
    go_wp2_with (first
      | (go_at_call 28; refine (speaks13  (by first | (first | with_reducible exact H.out | with_reducible exact H.out.p1 | with_reducible exact H.out.p2 | with_reducible exact H.out.p3 | with_reducible exact H.out.p4 | with_reducible exact H.out.p5) | ((repeat first | with_reducible refine St.drewN ?_ _ | with_reducible refine St.drew ?_ | with_reducible refine St.alloc ?_ _); first | with_reducible exact H.out | with_reducible exact H.out.p1 | with_reducible exact H.out.p2 | with_reducible exact H.out.p3 | with_reducible exact H.out.p4 | with_reducible exact H.out.p5))).mono ?_; rintro e wn ⟨rfl, h⟩; replace H := Lib.hid h; clear h)
      | (go_at_call 31; refine (key_decode' s x 0 (Nat.le_trans HX.out.2.1 (by decide)) HX.out.1 (by first | (first | with_reducible exact H.out | with_reducible exact H.out.p1 | with_reducible exact H.out.p2 | with_reducible exact H.out.p3 | with_reducible exact H.out.p4 | with_reducible exact H.out.p5) | ((repeat first | with_reducible refine St.drewN ?_ _ | with_reducible refine St.drew ?_ | with_reducible refine St.alloc ?_ _); first | with_reducible exact H.out | with_reducible exact H.out.p1 | with_reducible exact H.out.p2 | with_reducible exact H.out.p3 | with_reducible exact H.out.p4 | with_reducible exact H.out.p5))).mono ?_; rintro e wn ⟨rfl, h⟩; replace H := Lib.hid h; clear h)
      | (go_at_call 33; refine (l13_read' s x 0 HX.out.2.1 HX.out.1 (by first | (first | with_reducible exact H.out | with_reducible exact H.out.p1 | with_reducible exact H.out.p2 | with_reducible exact H.out.p3 | with_reducible exact H.out.p4 | with_reducible exact H.out.p5) | ((repeat first | with_reducible refine St.drewN ?_ _ | with_reducible refine St.drew ?_ | with_reducible refine St.alloc ?_ _); first | with_reducible exact H.out | with_reducible exact H.out.p1 | with_reducible exact H.out.p2 | with_reducible exact H.out.p3 | with_reducible exact H.out.p4 | with_reducible exact H.out.p5))).mono ?_; rintro e wn ⟨rfl, h⟩; replace H := Lib.hid h; clear h)
      | (go_at_call 29; refine (key_encode' x s 0 HX.out.2.2 HE.out (by first | (first | with_reducible exact H.out | with_reducible exact H.out.p1 | with_reducible exact H.out.p2 | with_reducible exact H.out.p3 | with_reducible exact H.out.p4 | with_reducible exact H.out.p5) | ((repeat first | with_reducible refine St.drewN ?_ _ | with_reducible refine St.drew ?_ | with_reducible refine St.alloc ?_ _); first | with_reducible exact H.out | with_reducible exact H.out.p1 | with_reducible exact H.out.p2 | with_reducible exact H.out.p3 | with_reducible exact H.out.p4 | with_reducible exact H.out.p5))).mono ?_; rintro e wn ⟨rfl, h⟩; replace H := Lib.hid h; clear h))
    go_ret
    exact ⟨rfl, H.out.below⟩
  · obtain ⟨t, f, hk⟩ : ∃ t f, keyEnc x = (t, f) := ⟨_, _, rfl⟩
    have HE := Lib.hid hk
    have hb : (e != 0) = true := by simpa using he
    clear hc hk he hs hxl
    go_enter Try.func8, Try.ntmps8
    go_wp2_with (first
      | (go_at_call 28; refine (speaks13  (by first | (first | with_reducible exact H.out | with_reducible exact H.out.p1 | with_reducible exact H.out.p2 | with_reducible exact H.out.p3 | with_reducible exact H.out.p4 | with_reducible exact H.out.p5) | ((repeat first | with_reducible refine St.drewN ?_ _ | with_reducible refine St.drew ?_ | with_reducible refine St.alloc ?_ _); first | with_reducible exact H.out | with_reducible exact H.out.p1 | with_reducible exact H.out.p2 | with_reducible exact H.out.p3 | with_reducible exact H.out.p4 | with_reducible exact H.out.p5))).mono ?_; rintro e wn ⟨rfl, h⟩; replace H := Lib.hid h; clear h)
      | (go_at_call 31; refine (key_decode' s x e (Nat.le_trans HX.out.2.1 (by decide)) HX.out.1 (by first | (first | with_reducible exact H.out | with_reducible exact H.out.p1 | with_reducible exact H.out.p2 | with_reducible exact H.out.p3 | with_reducible exact H.out.p4 | with_reducible exact H.out.p5) | ((repeat first | with_reducible refine St.drewN ?_ _ | with_reducible refine St.drew ?_ | with_reducible refine St.alloc ?_ _); first | with_reducible exact H.out | with_reducible exact H.out.p1 | with_reducible exact H.out.p2 | with_reducible exact H.out.p3 | with_reducible exact H.out.p4 | with_reducible exact H.out.p5))).mono ?_; rintro e wn ⟨rfl, h⟩; replace H := Lib.hid h; clear h)
      | (go_at_call 33; refine (l13_read' s x e HX.out.2.1 HX.out.1 (by first | (first | with_reducible exact H.out | with_reducible exact H.out.p1 | with_reducible exact H.out.p2 | with_reducible exact H.out.p3 | with_reducible exact H.out.p4 | with_reducible exact H.out.p5) | ((repeat first | with_reducible refine St.drewN ?_ _ | with_reducible refine St.drew ?_ | with_reducible refine St.alloc ?_ _); first | with_reducible exact H.out | with_reducible exact H.out.p1 | with_reducible exact H.out.p2 | with_reducible exact H.out.p3 | with_reducible exact H.out.p4 | with_reducible exact H.out.p5))).mono ?_; rintro e wn ⟨rfl, h⟩; replace H := Lib.hid h; clear h)
      | (go_at_call 29; refine (key_encode' x t f HX.out.2.2 HE.out (by first | (first | with_reducible exact H.out | with_reducible exact H.out.p1 | with_reducible exact H.out.p2 | with_reducible exact H.out.p3 | with_reducible exact H.out.p4 | with_reducible exact H.out.p5) | ((repeat first | with_reducible refine St.drewN ?_ _ | with_reducible refine St.drew ?_ | with_reducible refine St.alloc ?_ _); first | with_reducible exact H.out | with_reducible exact H.out.p1 | with_reducible exact H.out.p2 | with_reducible exact H.out.p3 | with_reducible exact H.out.p4 | with_reducible exact H.out.p5))).mono ?_; rintro e wn ⟨rfl, h⟩; replace H := Lib.hid h; clear h))
    go_ret
    exact ⟨rfl, H.out.below⟩

set_option maxHeartbeats 1000000 in
set_option maxRecDepth 100000 in
theorem keyDecodes_long (s : Bs) (hs : 40000 < s.length) (hs2 : s.length ≤ 9223372036854775807) {W0 w : World} {K : Know} {L : List Res} (h : St W0 w K L) :
    Calls Try.prog 8 #[.string (bb s)] w fun en w' => en = .returned (.bool true) ∧ Below W0.heap.size W0 w' := by
  have H := Lib.hid h
  have hlen : decide ((40000 : Int) < (s.length : Int)) = true := decide_eq_true (by omega)
  clear h hs hs2
  go_enter Try.func8, Try.ntmps8
  go_wp2_with (first
      | (go_at_call 28; refine (speaks13  (by first | (first | with_reducible exact H.out | with_reducible exact H.out.p1 | with_reducible exact H.out.p2 | with_reducible exact H.out.p3 | with_reducible exact H.out.p4 | with_reducible exact H.out.p5) | ((repeat first | with_reducible refine St.drewN ?_ _ | with_reducible refine St.drew ?_ | with_reducible refine St.alloc ?_ _); first | with_reducible exact H.out | with_reducible exact H.out.p1 | with_reducible exact H.out.p2 | with_reducible exact H.out.p3 | with_reducible exact H.out.p4 | with_reducible exact H.out.p5))).mono ?_; rintro e wn ⟨rfl, h⟩; replace H := Lib.hid h; clear h))
  go_ret
  exact ⟨rfl, H.out.below⟩

theorem keyRd_len (s : Bs) : (keyRd s).1.length ≤ s.length := by
  unfold keyRd
  repeat' split
  all_goals simp
theorem keyDecodes_any (s : Bs) (w : World) (hs : s.length ≤ 9223372036854775807) :
    Calls Try.prog 8 #[.string (bb s)] w fun en w' => en = .returned (.bool true) ∧ Below w.heap.size w w' := by
  have h : St w w Know.none [] := St.start trivial
  by_cases h1 : 40000 < s.length
  · exact keyDecodes_long s h1 hs h
  · have hl := keyRd_len s
    exact keyDecodes_walk s (keyRd s).1 (keyRd s).2 (by omega) rfl (by omega) (fun he => keyRd_enc s _ (by rw [← he])) h

end Go.Proofs.Ytngnhdiafbjfkaa
