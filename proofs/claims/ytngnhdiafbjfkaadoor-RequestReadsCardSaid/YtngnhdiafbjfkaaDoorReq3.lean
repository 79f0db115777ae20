/- Heads of requests: the reference: which may be. -/
import Derived.Test.YtngnhdiafbjfkaaDoorReq1
namespace Go.Proofs.YtngnhdiafbjfkaaDoor
open Go.RowKit

set_option maxHeartbeats 1000000 in
set_option maxRecDepth 100000 in
theorem ref17_versions (a v : Int) (q : Int) (hq : verErr a v = q) {W0 w : World} {K : Know} {L : List Res} (h : St W0 w K L) :
    Calls Tryd.prog 29 #[.int .i64 a, .int .i64 v] w fun en w' => en = .returned (.int .i64 q) ∧ St W0 w' K L := by
  have H := Lib.hid h
  clear h
  by_cases k0 : a = 0
  · subst k0
    by_cases e3 : v = 3
    · subst e3
      obtain rfl : q = 0 := by rw [← hq]; decide
      go_enter Tryd.func29, Tryd.ntmps29
      go_wp2
      go_ret
      exact ⟨rfl, H.out⟩
    by_cases e4 : v = 4
    · subst e4
      obtain rfl : q = 0 := by rw [← hq]; decide
      go_enter Tryd.func29, Tryd.ntmps29
      go_wp2
      go_ret
      exact ⟨rfl, H.out⟩
    obtain rfl : q = 7 := by
      rw [← hq]
      have e : reqOf 0 = (0, [112, 114, 111, 100, 117, 99, 101], 3, 4, true) := by decide
      unfold verErr
      rw [e]
      simp only [if_true]
      rw [if_pos (by omega)]
    have b3 : (v == 3) = false := by rw [beq_eq_false_iff_ne]; exact e3
    have b4 : (v == 4) = false := by rw [beq_eq_false_iff_ne]; exact e4
    clear e3 e4 hq
    go_enter Tryd.func29, Tryd.ntmps29
    go_wp2
    go_ret
    exact ⟨rfl, H.out⟩
  by_cases k22 : a = 22
  · subst k22
    by_cases e0 : v = 0
    · subst e0
      obtain rfl : q = 0 := by rw [← hq]; decide
      go_enter Tryd.func29, Tryd.ntmps29
      go_wp2
      go_ret
      exact ⟨rfl, H.out⟩
    by_cases e1 : v = 1
    · subst e1
      obtain rfl : q = 0 := by rw [← hq]; decide
      go_enter Tryd.func29, Tryd.ntmps29
      go_wp2
      go_ret
      exact ⟨rfl, H.out⟩
    obtain rfl : q = 7 := by
      rw [← hq]
      have e : reqOf 22 = (22, [98, 101, 103, 105, 110], 0, 1, true) := by decide
      unfold verErr
      rw [e]
      simp only [if_true]
      rw [if_pos (by omega)]
    have b0 : (v == 0) = false := by rw [beq_eq_false_iff_ne]; exact e0
    have b1 : (v == 1) = false := by rw [beq_eq_false_iff_ne]; exact e1
    clear e0 e1 hq
    go_enter Tryd.func29, Tryd.ntmps29
    go_wp2
    go_ret
    exact ⟨rfl, H.out⟩
  by_cases k27 : a = 27
  · subst k27
    by_cases e0 : v = 0
    · subst e0
      obtain rfl : q = 0 := by rw [← hq]; decide
      go_enter Tryd.func29, Tryd.ntmps29
      go_wp2
      go_ret
      exact ⟨rfl, H.out⟩
    by_cases e1 : v = 1
    · subst e1
      obtain rfl : q = 0 := by rw [← hq]; decide
      go_enter Tryd.func29, Tryd.ntmps29
      go_wp2
      go_ret
      exact ⟨rfl, H.out⟩
    obtain rfl : q = 7 := by
      rw [← hq]
      have e : reqOf 27 = (27, [109, 97, 114, 107], 0, 1, true) := by decide
      unfold verErr
      rw [e]
      simp only [if_true]
      rw [if_pos (by omega)]
    have b0 : (v == 0) = false := by rw [beq_eq_false_iff_ne]; exact e0
    have b1 : (v == 1) = false := by rw [beq_eq_false_iff_ne]; exact e1
    clear e0 e1 hq
    go_enter Tryd.func29, Tryd.ntmps29
    go_wp2
    go_ret
    exact ⟨rfl, H.out⟩
  by_cases k24 : a = 24
  · subst k24
    by_cases e0 : v = 0
    · subst e0
      obtain rfl : q = 0 := by rw [← hq]; decide
      go_enter Tryd.func29, Tryd.ntmps29
      go_wp2
      go_ret
      exact ⟨rfl, H.out⟩
    obtain rfl : q = 7 := by
      rw [← hq]
      have e : reqOf 24 = (24, [97, 100, 100], 0, 0, true) := by decide
      unfold verErr
      rw [e]
      simp only [if_true]
      rw [if_pos (by omega)]
    have b0 : (v == 0) = false := by rw [beq_eq_false_iff_ne]; exact e0
    clear e0 hq
    go_enter Tryd.func29, Tryd.ntmps29
    go_wp2
    go_ret
    exact ⟨rfl, H.out⟩
  by_cases k26 : a = 26
  · subst k26
    by_cases e0 : v = 0
    · subst e0
      obtain rfl : q = 0 := by rw [← hq]; decide
      go_enter Tryd.func29, Tryd.ntmps29
      go_wp2
      go_ret
      exact ⟨rfl, H.out⟩
    obtain rfl : q = 7 := by
      rw [← hq]
      have e : reqOf 26 = (26, [101, 110, 100], 0, 0, true) := by decide
      unfold verErr
      rw [e]
      simp only [if_true]
      rw [if_pos (by omega)]
    have b0 : (v == 0) = false := by rw [beq_eq_false_iff_ne]; exact e0
    clear e0 hq
    go_enter Tryd.func29, Tryd.ntmps29
    go_wp2
    go_ret
    exact ⟨rfl, H.out⟩
  obtain rfl : q = 12 := by
    rw [← hq]
    have e : reqOf a = (0, [], 0, 0, false) := reqOf_none a (by
      intro k hk
      simp only [kindAt, List.mem_cons, List.not_mem_nil, or_false] at hk
      rcases hk with rfl | rfl | rfl | rfl | rfl <;> assumption)
    unfold verErr
    rw [e]
    rfl
  have b0 : (a == 0) = false := by rw [beq_eq_false_iff_ne]; exact k0
  have b22 : (a == 22) = false := by rw [beq_eq_false_iff_ne]; exact k22
  have b27 : (a == 27) = false := by rw [beq_eq_false_iff_ne]; exact k27
  have b24 : (a == 24) = false := by rw [beq_eq_false_iff_ne]; exact k24
  have b26 : (a == 26) = false := by rw [beq_eq_false_iff_ne]; exact k26
  clear k0 k22 k27 k24 k26 hq
  go_enter Tryd.func29, Tryd.ntmps29
  go_wp2
  go_ret
  exact ⟨rfl, H.out⟩

set_option maxHeartbeats 1000000 in
set_option maxRecDepth 100000 in
theorem ref17_check (a v n : Int) (u : Bool) (d : Bs) (q : Int) (hq : headErr ⟨a, v, n, ⟨u, d⟩⟩ = q) {W0 w : World} {K : Know} {L : List Res} (h : St W0 w K L) :
    Calls Tryd.prog 16 #[.agg #[.int .i64 a, .int .i64 v, .int .i64 n, .bool u, .string (bb d)]] w fun en w' => en = .returned (.int .i64 q) ∧ St W0 w' K L := by
  have h1 := h.allocRaw #[.int .i64 a, .int .i64 v, .int .i64 n, .bool u, .string (bb d)] 47
  obtain ⟨hb, hhb⟩ : ∃ b, w.heap.size = b := ⟨_, rfl⟩
  rw [hhb] at h1
  obtain ⟨x0, x1, x2, x3, x4, y0, y1, y2, y3, y4⟩ := raw5 (b := hb) (h1)
  have H := Lib.hid h1
  clear h h1
  have hw := headWay a v n u d
  rw [hq] at hw
  clear hq
  cases hw with
  | vers g =>
    obtain ⟨q, hq⟩ : ∃ q, verErr a v = q := ⟨_, rfl⟩
    rw [hq] at g ⊢
    have HQ := Lib.hid hq
    have gz : (q == 0) = false := by rw [beq_eq_false_iff_ne]; exact g
    clear hq
    go_enter Tryd.func16, Tryd.ntmps16
    go_wp2_with (go_at_call 29; (with_reducible refine (ref17_versions a v _ HQ.out H.out).mono ?_); rintro e wn ⟨rfl, h⟩; replace H := Lib.hid h; clear h; obtain ⟨x0, x1, x2, x3, x4, y0, y1, y2, y3, y4⟩ := raw5 (b := hb) (H.out))
    go_ret
    exact ⟨rfl, H.out.drop⟩
  | range g1 g2 =>
    have HQ := Lib.hid g1
    have nb : n < -2147483648 ∨ 2147483647 < n := by
      by_cases hh : n < -2147483648 ∨ 2147483647 < n
      · exact hh
      · refine absurd ⟨by decide, by decide, ?_⟩ g2
        rw [show half (4 : Int).toNat = 2147483648 by decide]
        omega
    by_cases n1 : n < -2147483648
    · have d1 : decide (n < -2147483648) = true := decide_eq_true n1
      clear g1 g2 nb n1
      go_enter Tryd.func16, Tryd.ntmps16
      go_wp2_with (go_at_call 29; (with_reducible refine (ref17_versions a v _ HQ.out H.out).mono ?_); rintro e wn ⟨rfl, h⟩; replace H := Lib.hid h; clear h; obtain ⟨x0, x1, x2, x3, x4, y0, y1, y2, y3, y4⟩ := raw5 (b := hb) (H.out))
      go_ret
      exact ⟨rfl, H.out.drop⟩
    · have d1 : decide (n < -2147483648) = false := decide_eq_false n1
      have d2 : decide ((2147483647 : Int) < n) = true := decide_eq_true (by omega)
      clear g1 g2 nb n1
      go_enter Tryd.func16, Tryd.ntmps16
      go_wp2_with (go_at_call 29; (with_reducible refine (ref17_versions a v _ HQ.out H.out).mono ?_); rintro e wn ⟨rfl, h⟩; replace H := Lib.hid h; clear h; obtain ⟨x0, x1, x2, x3, x4, y0, y1, y2, y3, y4⟩ := raw5 (b := hb) (H.out))
      go_ret
      exact ⟨rfl, H.out.drop⟩
  | wrong g1 g2 g3 g4 =>
    subst g3
    have HQ := Lib.hid g1
    have nb : -2147483648 ≤ n ∧ n < 2147483648 := by
      have := g2.2.2
      rw [show half (4 : Int).toNat = 2147483648 by decide] at this
      exact this
    have d1 : decide (n < -2147483648) = false := decide_eq_false (by omega)
    have d2 : decide ((2147483647 : Int) < n) = false := decide_eq_false (by omega)
    have dd : d.isEmpty = false := by cases d with
      | nil => exact absurd rfl g4
      | cons c t => rfl
    have dn : ¬ (d = []) := g4
    clear g1 g2 nb
    go_enter Tryd.func16, Tryd.ntmps16
    go_wp2_with (go_at_call 29; (with_reducible refine (ref17_versions a v _ HQ.out H.out).mono ?_); rintro e wn ⟨rfl, h⟩; replace H := Lib.hid h; clear h; obtain ⟨x0, x1, x2, x3, x4, y0, y1, y2, y3, y4⟩ := raw5 (b := hb) (H.out))
    go_ret
    exact ⟨rfl, H.out.drop⟩
  | long g1 g2 g3 g4 =>
    subst g3
    have HQ := Lib.hid g1
    have nb : -2147483648 ≤ n ∧ n < 2147483648 := by
      have := g2.2.2
      rw [show half (4 : Int).toNat = 2147483648 by decide] at this
      exact this
    have d1 : decide (n < -2147483648) = false := decide_eq_false (by omega)
    have d2 : decide ((2147483647 : Int) < n) = false := decide_eq_false (by omega)
    have dl : decide ((32767 : Int) < (d.length : Int)) = true := decide_eq_true (by omega)
    clear g1 g2 nb g4
    go_enter Tryd.func16, Tryd.ntmps16
    go_wp2_with (go_at_call 29; (with_reducible refine (ref17_versions a v _ HQ.out H.out).mono ?_); rintro e wn ⟨rfl, h⟩; replace H := Lib.hid h; clear h; obtain ⟨x0, x1, x2, x3, x4, y0, y1, y2, y3, y4⟩ := raw5 (b := hb) (H.out))
    go_ret
    exact ⟨rfl, H.out.drop⟩
  | right g1 g2 g3 g4 =>
    have HQ := Lib.hid g1
    have nb : -2147483648 ≤ n ∧ n < 2147483648 := by
      have := g2.2.2
      rw [show half (4 : Int).toNat = 2147483648 by decide] at this
      exact this
    have d1 : decide (n < -2147483648) = false := decide_eq_false (by omega)
    have d2 : decide ((2147483647 : Int) < n) = false := decide_eq_false (by omega)
    have dl : decide ((32767 : Int) < (d.length : Int)) = false := decide_eq_false (by omega)
    clear g1 g2 nb g4
    cases u with
    | false =>
      clear g3
      go_enter Tryd.func16, Tryd.ntmps16
      go_wp2_with (go_at_call 29; (with_reducible refine (ref17_versions a v _ HQ.out H.out).mono ?_); rintro e wn ⟨rfl, h⟩; replace H := Lib.hid h; clear h; obtain ⟨x0, x1, x2, x3, x4, y0, y1, y2, y3, y4⟩ := raw5 (b := hb) (H.out))
      go_ret
      exact ⟨rfl, H.out.drop⟩
    | true =>
      obtain rfl := g3 rfl
      clear g3
      go_enter Tryd.func16, Tryd.ntmps16
      go_wp2_with (go_at_call 29; (with_reducible refine (ref17_versions a v _ HQ.out H.out).mono ?_); rintro e wn ⟨rfl, h⟩; replace H := Lib.hid h; clear h; obtain ⟨x0, x1, x2, x3, x4, y0, y1, y2, y3, y4⟩ := raw5 (b := hb) (H.out))
      go_ret
      exact ⟨rfl, H.out.drop⟩

end Go.Proofs.YtngnhdiafbjfkaaDoor
