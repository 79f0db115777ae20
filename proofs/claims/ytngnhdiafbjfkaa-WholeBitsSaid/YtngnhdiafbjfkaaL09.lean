/- Layer 9, walked. -/
import Derived.Test.YtngnhdiafbjfkaaAttr1
namespace Go.Proofs.Ytngnhdiafbjfkaa
open Go.RowKit

set_option maxHeartbeats 1000000 in
set_option maxRecDepth 100000 in
theorem speaks09 {W0 w : World} {K : Know} {L : List Res} (h : St W0 w K L) :
    Calls Try.prog 11 #[] w fun en w' => en = .returned (.bool true) ∧ St W0 w' K L := by
  have H := Lib.hid h
  clear h
  have c1 : chk 48 = 0 := by decide
  have c2 : chk 32 = 8 := by decide
  have c3 : chk 49 = 9 := by decide
  have c4 : attrN false true true 3 = 48 := by decide
  have C1 := Lib.hid c1
  have C2 := Lib.hid c2
  have C3 := Lib.hid c3
  have C4 := Lib.hid c4
  clear c1 c2 c3 c4
  go_enter Try.func11, Try.ntmps11
  go_wp2_with (first
      | (go_at_call 15; refine (attr_of _ _ false true true _ _ _ _ _ _ _ _ _ (by first | (first | with_reducible exact H.out | with_reducible exact H.out.p1 | with_reducible exact H.out.p2 | with_reducible exact H.out.p3 | with_reducible exact H.out.p4 | with_reducible exact H.out.p5) | ((repeat first | with_reducible refine St.drewN ?_ _ | with_reducible refine St.drew ?_ | with_reducible refine St.alloc ?_ _); first | with_reducible exact H.out | with_reducible exact H.out.p1 | with_reducible exact H.out.p2 | with_reducible exact H.out.p3 | with_reducible exact H.out.p4 | with_reducible exact H.out.p5))).mono ?_; (repeat first | rw [C4.out]); rintro e wn ⟨rfl, h⟩; replace H := Lib.hid h; clear h)
      | (go_at_call 14; with_reducible refine (attr_check 48 (by unfold R64; decide) _).mono ?_; rw [C1.out]; rintro e wn ⟨rfl, rfl⟩)
      | (go_at_call 14; with_reducible refine (attr_check 32 (by unfold R64; decide) _).mono ?_; rw [C2.out]; rintro e wn ⟨rfl, rfl⟩)
      | (go_at_call 14; with_reducible refine (attr_check 49 (by unfold R64; decide) _).mono ?_; rw [C3.out]; rintro e wn ⟨rfl, rfl⟩))
  go_ret
  exact ⟨rfl, H.out⟩

theorem law_bit0 (n : Int) (hn : R64 n) (w : World) :
    Calls Try.prog 12 #[.int .i64 n, .int .i64 0] w fun en w' => en = .returned (.bool (bitAt n 0)) ∧ w = w' := law_bit n 0 (by decide) hn w
theorem law_bit1 (n : Int) (hn : R64 n) (w : World) :
    Calls Try.prog 12 #[.int .i64 n, .int .i64 1] w fun en w' => en = .returned (.bool (bitAt n 1)) ∧ w = w' := law_bit n 1 (by decide) hn w
theorem law_bit2 (n : Int) (hn : R64 n) (w : World) :
    Calls Try.prog 12 #[.int .i64 n, .int .i64 2] w fun en w' => en = .returned (.bool (bitAt n 2)) ∧ w = w' := law_bit n 2 (by decide) hn w
theorem law_bit3 (n : Int) (hn : R64 n) (w : World) :
    Calls Try.prog 12 #[.int .i64 n, .int .i64 3] w fun en w' => en = .returned (.bool (bitAt n 3)) ∧ w = w' := law_bit n 3 (by decide) hn w
theorem law_bit4 (n : Int) (hn : R64 n) (w : World) :
    Calls Try.prog 12 #[.int .i64 n, .int .i64 4] w fun en w' => en = .returned (.bool (bitAt n 4)) ∧ w = w' := law_bit n 4 (by decide) hn w
theorem law_bit5 (n : Int) (hn : R64 n) (w : World) :
    Calls Try.prog 12 #[.int .i64 n, .int .i64 5] w fun en w' => en = .returned (.bool (bitAt n 5)) ∧ w = w' := law_bit n 5 (by decide) hn w

theorem back_facts (a t c : Bool) : R64 (attrN a t c 3) ∧ bitAt (attrN a t c 3) 3 = a ∧ bitAt (attrN a t c 3) 4 = t ∧ bitAt (attrN a t c 3) 5 = c ∧ chk (attrN a t c 3) = (if t || !c then 0 else 8)
    ∧ decide ((0 : Int) ≤ attrN a t c 3) = true ∧ decide (attrN a t c 3 < (64 : Int)) = true ∧ (attrN a t c 3).tmod 8 = 0 := by
  unfold R64
  cases a <;> cases t <;> cases c <;> decide
set_option maxHeartbeats 1000000 in
set_option maxRecDepth 100000 in
theorem attrBack_any (a t c : Bool) (w : World) :
    Calls Try.prog 4 #[.bool a, .bool t, .bool c] w fun en w' => en = .returned (.bool true) ∧ Below w.heap.size w w' := by
  have h : St w w Know.none [] := St.start trivial
  have H := Lib.hid h
  clear h
  have hb := back_facts a t c
  obtain ⟨n, hn⟩ : ∃ n, attrN a t c 3 = n := ⟨_, rfl⟩
  rw [hn] at hb
  obtain ⟨h1, h2, h3, h4, h5, h6, h7, h8⟩ := hb
  have EN := Lib.hid hn
  have HN := Lib.hid h1
  have B3 := Lib.hid h2
  have B4 := Lib.hid h3
  have B5 := Lib.hid h4
  clear hn h1 h2 h3 h4
  cases t <;> cases c
  all_goals
    simp only [Bool.or_true, Bool.true_or, Bool.not_true, Bool.not_false, Bool.or_false, Bool.false_or, if_true, Bool.false_eq_true, if_false, Bool.or_self] at h5
    have HC := Lib.hid h5
    clear h5
    go_enter Try.func4, Try.ntmps4
    go_wp2_with (first
      | (go_at_call 11; refine (speaks09  (by first | (first | with_reducible exact H.out | with_reducible exact H.out.p1 | with_reducible exact H.out.p2 | with_reducible exact H.out.p3 | with_reducible exact H.out.p4 | with_reducible exact H.out.p5) | ((repeat first | with_reducible refine St.drewN ?_ _ | with_reducible refine St.drew ?_ | with_reducible refine St.alloc ?_ _); first | with_reducible exact H.out | with_reducible exact H.out.p1 | with_reducible exact H.out.p2 | with_reducible exact H.out.p3 | with_reducible exact H.out.p4 | with_reducible exact H.out.p5))).mono ?_; rintro e wn ⟨rfl, h⟩; replace H := Lib.hid h; clear h)
      | (go_at_call 15; refine (attr_of _ _ _ _ _ _ _ _ _ _ _ _ _ _ (by first | (first | with_reducible exact H.out | with_reducible exact H.out.p1 | with_reducible exact H.out.p2 | with_reducible exact H.out.p3 | with_reducible exact H.out.p4 | with_reducible exact H.out.p5) | ((repeat first | with_reducible refine St.drewN ?_ _ | with_reducible refine St.drew ?_ | with_reducible refine St.alloc ?_ _); first | with_reducible exact H.out | with_reducible exact H.out.p1 | with_reducible exact H.out.p2 | with_reducible exact H.out.p3 | with_reducible exact H.out.p4 | with_reducible exact H.out.p5))).mono ?_; (repeat first | rw [EN.out]); rintro e wn ⟨rfl, h⟩; replace H := Lib.hid h; clear h)
      | (go_at_call 13; refine (attr_read _ _).mono ?_; rw [B3.out, B4.out, B5.out]; rintro e wn ⟨rfl, rfl⟩)
      | (go_at_call 14; refine (attr_check _ HN.out _).mono ?_; rw [HC.out]; rintro e wn ⟨rfl, rfl⟩))
    go_ret
    exact ⟨rfl, H.out.below⟩

set_option maxHeartbeats 1000000 in
set_option maxRecDepth 100000 in
theorem attrChecks_any (n : Int) (w : World) (hn : R64 n) :
    Calls Try.prog 3 #[.int .i64 n] w fun en w' => en = .returned (.bool true) ∧ Below w.heap.size w w' := by
  have h : St w w Know.none [] := St.start trivial
  have H := Lib.hid h
  clear h
  have HN := Lib.hid hn
  clear hn
  have hc : chk n = chk n := rfl
  conv at hc => rhs; unfold chk
  obtain ⟨gl, hgl⟩ : ∃ gl, decide (n < 0) = gl := ⟨_, rfl⟩
  obtain ⟨gr, hgr⟩ : ∃ gr, decide (63 < n) = gr := ⟨_, rfl⟩
  rw [hgl, hgr] at hc
  generalize hg0 : bitAt n 0 = g0 at *
  generalize hg1 : bitAt n 1 = g1 at *
  generalize hg2 : bitAt n 2 = g2 at *
  generalize hg4 : bitAt n 4 = g4 at *
  generalize hg5 : bitAt n 5 = g5 at *
  have B0 := Lib.hid hg0
  have B1 := Lib.hid hg1
  have B2 := Lib.hid hg2
  have B4 := Lib.hid hg4
  have B5 := Lib.hid hg5
  clear hg0 hg1 hg2 hg4 hg5
  cases g0
  · cases g1
    · cases g2
      · cases gl
        · cases gr
          · cases g5
            · simp only [Bool.or_true, Bool.true_or, Bool.not_true, Bool.not_false, Bool.or_false, Bool.false_or, if_true, Bool.false_eq_true, if_false, Bool.or_self, Bool.and_true, Bool.and_false, Bool.true_and, Bool.false_and, Bool.and_self] at hc
              have HC := Lib.hid hc
              clear hc
              go_enter Try.func3, Try.ntmps3
              go_wp2_with (first
                    | (go_at_call 11; refine (speaks09  (by first | (first | with_reducible exact H.out | with_reducible exact H.out.p1 | with_reducible exact H.out.p2 | with_reducible exact H.out.p3 | with_reducible exact H.out.p4 | with_reducible exact H.out.p5) | ((repeat first | with_reducible refine St.drewN ?_ _ | with_reducible refine St.drew ?_ | with_reducible refine St.alloc ?_ _); first | with_reducible exact H.out | with_reducible exact H.out.p1 | with_reducible exact H.out.p2 | with_reducible exact H.out.p3 | with_reducible exact H.out.p4 | with_reducible exact H.out.p5))).mono ?_; rintro e wn ⟨rfl, h⟩; replace H := Lib.hid h; clear h)
                    | (go_at_call 13; refine (attr_read _ _).mono ?_; rw [B4.out, B5.out]; rintro e wn ⟨rfl, rfl⟩)
                    | (go_at_call 14; refine (attr_check _ HN.out _).mono ?_; rw [HC.out]; rintro e wn ⟨rfl, rfl⟩)
                    | (go_at_call 12; with_reducible refine (law_bit0 _ HN.out _).mono ?_; rw [B0.out]; rintro e wn ⟨rfl, rfl⟩)
                    | (go_at_call 12; with_reducible refine (law_bit1 _ HN.out _).mono ?_; rw [B1.out]; rintro e wn ⟨rfl, rfl⟩)
                    | (go_at_call 12; with_reducible refine (law_bit2 _ HN.out _).mono ?_; rw [B2.out]; rintro e wn ⟨rfl, rfl⟩)
                    | (go_at_call 12; with_reducible refine (law_bit3 _ HN.out _).mono ?_; rintro e wn ⟨rfl, rfl⟩)
                    | (go_at_call 12; with_reducible refine (law_bit4 _ HN.out _).mono ?_; rw [B4.out]; rintro e wn ⟨rfl, rfl⟩)
                    | (go_at_call 12; with_reducible refine (law_bit5 _ HN.out _).mono ?_; rw [B5.out]; rintro e wn ⟨rfl, rfl⟩))
              go_ret
              exact ⟨rfl, H.out.below⟩
            · cases g4
              · simp only [Bool.or_true, Bool.true_or, Bool.not_true, Bool.not_false, Bool.or_false, Bool.false_or, if_true, Bool.false_eq_true, if_false, Bool.or_self, Bool.and_true, Bool.and_false, Bool.true_and, Bool.false_and, Bool.and_self] at hc
                have HC := Lib.hid hc
                clear hc
                go_enter Try.func3, Try.ntmps3
                go_wp2_with (first
                      | (go_at_call 11; refine (speaks09  (by first | (first | with_reducible exact H.out | with_reducible exact H.out.p1 | with_reducible exact H.out.p2 | with_reducible exact H.out.p3 | with_reducible exact H.out.p4 | with_reducible exact H.out.p5) | ((repeat first | with_reducible refine St.drewN ?_ _ | with_reducible refine St.drew ?_ | with_reducible refine St.alloc ?_ _); first | with_reducible exact H.out | with_reducible exact H.out.p1 | with_reducible exact H.out.p2 | with_reducible exact H.out.p3 | with_reducible exact H.out.p4 | with_reducible exact H.out.p5))).mono ?_; rintro e wn ⟨rfl, h⟩; replace H := Lib.hid h; clear h)
                      | (go_at_call 13; refine (attr_read _ _).mono ?_; rw [B4.out, B5.out]; rintro e wn ⟨rfl, rfl⟩)
                      | (go_at_call 14; refine (attr_check _ HN.out _).mono ?_; rw [HC.out]; rintro e wn ⟨rfl, rfl⟩)
                      | (go_at_call 12; with_reducible refine (law_bit0 _ HN.out _).mono ?_; rw [B0.out]; rintro e wn ⟨rfl, rfl⟩)
                      | (go_at_call 12; with_reducible refine (law_bit1 _ HN.out _).mono ?_; rw [B1.out]; rintro e wn ⟨rfl, rfl⟩)
                      | (go_at_call 12; with_reducible refine (law_bit2 _ HN.out _).mono ?_; rw [B2.out]; rintro e wn ⟨rfl, rfl⟩)
                      | (go_at_call 12; with_reducible refine (law_bit3 _ HN.out _).mono ?_; rintro e wn ⟨rfl, rfl⟩)
                      | (go_at_call 12; with_reducible refine (law_bit4 _ HN.out _).mono ?_; rw [B4.out]; rintro e wn ⟨rfl, rfl⟩)
                      | (go_at_call 12; with_reducible refine (law_bit5 _ HN.out _).mono ?_; rw [B5.out]; rintro e wn ⟨rfl, rfl⟩))
                go_ret
                exact ⟨rfl, H.out.below⟩
              · simp only [Bool.or_true, Bool.true_or, Bool.not_true, Bool.not_false, Bool.or_false, Bool.false_or, if_true, Bool.false_eq_true, if_false, Bool.or_self, Bool.and_true, Bool.and_false, Bool.true_and, Bool.false_and, Bool.and_self] at hc
                have HC := Lib.hid hc
                clear hc
                go_enter Try.func3, Try.ntmps3
                go_wp2_with (first
                      | (go_at_call 11; refine (speaks09  (by first | (first | with_reducible exact H.out | with_reducible exact H.out.p1 | with_reducible exact H.out.p2 | with_reducible exact H.out.p3 | with_reducible exact H.out.p4 | with_reducible exact H.out.p5) | ((repeat first | with_reducible refine St.drewN ?_ _ | with_reducible refine St.drew ?_ | with_reducible refine St.alloc ?_ _); first | with_reducible exact H.out | with_reducible exact H.out.p1 | with_reducible exact H.out.p2 | with_reducible exact H.out.p3 | with_reducible exact H.out.p4 | with_reducible exact H.out.p5))).mono ?_; rintro e wn ⟨rfl, h⟩; replace H := Lib.hid h; clear h)
                      | (go_at_call 13; refine (attr_read _ _).mono ?_; rw [B4.out, B5.out]; rintro e wn ⟨rfl, rfl⟩)
                      | (go_at_call 14; refine (attr_check _ HN.out _).mono ?_; rw [HC.out]; rintro e wn ⟨rfl, rfl⟩)
                      | (go_at_call 12; with_reducible refine (law_bit0 _ HN.out _).mono ?_; rw [B0.out]; rintro e wn ⟨rfl, rfl⟩)
                      | (go_at_call 12; with_reducible refine (law_bit1 _ HN.out _).mono ?_; rw [B1.out]; rintro e wn ⟨rfl, rfl⟩)
                      | (go_at_call 12; with_reducible refine (law_bit2 _ HN.out _).mono ?_; rw [B2.out]; rintro e wn ⟨rfl, rfl⟩)
                      | (go_at_call 12; with_reducible refine (law_bit3 _ HN.out _).mono ?_; rintro e wn ⟨rfl, rfl⟩)
                      | (go_at_call 12; with_reducible refine (law_bit4 _ HN.out _).mono ?_; rw [B4.out]; rintro e wn ⟨rfl, rfl⟩)
                      | (go_at_call 12; with_reducible refine (law_bit5 _ HN.out _).mono ?_; rw [B5.out]; rintro e wn ⟨rfl, rfl⟩))
                go_ret
                exact ⟨rfl, H.out.below⟩
          · simp only [Bool.or_true, Bool.true_or, Bool.not_true, Bool.not_false, Bool.or_false, Bool.false_or, if_true, Bool.false_eq_true, if_false, Bool.or_self, Bool.and_true, Bool.and_false, Bool.true_and, Bool.false_and, Bool.and_self] at hc
            have HC := Lib.hid hc
            clear hc
            go_enter Try.func3, Try.ntmps3
            go_wp2_with (first
                  | (go_at_call 11; refine (speaks09  (by first | (first | with_reducible exact H.out | with_reducible exact H.out.p1 | with_reducible exact H.out.p2 | with_reducible exact H.out.p3 | with_reducible exact H.out.p4 | with_reducible exact H.out.p5) | ((repeat first | with_reducible refine St.drewN ?_ _ | with_reducible refine St.drew ?_ | with_reducible refine St.alloc ?_ _); first | with_reducible exact H.out | with_reducible exact H.out.p1 | with_reducible exact H.out.p2 | with_reducible exact H.out.p3 | with_reducible exact H.out.p4 | with_reducible exact H.out.p5))).mono ?_; rintro e wn ⟨rfl, h⟩; replace H := Lib.hid h; clear h)
                  | (go_at_call 13; refine (attr_read _ _).mono ?_; rw [B4.out, B5.out]; rintro e wn ⟨rfl, rfl⟩)
                  | (go_at_call 14; refine (attr_check _ HN.out _).mono ?_; rw [HC.out]; rintro e wn ⟨rfl, rfl⟩)
                  | (go_at_call 12; with_reducible refine (law_bit0 _ HN.out _).mono ?_; rw [B0.out]; rintro e wn ⟨rfl, rfl⟩)
                  | (go_at_call 12; with_reducible refine (law_bit1 _ HN.out _).mono ?_; rw [B1.out]; rintro e wn ⟨rfl, rfl⟩)
                  | (go_at_call 12; with_reducible refine (law_bit2 _ HN.out _).mono ?_; rw [B2.out]; rintro e wn ⟨rfl, rfl⟩)
                  | (go_at_call 12; with_reducible refine (law_bit3 _ HN.out _).mono ?_; rintro e wn ⟨rfl, rfl⟩)
                  | (go_at_call 12; with_reducible refine (law_bit4 _ HN.out _).mono ?_; rw [B4.out]; rintro e wn ⟨rfl, rfl⟩)
                  | (go_at_call 12; with_reducible refine (law_bit5 _ HN.out _).mono ?_; rw [B5.out]; rintro e wn ⟨rfl, rfl⟩))
            go_ret
            exact ⟨rfl, H.out.below⟩
        · simp only [Bool.or_true, Bool.true_or, Bool.not_true, Bool.not_false, Bool.or_false, Bool.false_or, if_true, Bool.false_eq_true, if_false, Bool.or_self, Bool.and_true, Bool.and_false, Bool.true_and, Bool.false_and, Bool.and_self] at hc
          have HC := Lib.hid hc
          clear hc
          go_enter Try.func3, Try.ntmps3
          go_wp2_with (first
                | (go_at_call 11; refine (speaks09  (by first | (first | with_reducible exact H.out | with_reducible exact H.out.p1 | with_reducible exact H.out.p2 | with_reducible exact H.out.p3 | with_reducible exact H.out.p4 | with_reducible exact H.out.p5) | ((repeat first | with_reducible refine St.drewN ?_ _ | with_reducible refine St.drew ?_ | with_reducible refine St.alloc ?_ _); first | with_reducible exact H.out | with_reducible exact H.out.p1 | with_reducible exact H.out.p2 | with_reducible exact H.out.p3 | with_reducible exact H.out.p4 | with_reducible exact H.out.p5))).mono ?_; rintro e wn ⟨rfl, h⟩; replace H := Lib.hid h; clear h)
                | (go_at_call 13; refine (attr_read _ _).mono ?_; rw [B4.out, B5.out]; rintro e wn ⟨rfl, rfl⟩)
                | (go_at_call 14; refine (attr_check _ HN.out _).mono ?_; rw [HC.out]; rintro e wn ⟨rfl, rfl⟩)
                | (go_at_call 12; with_reducible refine (law_bit0 _ HN.out _).mono ?_; rw [B0.out]; rintro e wn ⟨rfl, rfl⟩)
                | (go_at_call 12; with_reducible refine (law_bit1 _ HN.out _).mono ?_; rw [B1.out]; rintro e wn ⟨rfl, rfl⟩)
                | (go_at_call 12; with_reducible refine (law_bit2 _ HN.out _).mono ?_; rw [B2.out]; rintro e wn ⟨rfl, rfl⟩)
                | (go_at_call 12; with_reducible refine (law_bit3 _ HN.out _).mono ?_; rintro e wn ⟨rfl, rfl⟩)
                | (go_at_call 12; with_reducible refine (law_bit4 _ HN.out _).mono ?_; rw [B4.out]; rintro e wn ⟨rfl, rfl⟩)
                | (go_at_call 12; with_reducible refine (law_bit5 _ HN.out _).mono ?_; rw [B5.out]; rintro e wn ⟨rfl, rfl⟩))
          go_ret
          exact ⟨rfl, H.out.below⟩
      · simp only [Bool.or_true, Bool.true_or, Bool.not_true, Bool.not_false, Bool.or_false, Bool.false_or, if_true, Bool.false_eq_true, if_false, Bool.or_self, Bool.and_true, Bool.and_false, Bool.true_and, Bool.false_and, Bool.and_self] at hc
        have HC := Lib.hid hc
        clear hc
        go_enter Try.func3, Try.ntmps3
        go_wp2_with (first
              | (go_at_call 11; refine (speaks09  (by first | (first | with_reducible exact H.out | with_reducible exact H.out.p1 | with_reducible exact H.out.p2 | with_reducible exact H.out.p3 | with_reducible exact H.out.p4 | with_reducible exact H.out.p5) | ((repeat first | with_reducible refine St.drewN ?_ _ | with_reducible refine St.drew ?_ | with_reducible refine St.alloc ?_ _); first | with_reducible exact H.out | with_reducible exact H.out.p1 | with_reducible exact H.out.p2 | with_reducible exact H.out.p3 | with_reducible exact H.out.p4 | with_reducible exact H.out.p5))).mono ?_; rintro e wn ⟨rfl, h⟩; replace H := Lib.hid h; clear h)
              | (go_at_call 13; refine (attr_read _ _).mono ?_; rw [B4.out, B5.out]; rintro e wn ⟨rfl, rfl⟩)
              | (go_at_call 14; refine (attr_check _ HN.out _).mono ?_; rw [HC.out]; rintro e wn ⟨rfl, rfl⟩)
              | (go_at_call 12; with_reducible refine (law_bit0 _ HN.out _).mono ?_; rw [B0.out]; rintro e wn ⟨rfl, rfl⟩)
              | (go_at_call 12; with_reducible refine (law_bit1 _ HN.out _).mono ?_; rw [B1.out]; rintro e wn ⟨rfl, rfl⟩)
              | (go_at_call 12; with_reducible refine (law_bit2 _ HN.out _).mono ?_; rw [B2.out]; rintro e wn ⟨rfl, rfl⟩)
              | (go_at_call 12; with_reducible refine (law_bit3 _ HN.out _).mono ?_; rintro e wn ⟨rfl, rfl⟩)
              | (go_at_call 12; with_reducible refine (law_bit4 _ HN.out _).mono ?_; rw [B4.out]; rintro e wn ⟨rfl, rfl⟩)
              | (go_at_call 12; with_reducible refine (law_bit5 _ HN.out _).mono ?_; rw [B5.out]; rintro e wn ⟨rfl, rfl⟩))
        go_ret
        exact ⟨rfl, H.out.below⟩
    · simp only [Bool.or_true, Bool.true_or, Bool.not_true, Bool.not_false, Bool.or_false, Bool.false_or, if_true, Bool.false_eq_true, if_false, Bool.or_self, Bool.and_true, Bool.and_false, Bool.true_and, Bool.false_and, Bool.and_self] at hc
      have HC := Lib.hid hc
      clear hc
      go_enter Try.func3, Try.ntmps3
      go_wp2_with (first
            | (go_at_call 11; refine (speaks09  (by first | (first | with_reducible exact H.out | with_reducible exact H.out.p1 | with_reducible exact H.out.p2 | with_reducible exact H.out.p3 | with_reducible exact H.out.p4 | with_reducible exact H.out.p5) | ((repeat first | with_reducible refine St.drewN ?_ _ | with_reducible refine St.drew ?_ | with_reducible refine St.alloc ?_ _); first | with_reducible exact H.out | with_reducible exact H.out.p1 | with_reducible exact H.out.p2 | with_reducible exact H.out.p3 | with_reducible exact H.out.p4 | with_reducible exact H.out.p5))).mono ?_; rintro e wn ⟨rfl, h⟩; replace H := Lib.hid h; clear h)
            | (go_at_call 13; refine (attr_read _ _).mono ?_; rw [B4.out, B5.out]; rintro e wn ⟨rfl, rfl⟩)
            | (go_at_call 14; refine (attr_check _ HN.out _).mono ?_; rw [HC.out]; rintro e wn ⟨rfl, rfl⟩)
            | (go_at_call 12; with_reducible refine (law_bit0 _ HN.out _).mono ?_; rw [B0.out]; rintro e wn ⟨rfl, rfl⟩)
            | (go_at_call 12; with_reducible refine (law_bit1 _ HN.out _).mono ?_; rw [B1.out]; rintro e wn ⟨rfl, rfl⟩)
            | (go_at_call 12; with_reducible refine (law_bit2 _ HN.out _).mono ?_; rw [B2.out]; rintro e wn ⟨rfl, rfl⟩)
            | (go_at_call 12; with_reducible refine (law_bit3 _ HN.out _).mono ?_; rintro e wn ⟨rfl, rfl⟩)
            | (go_at_call 12; with_reducible refine (law_bit4 _ HN.out _).mono ?_; rw [B4.out]; rintro e wn ⟨rfl, rfl⟩)
            | (go_at_call 12; with_reducible refine (law_bit5 _ HN.out _).mono ?_; rw [B5.out]; rintro e wn ⟨rfl, rfl⟩))
      go_ret
      exact ⟨rfl, H.out.below⟩
  · simp only [Bool.or_true, Bool.true_or, Bool.not_true, Bool.not_false, Bool.or_false, Bool.false_or, if_true, Bool.false_eq_true, if_false, Bool.or_self, Bool.and_true, Bool.and_false, Bool.true_and, Bool.false_and, Bool.and_self] at hc
    have HC := Lib.hid hc
    clear hc
    go_enter Try.func3, Try.ntmps3
    go_wp2_with (first
          | (go_at_call 11; refine (speaks09  (by first | (first | with_reducible exact H.out | with_reducible exact H.out.p1 | with_reducible exact H.out.p2 | with_reducible exact H.out.p3 | with_reducible exact H.out.p4 | with_reducible exact H.out.p5) | ((repeat first | with_reducible refine St.drewN ?_ _ | with_reducible refine St.drew ?_ | with_reducible refine St.alloc ?_ _); first | with_reducible exact H.out | with_reducible exact H.out.p1 | with_reducible exact H.out.p2 | with_reducible exact H.out.p3 | with_reducible exact H.out.p4 | with_reducible exact H.out.p5))).mono ?_; rintro e wn ⟨rfl, h⟩; replace H := Lib.hid h; clear h)
          | (go_at_call 13; refine (attr_read _ _).mono ?_; rw [B4.out, B5.out]; rintro e wn ⟨rfl, rfl⟩)
          | (go_at_call 14; refine (attr_check _ HN.out _).mono ?_; rw [HC.out]; rintro e wn ⟨rfl, rfl⟩)
          | (go_at_call 12; with_reducible refine (law_bit0 _ HN.out _).mono ?_; rw [B0.out]; rintro e wn ⟨rfl, rfl⟩)
          | (go_at_call 12; with_reducible refine (law_bit1 _ HN.out _).mono ?_; rw [B1.out]; rintro e wn ⟨rfl, rfl⟩)
          | (go_at_call 12; with_reducible refine (law_bit2 _ HN.out _).mono ?_; rw [B2.out]; rintro e wn ⟨rfl, rfl⟩)
          | (go_at_call 12; with_reducible refine (law_bit3 _ HN.out _).mono ?_; rintro e wn ⟨rfl, rfl⟩)
          | (go_at_call 12; with_reducible refine (law_bit4 _ HN.out _).mono ?_; rw [B4.out]; rintro e wn ⟨rfl, rfl⟩)
          | (go_at_call 12; with_reducible refine (law_bit5 _ HN.out _).mono ?_; rw [B5.out]; rintro e wn ⟨rfl, rfl⟩))
    go_ret
    exact ⟨rfl, H.out.below⟩

end Go.Proofs.Ytngnhdiafbjfkaa
