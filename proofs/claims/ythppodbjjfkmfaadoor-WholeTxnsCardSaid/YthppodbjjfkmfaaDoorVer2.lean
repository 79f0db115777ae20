/- Requests, their versions and names. -/
import Derived.Test.YthppodbjjfkmfaaDoorVer1
import Derived.RegionTactic
import Derived.Deep.DeepCutAuto
namespace Go.Proofs.YthppodbjjfkmfaaDoor
open Go.RowKit

/-- The error of a request and its version. -/
def verErr (kind v : Int) : Int := if (reqOf kind).2.2.2.2 then (if v < (reqOf kind).2.2.1 ∨ (reqOf kind).2.2.2.1 < v then 7 else 0) else 12
set_option maxHeartbeats 1000000 in
set_option maxRecDepth 100000 in
theorem ver_check (kind v : Int) (q : Int) (hq : verErr kind v = q) {W0 w : World} {K : Know} {L : List Res} (hk : K.has Know.reqs) (h : St W0 w K L) :
    Calls Tryd.prog 18 #[.int .i64 kind, .int .i64 v] w fun en w' => en = .returned (.int .i64 q) ∧ St W0 w' K L := by
  obtain ⟨⟨a, nm, lo, hi, ok⟩, hx⟩ : ∃ p, reqOf kind = p := ⟨_, rfl⟩
  have HX := Lib.hid hx
  have HK := Lib.hid hk
  have H := Lib.hid h
  clear h hk
  unfold verErr at hq
  rw [hx] at hq
  simp only at hq
  clear hx
  cases ok with
  | false =>
    obtain rfl : (12 : Int) = q := hq
    go_enter Tryd.func18, Tryd.ntmps18
    go_wp2_with (go_at_call 41; (with_reducible refine (ver_find kind a nm lo hi _ HX.out HK.out H.out).mono ?_); rintro e wn ⟨rfl, h⟩; have h := h.allocRaw #[.int .i64 a, .string (bb nm), .int .i64 lo, .int .i64 hi] 75; obtain ⟨rb, hrb⟩ : ∃ b, wn.heap.size = b := ⟨_, rfl⟩; rw [hrb] at h; have x0 := h.rawCell 0; have x1 := h.rawCell 1; have x2 := h.rawCell 2; have x3 := h.rawCell 3; simp at x0 x1 x2 x3; replace H := Lib.hid h; clear h)
    go_ret
    exact ⟨rfl, H.out.drop⟩
  | true =>
    by_cases h1 : v < lo
    · obtain rfl : (7 : Int) = q := by rw [if_pos rfl, if_pos (.inl h1)] at hq; exact hq
      clear hq
      have d1 : decide (v < lo) = true := decide_eq_true h1
      go_enter Tryd.func18, Tryd.ntmps18
      go_wp2_with (go_at_call 41; (with_reducible refine (ver_find kind a nm lo hi _ HX.out HK.out H.out).mono ?_); rintro e wn ⟨rfl, h⟩; have h := h.allocRaw #[.int .i64 a, .string (bb nm), .int .i64 lo, .int .i64 hi] 75; obtain ⟨rb, hrb⟩ : ∃ b, wn.heap.size = b := ⟨_, rfl⟩; rw [hrb] at h; have x0 := h.rawCell 0; have x1 := h.rawCell 1; have x2 := h.rawCell 2; have x3 := h.rawCell 3; simp at x0 x1 x2 x3; replace H := Lib.hid h; clear h)
      go_ret
      exact ⟨rfl, H.out.drop⟩
    · by_cases h2 : hi < v
      · obtain rfl : (7 : Int) = q := by rw [if_pos rfl, if_pos (.inr h2)] at hq; exact hq
        clear hq
        have d1 : decide (v < lo) = false := decide_eq_false h1
        have d2 : decide (hi < v) = true := decide_eq_true h2
        go_enter Tryd.func18, Tryd.ntmps18
        go_wp2_with (go_at_call 41; (with_reducible refine (ver_find kind a nm lo hi _ HX.out HK.out H.out).mono ?_); rintro e wn ⟨rfl, h⟩; have h := h.allocRaw #[.int .i64 a, .string (bb nm), .int .i64 lo, .int .i64 hi] 75; obtain ⟨rb, hrb⟩ : ∃ b, wn.heap.size = b := ⟨_, rfl⟩; rw [hrb] at h; have x0 := h.rawCell 0; have x1 := h.rawCell 1; have x2 := h.rawCell 2; have x3 := h.rawCell 3; simp at x0 x1 x2 x3; replace H := Lib.hid h; clear h)
        go_ret
        exact ⟨rfl, H.out.drop⟩
      · obtain rfl : (0 : Int) = q := by rw [if_pos rfl, if_neg (by omega)] at hq; exact hq
        clear hq
        have d1 : decide (v < lo) = false := decide_eq_false h1
        have d2 : decide (hi < v) = false := decide_eq_false h2
        go_enter Tryd.func18, Tryd.ntmps18
        go_wp2_with (go_at_call 41; (with_reducible refine (ver_find kind a nm lo hi _ HX.out HK.out H.out).mono ?_); rintro e wn ⟨rfl, h⟩; have h := h.allocRaw #[.int .i64 a, .string (bb nm), .int .i64 lo, .int .i64 hi] 75; obtain ⟨rb, hrb⟩ : ∃ b, wn.heap.size = b := ⟨_, rfl⟩; rw [hrb] at h; have x0 := h.rawCell 0; have x1 := h.rawCell 1; have x2 := h.rawCell 2; have x3 := h.rawCell 3; simp at x0 x1 x2 x3; replace H := Lib.hid h; clear h)
        go_ret
        exact ⟨rfl, H.out.drop⟩
end Go.Proofs.YthppodbjjfkmfaaDoor
