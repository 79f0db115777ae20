/- Requests, their versions and names. -/
import Derived.Test.YtngnhdiafbjfkaaDoorVer1
import Derived.RegionTactic
import Derived.Deep.DeepCutAuto
namespace Go.Proofs.YtngnhdiafbjfkaaDoor
open Go.RowKit

set_option maxHeartbeats 1000000 in
set_option maxRecDepth 100000 in
theorem ver_range (kind : Int) (a : Int) (nm : Bs) (lo hi : Int) (ok : Bool) (hx : reqOf kind = (a, nm, lo, hi, ok)) {W0 w : World} {K : Know} {L : List Res} (hk : K.has Know.reqs) (h : St W0 w K L) :
    Calls Tryd.prog 9 #[.int .i64 kind] w fun en w' => en = .returned (.tuple #[.int .i64 lo, .int .i64 hi, .bool ok]) ∧ St W0 w' K L := by
  have H := Lib.hid h
  have HX := Lib.hid hx
  have HK := Lib.hid hk
  clear h hx hk
  go_enter Tryd.func9, Tryd.ntmps9
  go_upto_region 2 with (go_at_call 25; (with_reducible refine (ver_find kind a nm lo hi _ HX.out HK.out H.out).mono ?_); rintro e wn ⟨rfl, h⟩; have h := h.allocRaw #[.int .i64 a, .string (bb nm), .int .i64 lo, .int .i64 hi] 59; obtain ⟨rb, hrb⟩ : ∃ b, wn.heap.size = b := ⟨_, rfl⟩; rw [hrb] at h; have x0 := h.rawCell 0; have x1 := h.rawCell 1; have x2 := h.rawCell 2; have x3 := h.rawCell 3; simp at x0 x1 x2 x3; replace H := Lib.hid h; clear h)
  have hs := H.out.drew
  go_region
  go_wp2
  go_ret3
  exact ⟨rfl, hs.drop⟩
set_option maxHeartbeats 1000000 in
set_option maxRecDepth 100000 in
theorem ver_name (kind : Int) (a : Int) (nm : Bs) (lo hi : Int) (ok : Bool) (hx : reqOf kind = (a, nm, lo, hi, ok)) {W0 w : World} {K : Know} {L : List Res} (hk : K.has Know.reqs) (h : St W0 w K L) :
    Calls Tryd.prog 10 #[.int .i64 kind] w fun en w' => en = .returned (.string (bb nm)) ∧ St W0 w' K L := by
  have H := Lib.hid h
  have HX := Lib.hid hx
  have HK := Lib.hid hk
  clear h hx hk
  go_enter Tryd.func10, Tryd.ntmps10
  go_wp2_with (go_at_call 25; (with_reducible refine (ver_find kind a nm lo hi _ HX.out HK.out H.out).mono ?_); rintro e wn ⟨rfl, h⟩; have h := h.allocRaw #[.int .i64 a, .string (bb nm), .int .i64 lo, .int .i64 hi] 59; obtain ⟨rb, hrb⟩ : ∃ b, wn.heap.size = b := ⟨_, rfl⟩; rw [hrb] at h; have x0 := h.rawCell 0; have x1 := h.rawCell 1; have x2 := h.rawCell 2; have x3 := h.rawCell 3; simp at x0 x1 x2 x3; replace H := Lib.hid h; clear h)
  go_ret
  exact ⟨rfl, H.out.drop⟩
/-- The error of a request and its version. -/
def verErr (kind v : Int) : Int := if (reqOf kind).2.2.2.2 then (if v < (reqOf kind).2.2.1 ∨ (reqOf kind).2.2.2.1 < v then 7 else 0) else 12
set_option maxHeartbeats 1000000 in
set_option maxRecDepth 100000 in
theorem ver_check (kind v : Int) (q : Int) (hq : verErr kind v = q) {W0 w : World} {K : Know} {L : List Res} (hk : K.has Know.reqs) (h : St W0 w K L) :
    Calls Tryd.prog 11 #[.int .i64 kind, .int .i64 v] w fun en w' => en = .returned (.int .i64 q) ∧ St W0 w' K L := by
  obtain ⟨⟨a, nm, lo, hi, ok⟩, hx⟩ : ∃ p, reqOf kind = p := ⟨_, rfl⟩
  have HX := Lib.hid hx
  have HK := Lib.hid hk
  have H := Lib.hid h
  clear h hk
  unfold verErr at hq
  rw [hx] at hq
  simp only at hq
  clear hx
  cases ok with
  | false =>
    obtain rfl : (12 : Int) = q := hq
    go_enter Tryd.func11, Tryd.ntmps11
    go_wp2_with (go_at_call 25; (with_reducible refine (ver_find kind a nm lo hi _ HX.out HK.out H.out).mono ?_); rintro e wn ⟨rfl, h⟩; have h := h.allocRaw #[.int .i64 a, .string (bb nm), .int .i64 lo, .int .i64 hi] 59; obtain ⟨rb, hrb⟩ : ∃ b, wn.heap.size = b := ⟨_, rfl⟩; rw [hrb] at h; have x0 := h.rawCell 0; have x1 := h.rawCell 1; have x2 := h.rawCell 2; have x3 := h.rawCell 3; simp at x0 x1 x2 x3; replace H := Lib.hid h; clear h)
    go_ret
    exact ⟨rfl, H.out.drop⟩
  | true =>
    by_cases h1 : v < lo
    · obtain rfl : (7 : Int) = q := by rw [if_pos rfl, if_pos (.inl h1)] at hq; exact hq
      clear hq
      have d1 : decide (v < lo) = true := decide_eq_true h1
      go_enter Tryd.func11, Tryd.ntmps11
      go_wp2_with (go_at_call 25; (with_reducible refine (ver_find kind a nm lo hi _ HX.out HK.out H.out).mono ?_); rintro e wn ⟨rfl, h⟩; have h := h.allocRaw #[.int .i64 a, .string (bb nm), .int .i64 lo, .int .i64 hi] 59; obtain ⟨rb, hrb⟩ : ∃ b, wn.heap.size = b := ⟨_, rfl⟩; rw [hrb] at h; have x0 := h.rawCell 0; have x1 := h.rawCell 1; have x2 := h.rawCell 2; have x3 := h.rawCell 3; simp at x0 x1 x2 x3; replace H := Lib.hid h; clear h)
      go_ret
      exact ⟨rfl, H.out.drop⟩
    · by_cases h2 : hi < v
      · obtain rfl : (7 : Int) = q := by rw [if_pos rfl, if_pos (.inr h2)] at hq; exact hq
        clear hq
        have d1 : decide (v < lo) = false := decide_eq_false h1
        have d2 : decide (hi < v) = true := decide_eq_true h2
        go_enter Tryd.func11, Tryd.ntmps11
        go_wp2_with (go_at_call 25; (with_reducible refine (ver_find kind a nm lo hi _ HX.out HK.out H.out).mono ?_); rintro e wn ⟨rfl, h⟩; have h := h.allocRaw #[.int .i64 a, .string (bb nm), .int .i64 lo, .int .i64 hi] 59; obtain ⟨rb, hrb⟩ : ∃ b, wn.heap.size = b := ⟨_, rfl⟩; rw [hrb] at h; have x0 := h.rawCell 0; have x1 := h.rawCell 1; have x2 := h.rawCell 2; have x3 := h.rawCell 3; simp at x0 x1 x2 x3; replace H := Lib.hid h; clear h)
        go_ret
        exact ⟨rfl, H.out.drop⟩
      · obtain rfl : (0 : Int) = q := by rw [if_pos rfl, if_neg (by omega)] at hq; exact hq
        clear hq
        have d1 : decide (v < lo) = false := decide_eq_false h1
        have d2 : decide (hi < v) = false := decide_eq_false h2
        go_enter Tryd.func11, Tryd.ntmps11
        go_wp2_with (go_at_call 25; (with_reducible refine (ver_find kind a nm lo hi _ HX.out HK.out H.out).mono ?_); rintro e wn ⟨rfl, h⟩; have h := h.allocRaw #[.int .i64 a, .string (bb nm), .int .i64 lo, .int .i64 hi] 59; obtain ⟨rb, hrb⟩ : ∃ b, wn.heap.size = b := ⟨_, rfl⟩; rw [hrb] at h; have x0 := h.rawCell 0; have x1 := h.rawCell 1; have x2 := h.rawCell 2; have x3 := h.rawCell 3; simp at x0 x1 x2 x3; replace H := Lib.hid h; clear h)
        go_ret
        exact ⟨rfl, H.out.drop⟩
set_option maxHeartbeats 1000000 in
set_option maxRecDepth 100000 in
theorem law16_known (kind : Int) (a : Int) (nm : Bs) (lo hi : Int) (ok : Bool) (hx : reqOf kind = (a, nm, lo, hi, ok)) {W0 w : World} {K : Know} {L : List Res} (h : St W0 w K L) :
    Calls Tryd.prog 8 #[.int .i64 kind] w fun en w' => en = .returned (.tuple #[.int .i64 lo, .int .i64 hi, .string (bb nm)]) ∧ St W0 w' K L := by
  have H := Lib.hid h
  clear h
  by_cases e0 : kind = 0
  · subst e0
    have e : reqOf 0 = (0, [112, 114, 111, 100, 117, 99, 101], 3, 4, true) := by decide
    rw [e] at hx
    simp only [Prod.mk.injEq] at hx
    obtain ⟨rfl, rfl, rfl, rfl, rfl⟩ := hx
    clear e
    go_enter Tryd.func8, Tryd.ntmps8
    go_wp2
    go_ret3
    exact ⟨rfl, H.out⟩
  by_cases e1 : kind = 22
  · subst e1
    have e : reqOf 22 = (22, [98, 101, 103, 105, 110], 0, 1, true) := by decide
    rw [e] at hx
    simp only [Prod.mk.injEq] at hx
    obtain ⟨rfl, rfl, rfl, rfl, rfl⟩ := hx
    clear e
    go_enter Tryd.func8, Tryd.ntmps8
    go_wp2
    go_ret3
    exact ⟨rfl, H.out⟩
  by_cases e2 : kind = 24
  · subst e2
    have e : reqOf 24 = (24, [97, 100, 100], 0, 0, true) := by decide
    rw [e] at hx
    simp only [Prod.mk.injEq] at hx
    obtain ⟨rfl, rfl, rfl, rfl, rfl⟩ := hx
    clear e
    go_enter Tryd.func8, Tryd.ntmps8
    go_wp2
    go_ret3
    exact ⟨rfl, H.out⟩
  by_cases e3 : kind = 26
  · subst e3
    have e : reqOf 26 = (26, [101, 110, 100], 0, 0, true) := by decide
    rw [e] at hx
    simp only [Prod.mk.injEq] at hx
    obtain ⟨rfl, rfl, rfl, rfl, rfl⟩ := hx
    clear e
    go_enter Tryd.func8, Tryd.ntmps8
    go_wp2
    go_ret3
    exact ⟨rfl, H.out⟩
  by_cases e4 : kind = 27
  · subst e4
    have e : reqOf 27 = (27, [109, 97, 114, 107], 0, 1, true) := by decide
    rw [e] at hx
    simp only [Prod.mk.injEq] at hx
    obtain ⟨rfl, rfl, rfl, rfl, rfl⟩ := hx
    clear e
    go_enter Tryd.func8, Tryd.ntmps8
    go_wp2
    go_ret3
    exact ⟨rfl, H.out⟩
  have e : reqOf kind = (0, [], 0, 0, false) := reqOf_none kind (by
    intro k hk
    simp only [kindAt, List.mem_cons, List.not_mem_nil, or_false] at hk
    rcases hk with rfl | rfl | rfl | rfl | rfl <;> assumption)
  rw [e] at hx
  simp only [Prod.mk.injEq] at hx
  obtain ⟨rfl, rfl, rfl, rfl, rfl⟩ := hx
  clear e
  have b0 : (kind == 0) = false := by rw [beq_eq_false_iff_ne]; exact e0
  have b1 : (kind == 22) = false := by rw [beq_eq_false_iff_ne]; exact e1
  have b2 : (kind == 24) = false := by rw [beq_eq_false_iff_ne]; exact e2
  have b3 : (kind == 26) = false := by rw [beq_eq_false_iff_ne]; exact e3
  have b4 : (kind == 27) = false := by rw [beq_eq_false_iff_ne]; exact e4
  clear e0 e1 e2 e3 e4
  go_enter Tryd.func8, Tryd.ntmps8
  go_wp2
  go_ret3
  exact ⟨rfl, H.out⟩

set_option maxHeartbeats 1000000 in
set_option maxRecDepth 100000 in
theorem speaks16 {W0 w : World} {K : Know} {L : List Res} (hk : K.has Know.reqs) (h : St W0 w K L) :
    Calls Tryd.prog 7 #[] w fun en w' => en = .returned (.bool true) ∧ St W0 w' K L := by
  have H := Lib.hid h
  have HK := Lib.hid hk
  clear h hk
  go_enter Tryd.func7, Tryd.ntmps7
  go_wp2_with (first
    | (go_at_call 11; (with_reducible refine (ver_check 22 1 0 (by decide) HK.out H.out).mono ?_); rintro e wn ⟨rfl, h⟩; replace H := Lib.hid h; clear h)
    | (go_at_call 11; (with_reducible refine (ver_check 22 2 7 (by decide) HK.out H.out).mono ?_); rintro e wn ⟨rfl, h⟩; replace H := Lib.hid h; clear h)
    | (go_at_call 11; (with_reducible refine (ver_check 21 0 12 (by decide) HK.out H.out).mono ?_); rintro e wn ⟨rfl, h⟩; replace H := Lib.hid h; clear h))
  go_ret
  exact ⟨rfl, H.out⟩

end Go.Proofs.YtngnhdiafbjfkaaDoor
