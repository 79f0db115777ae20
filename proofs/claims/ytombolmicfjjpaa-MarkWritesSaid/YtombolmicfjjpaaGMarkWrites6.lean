/- Whether two rows of numbers are one. -/
import Derived.Test.YtombolmicfjjpaaGMarkWrites4
import Derived.Test.YtombolmicfjjpaaGMarkWrites5
import Derived.Test.YtombolmicfjjpaaGMarkWrites2
import Derived.Handy
import Derived.Test.YtombolmicfjjpaaRef06
import Derived.BigQuiet
/- Requests of transactions: what is wrong with them. -/
namespace Go.Proofs.Ytombolmicfjjpaa
open Go.RowKit

set_option maxHeartbeats 2000000 in
set_option maxRecDepth 100000 in
theorem beg_was (v : Int) (nl : Bool) (d : Bs) (tm p e : Int) (r : Bool) (hr : was v p e = r) {W0 w : World} {K : Know} {L : List Res} (h : St W0 w K L) :
    Calls Try.prog 122 #[.agg #[.bool nl, .string (bb d), .int .i64 tm, .int .i64 p, .int .i64 e], .int .i64 v] w fun en w' => en = .returned (.bool r) ∧ St W0 w' K L := by
  have H := Lib.hid (h.allocRaw #[.bool nl, .string (bb d), .int .i64 tm, .int .i64 p, .int .i64 e] 141)
  subst hr
  obtain ⟨c, hc⟩ : ∃ c, who p e = c := ⟨_, rfl⟩
  have HW := Lib.hid hc
  unfold was
  rw [hc]
  clear h hc
  by_cases h1 : p = -1
  · have g1 : (p == -1) = true := by rw [beq_iff_eq]; exact h1
    by_cases h2 : e = -1
    · have g2 : (e == -1) = true := by rw [beq_iff_eq]; exact h2
      rw [g1, g2]
      clear h1 h2
      go_enter Try.func122, Try.ntmps122
      go_wp2_with (first
    | (go_at_call 46; (with_reducible refine (txn_who p e _ HW.out H.out).mono ?_); rintro e_ wn ⟨rfl, h⟩; replace H := Lib.hid h; clear h))
      go_ret
      exact ⟨rfl, H.out.drop⟩
    · have g2 : (e == -1) = false := by rw [beq_eq_false_iff_ne]; exact h2
      rw [g1, g2]
      clear h1 h2
      by_cases h3 : v = 1
      · have g3 : (v == 1) = true := by rw [beq_iff_eq]; exact h3
        rw [g3]
        clear h3
        cases c with
        | true =>
          go_enter Try.func122, Try.ntmps122
          go_wp2_with (first
    | (go_at_call 46; (with_reducible refine (txn_who p e _ HW.out H.out).mono ?_); rintro e_ wn ⟨rfl, h⟩; replace H := Lib.hid h; clear h))
          go_ret
          exact ⟨rfl, H.out.drop⟩
        | false =>
          go_enter Try.func122, Try.ntmps122
          go_wp2_with (first
    | (go_at_call 46; (with_reducible refine (txn_who p e _ HW.out H.out).mono ?_); rintro e_ wn ⟨rfl, h⟩; replace H := Lib.hid h; clear h))
          go_ret
          exact ⟨rfl, H.out.drop⟩
      · have g3 : (v == 1) = false := by rw [beq_eq_false_iff_ne]; exact h3
        rw [g3]
        clear h3
        go_enter Try.func122, Try.ntmps122
        go_wp2_with (first
    | (go_at_call 46; (with_reducible refine (txn_who p e _ HW.out H.out).mono ?_); rintro e_ wn ⟨rfl, h⟩; replace H := Lib.hid h; clear h))
        go_ret
        exact ⟨rfl, H.out.drop⟩
  · have g1 : (p == -1) = false := by rw [beq_eq_false_iff_ne]; exact h1
    rw [g1]
    clear h1
    by_cases h3 : v = 1
    · have g3 : (v == 1) = true := by rw [beq_iff_eq]; exact h3
      rw [g3]
      clear h3
      cases c with
      | true =>
        go_enter Try.func122, Try.ntmps122
        go_wp2_with (first
    | (go_at_call 46; (with_reducible refine (txn_who p e _ HW.out H.out).mono ?_); rintro e_ wn ⟨rfl, h⟩; replace H := Lib.hid h; clear h))
        go_ret
        exact ⟨rfl, H.out.drop⟩
      | false =>
        go_enter Try.func122, Try.ntmps122
        go_wp2_with (first
    | (go_at_call 46; (with_reducible refine (txn_who p e _ HW.out H.out).mono ?_); rintro e_ wn ⟨rfl, h⟩; replace H := Lib.hid h; clear h))
        go_ret
        exact ⟨rfl, H.out.drop⟩
    · have g3 : (v == 1) = false := by rw [beq_eq_false_iff_ne]; exact h3
      rw [g3]
      clear h3
      go_enter Try.func122, Try.ntmps122
      go_wp2_with (first
    | (go_at_call 46; (with_reducible refine (txn_who p e _ HW.out H.out).mono ?_); rintro e_ wn ⟨rfl, h⟩; replace H := Lib.hid h; clear h))
      go_ret
      exact ⟨rfl, H.out.drop⟩

theorem blob_rightQT (u : Bool) (d : Bs) (r : Bool) (hr : (⟨u, d⟩ : BlobS).right = r) {W0 w : World} {K : Know} {L : List Res} (h : St W0 w K L) :
    Calls Try.prog 121 #[.agg #[.bool u, .string (bb d)]] w fun en w' => en = .returned (.bool r) ∧ St W0 w' K L := by
  subst hr; exact blob_right ⟨u, d⟩ h
set_option maxHeartbeats 8000000 in
set_option maxRecDepth 100000 in
theorem beg_check (v : Int) (nl : Bool) (d : Bs) (tm p e : Int) (r : Int) (hr : begE v nl d tm p e = r) (hl : d.length ≤ 140737488355328) {W0 w : World} {K : Know} {L : List Res} (h : St W0 w K L) :
    Calls Try.prog 93 #[.agg #[.bool nl, .string (bb d), .int .i64 tm, .int .i64 p, .int .i64 e], .int .i64 v] w fun en w' => en = .returned (.int .i64 r) ∧ St W0 w' K L := by
  have H := Lib.hid (h.allocRaw #[.bool nl, .string (bb d), .int .i64 tm, .int .i64 p, .int .i64 e] 141)
  have HDL := Lib.hid hl
  clear h hl
  cases nl with
  | true =>
    by_cases hd : d = []
    · subst hd
      have HBR := Lib.hid (show (⟨true, []⟩ : BlobS).right = true from rfl)
      rw [show begE v true [] tm p e = if tm < 0 ∨ 2147483647 < tm then 11 else if was v p e = false then 11 else 0 by unfold begE; rw [show idOk true [] = true from rfl]; rfl] at hr
      by_cases h1 : tm < 0
      · rw [if_pos (.inl h1)] at hr
        subst hr
        go_enter Try.func93, Try.ntmps93
        go_wp2_with (first
    | (go_at_call 121; (with_reducible refine (blob_rightQT _ [] _ HBR.out H.out).mono ?_); rintro e_ wn ⟨rfl, h⟩; have c0 := h.rawCell 0; have c1 := h.rawCell 1; have c2 := h.rawCell 2; have c3 := h.rawCell 3; have c4 := h.rawCell 4; simp at c0 c1 c2 c3 c4; replace H := Lib.hid h; clear h)
    | (go_at_call 122; (with_reducible refine (beg_was v true [] tm p e _ HWS.out H.out).mono ?_); rintro e_ wn ⟨rfl, h⟩; replace H := Lib.hid h; clear h))
        go_ret
        exact ⟨rfl, H.out.drop⟩
      by_cases h2 : 2147483647 < tm
      · rw [if_pos (.inr h2)] at hr
        subst hr
        go_enter Try.func93, Try.ntmps93
        go_wp2_with (first
    | (go_at_call 121; (with_reducible refine (blob_rightQT _ [] _ HBR.out H.out).mono ?_); rintro e_ wn ⟨rfl, h⟩; have c0 := h.rawCell 0; have c1 := h.rawCell 1; have c2 := h.rawCell 2; have c3 := h.rawCell 3; have c4 := h.rawCell 4; simp at c0 c1 c2 c3 c4; replace H := Lib.hid h; clear h)
    | (go_at_call 122; (with_reducible refine (beg_was v true [] tm p e _ HWS.out H.out).mono ?_); rintro e_ wn ⟨rfl, h⟩; replace H := Lib.hid h; clear h))
        go_ret
        exact ⟨rfl, H.out.drop⟩
      rw [if_neg (by omega)] at hr
      obtain ⟨ws, hws⟩ : ∃ ws, was v p e = ws := ⟨_, rfl⟩
      have HWS := Lib.hid hws
      rw [hws] at hr
      clear hws
      cases ws with
      | true =>
        obtain rfl : (0 : Int) = r := hr
        go_enter Try.func93, Try.ntmps93
        go_wp2_with (first
    | (go_at_call 121; (with_reducible refine (blob_rightQT _ [] _ HBR.out H.out).mono ?_); rintro e_ wn ⟨rfl, h⟩; have c0 := h.rawCell 0; have c1 := h.rawCell 1; have c2 := h.rawCell 2; have c3 := h.rawCell 3; have c4 := h.rawCell 4; simp at c0 c1 c2 c3 c4; replace H := Lib.hid h; clear h)
    | (go_at_call 122; (with_reducible refine (beg_was v true [] tm p e _ HWS.out H.out).mono ?_); rintro e_ wn ⟨rfl, h⟩; replace H := Lib.hid h; clear h))
        go_ret
        exact ⟨rfl, H.out.drop⟩
      | false =>
        obtain rfl : (11 : Int) = r := hr
        go_enter Try.func93, Try.ntmps93
        go_wp2_with (first
    | (go_at_call 121; (with_reducible refine (blob_rightQT _ [] _ HBR.out H.out).mono ?_); rintro e_ wn ⟨rfl, h⟩; have c0 := h.rawCell 0; have c1 := h.rawCell 1; have c2 := h.rawCell 2; have c3 := h.rawCell 3; have c4 := h.rawCell 4; simp at c0 c1 c2 c3 c4; replace H := Lib.hid h; clear h)
    | (go_at_call 122; (with_reducible refine (beg_was v true [] tm p e _ HWS.out H.out).mono ?_); rintro e_ wn ⟨rfl, h⟩; replace H := Lib.hid h; clear h))
        go_ret
        exact ⟨rfl, H.out.drop⟩
    · have HBR := Lib.hid (show (⟨true, d⟩ : BlobS).right = false by unfold BlobS.right; cases d with | nil => exact absurd rfl hd | cons _ _ => rfl)
      have hid : idOk true d = false := by cases d with | nil => exact absurd rfl hd | cons _ _ => rfl
      obtain rfl : (4 : Int) = r := by rw [← hr]; unfold begE; rw [hid]; rfl
      clear hr hid hd
      go_enter Try.func93, Try.ntmps93
      go_wp2_with (first
    | (go_at_call 121; (with_reducible refine (blob_rightQT _ d _ HBR.out H.out).mono ?_); rintro e_ wn ⟨rfl, h⟩; have c0 := h.rawCell 0; have c1 := h.rawCell 1; have c2 := h.rawCell 2; have c3 := h.rawCell 3; have c4 := h.rawCell 4; simp at c0 c1 c2 c3 c4; replace H := Lib.hid h; clear h))
      go_ret
      exact ⟨rfl, H.out.drop⟩
  | false =>
    have HBR := Lib.hid (show (⟨false, d⟩ : BlobS).right = true from rfl)
    obtain ⟨kr, hkr⟩ : ∃ kr, keyRight d = kr := ⟨_, rfl⟩
    have HKR := Lib.hid hkr
    cases kr with
    | true =>
      have hid : idOk false d = true := hkr
      rw [show begE v false d tm p e = if tm < 0 ∨ 2147483647 < tm then 11 else if was v p e = false then 11 else 0 by unfold begE; rw [hid]; rfl] at hr
      clear hid hkr 
      by_cases h1 : tm < 0
      · rw [if_pos (.inl h1)] at hr
        subst hr
        go_enter Try.func93, Try.ntmps93
        go_wp2_with (first
    | (go_at_call 121; (with_reducible refine (blob_rightQT _ d _ HBR.out H.out).mono ?_); rintro e_ wn ⟨rfl, h⟩; have c0 := h.rawCell 0; have c1 := h.rawCell 1; have c2 := h.rawCell 2; have c3 := h.rawCell 3; have c4 := h.rawCell 4; simp at c0 c1 c2 c3 c4; replace H := Lib.hid h; clear h)
    | (go_at_call 89; (with_reducible refine (key_right' d _ HDL.out HKR.out H.out).mono ?_); rintro e_ wn ⟨rfl, h⟩; have c0 := h.rawCell 0; have c1 := h.rawCell 1; have c2 := h.rawCell 2; have c3 := h.rawCell 3; have c4 := h.rawCell 4; simp at c0 c1 c2 c3 c4; replace H := Lib.hid h; clear h)
    | (go_at_call 122; (with_reducible refine (beg_was v false d tm p e _ HWS.out H.out).mono ?_); rintro e_ wn ⟨rfl, h⟩; replace H := Lib.hid h; clear h))
        go_ret
        exact ⟨rfl, H.out.drop⟩
      by_cases h2 : 2147483647 < tm
      · rw [if_pos (.inr h2)] at hr
        subst hr
        go_enter Try.func93, Try.ntmps93
        go_wp2_with (first
    | (go_at_call 121; (with_reducible refine (blob_rightQT _ d _ HBR.out H.out).mono ?_); rintro e_ wn ⟨rfl, h⟩; have c0 := h.rawCell 0; have c1 := h.rawCell 1; have c2 := h.rawCell 2; have c3 := h.rawCell 3; have c4 := h.rawCell 4; simp at c0 c1 c2 c3 c4; replace H := Lib.hid h; clear h)
    | (go_at_call 89; (with_reducible refine (key_right' d _ HDL.out HKR.out H.out).mono ?_); rintro e_ wn ⟨rfl, h⟩; have c0 := h.rawCell 0; have c1 := h.rawCell 1; have c2 := h.rawCell 2; have c3 := h.rawCell 3; have c4 := h.rawCell 4; simp at c0 c1 c2 c3 c4; replace H := Lib.hid h; clear h)
    | (go_at_call 122; (with_reducible refine (beg_was v false d tm p e _ HWS.out H.out).mono ?_); rintro e_ wn ⟨rfl, h⟩; replace H := Lib.hid h; clear h))
        go_ret
        exact ⟨rfl, H.out.drop⟩
      rw [if_neg (by omega)] at hr
      obtain ⟨ws, hws⟩ : ∃ ws, was v p e = ws := ⟨_, rfl⟩
      have HWS := Lib.hid hws
      rw [hws] at hr
      clear hws
      cases ws with
      | true =>
        obtain rfl : (0 : Int) = r := hr
        go_enter Try.func93, Try.ntmps93
        go_wp2_with (first
    | (go_at_call 121; (with_reducible refine (blob_rightQT _ d _ HBR.out H.out).mono ?_); rintro e_ wn ⟨rfl, h⟩; have c0 := h.rawCell 0; have c1 := h.rawCell 1; have c2 := h.rawCell 2; have c3 := h.rawCell 3; have c4 := h.rawCell 4; simp at c0 c1 c2 c3 c4; replace H := Lib.hid h; clear h)
    | (go_at_call 89; (with_reducible refine (key_right' d _ HDL.out HKR.out H.out).mono ?_); rintro e_ wn ⟨rfl, h⟩; have c0 := h.rawCell 0; have c1 := h.rawCell 1; have c2 := h.rawCell 2; have c3 := h.rawCell 3; have c4 := h.rawCell 4; simp at c0 c1 c2 c3 c4; replace H := Lib.hid h; clear h)
    | (go_at_call 122; (with_reducible refine (beg_was v false d tm p e _ HWS.out H.out).mono ?_); rintro e_ wn ⟨rfl, h⟩; replace H := Lib.hid h; clear h))
        go_ret
        exact ⟨rfl, H.out.drop⟩
      | false =>
        obtain rfl : (11 : Int) = r := hr
        go_enter Try.func93, Try.ntmps93
        go_wp2_with (first
    | (go_at_call 121; (with_reducible refine (blob_rightQT _ d _ HBR.out H.out).mono ?_); rintro e_ wn ⟨rfl, h⟩; have c0 := h.rawCell 0; have c1 := h.rawCell 1; have c2 := h.rawCell 2; have c3 := h.rawCell 3; have c4 := h.rawCell 4; simp at c0 c1 c2 c3 c4; replace H := Lib.hid h; clear h)
    | (go_at_call 89; (with_reducible refine (key_right' d _ HDL.out HKR.out H.out).mono ?_); rintro e_ wn ⟨rfl, h⟩; have c0 := h.rawCell 0; have c1 := h.rawCell 1; have c2 := h.rawCell 2; have c3 := h.rawCell 3; have c4 := h.rawCell 4; simp at c0 c1 c2 c3 c4; replace H := Lib.hid h; clear h)
    | (go_at_call 122; (with_reducible refine (beg_was v false d tm p e _ HWS.out H.out).mono ?_); rintro e_ wn ⟨rfl, h⟩; replace H := Lib.hid h; clear h))
        go_ret
        exact ⟨rfl, H.out.drop⟩
    | false =>
      have hid : idOk false d = false := hkr
      obtain rfl : (4 : Int) = r := by rw [← hr]; unfold begE; rw [hid]; rfl
      clear hr hid hkr
      go_enter Try.func93, Try.ntmps93
      go_wp2_with (first
    | (go_at_call 121; (with_reducible refine (blob_rightQT _ d _ HBR.out H.out).mono ?_); rintro e_ wn ⟨rfl, h⟩; have c0 := h.rawCell 0; have c1 := h.rawCell 1; have c2 := h.rawCell 2; have c3 := h.rawCell 3; have c4 := h.rawCell 4; simp at c0 c1 c2 c3 c4; replace H := Lib.hid h; clear h)
    | (go_at_call 89; (with_reducible refine (key_right' d _ HDL.out HKR.out H.out).mono ?_); rintro e_ wn ⟨rfl, h⟩; have c0 := h.rawCell 0; have c1 := h.rawCell 1; have c2 := h.rawCell 2; have c3 := h.rawCell 3; have c4 := h.rawCell 4; simp at c0 c1 c2 c3 c4; replace H := Lib.hid h; clear h))
      go_ret
      exact ⟨rfl, H.out.drop⟩

set_option maxHeartbeats 8000000 in
set_option maxRecDepth 100000 in
theorem add_check (d : Bs) (p e : Int) (l : List (TopS × Value)) (q : Option Addr) (cap : Nat) (r : Int) (hr : addE d p e (l.map (·.1)) = r) (hl : d.length ≤ 140737488355328) (hf : FewT l) {W0 w : World} {K : Know} {L : List Res} (hk : K.has (Know.tops (.slice q l.length cap) l)) (h : St W0 w K L) :
    Calls Try.prog 95 #[.agg #[.string (bb d), .int .i64 p, .int .i64 e, .slice q l.length cap]] w fun en w' => en = .returned (.int .i64 r) ∧ St W0 w' K L := by
  have H := Lib.hid (h.allocRaw #[.string (bb d), .int .i64 p, .int .i64 e, .slice q l.length cap] 144)
  have HDL := Lib.hid hl
  have HF := Lib.hid hf
  have HK := Lib.hid hk
  obtain ⟨cw, hcw⟩ : ∃ cw, chkW d p e = cw := ⟨_, rfl⟩
  have HC := Lib.hid hcw
  unfold addE at hr
  rw [hcw] at hr
  clear h hl hf hk hcw
  by_cases h0 : cw = 0
  · subst h0
    have HE := Lib.hid (show riseE (l.map (·.1)) = r from hr)
    clear hr
    go_enter Try.func95, Try.ntmps95
    go_wp2_with (first
    | (go_at_call 123; (with_reducible refine (txn_checkWriter d p e _ HC.out HDL.out H.out).mono ?_); rintro e_ wn ⟨rfl, h⟩; have c3 := h.rawCell 3; simp at c3; replace H := Lib.hid h; clear h)
    | (go_at_call 47; (with_reducible refine (txn_rise l q cap r HE.out HF.out HK.out H.out).mono ?_); rintro e_ wn ⟨rfl, h⟩; replace H := Lib.hid h; clear h))
    go_ret
    exact ⟨rfl, H.out.drop⟩
  · rw [if_pos h0] at hr
    subst hr
    have g1 : (cw == 0) = false := by rw [beq_eq_false_iff_ne]; exact h0
    have g2 : (cw != 0) = true := by simp [bne, g1]
    clear h0
    go_enter Try.func95, Try.ntmps95
    go_wp2_with (first
    | (go_at_call 123; (with_reducible refine (txn_checkWriter d p e _ HC.out HDL.out H.out).mono ?_); rintro e_ wn ⟨rfl, h⟩; have c3 := h.rawCell 3; simp at c3; replace H := Lib.hid h; clear h))
    go_ret
    exact ⟨rfl, H.out.drop⟩

set_option maxHeartbeats 1000000 in
set_option maxRecDepth 100000 in
theorem ref18_named (nl : Bool) (d : Bs) (r : Bool) (hr : (!nl && keyRight d) = r) {W0 w : World} {K : Know} {L : List Res} (h : St W0 w K L) :
    Calls Try.prog 97 #[.agg #[.bool nl, .string (bb d)]] w fun en w' => en = .returned (.bool r) ∧ St W0 w' K L := by
  have H := Lib.hid (h.allocRaw #[.bool nl, .string (bb d)] 64)
  clear h
  cases nl with
  | true =>
    obtain rfl : false = r := hr
    go_enter Try.func97, Try.ntmps97
    go_wp2_with (fail)
    go_ret
    exact ⟨rfl, H.out.drop⟩
  | false =>
    have hr : keyRight d = r := hr
    cases r with
    | true =>
      obtain ⟨h1, h2⟩ := keyRight_t hr
      clear hr
      go_enter Try.func97, Try.ntmps97
      go_wp2_with (fail)
      go_ret
      exact ⟨rfl, H.out.drop⟩
    | false =>
      by_cases h1 : (d.length : Int) < 1
      · have h2 : ¬ (1 : Int) ≤ d.length := by omega
        clear hr
        go_enter Try.func97, Try.ntmps97
        go_wp2_with (fail)
        go_ret
        exact ⟨rfl, H.out.drop⟩
      · have h2 : (1 : Int) ≤ d.length := by omega
        have h3 : ¬ (d.length : Int) ≤ 32767 := by rcases keyRight_f hr with h | h <;> omega
        clear hr h1
        go_enter Try.func97, Try.ntmps97
        go_wp2_with (fail)
        go_ret
        exact ⟨rfl, H.out.drop⟩


set_option maxHeartbeats 1000000 in
set_option maxRecDepth 100000 in
theorem ref18_who (nl : Bool) (d : Bs) (tm p e : Int) (q : Option Addr) (n cap : Nat) (c : Bool) (r : Bool) (hr : who p e = r) {W0 w : World} {K : Know} {L : List Res} (h : St W0 w K L) :
    Calls Try.prog 98 #[.agg #[.bool nl, .string (bb d), .int .i64 tm, .int .i64 p, .int .i64 e, .slice q n cap, .bool c]] w fun en w' => en = .returned (.bool r) ∧ St W0 w' K L := by
  have H := Lib.hid (h.allocRaw #[.bool nl, .string (bb d), .int .i64 tm, .int .i64 p, .int .i64 e, .slice q n cap, .bool c] 66)
  clear h
  cases r with
  | true =>
    obtain ⟨h1, h2, h3⟩ := who_t hr
    clear hr
    go_enter Try.func98, Try.ntmps98
    go_wp2_with (fail)
    go_ret
    exact ⟨rfl, H.out.drop⟩
  | false =>
    by_cases h1 : p < 0
    · have g1 : ¬ (0 ≤ p) := by omega
      clear hr
      go_enter Try.func98, Try.ntmps98
      go_wp2_with (fail)
      go_ret
      exact ⟨rfl, H.out.drop⟩
    · have g1 : 0 ≤ p := by omega
      by_cases h2 : e < 0
      · have g2 : ¬ (0 ≤ e) := by omega
        clear hr
        go_enter Try.func98, Try.ntmps98
        go_wp2_with (fail)
        go_ret
        exact ⟨rfl, H.out.drop⟩
      · have g2 : 0 ≤ e := by omega
        have g3 : ¬ (e ≤ 32767) := by rcases who_f hr with h | h | h <;> omega
        clear hr
        go_enter Try.func98, Try.ntmps98
        go_wp2_with (fail)
        go_ret
        exact ⟨rfl, H.out.drop⟩

end Go.Proofs.Ytombolmicfjjpaa

/- Requests of transactions: may they be written. -/
namespace Go.Proofs.Ytombolmicfjjpaa
open Go.RowKit

theorem blob_putFixedT (p : Nat) (e e2 : Bs) (u : Bool) (s : Bs) (he : e ++ encF 2 ⟨u, s⟩ = e2) (hr : (⟨u, s⟩ : BlobS).right = true) (hf : fits (⟨u, s⟩ : BlobS).len 2) (hs : s.length ≤ 32767) (hl : e.length ≤ 100000000000000) {W0 w : World} {K : Know} {L : List Res} (h : St W0 w K (.out p ⟨e, 0⟩ :: L)) :
    Calls Try.prog 113 #[outPtr p, .agg #[.bool u, .string (bb s)], .int .i64 2] w fun en w' => en = .returned (.tuple #[]) ∧ St W0 w' K (.out p ⟨e2, 0⟩ :: L) := by
  have h2 := blob_putFixed p ⟨e, 0⟩ ⟨u, s⟩ 2 h (by unfold OutS.ok; simp only; omega)
  have e3 : (⟨e, 0⟩ : OutS).putFixed ⟨u, s⟩ 2 = ⟨e2, 0⟩ := by
    unfold OutS.putFixed OutS.int
    rw [if_pos hf, ← he]
    cases u with
    | true =>
      have h3 : s = [] := by cases s with | nil => rfl | cons _ _ => cases hr
      subst h3
      show (⟨(e ++ beBytes (⟨true, []⟩ : BlobS).len 2) ++ [], 0⟩ : OutS) = _
      rw [List.append_assoc]
      rfl
    | false =>
      show (⟨(e ++ beBytes (⟨false, s⟩ : BlobS).len 2) ++ s, 0⟩ : OutS) = _
      rw [List.append_assoc]
      rfl
  rw [e3] at h2
  exact h2
set_option maxHeartbeats 1000000 in
set_option maxRecDepth 100000 in
theorem beg_clo (bB vB : Nat) (v : Int) (nl : Bool) (d : Bs) (tm p e : Int) (r : Int) (hr : begE v nl d tm p e = r) (hl : d.length ≤ 140737488355328) {W0 w : World} {K : Know} {L : List Res} (c0 : w.cell? ⟨bB, 0, none⟩ = some (.bool nl)) (c1 : w.cell? ⟨bB, 1, none⟩ = some (.string (bb d))) (c2 : w.cell? ⟨bB, 2, none⟩ = some (.int .i64 tm)) (c3 : w.cell? ⟨bB, 3, none⟩ = some (.int .i64 p)) (c4 : w.cell? ⟨bB, 4, none⟩ = some (.int .i64 e)) (cv : w.cell? ⟨vB, 0, none⟩ = some (.int .i64 v)) (h : St W0 w K L) :
    Calls Try.prog 120 #[.pointer (some ⟨bB, 0, none⟩), .pointer (some ⟨vB, 0, none⟩)] w fun en w' => en = .returned (.int .i64 r) ∧ St W0 w' K L := by
  have H := Lib.hid h
  have HR := Lib.hid hr
  have HL := Lib.hid hl
  clear h hr hl
  go_enter Try.func120, Try.ntmps120
  go_wp2_with (go_at_call 93; (with_reducible refine (beg_check v nl d tm p e _ HR.out HL.out H.out).mono ?_); rintro e_ wn ⟨rfl, h⟩; replace H := Lib.hid h; clear h)
  go_ret
  exact ⟨rfl, H.out⟩

set_option maxHeartbeats 2000000 in
set_option maxRecDepth 100000 in
theorem may_beg (b : Nat) (o o2 : OutS) (bB vB : Nat) (v : Int) (nl : Bool) (d : Bs) (tm p e : Int) (r : Int) (t : Bool) (hr : begE v nl d tm p e = r) (hl : d.length ≤ 140737488355328) (ht : (r == 0) = t) (ho : (if r = 0 then o else o.fail r) = o2) {W0 w : World} {K : Know} {L : List Res} (h : St W0 w K (.out b o :: .raw vB #[.int .i64 v] 3 :: .raw bB #[.bool nl, .string (bb d), .int .i64 tm, .int .i64 p, .int .i64 e] 141 :: L)) :
    Calls Try.prog 116 #[outPtr b, .func (.func 120) #[] #[.pointer (some ⟨bB, 0, none⟩), .pointer (some ⟨vB, 0, none⟩)]] w fun en w' => en = .returned (.bool t) ∧ St W0 w' K (.out b o2 :: .raw vB #[.int .i64 v] 3 :: .raw bB #[.bool nl, .string (bb d), .int .i64 tm, .int .i64 p, .int .i64 e] 141 :: L) := by
  have H := Lib.hid h
  have C0 := Lib.hid (show w.cell? ⟨bB, 0, none⟩ = some (.bool nl) by have := h.p2.rawCell 0; simpa using this)
  have C1 := Lib.hid (show w.cell? ⟨bB, 1, none⟩ = some (.string (bb d)) by have := h.p2.rawCell 1; simpa using this)
  have C2 := Lib.hid (show w.cell? ⟨bB, 2, none⟩ = some (.int .i64 tm) by have := h.p2.rawCell 2; simpa using this)
  have C3 := Lib.hid (show w.cell? ⟨bB, 3, none⟩ = some (.int .i64 p) by have := h.p2.rawCell 3; simpa using this)
  have C4 := Lib.hid (show w.cell? ⟨bB, 4, none⟩ = some (.int .i64 e) by have := h.p2.rawCell 4; simpa using this)
  have CV := Lib.hid (show w.cell? ⟨vB, 0, none⟩ = some (.int .i64 v) by have := h.p1.rawCell 0; simpa using this)
  have HR := Lib.hid hr
  have HL := Lib.hid hl
  clear h hr hl
  by_cases h0 : r = 0
  · rw [if_pos h0] at ho
    subst ho h0
    obtain rfl : true = t := ht
    go_enter Try.func116, Try.ntmps116
    go_wp2_with (go_at_call 120; (with_reducible refine (beg_clo bB vB v nl d tm p e _ HR.out HL.out C0.out C1.out C2.out C3.out C4.out CV.out H.out).mono ?_); rintro e_ wn ⟨rfl, h⟩; replace H := Lib.hid h; clear h)
    go_ret
    exact ⟨rfl, H.out⟩
  · rw [if_neg h0] at ho
    have HO := Lib.hid ho
    have g0 : (r == 0) = false := by rw [beq_eq_false_iff_ne]; exact h0
    have g00 : (r != 0) = true := by simp [bne, g0]
    rw [g0] at ht
    subst ht
    clear ho h0
    go_enter Try.func116, Try.ntmps116
    go_wp2_with (first
    | (go_at_call 120; (with_reducible refine (beg_clo bB vB v nl d tm p e _ HR.out HL.out C0.out C1.out C2.out C3.out C4.out CV.out H.out).mono ?_); rintro e_ wn ⟨rfl, h⟩; replace H := Lib.hid h; clear h)
    | (go_at_call 103; (with_reducible refine (so_failT b _ _ _ HO.out H.out).mono ?_); rintro e_ wn ⟨rfl, h⟩; replace H := Lib.hid h; clear h))
    go_ret
    exact ⟨rfl, H.out⟩

set_option maxHeartbeats 2000000 in
set_option maxRecDepth 100000 in
theorem may_add (b : Nat) (o o2 : OutS) (d : Bs) (p e : Int) (l : List (TopS × Value)) (q : Option Addr) (cap : Nat) (r : Int) (t : Bool) (hr : addE d p e (l.map (·.1)) = r) (hl : d.length ≤ 140737488355328) (hf : FewT l) (ht : (r == 0) = t) (ho : (if r = 0 then o else o.fail r) = o2) {W0 w : World} {K : Know} {L : List Res} (hk : K.has (Know.tops (.slice q l.length cap) l)) (h : St W0 w K (.out b o :: L)) :
    Calls Try.prog 116 #[outPtr b, .func (.func 95) #[.agg #[.string (bb d), .int .i64 p, .int .i64 e, .slice q l.length cap]] #[]] w fun en w' => en = .returned (.bool t) ∧ St W0 w' K (.out b o2 :: L) := by
  have H := Lib.hid h
  have HR := Lib.hid hr
  have HL := Lib.hid hl
  have HF := Lib.hid hf
  have HK := Lib.hid hk
  clear h hr hl hf hk
  by_cases h0 : r = 0
  · rw [if_pos h0] at ho
    subst ho h0
    obtain rfl : true = t := ht
    go_enter Try.func116, Try.ntmps116
    go_wp2_with (go_at_call 95; (with_reducible refine (add_check d p e l q cap _ HR.out HL.out HF.out HK.out H.out).mono ?_); rintro e_ wn ⟨rfl, h⟩; replace H := Lib.hid h; clear h)
    go_ret
    exact ⟨rfl, H.out⟩
  · rw [if_neg h0] at ho
    have HO := Lib.hid ho
    have g0 : (r == 0) = false := by rw [beq_eq_false_iff_ne]; exact h0
    have g00 : (r != 0) = true := by simp [bne, g0]
    rw [g0] at ht
    subst ht
    clear ho h0
    go_enter Try.func116, Try.ntmps116
    go_wp2_with (first
    | (go_at_call 95; (with_reducible refine (add_check d p e l q cap _ HR.out HL.out HF.out HK.out H.out).mono ?_); rintro e_ wn ⟨rfl, h⟩; replace H := Lib.hid h; clear h)
    | (go_at_call 103; (with_reducible refine (so_failT b _ _ _ HO.out H.out).mono ?_); rintro e_ wn ⟨rfl, h⟩; replace H := Lib.hid h; clear h))
    go_ret
    exact ⟨rfl, H.out⟩

end Go.Proofs.Ytombolmicfjjpaa

/- Marks, written. -/
namespace Go.Proofs.Ytombolmicfjjpaa
open Go.RowKit

set_option maxHeartbeats 2000000 in
set_option maxRecDepth 100000 in
theorem mark_write_bad (b : Nat) (o : Bs) (r : Int) (v : Int) (l : List MarkR) (q : Option Addr) (cap : Nat) (hE : marksErr v (l.map MarkR.m) = r) (h0 : r ≠ 0) (hf : ∀ x ∈ l, x.Fit) (hn : l.length ≤ 1000000) {W0 w : World} {K : Know} {L : List Res} (hk : K.has (Know.marks (.slice q l.length cap) l)) (h : St W0 w K (.out b ⟨o, 0⟩ :: L)) :
    Calls Try.prog 52 #[outPtr b, .slice q l.length cap, .int .i64 v] w fun en w' => en = .returned (.tuple #[]) ∧ St W0 w' K (.out b ⟨o, r⟩ :: L) := by
  have H := Lib.hid h
  have HK := Lib.hid hk
  have HF := Lib.hid hf
  have HN := Lib.hid hn
  have HCK := Lib.hid hE
  have HO := Lib.hid (show (⟨o, 0⟩ : OutS).fail r = ⟨o, r⟩ by rfl)
  have g0 : (r == 0) = false := by rw [beq_eq_false_iff_ne]; exact h0
  have g1 : (r != 0) = true := by simp [bne, g0]
  clear h hk hf hn hE h0
  go_enter Try.func52, Try.ntmps52
  go_wp2_with (first
    | (go_at_call 55; (with_reducible refine (marks_check v l q cap _ HCK.out HF.out HN.out HK.out H.out).mono ?_); rintro e_ wn ⟨rfl, h⟩; replace H := Lib.hid h; clear h)
    | (go_at_call 103; (with_reducible refine (so_failT b _ _ _ HO.out H.out).mono ?_); rintro e_ wn ⟨rfl, h⟩; replace H := Lib.hid h; clear h))
  (try simp only [Exit.inBlock, Exit.then]); refine bodyPost_ret (results_none rfl _ _ _) rfl ?_
  exact ⟨rfl, H.out⟩
set_option maxHeartbeats 6000000 in
set_option maxRecDepth 100000 in
theorem mark_write_ok (b : Nat) (o o2 : Bs) (v : Int) (l : List MarkR) (q : Option Addr) (cap : Nat) (he : o ++ encMs v (l.map MarkR.m) = o2) (hE : marksErr v (l.map MarkR.m) = 0) (hf : ∀ x ∈ l, x.Fit) (hfit : ∀ x ∈ l, FitTs x.m.tops ∧ (encM v x.m).length ≤ 2000) (hn : l.length ≤ 20) (hol : o.length ≤ 100000) {W0 w : World} {K : Know} {L : List Res} (hk : K.has (Know.marks (.slice q l.length cap) l)) (h : St W0 w K (.out b ⟨o, 0⟩ :: L)) :
    Calls Try.prog 52 #[outPtr b, .slice q l.length cap, .int .i64 v] w fun en w' => en = .returned (.tuple #[]) ∧ St W0 w' K (.out b ⟨o2, 0⟩ :: L) := by
  have H := Lib.hid h
  have HK := Lib.hid hk
  have HF := Lib.hid hf
  have HFIT := Lib.hid hfit
  have HE := Lib.hid he
  have HOL := Lib.hid hol
  have HN := Lib.hid (show l.length ≤ 1000000 by omega)
  have HCK := Lib.hid hE
  have HALL := Lib.hid (marksErr_ok hE).2
  have hni : (l.length : Int) ≤ 20 := by omega
  have hle := preM_le v (l.map MarkR.m)
  obtain ⟨A, hA⟩ : ∃ A, o ++ preM v (l.map MarkR.m) 0 = A := ⟨_, rfl⟩
  have HA := Lib.hid (show o ++ beBytes (l.length : Int) (4 : Int).toNat = A by rw [← hA, preM_zero, List.length_map])
  have HFL := Lib.hid (vfits4 (l.length : Int) (by omega))
  have HR0 := Lib.hid (show o.length ≤ 100000000000000 by omega)
  have HLE := Lib.hid (fun k hk => preM_le v (l.map MarkR.m) k hk (by rw [List.length_map]; exact hn) (fun m hm => by
    obtain ⟨x, hx, rfl⟩ := List.mem_map.1 hm
    exact (hfit x hx).2))
  clear h hk hf hfit he hn hE hol hle
  go_enter Try.func52, Try.ntmps52
  go_wp2_with (first
    | (go_at_call 55; (with_reducible refine (marks_check v l q cap _ HCK.out HF.out HN.out HK.out H.out).mono ?_); rintro e_ wn ⟨rfl, h⟩; replace H := Lib.hid h; clear h)
    | (go_at_call 69; (with_reducible refine (so_intV b _ _ _ 4 HA.out HFL.out HR0.out H.out).mono ?_); rintro e_ wn ⟨rfl, h⟩; replace H := Lib.hid h; clear h))
  go_loopw [23] (fun iv wr => ∃ k : Nat, k ≤ l.length ∧ iv = .int .i64 k ∧ St W0 wr K (.out b ⟨o ++ preM v (l.map MarkR.m) k, 0⟩ :: L)) (fun iv _ => l.length - (intOf iv).toNat)
  case atStart => exact ⟨0, Nat.zero_le _, rfl, by rw [hA]; exact H.out⟩
  case round =>
    obtain ⟨k, hkl, rfl, hst⟩ := hrel
    clear H hA
    have H := Lib.hid hst
    clear hst
    by_cases hlt : k < l.length
    · as_aux_lemma =>
      obtain ⟨b0, off, hqq⟩ := marks_at HK.out H.out (by omega)
      subst hqq
      obtain ⟨x, hx⟩ : ∃ x, l[k] = x := ⟨_, rfl⟩
      have hmem : x ∈ l := hx ▸ List.getElem_mem hlt
      have hxk := marks_tops HK.out hmem
      have hcell := marks_cell HK.out H.out k hlt x hx
      have hmk : k < (l.map MarkR.m).length := by rw [List.length_map]; exact hlt
      have hmg : (l.map MarkR.m)[k] = x.m := by rw [List.getElem_map, hx]
      obtain ⟨hxl, hxf, hxr⟩ := HF.out x hmem
      obtain ⟨⟨p, e, c, tl, co⟩, xl, xq, xcap⟩ := x
      obtain ⟨c0, c1, c2, c3, c4⟩ : wr.cell? ⟨b0, off + k * 5, none⟩ = some (.int .i64 p) ∧ wr.cell? ⟨b0, off + k * 5 + 1, none⟩ = some (.int .i64 e) ∧ wr.cell? ⟨b0, off + k * 5 + 2, none⟩ = some (.bool c) ∧ wr.cell? ⟨b0, off + k * 5 + 3, none⟩ = some (.slice xq xl.length xcap) ∧ wr.cell? ⟨b0, off + k * 5 + 4, none⟩ = some (.int .i64 co) := hcell
      have HXK := Lib.hid (show K.has (Know.tops (.slice xq xl.length xcap) xl) from hxk)
      have HXL := Lib.hid (show xl.map (·.1) = tl from hxl)
      have HXF := Lib.hid (show FewT xl from hxf)
      have hkn : (k : Int) < (l.length : Int) := by omega
      have hft := (HFIT.out _ hmem).1
      have her := HALL.out (⟨p, e, c, tl, co⟩ : MarkS) (by have hz := List.getElem_mem hmk; rw [hmg] at hz; exact hz)
      obtain ⟨hw, hco, _, _⟩ := mErr_ok (show mErr v p e tl co = 0 from her)
      have hwt := who_t hw
      have HF8 := Lib.hid (vfits8 p (by have := hxr.1.2; simp only at this; omega))
      have HF2 := Lib.hid (vfits2 e (by omega))
      have HF4 := Lib.hid (vfits4 co (by omega))
      have HFT := Lib.hid (show FitTs (xl.map fun y => y.1) by rw [show (xl.map fun y => y.1) = tl from hxl]; exact hft)
      have hst1 := preM_step v (l.map MarkR.m) k hmk _ hmg
      have hle1 := HLE.out (k + 1) hmk
      have hol := HOL.out
      obtain ⟨B0, hB0⟩ : ∃ B, o ++ preM v (l.map MarkR.m) k = B := ⟨_, rfl⟩
      obtain ⟨B1, hB1⟩ : ∃ B, B0 ++ beBytes p (8 : Int).toNat = B := ⟨_, rfl⟩
      obtain ⟨B2, hB2⟩ : ∃ B, B1 ++ beBytes e (2 : Int).toNat = B := ⟨_, rfl⟩
      obtain ⟨B3, hB3⟩ : ∃ B, B2 ++ encO c = B := ⟨_, rfl⟩
      obtain ⟨B4, hB4⟩ : ∃ B, B3 ++ encTs tl = B := ⟨_, rfl⟩
      obtain ⟨B5, hB5⟩ : ∃ B, B4 ++ beBytes co (4 : Int).toNat = B := ⟨_, rfl⟩
      have hB6 : o ++ preM v (l.map MarkR.m) (k + 1) = B4 ++ (if v = 1 then beBytes co (4 : Int).toNat else []) := by
        rw [hst1, ← hB4, ← hB3, ← hB2, ← hB1, ← hB0]
        unfold encM
        simp only [List.append_assoc]
      have hlen : B4.length ≤ 1000000 := by
        have h6 := congrArg List.length hB6
        rw [List.length_append, List.length_append] at h6
        omega
      have hl0 : B0.length ≤ 100000000000000 ∧ B1.length ≤ 100000000000000 ∧ B2.length ≤ 100000000000000 ∧ B3.length ≤ 1000000 ∧ B4.length ≤ 100000000000000 := by
        have e4 := congrArg List.length hB4
        have e3 := congrArg List.length hB3
        have e2 := congrArg List.length hB2
        have e1 := congrArg List.length hB1
        rw [List.length_append] at e1 e2 e3 e4
        omega
      obtain ⟨tb, htb⟩ : ∃ b, wr.heap.size = b := ⟨_, rfl⟩
      have h := (H.out.allocRaw #[.int .i64 p, .int .i64 e, .bool c, .slice xq xl.length xcap, .int .i64 co] 92).p1
      rw [htb] at h
      have d0 := h.p1.rawCell 0
      have d1 := h.p1.rawCell 1
      have d2 := h.p1.rawCell 2
      have d3 := h.p1.rawCell 3
      have d4 := h.p1.rawCell 4
      simp at d0 d1 d2 d3 d4
      rw [hB0] at h
      have HB1 := Lib.hid hB1
      have HB2 := Lib.hid hB2
      have HB3 := Lib.hid hB3
      have HB4 := Lib.hid (show B3 ++ encTs (xl.map fun y => y.1) = B4 by rw [show (xl.map fun y => y.1) = tl from hxl]; exact hB4)
      have HB5 := Lib.hid hB5
      have HL0 := Lib.hid hl0
      clear H
      have H := Lib.hid h
      clear h hx hmem hxk hmk hmg hxl hxf hxr hft her hw hco hwt hst1 hle1 hol hB0 hB1 hB2 hB3 hB4 hlen hl0
      by_cases hv : v = 1
      · subst hv
        rw [if_pos rfl, hB5] at hB6
        have HB6 := Lib.hid hB6
        clear hB5 hB6
        go_wp2_with (first
    | (go_at_call 69; (with_reducible refine (so_intV b B0 B1 p 8 HB1.out HF8.out HL0.out.1 H.out).mono ?_); rintro e_ wn ⟨rfl, h⟩; have d0 := h.p1.rawCell 0; have d1 := h.p1.rawCell 1; have d2 := h.p1.rawCell 2; have d3 := h.p1.rawCell 3; have d4 := h.p1.rawCell 4; simp at d0 d1 d2 d3 d4; replace H := Lib.hid h; clear h)
    | (go_at_call 69; (with_reducible refine (so_intV b B1 B2 e 2 HB2.out HF2.out HL0.out.2.1 H.out).mono ?_); rintro e_ wn ⟨rfl, h⟩; have d0 := h.p1.rawCell 0; have d1 := h.p1.rawCell 1; have d2 := h.p1.rawCell 2; have d3 := h.p1.rawCell 3; have d4 := h.p1.rawCell 4; simp at d0 d1 d2 d3 d4; replace H := Lib.hid h; clear h)
    | (go_at_call 49; (with_reducible refine (txn_putBool b B2 B3 c HB3.out HL0.out.2.2.1 H.out).mono ?_); rintro e_ wn ⟨rfl, h⟩; have d0 := h.p1.rawCell 0; have d1 := h.p1.rawCell 1; have d2 := h.p1.rawCell 2; have d3 := h.p1.rawCell 3; have d4 := h.p1.rawCell 4; simp at d0 d1 d2 d3 d4; replace H := Lib.hid h; clear h)
    | (go_at_call 31; (with_reducible refine (val_putTopics b B3 B4 xl xq xcap HB4.out HL0.out.2.2.2.1 HFT.out HXK.out H.out).mono ?_); rintro e_ wn ⟨rfl, h⟩; have d0 := h.p1.rawCell 0; have d1 := h.p1.rawCell 1; have d2 := h.p1.rawCell 2; have d3 := h.p1.rawCell 3; have d4 := h.p1.rawCell 4; simp at d0 d1 d2 d3 d4; replace H := Lib.hid h; clear h)
    | (go_at_call 69; (with_reducible refine (so_intV b B4 B5 co 4 HB5.out HF4.out HL0.out.2.2.2.2 H.out).mono ?_); rintro e_ wn ⟨rfl, h⟩; have d0 := h.p1.rawCell 0; have d1 := h.p1.rawCell 1; have d2 := h.p1.rawCell 2; have d3 := h.p1.rawCell 3; have d4 := h.p1.rawCell 4; simp at d0 d1 d2 d3 d4; replace H := Lib.hid h; clear h))
        go_roundw
        case rel => exact ⟨k + 1, hlt, by go_num, by rw [HB6.out]; exact H.out.p1.drop⟩
        case measure => first | (simp [intOf]; done) | (simp [intOf]; omega)
      · rw [if_neg hv, List.append_nil] at hB6
        have HB6 := Lib.hid hB6
        have gv : (v == 1) = false := by rw [beq_eq_false_iff_ne]; exact hv
        clear hB5 hB6 hv
        go_wp2_with (first
    | (go_at_call 69; (with_reducible refine (so_intV b B0 B1 p 8 HB1.out HF8.out HL0.out.1 H.out).mono ?_); rintro e_ wn ⟨rfl, h⟩; have d0 := h.p1.rawCell 0; have d1 := h.p1.rawCell 1; have d2 := h.p1.rawCell 2; have d3 := h.p1.rawCell 3; have d4 := h.p1.rawCell 4; simp at d0 d1 d2 d3 d4; replace H := Lib.hid h; clear h)
    | (go_at_call 69; (with_reducible refine (so_intV b B1 B2 e 2 HB2.out HF2.out HL0.out.2.1 H.out).mono ?_); rintro e_ wn ⟨rfl, h⟩; have d0 := h.p1.rawCell 0; have d1 := h.p1.rawCell 1; have d2 := h.p1.rawCell 2; have d3 := h.p1.rawCell 3; have d4 := h.p1.rawCell 4; simp at d0 d1 d2 d3 d4; replace H := Lib.hid h; clear h)
    | (go_at_call 49; (with_reducible refine (txn_putBool b B2 B3 c HB3.out HL0.out.2.2.1 H.out).mono ?_); rintro e_ wn ⟨rfl, h⟩; have d0 := h.p1.rawCell 0; have d1 := h.p1.rawCell 1; have d2 := h.p1.rawCell 2; have d3 := h.p1.rawCell 3; have d4 := h.p1.rawCell 4; simp at d0 d1 d2 d3 d4; replace H := Lib.hid h; clear h)
    | (go_at_call 31; (with_reducible refine (val_putTopics b B3 B4 xl xq xcap HB4.out HL0.out.2.2.2.1 HFT.out HXK.out H.out).mono ?_); rintro e_ wn ⟨rfl, h⟩; have d0 := h.p1.rawCell 0; have d1 := h.p1.rawCell 1; have d2 := h.p1.rawCell 2; have d3 := h.p1.rawCell 3; have d4 := h.p1.rawCell 4; simp at d0 d1 d2 d3 d4; replace H := Lib.hid h; clear h))
        go_roundw
        case rel => exact ⟨k + 1, hlt, by go_num, by rw [HB6.out]; exact H.out.p1.drop⟩
        case measure => first | (simp [intOf]; done) | (simp [intOf]; omega)
    · obtain rfl : k = l.length := by omega
      have h := H.out
      rw [show preM v (l.map MarkR.m) l.length = encMs v (l.map MarkR.m) by rw [← preM_all, List.length_map], HE.out] at h
      clear H
      have H := Lib.hid h
      clear h
      go_wp2
      go_end0
      exact ⟨rfl, H.out⟩

end Go.Proofs.Ytombolmicfjjpaa

/- One end (pure). -/
namespace Go.Proofs.Ytombolmicfjjpaa
open Go.RowKit

def z18 : Bs := [0, 1, 97, 0, 0, 0, 0, 0, 0, 0, 0, 0, 0, 1]
theorem few_nilT : FewT [] := ⟨by decide, fun x hx => by cases hx⟩

end Go.Proofs.Ytombolmicfjjpaa

/- Ends of transactions, read. -/
namespace Go.Proofs.Ytombolmicfjjpaa
open Go.RowKit

set_option maxHeartbeats 1000000 in
set_option maxRecDepth 100000 in
theorem whole_end (b : Nat) (i : InS) (id : Bs) (p e : Int) (c : Bool) (hi : i.err = 0) (hr : chkW id p e = 0) (hl : id.length ≤ 140737488355328) {W0 w : World} {K : Know} {L : List Res} (h : St W0 w K (.inp b i :: L)) :
    Calls Try.prog 119 #[inPtr b, .iface 136 (.agg #[.string (bb id), .int .i64 p, .int .i64 e, .bool c])] w fun en w' => en = .returned (.bool true) ∧ St W0 w' K (.inp b i :: L) := by
  have H := Lib.hid h
  have HI := Lib.hid hi
  have HR := Lib.hid hr
  have HL := Lib.hid hl
  clear h hi hr hl
  go_enter Try.func119, Try.ntmps119
  go_wp2_with (first
    | (go_at_call 27; (with_reducible refine (s_errV b _ _ HI.out H.out).mono ?_); rintro e_ wn ⟨rfl, h⟩; replace H := Lib.hid h; clear h)
    | (go_at_call 96; (with_reducible refine (end_check id p e c _ HR.out HL.out H.out).mono ?_); rintro e_ wn ⟨rfl, h⟩; replace H := Lib.hid h; clear h))
  go_ret
  exact ⟨rfl, H.out⟩

set_option maxHeartbeats 2000000 in
set_option maxRecDepth 100000 in
theorem read_end_ok (b : Nat) (i i1 i2 i3 i4 : InS) (id : Bs) (p e : Int) (c : Bool) (h1 : i.text = (id, i1)) (h2 : i1.int 8 = (p, i2)) (h3 : i2.int 2 = (e, i3)) (h4 : i3.boolP = (c, i4)) (hi : i4.err = 0) (hr : chkW id p e = 0) (hl : id.length ≤ 140737488355328) {W0 w : World} {K : Know} {L : List Res} (h : St W0 w K (.inp b i :: L)) :
    Calls Try.prog 91 #[inPtr b] w fun en w' => en = .returned (.agg #[.string (bb id), .int .i64 p, .int .i64 e, .bool c]) ∧ St W0 w' K (.inp b i4 :: L) := by
  obtain ⟨rb, hrb⟩ : ∃ b, w.heap.size = b := ⟨_, rfl⟩
  obtain ⟨eb, heb⟩ : ∃ b, rb + 1 = b := ⟨_, rfl⟩
  have g1 := (h.allocRaw #[.string ⟨#[]⟩, .int .i64 0, .int .i64 0, .bool false] 136).allocRaw #[.string ⟨#[]⟩, .int .i64 0, .int .i64 0, .bool false] 136
  simp only [World.size_alloc, hrb, heb] at g1
  have H := Lib.hid g1.p2
  have H1 := Lib.hid h1
  have H2 := Lib.hid h2
  have H3 := Lib.hid h3
  have H4 := Lib.hid h4
  have HI := Lib.hid hi
  have HR := Lib.hid hr
  have HL := Lib.hid hl
  clear h g1 h1 h2 h3 h4 hi hr hl
  go_enter Try.func91, Try.ntmps91
  go_wp2_with (first
    | (go_at_call 78; (with_reducible refine (blob_textV b _ _ id H1.out H.out).mono ?_); rintro e_ wn ⟨rfl, h⟩; have f0 := h.p1.rawFree 0; have g0 := h.p1.rawCell 0; simp at g0; have h := (show St W0 (wn.setCell ⟨eb, 0, none⟩ (.string (bb id))) K (.inp b i1 :: .raw eb #[.string (bb id), .int .i64 0, .int .i64 0, .bool false] 136 :: .raw rb #[.string ⟨#[]⟩, .int .i64 0, .int .i64 0, .bool false] 136 :: L) from (h.p1.rawSet 0 (.string (bb id))).p1); replace H := Lib.hid h; clear h)
    | (go_at_call 118; (with_reducible refine (txn_readWriter b _ _ _ p e H2.out H3.out H.out).mono ?_); rintro e_ wn ⟨rfl, h⟩; have f1 := h.p1.rawFree 1; have g1 := h.p1.rawCell 1; simp at g1; have f2 := h.p1.rawFree 2; have g2 := h.p1.rawCell 2; simp at g2; have h := (show St W0 ((wn.setCell ⟨eb, 1, none⟩ (.int .i64 p)).setCell ⟨eb, 2, none⟩ (.int .i64 e)) K (.inp b i3 :: .raw eb #[.string (bb id), .int .i64 p, .int .i64 e, .bool false] 136 :: .raw rb #[.string ⟨#[]⟩, .int .i64 0, .int .i64 0, .bool false] 136 :: L) from ((h.p1.rawSet 1 (.int .i64 p)).rawSet 2 (.int .i64 e)).p1); replace H := Lib.hid h; clear h)
    | (go_at_call 48; (with_reducible refine (s_bool b _ _ c H4.out H.out).mono ?_); rintro e_ wn ⟨rfl, h⟩; have f3 := h.p1.rawFree 3; have g3 := h.p1.rawCell 3; simp at g3; have h := (show St W0 (wn.setCell ⟨eb, 3, none⟩ (.bool c)) K (.inp b i4 :: .raw eb #[.string (bb id), .int .i64 p, .int .i64 e, .bool c] 136 :: .raw rb #[.string ⟨#[]⟩, .int .i64 0, .int .i64 0, .bool false] 136 :: L) from (h.p1.rawSet 3 (.bool c)).p1); have c0 := h.p1.rawCell 0; have c1 := h.p1.rawCell 1; have c2 := h.p1.rawCell 2; have c3 := h.p1.rawCell 3; simp at c0 c1 c2 c3; replace H := Lib.hid h; clear h)
    | (go_at_call 119; (with_reducible refine (whole_end b i4 id p e c HI.out HR.out HL.out H.out).mono ?_); rintro e_ wn ⟨rfl, h⟩; have c0 := h.p1.rawCell 0; have d0 := h.p2.rawCell 0; have r0 := h.p2.rawFree 0; have c1 := h.p1.rawCell 1; have d1 := h.p2.rawCell 1; have r1 := h.p2.rawFree 1; have c2 := h.p1.rawCell 2; have d2 := h.p2.rawCell 2; have r2 := h.p2.rawFree 2; have c3 := h.p1.rawCell 3; have d3 := h.p2.rawCell 3; have r3 := h.p2.rawFree 3; simp at c0 c1 c2 c3 d0 d1 d2 d3; replace H := Lib.hid h; clear h))
  have hz : St W0 _ _ (.raw rb #[.string (bb id), .int .i64 p, .int .i64 e, .bool c] 136 :: .inp b i4 :: .raw eb #[.string (bb id), .int .i64 p, .int .i64 e, .bool c] 136 :: L) := ((((H.out.p2).rawSet 0 _).rawSet 1 _).rawSet 2 _).rawSet 3 _
  refine bodyPost_ret (rc_cell_only rfl _ _ rb [.string (bb id), .int .i64 p, .int .i64 e, .bool c] _ rfl (rc_range hz) Try.underlying136 rfl (by kernel_rfl)) rfl ?_
  exact ⟨rfl, hz.drop.p1.drop⟩

end Go.Proofs.Ytombolmicfjjpaa

/- One end. -/
namespace Go.Proofs.Ytombolmicfjjpaa
open Go.RowKit

theorem end_write_z (b : Nat) {W0 w : World} {K : Know} {L : List Res} (h : St W0 w K (.out b ⟨[], 0⟩ :: L)) :
    Calls Try.prog 90 #[.agg #[.string ⟨#[97]⟩, .int .i64 0, .int .i64 0, .bool true], outPtr b] w fun en w' => en = .returned (.tuple #[]) ∧ St W0 w' K (.out b ⟨z18, 0⟩ :: L) :=
  end_write_ok b [] [0, 1, 97] [0, 1, 97, 0, 0, 0, 0, 0, 0, 0, 0] [0, 1, 97, 0, 0, 0, 0, 0, 0, 0, 0, 0, 0] z18 [97] 0 0 true (by kernel_rfl) (by kernel_rfl) (by kernel_rfl) (by kernel_rfl) (by kernel_rfl) (by decide) (by decide) (by decide) h
theorem text_z (b : Nat) {W0 w : World} {K : Know} {L : List Res} (h : St W0 w K (.out b ⟨z18, 0⟩ :: L)) :
    Calls Try.prog 32 #[outPtr b] w fun en w' => en = .returned (.tuple #[.string ⟨#[0, 1, 97, 0, 0, 0, 0, 0, 0, 0, 0, 0, 0, 1]⟩, .int .i64 0]) ∧ St W0 w' K (.out b ⟨z18, 0⟩ :: L) := so_textV b z18 h
theorem new_z {W0 w : World} {K : Know} {L : List Res} (h : St W0 w K L) :
    Calls Try.prog 24 #[.string ⟨#[0, 1, 97, 0, 0, 0, 0, 0, 0, 0, 0, 0, 0, 1]⟩] w fun en w' => ∃ b, en = .returned (inPtr b) ∧ St W0 w' K (.inp b ⟨z18, 0, 0⟩ :: L) := s_new z18 (by decide) h
theorem read_end_z (b : Nat) {W0 w : World} {K : Know} {L : List Res} (h : St W0 w K (.inp b ⟨z18, 0, 0⟩ :: L)) :
    Calls Try.prog 91 #[inPtr b] w fun en w' => en = .returned (.agg #[.string ⟨#[97]⟩, .int .i64 0, .int .i64 0, .bool true]) ∧ St W0 w' K (.inp b ⟨z18, 14, 0⟩ :: L) :=
  read_end_ok b ⟨z18, 0, 0⟩ ⟨z18, 3, 0⟩ ⟨z18, 11, 0⟩ ⟨z18, 13, 0⟩ ⟨z18, 14, 0⟩ [97] 0 0 true (by kernel_rfl) (by kernel_rfl) (by kernel_rfl) (by kernel_rfl) (by kernel_rfl) (by kernel_rfl) (by decide) h
theorem rise_z {W0 w : World} {K : Know} {L : List Res} (h : St W0 w K L) :
    Calls Try.prog 47 #[.slice none 0 0] w fun en w' => en = .returned (.int .i64 10) ∧ St W0 w' K L := by
  have h2 : St W0 w (K.and (Know.tops (.slice none 0 0) [])) L := h.know (tops_nil K)
  refine (txn_rise [] none 0 10 (by kernel_rfl) few_nilT (Know.has_right (Know.has_refl _)) h2).mono ?_
  rintro e_ wn ⟨rfl, h3⟩
  exact ⟨rfl, h3.know (Know.has_left (Know.has_refl _))⟩
theorem who_z {W0 w : World} {K : Know} {L : List Res} (h : St W0 w K L) :
    Calls Try.prog 46 #[.int .i64 0, .int .i64 0] w fun en w' => en = .returned (.bool true) ∧ St W0 w' K L := txn_who 0 0 true (by kernel_rfl) h
set_option maxHeartbeats 1000000 in
set_option maxRecDepth 100000 in
theorem speaks18 {W0 w : World} {K : Know} {L : List Res} (h : St W0 w K L) :
    Calls Try.prog 37 #[] w fun en w' => en = .returned (.bool true) ∧ St W0 w' K L := by
  obtain ⟨po, hpo⟩ : ∃ b, w.heap.size = b := ⟨_, rfl⟩
  have h0 := h.allocOut
  rw [hpo] at h0
  have H := Lib.hid h0
  clear h h0
  go_enter Try.func37, Try.ntmps37
  go_wp2_with (first
    | (go_at_call 90; (with_reducible refine (end_write_z po H.out).mono ?_); rintro e_ wn ⟨rfl, h⟩; replace H := Lib.hid h; clear h)
    | (go_at_call 32; (with_reducible refine (text_z po H.out).mono ?_); rintro e_ wn ⟨rfl, h⟩; replace H := Lib.hid h; clear h)
    | (go_at_call 24; (with_reducible refine (new_z H.out).mono ?_); rintro e_ wn ⟨bi, rfl, h⟩; replace H := Lib.hid h; clear h)
    | (go_at_call 91; (with_reducible refine (read_end_z bi H.out).mono ?_); rintro e_ wn ⟨rfl, h⟩; replace H := Lib.hid h; clear h)
    | (go_at_call 47; (with_reducible refine (rise_z H.out).mono ?_); rintro e_ wn ⟨rfl, h⟩; replace H := Lib.hid h; clear h)
    | (go_at_call 46; (with_reducible refine (who_z H.out).mono ?_); rintro e_ wn ⟨rfl, h⟩; replace H := Lib.hid h; clear h))
  go_ret
  exact ⟨rfl, H.out.drop.drop⟩

end Go.Proofs.Ytombolmicfjjpaa

/- One mark. -/
namespace Go.Proofs.Ytombolmicfjjpaa
open Go.RowKit

theorem freezeInt1 {W0 w : World} {K : Know} {L : List Res} {s : Nat} {T : TypeId} (n : Int) (h : St W0 w K (.raw s #[.int .i64 n] T :: L)) : St W0 w (K.and (Know.flat RI (.slice (some ⟨s, 0, none⟩) 1 1) 1 [n])) L := by
  refine h.freeze fun F S1 hF h1 => ?_
  have hlt := heap_lt h1.1
  have hs : S1 s := (h1.2 s).2 rfl
  refine ⟨some ⟨s, 0, none⟩, 1, rfl, fun _ => ⟨s, 0, rfl, .inr ⟨hs, hlt⟩, hlt, fun i hi => ?_⟩⟩
  have hi0 : i = 0 := by simp at hi; omega
  subst hi0
  refine ⟨[.int .i64 n], rfl, rfl, fun f u hu => ?_⟩
  have hc := cell_at h1.1 f
  simp only [Nat.zero_mul, Nat.zero_add]
  rw [hc]
  simpa using hu
theorem freezeTop1 {W0 w : World} {K : Know} {L : List Res} {s : Nat} {T : TypeId} (nm : Bs) (ps : List Int) (v : Value) (hk : K.has (Know.flat RI v 1 ps)) (h : St W0 w K (.raw s #[.string (bb nm), v] T :: L)) : St W0 w (K.and (Know.tops (.slice (some ⟨s, 0, none⟩) 1 1) [(⟨nm, ps⟩, v)])) L := by
  refine h.freeze fun F S1 hF h1 => ?_
  have hlt := heap_lt h1.1
  have hs : S1 s := (h1.2 s).2 rfl
  refine ⟨⟨some ⟨s, 0, none⟩, 1, rfl, fun _ => ⟨s, 0, rfl, .inr ⟨hs, hlt⟩, hlt, fun i hi => ?_⟩⟩, fun x hx => ?_⟩
  · have hi0 : i = 0 := by simp at hi; omega
    subst hi0
    refine ⟨[.string (bb nm), v], rfl, rfl, fun f u hu => ?_⟩
    have hc := cell_at h1.1 f
    simp only [Nat.zero_mul, Nat.zero_add]
    rw [hc]
    simpa using hu
  · rw [List.mem_singleton.1 hx]
    exact (Know.flat RI v 1 ps).mono w F _ (hk w F hF) (fun _ h => .inl h)
def z19 : Bs := encMs 0 [⟨0, 0, true, [⟨[97], [1]⟩], 0⟩]
theorem z19_len : z19.length = 30 := by kernel_rfl
theorem z19_err : marksErr 0 [⟨0, 0, true, [⟨[97], [1]⟩], 0⟩] = 0 := by kernel_rfl
theorem marks_check_z {W0 w : World} {K : Know} {L : List Res} (h : St W0 w K L) : Calls Try.prog 55 #[.slice none 0 0, .int .i64 0] w fun en w' => en = .returned (.int .i64 10) ∧ St W0 w' K L :=
  marks_check 0 [] none 0 10 (by kernel_rfl) (fun x hx => by cases hx) (by decide) (marks_nil K) h
theorem mark_write_z (po : Nat) {W0 w : World} {K : Know} {L : List Res} (hk : K.has (Know.marks (.slice (some ⟨po + 3, 0, none⟩) 1 1) [(⟨⟨0, 0, true, [⟨[97], [1]⟩], 0⟩, [((⟨[97], [1]⟩ : TopS), Value.slice (some ⟨po + 1, 0, none⟩) 1 1)], (some ⟨po + 2, 0, none⟩), 1⟩ : MarkR)])) (h : St W0 w K (.out po ⟨[], 0⟩ :: L)) :
    Calls Try.prog 52 #[outPtr po, .slice (some ⟨po + 3, 0, none⟩) 1 1, .int .i64 0] w fun en w' => en = .returned (.tuple #[]) ∧ St W0 w' K (.out po ⟨z19, 0⟩ :: L) := by
  have hf : FitTs [(⟨[97], [1]⟩ : TopS)] := ⟨by decide, fun t ht => by rw [List.mem_singleton.1 ht]; exact ⟨by decide, by decide, fun n hn => by rw [List.mem_singleton.1 hn]; decide⟩⟩
  exact mark_write_ok po [] z19 0 [(⟨⟨0, 0, true, [⟨[97], [1]⟩], 0⟩, [((⟨[97], [1]⟩ : TopS), Value.slice (some ⟨po + 1, 0, none⟩) 1 1)], (some ⟨po + 2, 0, none⟩), 1⟩ : MarkR)] (some ⟨po + 3, 0, none⟩) 1 rfl z19_err (fun x hx => by
    rw [List.mem_singleton.1 hx]
    exact ⟨rfl, ⟨by show (1 : Nat) ≤ 1000000; decide, fun y hy => by rw [List.mem_singleton.1 hy]; exact ⟨by show (1 : Nat) ≤ 140737488355328; decide, by show (1 : Nat) ≤ 1000000; decide⟩⟩, by show MarkS.R ⟨0, 0, true, [⟨[97], [1]⟩], 0⟩; unfold MarkS.R; decide⟩) (fun x hx => by
    rw [List.mem_singleton.1 hx]
    exact ⟨hf, by show (encM 0 ⟨0, 0, true, [⟨[97], [1]⟩], 0⟩).length ≤ 2000; decide +kernel⟩) (by show (1 : Nat) ≤ 20; decide) (by decide) hk h
set_option maxHeartbeats 1000000 in
set_option maxRecDepth 100000 in
theorem speaks19 {W0 w : World} {K : Know} {L : List Res} (h : St W0 w K L) :
    Calls Try.prog 50 #[] w fun en w' => en = .returned (.bool true) ∧ St W0 w' K L := by
  obtain ⟨po, hpo⟩ : ∃ b, w.heap.size = b := ⟨_, rfl⟩
  have h0 := h.allocOut
  rw [hpo] at h0
  have h1 := h0.allocRaw #[.int .i64 1] 3
  simp only [World.size_alloc, hpo] at h1
  have h2 := (freezeInt1 1 h1).allocRaw #[.string ⟨#[97]⟩, .slice (some ⟨po + 1, 0, none⟩) 1 1] 51
  simp only [World.size_alloc, hpo] at h2
  have h3 := (freezeTop1 [97] [1] _ (Know.has_right (Know.has_refl _)) h2).allocRaw #[.int .i64 0, .int .i64 0, .bool true, .slice (some ⟨po + 2, 0, none⟩) 1 1, .int .i64 0] 92
  simp only [World.size_alloc, hpo] at h3
  have h4 := freezeMark1 0 0 true [⟨[97], [1]⟩] 0 [((⟨[97], [1]⟩ : TopS), Value.slice (some ⟨po + 1, 0, none⟩) 1 1)] (some ⟨po + 2, 0, none⟩) 1 (Know.has_right (Know.has_refl _)) h3
  have H := Lib.hid h4
  have hl := z19_len
  clear h h0 h1 h2 h3 h4
  go_enter Try.func50, Try.ntmps50
  go_wp2_with (first
    | (go_at_call 52; (with_reducible refine (mark_write_z po (Know.has_right (Know.has_refl _)) H.out).mono ?_); rintro e_ wn ⟨rfl, h⟩; replace H := Lib.hid h; clear h)
    | (go_at_call 32; (with_reducible refine (so_textV po z19 H.out).mono ?_); rintro e_ wn ⟨rfl, h⟩; replace H := Lib.hid h; clear h)
    | (go_at_call 55; (with_reducible refine (marks_check_z H.out).mono ?_); rintro e_ wn ⟨rfl, h⟩; replace H := Lib.hid h; clear h))
  go_ret
  exact ⟨rfl, H.out.drop.know (Know.has_left (Know.has_left (Know.has_left (Know.has_refl _))))⟩

end Go.Proofs.Ytombolmicfjjpaa

/- Slices of one mark. -/
namespace Go.Proofs.Ytombolmicfjjpaa
open Go.RowKit

theorem buildM (p e : Int) (c : Bool) (v : Value) (co : Int) (hv : v.oneCell' = true) (w : World) : (Instr.buildSlice 84 1 #[(0, .agg #[.int .i64 p, .int .i64 e, .bool c, v, .int .i64 co])]).run Try.prog w = .ok (.slice (some ⟨w.heap.size, 0, none⟩) 1 1) (w.alloc (.cells #[.int .i64 p, .int .i64 e, .bool c, v, .int .i64 co] 92 (0, 0))) := by
  cases v <;> first | (simp [Value.oneCell'] at hv; done) | go_simp
theorem exec_buildM {o : Oper} {ρ : Operand → Value} (ps : Array (Nat × Value)) (v : Value) (w w' : World) (ho : execOp ρ o = (do pure (Next.value (← Instr.buildSlice 84 1 ps)))) (hb : (Instr.buildSlice 84 1 ps).run Try.prog w = .ok v w') : (execOp ρ o).run Try.prog w = .ok (.value v) w' := by
  rw [ho]
  simp [hb]
theorem wp_op_valueM {P : Program} {o : Oper} {a : Act} {w w' : World} {v : Value} {KK : Act → World → Prop} {Q : Exit → Act → World → Prop} (hr : (execOp a.eval o).run P w = .ok (.value v) w') (h : KK (a.put o.dst v) w') : o.wp P a w KK Q := by
  unfold Oper.wp
  rw [hr]
  exact h
theorem law19_of1 (p e : Int) (c : Bool) (tl : List TopS) (co : Int) (xl : List (TopS × Value)) (xq : Option Addr) (xcap : Nat) (q : Option Addr) (cap : Nat) (hf : ((⟨⟨p, e, c, tl, co⟩, xl, xq, xcap⟩ : MarkR)).Fit) {W0 w : World} {K : Know} {L : List Res} (hk : K.has (Know.marks (.slice q 1 cap) [(⟨⟨p, e, c, tl, co⟩, xl, xq, xcap⟩ : MarkR)])) (h : St W0 w K L) :
    Calls Try.prog 54 #[.slice q 1 cap] w fun en w' => ∃ q1 cap1, en = .returned (.slice q1 1 cap1) ∧ St W0 w' (K.and (Know.marks (.slice q1 1 cap1) [(⟨⟨p, e, c, tl, co⟩, xl, xq, xcap⟩ : MarkR)])) L := by
  refine (law19_of [(⟨⟨p, e, c, tl, co⟩, xl, xq, xcap⟩ : MarkR)] q cap (by show (1 : Nat) ≤ 1000000; decide) (fun x hx => by rw [List.mem_singleton.1 hx]; exact hf) hk h).mono ?_
  rintro en wn ⟨v, rfl, h2⟩
  obtain ⟨q1, cap1, rfl⟩ := marks_form (Know.has_right (Know.has_refl _)) h2
  exact ⟨q1, cap1, rfl, h2⟩
theorem law19_ofB (p e : Int) (c : Bool) (tl : List TopS) (co : Int) (xl : List (TopS × Value)) (xq : Option Addr) (xcap : Nat) (s : Nat) (hf : ((⟨⟨p, e, c, tl, co⟩, xl, xq, xcap⟩ : MarkR)).Fit) {W0 w : World} {K : Know} {L : List Res} (hk : K.has (Know.tops (.slice xq xl.length xcap) xl)) (h : St W0 w K (.raw s #[.int .i64 p, .int .i64 e, .bool c, .slice xq xl.length xcap, .int .i64 co] 92 :: L)) :
    Calls Try.prog 54 #[.slice (some ⟨s, 0, none⟩) 1 1] w fun en w' => ∃ q1 cap1, en = .returned (.slice q1 1 cap1) ∧ St W0 w' (K.and (Know.marks (.slice q1 1 cap1) [(⟨⟨p, e, c, tl, co⟩, xl, xq, xcap⟩ : MarkR)])) L := by
  refine (law19_of1 p e c tl co xl xq xcap (some ⟨s, 0, none⟩) 1 hf (Know.has_right (Know.has_refl _)) (freezeMark1 p e c tl co xl xq xcap hk h)).mono ?_
  rintro en wn ⟨q1, cap1, rfl, h2⟩
  exact ⟨q1, cap1, rfl, h2.know (Know.has_and (Know.has_left (Know.has_left (Know.has_refl _))) (Know.has_right (Know.has_refl _)))⟩
theorem ref19_check1 (v : Int) (p e : Int) (c : Bool) (tl : List TopS) (co : Int) (xl : List (TopS × Value)) (xq : Option Addr) (xcap : Nat) (q : Option Addr) (cap : Nat) (r : Int) (hr : mErr v p e tl co = r) (hf : ((⟨⟨p, e, c, tl, co⟩, xl, xq, xcap⟩ : MarkR)).Fit) {W0 w : World} {K : Know} {L : List Res} (hk : K.has (Know.marks (.slice q 1 cap) [(⟨⟨p, e, c, tl, co⟩, xl, xq, xcap⟩ : MarkR)])) (h : St W0 w K L) :
    Calls Try.prog 53 #[.slice q 1 cap, .int .i64 v] w fun en w' => en = .returned (.int .i64 r) ∧ St W0 w' K L := by
  refine ref19_check v [(⟨⟨p, e, c, tl, co⟩, xl, xq, xcap⟩ : MarkR)] q cap r ?_ (fun x hx => by rw [List.mem_singleton.1 hx]; exact hf) (by show (1 : Nat) ≤ 1000000; decide) hk h
  show marksErr v [⟨p, e, c, tl, co⟩] = r
  unfold marksErr
  rw [if_neg (by simp), msE_cons]
  show (if mErr v p e tl co ≠ 0 then mErr v p e tl co else 0) = r
  by_cases h0 : mErr v p e tl co = 0
  · rw [if_neg (by rw [h0]; decide), ← hr, h0]
  · rw [if_pos h0, hr]

end Go.Proofs.Ytombolmicfjjpaa

/- Whether two rows of topics are one (pure). -/
namespace Go.Proofs.Ytombolmicfjjpaa
open Go.RowKit

theorem tmap_take_succ (l : List (TopS × Value)) (k : Nat) (h : k < l.length) (x : TopS) (hx : l[k].1 = x) : (l.map (·.1)).take (k + 1) = (l.map (·.1)).take k ++ [x] := by
  have h2 : k < (l.map (·.1)).length := by simpa using h
  rw [List.take_succ_eq_append_getElem h2, List.getElem_map, hx]
theorem tmap_ne_of_get (l m : List (TopS × Value)) (k : Nat) (h1 : k < l.length) (h2 : k < m.length) (x y : TopS) (hx : l[k].1 = x) (hy : m[k].1 = y) (h : x ≠ y) : l.map (·.1) ≠ m.map (·.1) := by
  intro he
  apply h
  have e1 : (l.map (·.1))[k]? = some x := by rw [List.getElem?_map, List.getElem?_eq_getElem h1]; simp [hx]
  have e2 : (m.map (·.1))[k]? = some y := by rw [List.getElem?_map, List.getElem?_eq_getElem h2]; simp [hy]
  rw [he, e2] at e1
  simpa using e1.symm
theorem tmap_len_ne (l m : List (TopS × Value)) (h : l.length ≠ m.length) : l.map (·.1) ≠ m.map (·.1) := fun hh => h (by have := congrArg List.length hh; simpa using this)
/-- What is asked of topics that are laid beside others. -/
def LenT (l : List (TopS × Value)) : Prop := l.length ≤ 140737488355328 ∧ ∀ x ∈ l, x.1.parts.length ≤ 9223372036854775807

end Go.Proofs.Ytombolmicfjjpaa

/- Marks that are one (pure). -/
namespace Go.Proofs.Ytombolmicfjjpaa
open Go.RowKit

theorem FewT_LenT {l : List (TopS × Value)} (h : FewT l) : LenT l := ⟨by have := h.1; omega, fun x hx => by have := (h.2 x hx).2; omega⟩
theorem mmap_take_succ (l : List MarkR) (k : Nat) (hk : k < l.length) (m : MarkS) (hx : l[k].m = m) : (l.map MarkR.m).take (k + 1) = (l.map MarkR.m).take k ++ [m] := by
  rw [List.take_succ_eq_append_getElem (by rw [List.length_map]; exact hk), List.getElem_map, hx]
theorem mmap_ne (l1 l2 : List MarkR) (k : Nat) (h1 : k < l1.length) (h2 : k < l2.length) (m1 m2 : MarkS) (hx1 : l1[k].m = m1) (hx2 : l2[k].m = m2) (hne : m1 ≠ m2) : l1.map MarkR.m ≠ l2.map MarkR.m := by
  intro h
  apply hne
  have a1 : (l1.map MarkR.m)[k]? = some m1 := by rw [List.getElem?_map, List.getElem?_eq_getElem h1, ← hx1]; rfl
  have a2 : (l2.map MarkR.m)[k]? = some m2 := by rw [List.getElem?_map, List.getElem?_eq_getElem h2, ← hx2]; rfl
  rw [h, a2] at a1
  exact (Option.some.inj a1).symm
theorem mmap_len (l1 l2 : List MarkR) (h : l1.length ≠ l2.length) : l1.map MarkR.m ≠ l2.map MarkR.m := by
  intro h2
  apply h
  have := congrArg List.length h2
  rwa [List.length_map, List.length_map] at this

end Go.Proofs.Ytombolmicfjjpaa

/- Whether two rows of numbers are one. -/
namespace Go.Proofs.Ytombolmicfjjpaa
open Go.RowKit

set_option maxHeartbeats 1000000 in
set_option maxRecDepth 100000 in
theorem ints_same01 (a b : List Int) (q1 q2 : Option Addr) (cap1 cap2 : Nat) (hl : a.length ≤ 9223372036854775807) (hl2 : b.length ≤ 9223372036854775807) (r : Bool) (hr : decide (a = b) = r) {W0 w : World} {K : Know} {L : List Res} (hka : K.has (Know.flat RI (.slice q1 a.length cap1) 1 a)) (hkb : K.has (Know.flat RI (.slice q2 b.length cap2) 1 b)) (h : St W0 w K L) :
    Calls Try.prog 82 #[.slice q1 a.length cap1, .slice q2 b.length cap2] w fun en w' => en = .returned (.bool r) ∧ St W0 w' K L := by
  have H := Lib.hid h
  have HA := Lib.hid hka
  have HB := Lib.hid hkb
  clear h hka hkb
  by_cases hlen : a.length = b.length
  · have HLEN := Lib.hid hlen
    have HR := Lib.hid hr
    rw [← hlen]
    clear hr hlen
    go_enter Try.func82, Try.ntmps82
    go_wp2
    go_loopw [5] (fun iv wr => ∃ k : Nat, k ≤ a.length ∧ iv = .int .i64 k ∧ Hid (a.take k = b.take k) ∧ St W0 wr K L) (fun iv _ => a.length - (intOf iv).toNat)
    case atStart => exact ⟨0, Nat.zero_le _, rfl, Lib.hid (by simp), H.out⟩
    case round =>
      obtain ⟨k, hk, rfl, HEQ, hst⟩ := hrel
      clear H
      have H := Lib.hid hst
      clear hst
      by_cases hlt : k < a.length
      · have hltb : k < b.length := by have := HLEN.out; omega
        obtain ⟨ba, oa, hqa⟩ := flat_at HA.out H.out (by omega)
        obtain ⟨bb', ob, hqb⟩ := flat_at HB.out H.out (by omega)
        subst hqa
        subst hqb
        have c0 := int_cell HA.out H.out k hlt
        have c1 := int_cell HB.out H.out k hltb
        have ea : a.take (k + 1) = a.take k ++ [a.getD k 0] := by rw [List.take_succ_eq_append_getElem hlt, List.getD_eq_getElem?_getD, List.getElem?_eq_getElem hlt]; rfl
        have eb : b.take (k + 1) = b.take k ++ [b.getD k 0] := by rw [List.take_succ_eq_append_getElem hltb, List.getD_eq_getElem?_getD, List.getElem?_eq_getElem hltb]; rfl
        have hne : a.getD k 0 ≠ b.getD k 0 → a ≠ b := by rintro h rfl; exact h rfl
        obtain ⟨x, hx⟩ : ∃ x, a.getD k 0 = x := ⟨_, rfl⟩
        obtain ⟨y, hy⟩ : ∃ y, b.getD k 0 = y := ⟨_, rfl⟩
        rw [hx] at c0 ea hne
        rw [hy] at c1 eb hne
        have EA := Lib.hid (And.intro ea (And.intro eb hne))
        clear ea eb hne hx hy hltb
        by_cases hxy : x = y
        · subst hxy
          go_wp2
          go_quiet (fail)
          go_wp2
          go_roundw
          case rel => exact ⟨k + 1, hlt, by go_num, Lib.hid (by rw [EA.out.1, EA.out.2.1, HEQ.out]), H.out.drewN _⟩
          case measure => first | (simp [intOf]; done) | (simp [intOf]; omega)
        · have HNE := Lib.hid (EA.out.2.2 hxy)
          go_wp2
          go_quiet (fail)
          go_wp2
          go_ret
          exact ⟨ret_bool (by rw [← HR.out]; exact (decide_eq_false HNE.out).symm), H.out.drewN _⟩
      · have hke : k = a.length := by omega
        subst hke
        go_wp2
        go_ret
        refine ⟨ret_bool ?_, H.out⟩
        have h := HEQ.out
        rw [List.take_of_length_le (by omega), List.take_of_length_le (by have := HLEN.out; omega)] at h
        rw [← HR.out]
        exact (decide_eq_true h).symm
  · have HR := Lib.hid hr
    have hne : ¬ ((a.length : Int) = (b.length : Int)) := by omega
    have HLEN := Lib.hid hlen
    clear hr hlen
    go_enter Try.func82, Try.ntmps82
    go_wp2
    go_ret
    exact ⟨ret_bool (by rw [← HR.out]; exact (decide_eq_false (by rintro rfl; exact HLEN.out rfl)).symm), H.out⟩

set_option maxHeartbeats 1000000 in
set_option maxRecDepth 100000 in
theorem ints_equal (a b : List Int) (q1 q2 : Option Addr) (cap1 cap2 : Nat) (hl : a.length ≤ 9223372036854775807) (hl2 : b.length ≤ 9223372036854775807) (r : Bool) (hr : decide (a = b) = r) {W0 w : World} {K : Know} {L : List Res} (hka : K.has (Know.flat RI (.slice q1 a.length cap1) 1 a)) (hkb : K.has (Know.flat RI (.slice q2 b.length cap2) 1 b)) (h : St W0 w K L) :
    Calls Try.prog 85 #[.slice q1 a.length cap1, .slice q2 b.length cap2] w fun en w' => en = .returned (.bool r) ∧ St W0 w' K L := by
  have H := Lib.hid h
  have HA := Lib.hid hka
  have HB := Lib.hid hkb
  clear h hka hkb
  by_cases hlen : a.length = b.length
  · have HLEN := Lib.hid hlen
    have HR := Lib.hid hr
    rw [← hlen]
    clear hr hlen
    go_enter Try.func85, Try.ntmps85
    go_wp2
    go_loopw [13] (fun iv wr => ∃ k : Nat, k ≤ a.length ∧ iv = .int .i64 k ∧ Hid (a.take k = b.take k) ∧ St W0 wr K L) (fun iv _ => a.length - (intOf iv).toNat)
    case atStart => exact ⟨0, Nat.zero_le _, rfl, Lib.hid (by simp), H.out⟩
    case round =>
      obtain ⟨k, hk, rfl, HEQ, hst⟩ := hrel
      clear H
      have H := Lib.hid hst
      clear hst
      by_cases hlt : k < a.length
      · have hltb : k < b.length := by have := HLEN.out; omega
        obtain ⟨ba, oa, hqa⟩ := flat_at HA.out H.out (by omega)
        obtain ⟨bb', ob, hqb⟩ := flat_at HB.out H.out (by omega)
        subst hqa
        subst hqb
        have c0 := int_cell HA.out H.out k hlt
        have c1 := int_cell HB.out H.out k hltb
        have ea : a.take (k + 1) = a.take k ++ [a.getD k 0] := by rw [List.take_succ_eq_append_getElem hlt, List.getD_eq_getElem?_getD, List.getElem?_eq_getElem hlt]; rfl
        have eb : b.take (k + 1) = b.take k ++ [b.getD k 0] := by rw [List.take_succ_eq_append_getElem hltb, List.getD_eq_getElem?_getD, List.getElem?_eq_getElem hltb]; rfl
        have hne : a.getD k 0 ≠ b.getD k 0 → a ≠ b := by rintro h rfl; exact h rfl
        obtain ⟨x, hx⟩ : ∃ x, a.getD k 0 = x := ⟨_, rfl⟩
        obtain ⟨y, hy⟩ : ∃ y, b.getD k 0 = y := ⟨_, rfl⟩
        rw [hx] at c0 ea hne
        rw [hy] at c1 eb hne
        have EA := Lib.hid (And.intro ea (And.intro eb hne))
        clear ea eb hne hx hy hltb
        by_cases hxy : x = y
        · subst hxy
          go_wp2
          go_quiet (fail)
          go_wp2
          go_roundw
          case rel => exact ⟨k + 1, hlt, by go_num, Lib.hid (by rw [EA.out.1, EA.out.2.1, HEQ.out]), H.out.drewN _⟩
          case measure => first | (simp [intOf]; done) | (simp [intOf]; omega)
        · have HNE := Lib.hid (EA.out.2.2 hxy)
          go_wp2
          go_quiet (fail)
          go_wp2
          go_ret
          exact ⟨ret_bool (by rw [← HR.out]; exact (decide_eq_false HNE.out).symm), H.out.drewN _⟩
      · have hke : k = a.length := by omega
        subst hke
        go_wp2
        go_ret
        refine ⟨ret_bool ?_, H.out⟩
        have h := HEQ.out
        rw [List.take_of_length_le (by omega), List.take_of_length_le (by have := HLEN.out; omega)] at h
        rw [← HR.out]
        exact (decide_eq_true h).symm
  · have HR := Lib.hid hr
    have hne : ¬ ((a.length : Int) = (b.length : Int)) := by omega
    have HLEN := Lib.hid hlen
    clear hr hlen
    go_enter Try.func85, Try.ntmps85
    go_wp2
    go_ret
    exact ⟨ret_bool (by rw [← HR.out]; exact (decide_eq_false (by rintro rfl; exact HLEN.out rfl)).symm), H.out⟩

end Go.Proofs.Ytombolmicfjjpaa
