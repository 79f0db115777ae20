/- Layer 16, walked: VersionChecks. -/
import Derived.Test.YtngnhdiafbjfkaaDoorVer2
namespace Go.Proofs.YtngnhdiafbjfkaaDoor
open Go.RowKit

theorem law16_knownV (kind : Int) (a : Int) (nm : Bs) (lo hi : Int) (ok : Bool) (vn : ByteArray) (hx : reqOf kind = (a, nm, lo, hi, ok)) (hv : vn = bb nm) {W0 w : World} {K : Know} {L : List Res} (h : St W0 w K L) :
    Calls Tryd.prog 8 #[.int .i64 kind] w fun en w' => en = .returned (.tuple #[.int .i64 lo, .int .i64 hi, .string vn]) ∧ St W0 w' K L := by
  subst hv
  exact law16_known kind a nm lo hi ok hx h
theorem ver_nameV (kind : Int) (a : Int) (nm : Bs) (lo hi : Int) (ok : Bool) (vn : ByteArray) (hx : reqOf kind = (a, nm, lo, hi, ok)) (hv : vn = bb nm) {W0 w : World} {K : Know} {L : List Res} (hk : K.has Know.reqs) (h : St W0 w K L) :
    Calls Tryd.prog 10 #[.int .i64 kind] w fun en w' => en = .returned (.string vn) ∧ St W0 w' K L := by
  subst hv
  exact ver_name kind a nm lo hi ok hx hk h
theorem reqOf_known {kind a : Int} {nm : Bs} {lo hi : Int} (hx : reqOf kind = (a, nm, lo, hi, true)) : nm ≠ [] := by
  intro h
  subst h
  unfold reqOf at hx
  repeat (first | (split at hx; · simp at hx) | split at hx)
  simp at hx
theorem reqOf_unknown {kind a : Int} {nm : Bs} {lo hi : Int} (hx : reqOf kind = (a, nm, lo, hi, false)) : nm = [] ∧ lo = 0 ∧ hi = 0 := by
  unfold reqOf at hx
  repeat (first | (split at hx; · simp at hx) | split at hx)
  simp at hx
  obtain ⟨_, rfl, rfl, rfl⟩ := hx
  exact ⟨rfl, rfl, rfl⟩
set_option maxHeartbeats 1000000 in
set_option maxRecDepth 100000 in
theorem versionChecks_any (kind v : Int) {W0 w : World} {K : Know} (hk : K.has Know.reqs) (h : St W0 w K []) :
    Calls Tryd.prog 3 #[.int .i64 kind, .int .i64 v] w fun en w' => en = .returned (.bool true) ∧ Below W0.heap.size W0 w' := by
  obtain ⟨⟨a, nm, lo, hi, ok⟩, hx⟩ : ∃ p, reqOf kind = p := ⟨_, rfl⟩
  have HX := Lib.hid hx
  have HK := Lib.hid hk
  have H := Lib.hid h
  clear h hk
  cases ok with
  | false =>
    obtain ⟨rfl, rfl, rfl⟩ := reqOf_unknown hx
    have HQ := Lib.hid (show verErr kind v = 12 by unfold verErr; rw [hx]; rfl)
    have HV := Lib.hid (show (⟨#[]⟩ : ByteArray) = bb [] from rfl)
    clear hx
    go_enter Tryd.func3, Tryd.ntmps3
    go_wp2_with (first
    | (go_at_call 7; (with_reducible refine (speaks16 HK.out H.out).mono ?_); rintro e wn ⟨rfl, h⟩; replace H := Lib.hid h; clear h)
    | (go_at_call 8; (with_reducible refine (law16_knownV kind _ _ _ _ _ _ HX.out HV.out H.out).mono ?_); rintro e wn ⟨rfl, h⟩; replace H := Lib.hid h; clear h)
    | (go_at_call 9; (with_reducible refine (ver_range kind _ _ _ _ _ HX.out HK.out H.out).mono ?_); rintro e wn ⟨rfl, h⟩; replace H := Lib.hid h; clear h)
    | (go_at_call 10; (with_reducible refine (ver_nameV kind _ _ _ _ _ _ HX.out HV.out HK.out H.out).mono ?_); rintro e wn ⟨rfl, h⟩; replace H := Lib.hid h; clear h)
    | (go_at_call 11; (with_reducible refine (ver_check kind v _ HQ.out HK.out H.out).mono ?_); rintro e wn ⟨rfl, h⟩; replace H := Lib.hid h; clear h))
    go_ret
    exact ⟨rfl, H.out.below⟩
  | true =>
    have hne := reqOf_known hx
    have hn1 : ¬ (nm = []) := hne
    have hvq : verErr kind v = if v < lo ∨ hi < v then 7 else 0 := by unfold verErr; rw [hx]; rfl
    clear hx
    have hn2 : nm.isEmpty = false := by cases nm with
      | nil => exact absurd rfl hne
      | cons _ _ => rfl
    by_cases h1 : v < lo
    · have HQ := Lib.hid (show verErr kind v = 7 by rw [hvq, if_pos (.inl h1)])
      have d1 : decide (v < lo) = true := decide_eq_true h1
      clear h1 hvq
      go_enter Tryd.func3, Tryd.ntmps3
      go_wp2_with (first
    | (go_at_call 7; (with_reducible refine (speaks16 HK.out H.out).mono ?_); rintro e wn ⟨rfl, h⟩; replace H := Lib.hid h; clear h)
    | (go_at_call 8; (with_reducible refine (law16_knownV kind _ _ _ _ _ _ HX.out rfl H.out).mono ?_); rintro e wn ⟨rfl, h⟩; replace H := Lib.hid h; clear h)
    | (go_at_call 9; (with_reducible refine (ver_range kind _ _ _ _ _ HX.out HK.out H.out).mono ?_); rintro e wn ⟨rfl, h⟩; replace H := Lib.hid h; clear h)
    | (go_at_call 10; (with_reducible refine (ver_nameV kind _ _ _ _ _ _ HX.out rfl HK.out H.out).mono ?_); rintro e wn ⟨rfl, h⟩; replace H := Lib.hid h; clear h)
    | (go_at_call 11; (with_reducible refine (ver_check kind v _ HQ.out HK.out H.out).mono ?_); rintro e wn ⟨rfl, h⟩; replace H := Lib.hid h; clear h))
      go_ret
      exact ⟨rfl, H.out.below⟩
    · by_cases h2 : hi < v
      · have HQ := Lib.hid (show verErr kind v = 7 by rw [hvq, if_pos (.inr h2)])
        have d1 : decide (v < lo) = false := decide_eq_false h1
        have d2 : decide (hi < v) = true := decide_eq_true h2
        clear h1 h2 hvq
        go_enter Tryd.func3, Tryd.ntmps3
        go_wp2_with (first
    | (go_at_call 7; (with_reducible refine (speaks16 HK.out H.out).mono ?_); rintro e wn ⟨rfl, h⟩; replace H := Lib.hid h; clear h)
    | (go_at_call 8; (with_reducible refine (law16_knownV kind _ _ _ _ _ _ HX.out rfl H.out).mono ?_); rintro e wn ⟨rfl, h⟩; replace H := Lib.hid h; clear h)
    | (go_at_call 9; (with_reducible refine (ver_range kind _ _ _ _ _ HX.out HK.out H.out).mono ?_); rintro e wn ⟨rfl, h⟩; replace H := Lib.hid h; clear h)
    | (go_at_call 10; (with_reducible refine (ver_nameV kind _ _ _ _ _ _ HX.out rfl HK.out H.out).mono ?_); rintro e wn ⟨rfl, h⟩; replace H := Lib.hid h; clear h)
    | (go_at_call 11; (with_reducible refine (ver_check kind v _ HQ.out HK.out H.out).mono ?_); rintro e wn ⟨rfl, h⟩; replace H := Lib.hid h; clear h))
        go_ret
        exact ⟨rfl, H.out.below⟩
      · have HQ := Lib.hid (show verErr kind v = 0 by rw [hvq, if_neg (by omega)])
        have d1 : decide (v < lo) = false := decide_eq_false h1
        have d2 : decide (hi < v) = false := decide_eq_false h2
        clear h1 h2 hvq
        go_enter Tryd.func3, Tryd.ntmps3
        go_wp2_with (first
    | (go_at_call 7; (with_reducible refine (speaks16 HK.out H.out).mono ?_); rintro e wn ⟨rfl, h⟩; replace H := Lib.hid h; clear h)
    | (go_at_call 8; (with_reducible refine (law16_knownV kind _ _ _ _ _ _ HX.out rfl H.out).mono ?_); rintro e wn ⟨rfl, h⟩; replace H := Lib.hid h; clear h)
    | (go_at_call 9; (with_reducible refine (ver_range kind _ _ _ _ _ HX.out HK.out H.out).mono ?_); rintro e wn ⟨rfl, h⟩; replace H := Lib.hid h; clear h)
    | (go_at_call 10; (with_reducible refine (ver_nameV kind _ _ _ _ _ _ HX.out rfl HK.out H.out).mono ?_); rintro e wn ⟨rfl, h⟩; replace H := Lib.hid h; clear h)
    | (go_at_call 11; (with_reducible refine (ver_check kind v _ HQ.out HK.out H.out).mono ?_); rintro e wn ⟨rfl, h⟩; replace H := Lib.hid h; clear h))
        go_ret
        exact ⟨rfl, H.out.below⟩

end Go.Proofs.YtngnhdiafbjfkaaDoor
