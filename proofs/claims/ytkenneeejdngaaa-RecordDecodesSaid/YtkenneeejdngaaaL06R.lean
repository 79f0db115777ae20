/- Layer 6, walked: HeaderReads. -/
import Derived.Test.YtkenneeejdngaaaRef06b
import Derived.Test.YtkenneeejdngaaaL06F
namespace Go.Proofs.Ytkenneeejdngaaa
open Go.RowKit

theorem ref06_readO (s : Bs) (l : List HdrS) (m : Nat) (hr : reHdrs s = .ok (l, m)) (hs : s.length ≤ 140737488355328) {W0 w : World} {K : Know} {L : List Res} (h : St W0 w K L) :
    Calls Try.prog 30 #[.string (bb s)] w fun en w' => ∃ v, en = .returned (.tuple #[v, .int .i64 m, .int .i64 0]) ∧ St W0 w' (K.and (Know.flat RHdr v 3 l)) L :=
  (ref06_readH s hs h).mono fun en w' hh => by unfold HRead at hh; rw [hr] at hh; exact hh
theorem ref06_readE (s : Bs) (e : Int) (hr : reHdrs s = .error e) (hs : s.length ≤ 140737488355328) {W0 w : World} {K : Know} {L : List Res} (h : St W0 w K L) :
    Calls Try.prog 30 #[.string (bb s)] w fun en w' => ∃ v, en = .returned (.tuple #[v, .int .i64 0, .int .i64 e]) ∧ St W0 w' (K.and (Know.flat RHdr v 3 [])) L :=
  (ref06_readH s hs h).mono fun en w' hh => by unfold HRead at hh; rw [hr] at hh; exact hh

set_option maxHeartbeats 1000000 in
set_option maxRecDepth 100000 in
theorem headerReads_long (s : Bs) (hl : 1000 < s.length) (hl2 : s.length ≤ 9223372036854775807) {W0 w : World} (h : St W0 w Know.none []) :
    Calls Try.prog 6 #[.string (bb s)] w fun en w' => en = .returned (.bool true) ∧ Below W0.heap.size W0 w' := by
  have H := Lib.hid h
  have hlen : decide ((1000 : Int) < (s.length : Int)) = true := decide_eq_true (by omega)
  clear h hl hl2
  go_enter Try.func6, Try.ntmps6
  go_wp2_with (go_at_call 20; refine (speaks06 H.out).mono ?_; rintro e wn ⟨rfl, h⟩; replace H := Lib.hid h; clear h)
  go_ret
  exact ⟨rfl, H.out.below⟩

set_option maxHeartbeats 1000000 in
set_option maxRecDepth 100000 in
theorem headerReads_bad (s : Bs) (e : Int) (hl : s.length ≤ 1000) (he : reHdrs s = .error e) {W0 w : World} (h : St W0 w Know.none []) :
    Calls Try.prog 6 #[.string (bb s)] w fun en w' => en = .returned (.bool true) ∧ Below W0.heap.size W0 w' := by
  have H := Lib.hid h
  obtain ⟨hnz, q, _, hh⟩ := rds_hdrs.err s 0 e (Nat.zero_le _) (by rw [List.drop_zero]; exact he)
  have EH := Lib.hid hh
  have ER := Lib.hid he
  have HSL := Lib.hid (show s.length ≤ 140737488355328 by omega)
  have HLL := Lib.hid (show ([] : List HdrS).length ≤ 9223372036854775807 by decide)
  have hlen : decide ((1000 : Int) < (s.length : Int)) = false := decide_eq_false (by omega)
  have hb : (e != 0) = true := by rw [bne_iff_ne]; exact hnz
  clear h hl he hnz hh
  go_enter Try.func6, Try.ntmps6
  go_wp2_with (first
    | (go_at_call 20; refine (speaks06 H.out).mono ?_; rintro e wn ⟨rfl, h⟩; replace H := Lib.hid h; clear h)
    | (go_at_call 25; refine (s_new s HSL.out H.out).mono ?_; rintro e wn ⟨bi, rfl, h⟩; replace H := Lib.hid h; clear h)
    | (go_at_call 28; refine (header_read _ _ H.out).mono ?_; rw [EH.out]; rintro e wn ⟨vr, rfl, h⟩; replace H := Lib.hid h; clear h)
    | (go_at_call 30; refine (ref06_readE s e ER.out HSL.out H.out).mono ?_; rintro e wn ⟨v2, rfl, h⟩; replace H := Lib.hid h; clear h)
    | (go_at_call 27; refine (ref06_same _ _ [] [] HLL.out HLL.out (Know.has_left (Know.has_right (Know.has_refl _))) (Know.has_right (Know.has_refl _)) H.out).mono ?_; rintro e wn ⟨rfl, h⟩; replace H := Lib.hid h; clear h)
    | (go_at_call 31; refine (s_err _ _ H.out).mono ?_; rintro e wn ⟨rfl, h⟩; replace H := Lib.hid h; clear h))
  go_quiet (fail)
  go_wp2
  go_ret
  exact ⟨rfl, (H.out.drewN _).below⟩

set_option maxHeartbeats 1000000 in
set_option maxRecDepth 100000 in
theorem headerReads_ok (s : Bs) (l : List HdrS) (m : Nat) (hl : s.length ≤ 1000) (he : reHdrs s = .ok (l, m)) {W0 w : World} (h : St W0 w Know.none []) :
    Calls Try.prog 6 #[.string (bb s)] w fun en w' => en = .returned (.bool true) ∧ Below W0.heap.size W0 w' := by
  have H := Lib.hid h
  have hh := (rds_hdrs.ok s 0 l m (Nat.zero_le _) (by rw [List.drop_zero]; exact he)).2
  rw [Nat.zero_add] at hh
  obtain ⟨o1, o2, o3, o4, o5⟩ := reHdrs_one he
  have hsl := hsum_le l
  have EH := Lib.hid hh
  have ER := Lib.hid he
  have HSL := Lib.hid (show s.length ≤ 140737488355328 by omega)
  have HLL := Lib.hid (show l.length ≤ 9223372036854775807 by omega)
  have HSZ := Lib.hid (show hsize l ≤ 70368744177664 by omega)
  have EO := Lib.hid o1
  have hlen : decide ((1000 : Int) < (s.length : Int)) = false := decide_eq_false (by omega)
  clear h hl he hh hsl o1 o2 o4 o5
  go_enter Try.func6, Try.ntmps6
  go_wp2_with (first
    | (go_at_call 20; refine (speaks06 H.out).mono ?_; rintro e wn ⟨rfl, h⟩; replace H := Lib.hid h; clear h)
    | (go_at_call 25; refine (s_new s HSL.out H.out).mono ?_; rintro e wn ⟨bi, rfl, h⟩; replace H := Lib.hid h; clear h)
    | (go_at_call 28; refine (header_read _ _ H.out).mono ?_; rw [EH.out]; rintro e wn ⟨vr, rfl, h⟩; replace H := Lib.hid h; clear h)
    | (go_at_call 30; refine (ref06_readO s l m ER.out HSL.out H.out).mono ?_; rintro e wn ⟨v2, rfl, h⟩; replace H := Lib.hid h; clear h)
    | (go_at_call 27; refine (ref06_same _ _ l l HLL.out HLL.out (Know.has_left (Know.has_right (Know.has_refl _))) (Know.has_right (Know.has_refl _)) H.out).mono ?_; rintro e wn ⟨rfl, h⟩; replace H := Lib.hid h; clear h)
    | (go_at_call 31; refine (s_err _ _ H.out).mono ?_; rintro e wn ⟨rfl, h⟩; replace H := Lib.hid h; clear h))
  have h1 := H.out.drew
  clear H
  go_region_held3 (fun w' => St W0 w' ((Know.none.and (Know.flat RHdr vr 3 l)).and (Know.flat RHdr v2 3 l)) [.inp bi ⟨s, m, 0⟩])
    (assumption)
    (first
      | (go_at_call 32; refine (s_at _ _ (by assumption)).mono ?_; rintro e wn ⟨rfl, h⟩)
      | (go_at_call 26; refine (ref06_write _ l HSZ.out (Know.has_left (Know.has_right (Know.has_refl _))) (by assumption)).mono ?_; rw [EO.out]; rintro e wn ⟨rfl, h⟩))
  all_goals
    go_wp2
    go_ret
    exact ⟨rfl, (show St W0 _ ((Know.none.and (Know.flat RHdr vr 3 l)).and (Know.flat RHdr v2 3 l)) [.inp bi ⟨s, m, 0⟩] by assumption).below⟩

theorem headerReads_any (s : Bs) (w : World) (hl : s.length ≤ 9223372036854775807) :
    Calls Try.prog 6 #[.string (bb s)] w fun en w' => en = .returned (.bool true) ∧ Below w.heap.size w w' := by
  have h : St w w Know.none [] := St.start trivial
  by_cases h1 : 1000 < s.length
  · exact headerReads_long s h1 hl h
  cases hr : reHdrs s with
  | ok x => exact headerReads_ok s x.1 x.2 (by omega) hr h
  | error e => exact headerReads_bad s e (by omega) hr h

end Go.Proofs.Ytkenneeejdngaaa
