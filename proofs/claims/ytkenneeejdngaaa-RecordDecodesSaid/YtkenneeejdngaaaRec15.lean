/- Contracts: reading a record, by the document: in all. -/
import Derived.Test.YtkenneeejdngaaaRec14
namespace Go.Proofs.Ytkenneeejdngaaa
open Go.RowKit

theorem ref07_innerO (s : Bs) (x : RecS) (hi : reInner s = .ok x) (hs : s.length ≤ 1000000) {W0 w : World} {K : Know} {L : List Res} (h : St W0 w K L) :
    Calls Try.prog 77 #[.string (bb s)] w fun en w' => ∃ v, en = .returned (.agg #[.int .i64 x.time, .int .i64 x.off, .bool x.key.null, .string (bb x.key.data), .bool x.val.null, .string (bb x.val.data), v, .int .i64 0, .int .i64 0]) ∧ St W0 w' (K.and (Know.flat RHdr v 3 x.hdrs)) L :=
  (ref07_inner s hs h).mono fun en w' hh => by unfold Post9 at hh; rw [hi] at hh; exact hh
theorem ref07_innerE (s : Bs) (e : Int) (hi : reInner s = .error e) (hs : s.length ≤ 1000000) {W0 w : World} {K : Know} {L : List Res} (h : St W0 w K L) :
    Calls Try.prog 77 #[.string (bb s)] w fun en w' => en = .returned (.agg #[.int .i64 0, .int .i64 0, .bool false, .string ⟨#[]⟩, .bool false, .string ⟨#[]⟩, .slice none 0 0, .int .i64 0, .int .i64 e]) ∧ St W0 w' K L :=
  (ref07_inner s hs h).mono fun en w' hh => by unfold Post9 at hh; rw [hi] at hh; exact hh

set_option maxHeartbeats 1000000 in
set_option maxRecDepth 100000 in
theorem ref07_read_ok (s d : Bs) (m : Nat) (x : RecS) (hr : revaried s = .ok (⟨false, d⟩, m)) (hi : reInner d = .ok x) (hd : d.length ≤ 1000000) (hs : s.length ≤ 140737488355328) {W0 w : World} {K : Know} {L : List Res} (h : St W0 w K L) :
    Calls Try.prog 44 #[.string (bb s)] w fun en w' => ∃ v, en = .returned (.agg #[.int .i64 x.time, .int .i64 x.off, .bool x.key.null, .string (bb x.key.data), .bool x.val.null, .string (bb x.val.data), v, .int .i64 m, .int .i64 0]) ∧ St W0 w' (K.and (Know.flat RHdr v 3 x.hdrs)) L := by
  have h0 := h.allocRaw #[.int .i64 0, .int .i64 0, .bool false, .string ⟨#[]⟩, .bool false, .string ⟨#[]⟩, .slice none 0 0, .int .i64 0, .int .i64 0] 73
  obtain ⟨wA, hwA⟩ : ∃ b, w.heap.size = b := ⟨_, rfl⟩
  rw [hwA] at h0
  have H := Lib.hid h0
  have HS := Lib.hid hs
  have HD := Lib.hid hd
  have HI := Lib.hid hi
  have HG := Lib.hid (show gotV (revaried s) = .agg #[.bool false, .string (bb d), .int .i64 m, .int .i64 0] by rw [hr]; rfl)
  clear h h0 hs hr hd hi
  go_enter Try.func44, Try.ntmps44
  go_wp2_with (first
    | (go_at_call 70; refine (ref04_readVariedT s s _ rfl HS.out HG.out H.out).mono ?_; rintro e wn ⟨rfl, h⟩; obtain ⟨wB, hwB⟩ : ∃ b, wn.heap.size = b := ⟨_, rfl⟩; have h := h.allocRaw #[.bool false, .string (bb d), .int .i64 m, .int .i64 0] 111; rw [hwB] at h; replace H := Lib.hid h; clear h; obtain ⟨q0, q1, q2, q3⟩ := raw_all4r (b := wB) (H.out))
    | (go_at_call 77; refine (ref07_innerO d x HI.out HD.out H.out).mono ?_; rintro e wn ⟨vh, rfl, h⟩; obtain ⟨qh, caph, hvh⟩ := flat_form (Know.has_right (Know.has_refl _)) h; subst hvh; have h2 := h.allocRaw #[.int .i64 x.time, .int .i64 x.off, .bool x.key.null, .string (bb x.key.data), .bool x.val.null, .string (bb x.val.data), (.slice qh x.hdrs.length caph), .int .i64 m, .int .i64 0] 73; obtain ⟨wX, hwX⟩ : ∃ b, wn.heap.size = b := ⟨_, rfl⟩; have h := h.allocRaw #[.int .i64 x.time, .int .i64 x.off, .bool x.key.null, .string (bb x.key.data), .bool x.val.null, .string (bb x.val.data), (.slice qh x.hdrs.length caph), .int .i64 0, .int .i64 0] 73; rw [hwX] at h; replace H := Lib.hid h; clear h; rw [hwX] at h2; have H2 := Lib.hid h2; clear h2; obtain ⟨xc0, xc1, xc2, xc3, xc4, xc5, xc6, xc7, xc8, xf0, xf1, xf2, xf3, xf4, xf5, xf6, xf7, xf8⟩ := raw9 (b := wX) (H.out); obtain ⟨ac0, ac1, ac2, ac3, ac4, ac5, ac6, ac7, ac8, af0, af1, af2, af3, af4, af5, af6, af7, af8⟩ := raw9 (b := wA) (H2.out.p2); obtain ⟨q0, q1, q2, q3⟩ := raw_all4r (b := wB) (H.out.p1); have n1 : ¬ (wX = wA) := H.out.p1.drop.raw_ne; have m1 : ¬ (wA = wX) := fun e => n1 e.symm; have n2 : ¬ (wX = wB) := H.out.raw_ne; have m2 : ¬ (wB = wX) := fun e => n2 e.symm))
  refine bodyPost_ret (v := .agg #[.int .i64 x.time, .int .i64 x.off, .bool x.key.null, .string (bb x.key.data), .bool x.val.null, .string (bb x.val.data), (.slice qh x.hdrs.length caph), .int .i64 m, .int .i64 0]) (by simp [results, Try.results44, go_sem, ac0, ac1, ac2, ac3, ac4, ac5, ac6, ac7, ac8]) rfl ⟨.slice qh x.hdrs.length caph, rfl, ((((((((((H2.out.p2).rawSet 0 _).rawSet 1 _).rawSet 2 _).rawSet 3 _).rawSet 4 _).rawSet 5 _).rawSet 6 _).rawSet 7 _).rawSet 8 _).drop.drop.drop⟩

set_option maxHeartbeats 1000000 in
set_option maxRecDepth 100000 in
theorem ref07_read_in (s d : Bs) (m : Nat) (e : Int) (hr : revaried s = .ok (⟨false, d⟩, m)) (hi : reInner d = .error e) (hd : d.length ≤ 1000000) (hs : s.length ≤ 140737488355328) {W0 w : World} {K : Know} {L : List Res} (h : St W0 w K L) :
    Calls Try.prog 44 #[.string (bb s)] w fun en w' => en = .returned (.agg #[.int .i64 0, .int .i64 0, .bool false, .string ⟨#[]⟩, .bool false, .string ⟨#[]⟩, .slice none 0 0, .int .i64 m, .int .i64 e]) ∧ St W0 w' K L := by
  have h0 := h.allocRaw #[.int .i64 0, .int .i64 0, .bool false, .string ⟨#[]⟩, .bool false, .string ⟨#[]⟩, .slice none 0 0, .int .i64 0, .int .i64 0] 73
  obtain ⟨wA, hwA⟩ : ∃ b, w.heap.size = b := ⟨_, rfl⟩
  rw [hwA] at h0
  have H := Lib.hid h0
  have HS := Lib.hid hs
  have HD := Lib.hid hd
  have HI := Lib.hid hi
  have HG := Lib.hid (show gotV (revaried s) = .agg #[.bool false, .string (bb d), .int .i64 m, .int .i64 0] by rw [hr]; rfl)
  clear h h0 hs hr hd hi
  go_enter Try.func44, Try.ntmps44
  go_wp2_with (first
    | (go_at_call 70; refine (ref04_readVariedT s s _ rfl HS.out HG.out H.out).mono ?_; rintro e wn ⟨rfl, h⟩; obtain ⟨wB, hwB⟩ : ∃ b, wn.heap.size = b := ⟨_, rfl⟩; have h := h.allocRaw #[.bool false, .string (bb d), .int .i64 m, .int .i64 0] 111; rw [hwB] at h; replace H := Lib.hid h; clear h; obtain ⟨q0, q1, q2, q3⟩ := raw_all4r (b := wB) (H.out))
    | (go_at_call 77; refine (ref07_innerE d e HI.out HD.out H.out).mono ?_; rintro e wn ⟨rfl, h⟩; have h2 := h.allocRaw #[.int .i64 0, .int .i64 0, .bool false, .string ⟨#[]⟩, .bool false, .string ⟨#[]⟩, .slice none 0 0, .int .i64 m, .int .i64 e] 73; obtain ⟨wX, hwX⟩ : ∃ b, wn.heap.size = b := ⟨_, rfl⟩; have h := h.allocRaw #[.int .i64 0, .int .i64 0, .bool false, .string ⟨#[]⟩, .bool false, .string ⟨#[]⟩, .slice none 0 0, .int .i64 0, .int .i64 e] 73; rw [hwX] at h; replace H := Lib.hid h; clear h; rw [hwX] at h2; have H2 := Lib.hid h2; clear h2; obtain ⟨xc0, xc1, xc2, xc3, xc4, xc5, xc6, xc7, xc8, xf0, xf1, xf2, xf3, xf4, xf5, xf6, xf7, xf8⟩ := raw9 (b := wX) (H.out); obtain ⟨ac0, ac1, ac2, ac3, ac4, ac5, ac6, ac7, ac8, af0, af1, af2, af3, af4, af5, af6, af7, af8⟩ := raw9 (b := wA) (H2.out.p2); obtain ⟨q0, q1, q2, q3⟩ := raw_all4r (b := wB) (H.out.p1); have n1 : ¬ (wX = wA) := H.out.p1.drop.raw_ne; have m1 : ¬ (wA = wX) := fun e => n1 e.symm; have n2 : ¬ (wX = wB) := H.out.raw_ne; have m2 : ¬ (wB = wX) := fun e => n2 e.symm))
  refine bodyPost_ret (v := .agg #[.int .i64 0, .int .i64 0, .bool false, .string ⟨#[]⟩, .bool false, .string ⟨#[]⟩, .slice none 0 0, .int .i64 m, .int .i64 e]) (by simp [results, Try.results44, go_sem, ac0, ac1, ac2, ac3, ac4, ac5, ac6, ac7, ac8]) rfl ⟨rfl, ((((((((((H2.out.p2).rawSet 0 _).rawSet 1 _).rawSet 2 _).rawSet 3 _).rawSet 4 _).rawSet 5 _).rawSet 6 _).rawSet 7 _).rawSet 8 _).drop.drop.drop⟩

def PostR (r : Except Int (RecS × Nat)) (K : Know) (W0 : World) (L : List Res) (en : Ending) (w' : World) : Prop := match r with
  | .ok x => ∃ v, en = .returned (.agg #[.int .i64 x.1.time, .int .i64 x.1.off, .bool x.1.key.null, .string (bb x.1.key.data), .bool x.1.val.null, .string (bb x.1.val.data), v, .int .i64 x.2, .int .i64 0]) ∧ St W0 w' (K.and (Know.flat RHdr v 3 x.1.hdrs)) L
  | .error e => ∃ m : Int, en = .returned (.agg #[.int .i64 0, .int .i64 0, .bool false, .string ⟨#[]⟩, .bool false, .string ⟨#[]⟩, .slice none 0 0, .int .i64 m, .int .i64 e]) ∧ St W0 w' K L
theorem ref07_read (s : Bs) (hs : s.length ≤ 1000000) {W0 w : World} {K : Know} {L : List Res} (h : St W0 w K L) :
    Calls Try.prog 44 #[.string (bb s)] w (PostR (reRec s) K W0 L) := by
  unfold reRec
  cases hr : revaried s with
  | error e => exact (ref07_read_err s e hr (bne_iff_ne.2 (revaried_nz hr)) (by omega) h).mono fun en w' hh => ⟨0, hh⟩
  | ok x =>
    obtain ⟨⟨n, d⟩, m⟩ := x
    simp only
    obtain ⟨_, _, g3, _, _, g5⟩ := revaried_one hr
    cases n with
    | true => exact (ref07_read_null s d m hr (by omega) h).mono fun en w' hh => ⟨0, hh⟩
    | false =>
      have hd : d.length ≤ 1000000 := by simp at g5; omega
      simp only [Bool.false_eq_true, if_false]
      cases hi : reInner d with
      | error e => exact (ref07_read_in s d m e hr hi hd (by omega) h).mono fun en w' hh => ⟨m, hh⟩
      | ok x => exact (ref07_read_ok s d m x hr hi hd (by omega) h).mono fun en w' hh => hh

end Go.Proofs.Ytkenneeejdngaaa
