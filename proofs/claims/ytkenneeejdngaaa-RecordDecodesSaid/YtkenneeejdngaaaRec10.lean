/- Contracts: what stands in a record, by the document. -/
import Derived.Test.YtkenneeejdngaaaRec9
namespace Go.Proofs.Ytkenneeejdngaaa
open Go.RowKit

theorem c_ne {c : UInt8} (hc : c ≠ 0) : ((c.toNat : Int) != 0) = true := by
  rw [bne_iff_ne]
  intro hh
  exact hc (UInt8.toNat_inj.1 (by simpa using hh))
theorem ref_get64E (s : Bs) (e : Int) (hv : vgetF 1 10 0 0 s = .error e) (hs : s.length ≤ 140737488355328) {W0 w : World} {K : Know} {L : List Res} (h : St W0 w K L) :
    Calls Try.prog 68 #[.string (bb s), .int .i64 64] w fun en w' => en = .returned (.tuple #[.int .u64 0, .int .i64 0, .int .i64 e]) ∧ St W0 w' K L := by
  have := ref_get s 64 10 1 1 hs (by decide) (by decide) (by decide) (by decide) (by decide) h
  rw [hv] at this; exact this
theorem ref_get64O (s : Bs) (u k : Nat) (hv : vgetF 1 10 0 0 s = .ok (u, k)) (hs : s.length ≤ 140737488355328) {W0 w : World} {K : Know} {L : List Res} (h : St W0 w K L) :
    Calls Try.prog 68 #[.string (bb s), .int .i64 64] w fun en w' => en = .returned (.tuple #[.int .u64 u, .int .i64 k, .int .i64 0]) ∧ St W0 w' K L := by
  have := ref_get s 64 10 1 1 hs (by decide) (by decide) (by decide) (by decide) (by decide) h
  rw [hv] at this; exact this

set_option maxHeartbeats 1000000 in
set_option maxRecDepth 100000 in
theorem ref07_inner_none  {W0 w : World} {K : Know} {L : List Res} (h : St W0 w K L) :
    Calls Try.prog 77 #[.string (bb [])] w fun en w' => en = .returned (.agg #[.int .i64 0, .int .i64 0, .bool false, .string ⟨#[]⟩, .bool false, .string ⟨#[]⟩, .slice none 0 0, .int .i64 0, .int .i64 1]) ∧ St W0 w' K L := by
  have h0 := h.allocRaw #[.int .i64 0, .int .i64 0, .bool false, .string ⟨#[]⟩, .bool false, .string ⟨#[]⟩, .slice none 0 0, .int .i64 0, .int .i64 0] 73
  obtain ⟨wA, hwA⟩ : ∃ b, w.heap.size = b := ⟨_, rfl⟩
  rw [hwA] at h0
  have H := Lib.hid h0

  clear h h0
  go_enter Try.func77, Try.ntmps77
  go_wp2_with (first
    | (go_at_call 76; refine (ref07_fault _ H.out).mono ?_; rintro e wn ⟨rfl, h⟩; replace H := Lib.hid h; clear h; obtain ⟨ac0, ac1, ac2, ac3, ac4, ac5, ac6, ac7, ac8, af0, af1, af2, af3, af4, af5, af6, af7, af8⟩ := raw9 (b := wA) (H.out)))
  refine bodyPost_ret (v := .agg #[.int .i64 0, .int .i64 0, .bool false, .string ⟨#[]⟩, .bool false, .string ⟨#[]⟩, .slice none 0 0, .int .i64 0, .int .i64 1]) (by simp [results, Try.results77, go_sem, ac0, ac1, ac2, ac3, ac4, ac5, ac6, ac7, ac8]) rfl ⟨rfl, (((((((((H.out.rawSet 0 _).rawSet 1 _).rawSet 2 _).rawSet 3 _).rawSet 4 _).rawSet 5 _).rawSet 6 _).rawSet 7 _).rawSet 8 _).drop⟩

set_option maxHeartbeats 1000000 in
set_option maxRecDepth 100000 in
theorem ref07_inner_attr (c : UInt8) (t : Bs) (hc : c ≠ 0) (hl : t.length ≤ 140737488355320) {W0 w : World} {K : Know} {L : List Res} (h : St W0 w K L) :
    Calls Try.prog 77 #[.string (bb (c :: t))] w fun en w' => en = .returned (.agg #[.int .i64 0, .int .i64 0, .bool false, .string ⟨#[]⟩, .bool false, .string ⟨#[]⟩, .slice none 0 0, .int .i64 0, .int .i64 8]) ∧ St W0 w' K L := by
  have h0 := h.allocRaw #[.int .i64 0, .int .i64 0, .bool false, .string ⟨#[]⟩, .bool false, .string ⟨#[]⟩, .slice none 0 0, .int .i64 0, .int .i64 0] 73
  obtain ⟨wA, hwA⟩ : ∃ b, w.heap.size = b := ⟨_, rfl⟩
  rw [hwA] at h0
  have H := Lib.hid h0
  have h1 : decide (((c :: t : Bs).length : Int) < 1) = false := decide_eq_false (by simp only [List.length_cons]; omega)
  have hcn : ((((c :: t : Bs)[0]'(by simp)).toNat : Int) != 0) = true := c_ne hc
  clear h h0
  go_enter Try.func77, Try.ntmps77
  go_wp2_with (first
    | (go_at_call 76; refine (ref07_fault _ H.out).mono ?_; rintro e wn ⟨rfl, h⟩; replace H := Lib.hid h; clear h; obtain ⟨ac0, ac1, ac2, ac3, ac4, ac5, ac6, ac7, ac8, af0, af1, af2, af3, af4, af5, af6, af7, af8⟩ := raw9 (b := wA) (H.out)))
  refine bodyPost_ret (v := .agg #[.int .i64 0, .int .i64 0, .bool false, .string ⟨#[]⟩, .bool false, .string ⟨#[]⟩, .slice none 0 0, .int .i64 0, .int .i64 8]) (by simp [results, Try.results77, go_sem, ac0, ac1, ac2, ac3, ac4, ac5, ac6, ac7, ac8]) rfl ⟨rfl, (((((((((H.out.rawSet 0 _).rawSet 1 _).rawSet 2 _).rawSet 3 _).rawSet 4 _).rawSet 5 _).rawSet 6 _).rawSet 7 _).rawSet 8 _).drop⟩

set_option maxHeartbeats 1000000 in
set_option maxRecDepth 100000 in
theorem ref07_inner_time (t : Bs) (e : Int) (hv : vgetF 1 10 0 0 t = .error e) (hb : (e != 0) = true) (hs : t.length ≤ 140737488355320) {W0 w : World} {K : Know} {L : List Res} (h : St W0 w K L) :
    Calls Try.prog 77 #[.string (bb (0 :: t))] w fun en w' => en = .returned (.agg #[.int .i64 0, .int .i64 0, .bool false, .string ⟨#[]⟩, .bool false, .string ⟨#[]⟩, .slice none 0 0, .int .i64 0, .int .i64 e]) ∧ St W0 w' K L := by
  have h0 := h.allocRaw #[.int .i64 0, .int .i64 0, .bool false, .string ⟨#[]⟩, .bool false, .string ⟨#[]⟩, .slice none 0 0, .int .i64 0, .int .i64 0] 73
  obtain ⟨wA, hwA⟩ : ∃ b, w.heap.size = b := ⟨_, rfl⟩
  rw [hwA] at h0
  have H := Lib.hid h0
  have h1 : decide (((0 :: t : Bs).length : Int) < 1) = false := decide_eq_false (by simp only [List.length_cons]; omega)
  have hcn : ((((0 :: t : Bs)[0]'(by simp)).toNat : Int) != 0) = false := rfl
  have HV := Lib.hid hv
  have HS := Lib.hid (show t.length ≤ 140737488355328 by omega)
  clear hv hs
  clear h h0
  go_enter Try.func77, Try.ntmps77
  go_wp2_with (first
    | (go_at_call 68; refine (ref_get64E t e HV.out HS.out H.out).mono ?_; rintro e wn ⟨rfl, h⟩; replace H := Lib.hid h; clear h)
    | (go_at_call 76; refine (ref07_fault _ H.out).mono ?_; rintro e wn ⟨rfl, h⟩; replace H := Lib.hid h; clear h; obtain ⟨ac0, ac1, ac2, ac3, ac4, ac5, ac6, ac7, ac8, af0, af1, af2, af3, af4, af5, af6, af7, af8⟩ := raw9 (b := wA) (H.out)))
  refine bodyPost_ret (v := .agg #[.int .i64 0, .int .i64 0, .bool false, .string ⟨#[]⟩, .bool false, .string ⟨#[]⟩, .slice none 0 0, .int .i64 0, .int .i64 e]) (by simp [results, Try.results77, go_sem, ac0, ac1, ac2, ac3, ac4, ac5, ac6, ac7, ac8]) rfl ⟨rfl, (((((((((H.out.rawSet 0 _).rawSet 1 _).rawSet 2 _).rawSet 3 _).rawSet 4 _).rawSet 5 _).rawSet 6 _).rawSet 7 _).rawSet 8 _).drop⟩

end Go.Proofs.Ytkenneeejdngaaa
