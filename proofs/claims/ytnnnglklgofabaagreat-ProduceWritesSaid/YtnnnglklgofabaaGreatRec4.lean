/- A text. -/
import Derived.Test.YtnnnglklgofabaaGreatRec3
namespace Go.Proofs.YtnnnglklgofabaaGreat
open Go.RowKit

theorem zq50 {p : Prop} (h : p := by simp [results, Tryz.results181, go_sem, ac0, ac1, ac2, ac3, ac4, ac5, ac6]) : p := h
set_option maxHeartbeats 1000000 in
set_option maxRecDepth 100000 in
theorem rec_read_ok (p : Nat) (i i1 k c : InS) (nm : Bs) (x : RecS) (hn : i.name = (nm, i1)) (hx : (⟨nm, 0, 0⟩ : InS).recFields = (x, k)) (hc : k.close = c) (hl : nm.length ≤ 140737488355328) (he : c.err = 0) (hj : i1.err = 0) {W0 w : World} {K : Know} {L : List Res} (h : St W0 w K (.inp p i :: L)) :
  Calls Tryz.prog 181 #[inPtr p] w fun en w' => ∃ v, en = .returned (.agg #[.int .i64 x.time, .int .i64 x.off, .bool x.key.null, .string (bb x.key.data), .bool x.val.null, .string (bb x.val.data), v]) ∧ St W0 w' (K.and (Know.flat RHdr v 3 x.hdrs)) (.inp p i1 :: L) := by
 have h0 := (h.allocRaw #[.int .i64 0, .int .i64 0, .bool false, .string ⟨#[]⟩, .bool false, .string ⟨#[]⟩, .slice none 0 0] 119).p1; obtain ⟨wA, hwA⟩ : ∃ b, w.heap.size = b := ⟨_, rfl⟩; rw [hwA] at h0; have H := Lib.hid h0; have EN := Lib.hid hn; have EX := Lib.hid hx; have EC := Lib.hid hc; have HL := Lib.hid hl; have HE := Lib.hid he; have HJ := Lib.hid hj
 skip
 clear h h0 hn hx hc hl he hj ; go_enter Tryz.func181, Tryz.ntmps181
 go_wp2_with (first
  | (go_at_call 185; refine (blob_name _ i H.out).mono ?_; rw [EN.out]; rintro e wn ⟨rfl, h⟩; replace H := Lib.hid h; clear h)
  | (go_at_call 14; refine (s_new nm HL.out H.out).mono ?_; rintro e wn ⟨bi, rfl, h⟩; replace H := Lib.hid h; clear h)
  | (go_at_call 186; refine (rec_fields _ _ H.out).mono ?_; rw [EX.out]; rintro e wn ⟨v6, rfl, h⟩; obtain ⟨q6, cap6, hv6⟩ := flat_form (Know.has_right (Know.has_refl _)) h; subst hv6; obtain ⟨wB, hwB⟩ : ∃ b, wn.heap.size = b := ⟨_, rfl⟩; have h := h.allocRaw #[.int .i64 x.time, .int .i64 x.off, .bool x.key.null, .string (bb x.key.data), .bool x.val.null, .string (bb x.val.data), .slice q6 x.hdrs.length cap6] 119; rw [hwB] at h; replace H := Lib.hid (show St W0 _ (K.and (Know.flat RHdr (.slice q6 x.hdrs.length cap6) 3 x.hdrs)) (.raw wB #[.int .i64 x.time, .int .i64 x.off, .bool x.key.null, .string (bb x.key.data), .bool x.val.null, .string (bb x.val.data), .slice q6 x.hdrs.length cap6] 119 :: .inp bi k :: .inp p i1 :: .raw wA #[.int .i64 0, .int .i64 0, .bool false, .string ⟨#[]⟩, .bool false, .string ⟨#[]⟩, .slice none 0 0] 119 :: L) from h); clear h)
  | (go_at_call 18; refine (s_close _ k H.out.p1).mono ?_; rw [EC.out, HE.out]; rintro e wn ⟨rfl, h⟩; replace H := Lib.hid h.p2; clear h)
  | (go_at_call 20; refine (s_err _ i1 H.out).mono ?_; rw [HJ.out]; rintro e wn ⟨rfl, h⟩; replace H := Lib.hid h; clear h; (first | (obtain ⟨ac0, ac1, ac2, ac3, ac4, ac5, ac6, af0, af1, af2, af3, af4, af5, af6⟩ := raw7 (b := wA) H.out) | (obtain ⟨ac0, ac1, ac2, ac3, ac4, ac5, ac6, af0, af1, af2, af3, af4, af5, af6⟩ := raw7 (b := wA) H.out.p1) | (obtain ⟨ac0, ac1, ac2, ac3, ac4, ac5, ac6, af0, af1, af2, af3, af4, af5, af6⟩ := raw7 (b := wA) H.out.p2) | (obtain ⟨ac0, ac1, ac2, ac3, ac4, ac5, ac6, af0, af1, af2, af3, af4, af5, af6⟩ := raw7 (b := wA) H.out.p3)); (first | (obtain ⟨bc0, bc1, bc2, bc3, bc4, bc5, bc6, bf0, bf1, bf2, bf3, bf4, bf5, bf6⟩ := raw7 (b := wB) H.out) | (obtain ⟨bc0, bc1, bc2, bc3, bc4, bc5, bc6, bf0, bf1, bf2, bf3, bf4, bf5, bf6⟩ := raw7 (b := wB) H.out.p1) | (obtain ⟨bc0, bc1, bc2, bc3, bc4, bc5, bc6, bf0, bf1, bf2, bf3, bf4, bf5, bf6⟩ := raw7 (b := wB) H.out.p2) | (obtain ⟨bc0, bc1, bc2, bc3, bc4, bc5, bc6, bf0, bf1, bf2, bf3, bf4, bf5, bf6⟩ := raw7 (b := wB) H.out.p3))))
 refine bodyPost_ret (v := .agg #[.int .i64 x.time, .int .i64 x.off, .bool x.key.null, .string (bb x.key.data), .bool x.val.null, .string (bb x.val.data), .slice q6 x.hdrs.length cap6]) zq50 rfl ⟨.slice q6 x.hdrs.length cap6, rfl, ?_⟩; exact ((((((((H.out.p3).rawSet 0 _).rawSet 1 _).rawSet 2 _).rawSet 3 _).rawSet 4 _).rawSet 5 _).rawSet 6 _).drop.p1.drop.p1.drop

set_option maxHeartbeats 1000000 in
set_option maxRecDepth 100000 in
theorem rec_read_bad (p : Nat) (i i1 k c : InS) (nm : Bs) (x : RecS) (hn : i.name = (nm, i1)) (hx : (⟨nm, 0, 0⟩ : InS).recFields = (x, k)) (hc : k.close = c) (hl : nm.length ≤ 140737488355328) (he : c.err = 0) (f : Int) (hj : i1.err = f) (hf : (f != 0) = true) {W0 w : World} {K : Know} {L : List Res} (h : St W0 w K (.inp p i :: L)) :
  Calls Tryz.prog 181 #[inPtr p] w fun en w' => en = .returned (.agg #[.int .i64 0, .int .i64 0, .bool false, .string ⟨#[]⟩, .bool false, .string ⟨#[]⟩, .slice none 0 0]) ∧ St W0 w' K (.inp p i1 :: L) := by
 have h0 := (h.allocRaw #[.int .i64 0, .int .i64 0, .bool false, .string ⟨#[]⟩, .bool false, .string ⟨#[]⟩, .slice none 0 0] 119).p1; obtain ⟨wA, hwA⟩ : ∃ b, w.heap.size = b := ⟨_, rfl⟩; rw [hwA] at h0; have H := Lib.hid h0; have EN := Lib.hid hn; have EX := Lib.hid hx; have EC := Lib.hid hc; have HL := Lib.hid hl; have HE := Lib.hid he; have HJ := Lib.hid hj
 skip
 clear h h0 hn hx hc hl he hj ; go_enter Tryz.func181, Tryz.ntmps181
 go_wp2_with (first
  | (go_at_call 185; refine (blob_name _ i H.out).mono ?_; rw [EN.out]; rintro e wn ⟨rfl, h⟩; replace H := Lib.hid h; clear h)
  | (go_at_call 14; refine (s_new nm HL.out H.out).mono ?_; rintro e wn ⟨bi, rfl, h⟩; replace H := Lib.hid h; clear h)
  | (go_at_call 186; refine (rec_fields _ _ H.out).mono ?_; rw [EX.out]; rintro e wn ⟨v6, rfl, h⟩; obtain ⟨q6, cap6, hv6⟩ := flat_form (Know.has_right (Know.has_refl _)) h; subst hv6; obtain ⟨wB, hwB⟩ : ∃ b, wn.heap.size = b := ⟨_, rfl⟩; have h := h.allocRaw #[.int .i64 x.time, .int .i64 x.off, .bool x.key.null, .string (bb x.key.data), .bool x.val.null, .string (bb x.val.data), .slice q6 x.hdrs.length cap6] 119; rw [hwB] at h; replace H := Lib.hid (show St W0 _ (K.and (Know.flat RHdr (.slice q6 x.hdrs.length cap6) 3 x.hdrs)) (.raw wB #[.int .i64 x.time, .int .i64 x.off, .bool x.key.null, .string (bb x.key.data), .bool x.val.null, .string (bb x.val.data), .slice q6 x.hdrs.length cap6] 119 :: .inp bi k :: .inp p i1 :: .raw wA #[.int .i64 0, .int .i64 0, .bool false, .string ⟨#[]⟩, .bool false, .string ⟨#[]⟩, .slice none 0 0] 119 :: L) from h); clear h)
  | (go_at_call 18; refine (s_close _ k H.out.p1).mono ?_; rw [EC.out, HE.out]; rintro e wn ⟨rfl, h⟩; replace H := Lib.hid h.p2; clear h)
  | (go_at_call 20; refine (s_err _ i1 H.out).mono ?_; rw [HJ.out]; rintro e wn ⟨rfl, h⟩; replace H := Lib.hid h; clear h; (first | (obtain ⟨ac0, ac1, ac2, ac3, ac4, ac5, ac6, af0, af1, af2, af3, af4, af5, af6⟩ := raw7 (b := wA) H.out) | (obtain ⟨ac0, ac1, ac2, ac3, ac4, ac5, ac6, af0, af1, af2, af3, af4, af5, af6⟩ := raw7 (b := wA) H.out.p1) | (obtain ⟨ac0, ac1, ac2, ac3, ac4, ac5, ac6, af0, af1, af2, af3, af4, af5, af6⟩ := raw7 (b := wA) H.out.p2) | (obtain ⟨ac0, ac1, ac2, ac3, ac4, ac5, ac6, af0, af1, af2, af3, af4, af5, af6⟩ := raw7 (b := wA) H.out.p3)); (first | (obtain ⟨bc0, bc1, bc2, bc3, bc4, bc5, bc6, bf0, bf1, bf2, bf3, bf4, bf5, bf6⟩ := raw7 (b := wB) H.out) | (obtain ⟨bc0, bc1, bc2, bc3, bc4, bc5, bc6, bf0, bf1, bf2, bf3, bf4, bf5, bf6⟩ := raw7 (b := wB) H.out.p1) | (obtain ⟨bc0, bc1, bc2, bc3, bc4, bc5, bc6, bf0, bf1, bf2, bf3, bf4, bf5, bf6⟩ := raw7 (b := wB) H.out.p2) | (obtain ⟨bc0, bc1, bc2, bc3, bc4, bc5, bc6, bf0, bf1, bf2, bf3, bf4, bf5, bf6⟩ := raw7 (b := wB) H.out.p3))))
 refine bodyPost_ret (v := .agg #[.int .i64 0, .int .i64 0, .bool false, .string ⟨#[]⟩, .bool false, .string ⟨#[]⟩, .slice none 0 0]) zq50 rfl ⟨rfl, ?_⟩; exact (((((((((H.out.p3).rawSet 0 _).rawSet 1 _).rawSet 2 _).rawSet 3 _).rawSet 4 _).rawSet 5 _).rawSet 6 _).drop.p1.drop.p1.drop).know (Know.has_left (Know.has_refl _))

set_option maxHeartbeats 1000000 in
set_option maxRecDepth 100000 in
theorem rec_read_inner (p : Nat) (i i1 k c : InS) (nm : Bs) (x : RecS) (hn : i.name = (nm, i1)) (hx : (⟨nm, 0, 0⟩ : InS).recFields = (x, k)) (hc : k.close = c) (hl : nm.length ≤ 140737488355328) (e : Int) (he : c.err = e) (hen : (e != 0) = true) (j : InS) (hjj : i1.fail e = j) (f : Int) (hj : j.err = f) (hf : (f != 0) = true) {W0 w : World} {K : Know} {L : List Res} (h : St W0 w K (.inp p i :: L)) :
  Calls Tryz.prog 181 #[inPtr p] w fun en w' => en = .returned (.agg #[.int .i64 0, .int .i64 0, .bool false, .string ⟨#[]⟩, .bool false, .string ⟨#[]⟩, .slice none 0 0]) ∧ St W0 w' K (.inp p j :: L) := by
 have h0 := (h.allocRaw #[.int .i64 0, .int .i64 0, .bool false, .string ⟨#[]⟩, .bool false, .string ⟨#[]⟩, .slice none 0 0] 119).p1; obtain ⟨wA, hwA⟩ : ∃ b, w.heap.size = b := ⟨_, rfl⟩; rw [hwA] at h0; have H := Lib.hid h0; have EN := Lib.hid hn; have EX := Lib.hid hx; have EC := Lib.hid hc; have HL := Lib.hid hl; have HE := Lib.hid he; have HJ := Lib.hid hj; have EJ := Lib.hid hjj; clear h h0 hn hx hc hl he hj hjj; go_enter Tryz.func181, Tryz.ntmps181
 go_wp2_with (first
  | (go_at_call 185; refine (blob_name _ i H.out).mono ?_; rw [EN.out]; rintro e wn ⟨rfl, h⟩; replace H := Lib.hid h; clear h)
  | (go_at_call 14; refine (s_new nm HL.out H.out).mono ?_; rintro e wn ⟨bi, rfl, h⟩; replace H := Lib.hid h; clear h)
  | (go_at_call 186; refine (rec_fields _ _ H.out).mono ?_; rw [EX.out]; rintro e wn ⟨v6, rfl, h⟩; obtain ⟨q6, cap6, hv6⟩ := flat_form (Know.has_right (Know.has_refl _)) h; subst hv6; obtain ⟨wB, hwB⟩ : ∃ b, wn.heap.size = b := ⟨_, rfl⟩; have h := h.allocRaw #[.int .i64 x.time, .int .i64 x.off, .bool x.key.null, .string (bb x.key.data), .bool x.val.null, .string (bb x.val.data), .slice q6 x.hdrs.length cap6] 119; rw [hwB] at h; replace H := Lib.hid (show St W0 _ (K.and (Know.flat RHdr (.slice q6 x.hdrs.length cap6) 3 x.hdrs)) (.raw wB #[.int .i64 x.time, .int .i64 x.off, .bool x.key.null, .string (bb x.key.data), .bool x.val.null, .string (bb x.val.data), .slice q6 x.hdrs.length cap6] 119 :: .inp bi k :: .inp p i1 :: .raw wA #[.int .i64 0, .int .i64 0, .bool false, .string ⟨#[]⟩, .bool false, .string ⟨#[]⟩, .slice none 0 0] 119 :: L) from h); clear h)
  | (go_at_call 18; refine (s_close _ k H.out.p1).mono ?_; rw [EC.out, HE.out]; rintro e wn ⟨rfl, h⟩; replace H := Lib.hid h.p2; clear h)
  | (go_at_call 47; refine (s_fail _ i1 _ H.out).mono ?_; rw [EJ.out]; rintro e wn ⟨rfl, h⟩; replace H := Lib.hid h; clear h)
  | (go_at_call 20; refine (s_err _ j H.out).mono ?_; rw [HJ.out]; rintro e wn ⟨rfl, h⟩; replace H := Lib.hid h; clear h; (first | (obtain ⟨ac0, ac1, ac2, ac3, ac4, ac5, ac6, af0, af1, af2, af3, af4, af5, af6⟩ := raw7 (b := wA) H.out) | (obtain ⟨ac0, ac1, ac2, ac3, ac4, ac5, ac6, af0, af1, af2, af3, af4, af5, af6⟩ := raw7 (b := wA) H.out.p1) | (obtain ⟨ac0, ac1, ac2, ac3, ac4, ac5, ac6, af0, af1, af2, af3, af4, af5, af6⟩ := raw7 (b := wA) H.out.p2) | (obtain ⟨ac0, ac1, ac2, ac3, ac4, ac5, ac6, af0, af1, af2, af3, af4, af5, af6⟩ := raw7 (b := wA) H.out.p3)); (first | (obtain ⟨bc0, bc1, bc2, bc3, bc4, bc5, bc6, bf0, bf1, bf2, bf3, bf4, bf5, bf6⟩ := raw7 (b := wB) H.out) | (obtain ⟨bc0, bc1, bc2, bc3, bc4, bc5, bc6, bf0, bf1, bf2, bf3, bf4, bf5, bf6⟩ := raw7 (b := wB) H.out.p1) | (obtain ⟨bc0, bc1, bc2, bc3, bc4, bc5, bc6, bf0, bf1, bf2, bf3, bf4, bf5, bf6⟩ := raw7 (b := wB) H.out.p2) | (obtain ⟨bc0, bc1, bc2, bc3, bc4, bc5, bc6, bf0, bf1, bf2, bf3, bf4, bf5, bf6⟩ := raw7 (b := wB) H.out.p3))))
 refine bodyPost_ret (v := .agg #[.int .i64 0, .int .i64 0, .bool false, .string ⟨#[]⟩, .bool false, .string ⟨#[]⟩, .slice none 0 0]) zq50 rfl ⟨rfl, ?_⟩; exact (((((((((H.out.p3).rawSet 0 _).rawSet 1 _).rawSet 2 _).rawSet 3 _).rawSet 4 _).rawSet 5 _).rawSet 6 _).drop.p1.drop.p1.drop).know (Know.has_left (Know.has_refl _))

theorem name_len (i : InS) (h : i.ok) : i.name.1.length ≤ i.s.length := by
 by_cases he : i.err = 0
 · obtain ⟨s, pos, err⟩ := i; simp only at he; subst he; have hp : pos ≤ s.length := h.1
   show (InS.varied ⟨s, pos, 0⟩).1.data.length ≤ s.length
   cases hv : revaried (s.drop pos) with
   | ok b =>
    obtain ⟨g1, g2⟩ := rds_varied.ok s pos b.1 b.2 hp hv; obtain ⟨_, _, _, _, _, o⟩ := revaried_one hv; rw [g2]; simp only
    split at o <;> omega
   | error e =>
    obtain ⟨_, q, _, g⟩ := rds_varied.err s pos e hp hv; rw [g]
    simp
 · rw [name_stuck he]; simp
theorem rec_read (p : Nat) (i : InS) {W0 w : World} {K : Know} {L : List Res} (h : St W0 w K (.inp p i :: L)) :
   Calls Tryz.prog 181 #[inPtr p] w fun en w' => ∃ v, en = .returned (.agg #[.int .i64 i.record.1.time, .int .i64 i.record.1.off, .bool i.record.1.key.null, .string (bb i.record.1.key.data), .bool i.record.1.val.null, .string (bb i.record.1.val.data), v]) ∧ St W0 w' (K.and (Know.flat RHdr v 3 i.record.1.hdrs)) (.inp p i.record.2 :: L) := by
 have hok := h.inpGet.2; have hnl := name_len i hok; have hsl := hok.2; obtain ⟨⟨nm, i1⟩, hn⟩ : ∃ z, i.name = z := ⟨_, rfl⟩; rw [hn] at hnl; simp only at hnl; obtain ⟨⟨x, k⟩, hx⟩ : ∃ z, (⟨nm, 0, 0⟩ : InS).recFields = z := ⟨_, rfl⟩; have hz : ∀ (K' : Know), K'.has (K'.and (Know.flat RHdr (.slice none 0 0) 3 [])) := fun K' => know_nil _ _ _
 unfold InS.record InS.recJ recD; rw [hn]; simp only; rw [hx]; simp only
 by_cases he : k.close.err = 0
 · rw [if_pos he]
   by_cases hj : i1.err = 0
   · rw [if_pos hj]; exact rec_read_ok p i i1 k _ nm x hn hx rfl (by omega) he hj h
   · rw [if_neg hj]; exact (rec_read_bad p i i1 k _ nm x hn hx rfl (by omega) he _ rfl (bne_iff_ne.2 hj) h).mono fun en w' hh => ⟨_, hh.1, hh.2.know (hz K)⟩
 · rw [if_neg he]; have hj : (i1.fail k.close.err).err ≠ 0 := by unfold InS.fail; split; exact he; assumption
   rw [if_neg hj]; exact (rec_read_inner p i i1 k _ nm x hn hx rfl (by omega) _ rfl (bne_iff_ne.2 he) _ rfl _ rfl (bne_iff_ne.2 hj) h).mono fun en w' hh => ⟨_, hh.1, hh.2.know (hz K)⟩

end Go.Proofs.YtnnnglklgofabaaGreat
