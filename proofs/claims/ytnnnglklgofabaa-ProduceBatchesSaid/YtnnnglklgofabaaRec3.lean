/- A text. -/
import Derived.Test.YtnnnglklgofabaaRec2
namespace Go.Proofs.Ytnnnglklgofabaa
open Go.RowKit

theorem St.raw_ne {W0 w : World} {K : Know} {L : List Res} {a b : Nat} {c c' : Array Value} {T T' : TypeId} (h : St W0 w K (.raw a c T :: .raw b c' T' :: L)) : ¬ (a = b) := by
 rintro rfl
 obtain ⟨_, S, F, ⟨S1, S2, h1, ⟨S3, S4, h3, _, _, e3⟩, d1, _⟩, _⟩ := h
 exact d1 a ((h1.2 a).2 rfl) ((e3 a).2 (.inl ((h3.2 a).2 rfl)))
theorem St.set1 {W0 w : World} {K : Know} {L : List Res} {r : Res} {b j : Nat} {c : Array Value} {T : TypeId} {v : Value} (h : St W0 w K (r :: .raw b c T :: L)) : St W0 (w.setCell ⟨b, j, none⟩ v) K (r :: .raw b (c.setIfInBounds j v) T :: L) := (h.p1.rawSet j v).p1

set_option maxHeartbeats 1000000 in
set_option maxRecDepth 100000 in
theorem rec_fields_10 (p : Nat) (i i1 i2 i3 i4 i5 i6 : InS) (a t o : Int) (kb vb : BlobS) (hs : List HdrS) (e0 : i.int 1 = (a, i1)) (ha : (a != 0) = false) (e1 : i1.vlong = (t, i2)) (e2 : i2.vint = (o, i3)) (ho : ¬ o < 0) (e4 : i3.varied = (kb, i4)) (e5 : i4.varied = (vb, i5)) (e6 : i5.hdrs = (hs, i6)) {W0 w : World} {K : Know} {L : List Res} (h : St W0 w K (.inp p i :: L)) :
  Calls Try.prog 107 #[inPtr p] w fun en w' => ∃ v, en = .returned (.agg #[.int .i64 t, .int .i64 o, .bool kb.null, .string (bb kb.data), .bool vb.null, .string (bb vb.data), v]) ∧ St W0 w' (K.and (Know.flat RHdr v 3 hs)) (.inp p i6 :: L) := by
 have h0 := (h.allocRaw #[.int .i64 0, .int .i64 0, .bool false, .string ⟨#[]⟩, .bool false, .string ⟨#[]⟩, .slice none 0 0] 81).p1
 obtain ⟨wA, hwA⟩ : ∃ b, w.heap.size = b := ⟨_, rfl⟩
 rw [hwA] at h0
 have H := Lib.hid h0
 have E0 := Lib.hid e0
 have E1 := Lib.hid e1
 have E2 := Lib.hid e2
 have E4 := Lib.hid e4
 have E5 := Lib.hid e5
 have E6 := Lib.hid e6
 have t0 : True := trivial
 have t1 : True := trivial
 have t2 : True := trivial
 have t3 : True := trivial
 have t4 : True := trivial
 have t5 : True := trivial
 have t6 : True := trivial
 clear h h0 e0 e1 e2 e4 e5 e6
 go_enter Try.func107, Try.ntmps107
 go_wp2_with (first
  | (go_at_call 20; have _t := t0; clear _t; refine (s_int _ i 1 H.out).mono ?_; rw [E0.out]; rintro e wn ⟨rfl, h⟩; replace H := Lib.hid (show St W0 wn K (.inp p i1 :: .raw wA #[.int .i64 0, .int .i64 0, .bool false, .string ⟨#[]⟩, .bool false, .string ⟨#[]⟩, .slice none 0 0] 81 :: L) from h); clear h t0; obtain ⟨wB, hwB⟩ : ∃ b, wn.heap.size = b := ⟨_, rfl⟩; have HB := H.out.allocRaw #[.int .i64 0, .int .i64 0, .bool false, .string ⟨#[]⟩, .bool false, .string ⟨#[]⟩, .slice none 0 0] 81; rw [hwB] at HB; have HB := Lib.hid HB.p1)
  | (go_at_call 110; have _t := t2; clear _t; refine (sv_long _ i1 HB.out).mono ?_; rw [E1.out]; rintro e wn ⟨rfl, h⟩; replace H := Lib.hid (show St W0 wn (K) (.inp p i2 :: .raw wB #[.int .i64 0, .int .i64 0, .bool false, .string ⟨#[]⟩, .bool false, .string ⟨#[]⟩, .slice none 0 0] 81 :: .raw wA #[.int .i64 0, .int .i64 0, .bool false, .string ⟨#[]⟩, .bool false, .string ⟨#[]⟩, .slice none 0 0] 81 :: L) from h); clear h t2; obtain ⟨yc0, yc1, yc2, yc3, yc4, yc5, yc6, yf0, yf1, yf2, yf3, yf4, yf5, yf6⟩ := raw7 (H.out.p1))
  | (go_at_call 111; have _t := t3; clear _t; refine (sv_int _ i2 (St.set1 H.out)).mono ?_; rw [E2.out]; rintro e wn ⟨rfl, h⟩; replace H := Lib.hid (show St W0 wn (K) (.inp p i3 :: .raw wB #[.int .i64 t, .int .i64 0, .bool false, .string ⟨#[]⟩, .bool false, .string ⟨#[]⟩, .slice none 0 0] 81 :: .raw wA #[.int .i64 0, .int .i64 0, .bool false, .string ⟨#[]⟩, .bool false, .string ⟨#[]⟩, .slice none 0 0] 81 :: L) from h); clear h t3; obtain ⟨yc0, yc1, yc2, yc3, yc4, yc5, yc6, yf0, yf1, yf2, yf3, yf4, yf5, yf6⟩ := raw7 (H.out.p1))
  | (go_at_call 109; have _t := t5; clear _t; refine (blob_varied _ i3 (St.set1 H.out)).mono ?_; rw [E4.out]; rintro e wn ⟨rfl, h⟩; replace H := Lib.hid (show St W0 wn (K) (.inp p i4 :: .raw wB #[.int .i64 t, .int .i64 o, .bool false, .string ⟨#[]⟩, .bool false, .string ⟨#[]⟩, .slice none 0 0] 81 :: .raw wA #[.int .i64 0, .int .i64 0, .bool false, .string ⟨#[]⟩, .bool false, .string ⟨#[]⟩, .slice none 0 0] 81 :: L) from h); clear h t5; obtain ⟨yc0, yc1, yc2, yc3, yc4, yc5, yc6, yf0, yf1, yf2, yf3, yf4, yf5, yf6⟩ := raw7 (H.out.p1); unfold bv)
  | (go_at_call 109; have _t := t6; clear _t; refine (blob_varied _ i4 (St.set1 (St.set1 H.out))).mono ?_; rw [E5.out]; rintro e wn ⟨rfl, h⟩; replace H := Lib.hid (show St W0 wn (K) (.inp p i5 :: .raw wB #[.int .i64 t, .int .i64 o, .bool kb.null, .string (bb kb.data), .bool false, .string ⟨#[]⟩, .slice none 0 0] 81 :: .raw wA #[.int .i64 0, .int .i64 0, .bool false, .string ⟨#[]⟩, .bool false, .string ⟨#[]⟩, .slice none 0 0] 81 :: L) from h); clear h t6; obtain ⟨yc0, yc1, yc2, yc3, yc4, yc5, yc6, yf0, yf1, yf2, yf3, yf4, yf5, yf6⟩ := raw7 (H.out.p1); unfold bv)
  | (go_at_call 112; refine (header_read _ i5 (St.set1 (St.set1 H.out))).mono ?_; rw [E6.out]; rintro e wn ⟨v, rfl, h⟩; obtain ⟨q6, cap6, hv6⟩ := flat_form (Know.has_right (Know.has_refl _)) h; subst hv6; replace H := Lib.hid (show St W0 wn (K.and (Know.flat RHdr (.slice q6 hs.length cap6) 3 hs)) (.inp p i6 :: .raw wB #[.int .i64 t, .int .i64 o, .bool kb.null, .string (bb kb.data), .bool vb.null, .string (bb vb.data), .slice none 0 0] 81 :: .raw wA #[.int .i64 0, .int .i64 0, .bool false, .string ⟨#[]⟩, .bool false, .string ⟨#[]⟩, .slice none 0 0] 81 :: L) from h); clear h; obtain ⟨yc0, yc1, yc2, yc3, yc4, yc5, yc6, yf0, yf1, yf2, yf3, yf4, yf5, yf6⟩ := raw7 (H.out.p1); obtain ⟨qc0, qc1, qc2, qc3, qc4, qc5, qc6, qf0, qf1, qf2, qf3, qf4, qf5, qf6⟩ := raw7 (H.out.p2); have hne1 : ¬ (wB = wA) := H.out.drop.raw_ne; have hne2 : ¬ (wA = wB) := (fun e => hne1 e.symm)))
 refine bodyPost_ret (v := .agg #[.int .i64 t, .int .i64 o, .bool kb.null, .string (bb kb.data), .bool vb.null, .string (bb vb.data), .slice q6 hs.length cap6]) (by simp [results, Try.results107, go_sem, qc0, qc1, qc2, qc3, qc4, qc5, qc6]) rfl ⟨.slice q6 hs.length cap6, rfl, ?_⟩
 exact (((((((((H.out.p1.rawSet 6 (.slice q6 hs.length cap6)).p2).rawSet 0 _).rawSet 1 _).rawSet 2 _).rawSet 3 _).rawSet 4 _).rawSet 5 _).rawSet 6 _).drop.drop

set_option maxHeartbeats 1000000 in
set_option maxRecDepth 100000 in
theorem rec_fields_11 (p : Nat) (i i1 i2 i3 j3 i4 i5 i6 : InS) (a t o : Int) (kb vb : BlobS) (hs : List HdrS) (e0 : i.int 1 = (a, i1)) (ha : (a != 0) = false) (e1 : i1.vlong = (t, i2)) (e2 : i2.vint = (o, i3)) (ho : o < 0) (ej3 : i3.fail 11 = j3) (e4 : j3.varied = (kb, i4)) (e5 : i4.varied = (vb, i5)) (e6 : i5.hdrs = (hs, i6)) {W0 w : World} {K : Know} {L : List Res} (h : St W0 w K (.inp p i :: L)) :
  Calls Try.prog 107 #[inPtr p] w fun en w' => ∃ v, en = .returned (.agg #[.int .i64 t, .int .i64 o, .bool kb.null, .string (bb kb.data), .bool vb.null, .string (bb vb.data), v]) ∧ St W0 w' (K.and (Know.flat RHdr v 3 hs)) (.inp p i6 :: L) := by
 have h0 := (h.allocRaw #[.int .i64 0, .int .i64 0, .bool false, .string ⟨#[]⟩, .bool false, .string ⟨#[]⟩, .slice none 0 0] 81).p1
 obtain ⟨wA, hwA⟩ : ∃ b, w.heap.size = b := ⟨_, rfl⟩
 rw [hwA] at h0
 have H := Lib.hid h0
 have E0 := Lib.hid e0
 have E1 := Lib.hid e1
 have E2 := Lib.hid e2
 have E4 := Lib.hid e4
 have E5 := Lib.hid e5
 have E6 := Lib.hid e6
 have EJ3 := Lib.hid ej3
 have t0 : True := trivial
 have t1 : True := trivial
 have t2 : True := trivial
 have t3 : True := trivial
 have t4 : True := trivial
 have t5 : True := trivial
 have t6 : True := trivial
 clear h h0 e0 e1 e2 e4 e5 e6 ej3
 go_enter Try.func107, Try.ntmps107
 go_wp2_with (first
  | (go_at_call 20; have _t := t0; clear _t; refine (s_int _ i 1 H.out).mono ?_; rw [E0.out]; rintro e wn ⟨rfl, h⟩; replace H := Lib.hid (show St W0 wn K (.inp p i1 :: .raw wA #[.int .i64 0, .int .i64 0, .bool false, .string ⟨#[]⟩, .bool false, .string ⟨#[]⟩, .slice none 0 0] 81 :: L) from h); clear h t0; obtain ⟨wB, hwB⟩ : ∃ b, wn.heap.size = b := ⟨_, rfl⟩; have HB := H.out.allocRaw #[.int .i64 0, .int .i64 0, .bool false, .string ⟨#[]⟩, .bool false, .string ⟨#[]⟩, .slice none 0 0] 81; rw [hwB] at HB; have HB := Lib.hid HB.p1)
  | (go_at_call 110; have _t := t2; clear _t; refine (sv_long _ i1 HB.out).mono ?_; rw [E1.out]; rintro e wn ⟨rfl, h⟩; replace H := Lib.hid (show St W0 wn (K) (.inp p i2 :: .raw wB #[.int .i64 0, .int .i64 0, .bool false, .string ⟨#[]⟩, .bool false, .string ⟨#[]⟩, .slice none 0 0] 81 :: .raw wA #[.int .i64 0, .int .i64 0, .bool false, .string ⟨#[]⟩, .bool false, .string ⟨#[]⟩, .slice none 0 0] 81 :: L) from h); clear h t2; obtain ⟨yc0, yc1, yc2, yc3, yc4, yc5, yc6, yf0, yf1, yf2, yf3, yf4, yf5, yf6⟩ := raw7 (H.out.p1))
  | (go_at_call 111; have _t := t3; clear _t; refine (sv_int _ i2 (St.set1 H.out)).mono ?_; rw [E2.out]; rintro e wn ⟨rfl, h⟩; replace H := Lib.hid (show St W0 wn (K) (.inp p i3 :: .raw wB #[.int .i64 t, .int .i64 0, .bool false, .string ⟨#[]⟩, .bool false, .string ⟨#[]⟩, .slice none 0 0] 81 :: .raw wA #[.int .i64 0, .int .i64 0, .bool false, .string ⟨#[]⟩, .bool false, .string ⟨#[]⟩, .slice none 0 0] 81 :: L) from h); clear h t3; obtain ⟨yc0, yc1, yc2, yc3, yc4, yc5, yc6, yf0, yf1, yf2, yf3, yf4, yf5, yf6⟩ := raw7 (H.out.p1))
  | (go_at_call 24; have _t := t4; clear _t; refine (s_fail _ i3 11 (St.set1 H.out)).mono ?_; rw [EJ3.out]; rintro e wn ⟨rfl, h⟩; replace H := Lib.hid (show St W0 wn (K) (.inp p j3 :: .raw wB #[.int .i64 t, .int .i64 o, .bool false, .string ⟨#[]⟩, .bool false, .string ⟨#[]⟩, .slice none 0 0] 81 :: .raw wA #[.int .i64 0, .int .i64 0, .bool false, .string ⟨#[]⟩, .bool false, .string ⟨#[]⟩, .slice none 0 0] 81 :: L) from h); clear h t4; obtain ⟨yc0, yc1, yc2, yc3, yc4, yc5, yc6, yf0, yf1, yf2, yf3, yf4, yf5, yf6⟩ := raw7 (H.out.p1); have HX := H)
  | (go_at_call 109; have _t := t5; clear _t; refine (blob_varied _ j3 H.out).mono ?_; rw [E4.out]; rintro e wn ⟨rfl, h⟩; replace H := Lib.hid (show St W0 wn (K) (.inp p i4 :: .raw wB #[.int .i64 t, .int .i64 o, .bool false, .string ⟨#[]⟩, .bool false, .string ⟨#[]⟩, .slice none 0 0] 81 :: .raw wA #[.int .i64 0, .int .i64 0, .bool false, .string ⟨#[]⟩, .bool false, .string ⟨#[]⟩, .slice none 0 0] 81 :: L) from h); clear h t5; obtain ⟨yc0, yc1, yc2, yc3, yc4, yc5, yc6, yf0, yf1, yf2, yf3, yf4, yf5, yf6⟩ := raw7 (H.out.p1); unfold bv)
  | (go_at_call 109; have _t := t6; clear _t; refine (blob_varied _ i4 (St.set1 (St.set1 H.out))).mono ?_; rw [E5.out]; rintro e wn ⟨rfl, h⟩; replace H := Lib.hid (show St W0 wn (K) (.inp p i5 :: .raw wB #[.int .i64 t, .int .i64 o, .bool kb.null, .string (bb kb.data), .bool false, .string ⟨#[]⟩, .slice none 0 0] 81 :: .raw wA #[.int .i64 0, .int .i64 0, .bool false, .string ⟨#[]⟩, .bool false, .string ⟨#[]⟩, .slice none 0 0] 81 :: L) from h); clear h t6; obtain ⟨yc0, yc1, yc2, yc3, yc4, yc5, yc6, yf0, yf1, yf2, yf3, yf4, yf5, yf6⟩ := raw7 (H.out.p1); unfold bv)
  | (go_at_call 112; refine (header_read _ i5 (St.set1 (St.set1 H.out))).mono ?_; rw [E6.out]; rintro e wn ⟨v, rfl, h⟩; obtain ⟨q6, cap6, hv6⟩ := flat_form (Know.has_right (Know.has_refl _)) h; subst hv6; replace H := Lib.hid (show St W0 wn (K.and (Know.flat RHdr (.slice q6 hs.length cap6) 3 hs)) (.inp p i6 :: .raw wB #[.int .i64 t, .int .i64 o, .bool kb.null, .string (bb kb.data), .bool vb.null, .string (bb vb.data), .slice none 0 0] 81 :: .raw wA #[.int .i64 0, .int .i64 0, .bool false, .string ⟨#[]⟩, .bool false, .string ⟨#[]⟩, .slice none 0 0] 81 :: L) from h); clear h; obtain ⟨yc0, yc1, yc2, yc3, yc4, yc5, yc6, yf0, yf1, yf2, yf3, yf4, yf5, yf6⟩ := raw7 (H.out.p1); obtain ⟨qc0, qc1, qc2, qc3, qc4, qc5, qc6, qf0, qf1, qf2, qf3, qf4, qf5, qf6⟩ := raw7 (H.out.p2); have hne1 : ¬ (wB = wA) := H.out.drop.raw_ne; have hne2 : ¬ (wA = wB) := (fun e => hne1 e.symm)))
 refine bodyPost_ret (v := .agg #[.int .i64 t, .int .i64 o, .bool kb.null, .string (bb kb.data), .bool vb.null, .string (bb vb.data), .slice q6 hs.length cap6]) (by simp [results, Try.results107, go_sem, qc0, qc1, qc2, qc3, qc4, qc5, qc6]) rfl ⟨.slice q6 hs.length cap6, rfl, ?_⟩
 exact (((((((((H.out.p1.rawSet 6 (.slice q6 hs.length cap6)).p2).rawSet 0 _).rawSet 1 _).rawSet 2 _).rawSet 3 _).rawSet 4 _).rawSet 5 _).rawSet 6 _).drop.drop

set_option maxHeartbeats 1000000 in
set_option maxRecDepth 100000 in
theorem rec_fields_00 (p : Nat) (i i1 j1 i2 i3 i4 i5 i6 : InS) (a t o : Int) (kb vb : BlobS) (hs : List HdrS) (e0 : i.int 1 = (a, i1)) (ha : (a != 0) = true) (ej1 : i1.fail 8 = j1) (e1 : j1.vlong = (t, i2)) (e2 : i2.vint = (o, i3)) (ho : ¬ o < 0) (e4 : i3.varied = (kb, i4)) (e5 : i4.varied = (vb, i5)) (e6 : i5.hdrs = (hs, i6)) {W0 w : World} {K : Know} {L : List Res} (h : St W0 w K (.inp p i :: L)) :
  Calls Try.prog 107 #[inPtr p] w fun en w' => ∃ v, en = .returned (.agg #[.int .i64 t, .int .i64 o, .bool kb.null, .string (bb kb.data), .bool vb.null, .string (bb vb.data), v]) ∧ St W0 w' (K.and (Know.flat RHdr v 3 hs)) (.inp p i6 :: L) := by
 have h0 := (h.allocRaw #[.int .i64 0, .int .i64 0, .bool false, .string ⟨#[]⟩, .bool false, .string ⟨#[]⟩, .slice none 0 0] 81).p1
 obtain ⟨wA, hwA⟩ : ∃ b, w.heap.size = b := ⟨_, rfl⟩
 rw [hwA] at h0
 have H := Lib.hid h0
 have E0 := Lib.hid e0
 have E1 := Lib.hid e1
 have E2 := Lib.hid e2
 have E4 := Lib.hid e4
 have E5 := Lib.hid e5
 have E6 := Lib.hid e6
 have EJ1 := Lib.hid ej1
 have t0 : True := trivial
 have t1 : True := trivial
 have t2 : True := trivial
 have t3 : True := trivial
 have t4 : True := trivial
 have t5 : True := trivial
 have t6 : True := trivial
 clear h h0 e0 e1 e2 e4 e5 e6 ej1
 go_enter Try.func107, Try.ntmps107
 go_wp2_with (first
  | (go_at_call 20; have _t := t0; clear _t; refine (s_int _ i 1 H.out).mono ?_; rw [E0.out]; rintro e wn ⟨rfl, h⟩; replace H := Lib.hid (show St W0 wn K (.inp p i1 :: .raw wA #[.int .i64 0, .int .i64 0, .bool false, .string ⟨#[]⟩, .bool false, .string ⟨#[]⟩, .slice none 0 0] 81 :: L) from h); clear h t0; skip)
  | (go_at_call 24; have _t := t1; clear _t; refine (s_fail _ i1 8 H.out).mono ?_; rw [EJ1.out]; rintro e wn ⟨rfl, h⟩; replace H := Lib.hid (show St W0 wn K (.inp p j1 :: .raw wA #[.int .i64 0, .int .i64 0, .bool false, .string ⟨#[]⟩, .bool false, .string ⟨#[]⟩, .slice none 0 0] 81 :: L) from h); clear h t1; obtain ⟨wB, hwB⟩ : ∃ b, wn.heap.size = b := ⟨_, rfl⟩; have HB := H.out.allocRaw #[.int .i64 0, .int .i64 0, .bool false, .string ⟨#[]⟩, .bool false, .string ⟨#[]⟩, .slice none 0 0] 81; rw [hwB] at HB; have HB := Lib.hid HB.p1)
  | (go_at_call 110; have _t := t2; clear _t; refine (sv_long _ j1 HB.out).mono ?_; rw [E1.out]; rintro e wn ⟨rfl, h⟩; replace H := Lib.hid (show St W0 wn (K) (.inp p i2 :: .raw wB #[.int .i64 0, .int .i64 0, .bool false, .string ⟨#[]⟩, .bool false, .string ⟨#[]⟩, .slice none 0 0] 81 :: .raw wA #[.int .i64 0, .int .i64 0, .bool false, .string ⟨#[]⟩, .bool false, .string ⟨#[]⟩, .slice none 0 0] 81 :: L) from h); clear h t2; obtain ⟨yc0, yc1, yc2, yc3, yc4, yc5, yc6, yf0, yf1, yf2, yf3, yf4, yf5, yf6⟩ := raw7 (H.out.p1))
  | (go_at_call 111; have _t := t3; clear _t; refine (sv_int _ i2 (St.set1 H.out)).mono ?_; rw [E2.out]; rintro e wn ⟨rfl, h⟩; replace H := Lib.hid (show St W0 wn (K) (.inp p i3 :: .raw wB #[.int .i64 t, .int .i64 0, .bool false, .string ⟨#[]⟩, .bool false, .string ⟨#[]⟩, .slice none 0 0] 81 :: .raw wA #[.int .i64 0, .int .i64 0, .bool false, .string ⟨#[]⟩, .bool false, .string ⟨#[]⟩, .slice none 0 0] 81 :: L) from h); clear h t3; obtain ⟨yc0, yc1, yc2, yc3, yc4, yc5, yc6, yf0, yf1, yf2, yf3, yf4, yf5, yf6⟩ := raw7 (H.out.p1))
  | (go_at_call 109; have _t := t5; clear _t; refine (blob_varied _ i3 (St.set1 H.out)).mono ?_; rw [E4.out]; rintro e wn ⟨rfl, h⟩; replace H := Lib.hid (show St W0 wn (K) (.inp p i4 :: .raw wB #[.int .i64 t, .int .i64 o, .bool false, .string ⟨#[]⟩, .bool false, .string ⟨#[]⟩, .slice none 0 0] 81 :: .raw wA #[.int .i64 0, .int .i64 0, .bool false, .string ⟨#[]⟩, .bool false, .string ⟨#[]⟩, .slice none 0 0] 81 :: L) from h); clear h t5; obtain ⟨yc0, yc1, yc2, yc3, yc4, yc5, yc6, yf0, yf1, yf2, yf3, yf4, yf5, yf6⟩ := raw7 (H.out.p1); unfold bv)
  | (go_at_call 109; have _t := t6; clear _t; refine (blob_varied _ i4 (St.set1 (St.set1 H.out))).mono ?_; rw [E5.out]; rintro e wn ⟨rfl, h⟩; replace H := Lib.hid (show St W0 wn (K) (.inp p i5 :: .raw wB #[.int .i64 t, .int .i64 o, .bool kb.null, .string (bb kb.data), .bool false, .string ⟨#[]⟩, .slice none 0 0] 81 :: .raw wA #[.int .i64 0, .int .i64 0, .bool false, .string ⟨#[]⟩, .bool false, .string ⟨#[]⟩, .slice none 0 0] 81 :: L) from h); clear h t6; obtain ⟨yc0, yc1, yc2, yc3, yc4, yc5, yc6, yf0, yf1, yf2, yf3, yf4, yf5, yf6⟩ := raw7 (H.out.p1); unfold bv)
  | (go_at_call 112; refine (header_read _ i5 (St.set1 (St.set1 H.out))).mono ?_; rw [E6.out]; rintro e wn ⟨v, rfl, h⟩; obtain ⟨q6, cap6, hv6⟩ := flat_form (Know.has_right (Know.has_refl _)) h; subst hv6; replace H := Lib.hid (show St W0 wn (K.and (Know.flat RHdr (.slice q6 hs.length cap6) 3 hs)) (.inp p i6 :: .raw wB #[.int .i64 t, .int .i64 o, .bool kb.null, .string (bb kb.data), .bool vb.null, .string (bb vb.data), .slice none 0 0] 81 :: .raw wA #[.int .i64 0, .int .i64 0, .bool false, .string ⟨#[]⟩, .bool false, .string ⟨#[]⟩, .slice none 0 0] 81 :: L) from h); clear h; obtain ⟨yc0, yc1, yc2, yc3, yc4, yc5, yc6, yf0, yf1, yf2, yf3, yf4, yf5, yf6⟩ := raw7 (H.out.p1); obtain ⟨qc0, qc1, qc2, qc3, qc4, qc5, qc6, qf0, qf1, qf2, qf3, qf4, qf5, qf6⟩ := raw7 (H.out.p2); have hne1 : ¬ (wB = wA) := H.out.drop.raw_ne; have hne2 : ¬ (wA = wB) := (fun e => hne1 e.symm)))
 refine bodyPost_ret (v := .agg #[.int .i64 t, .int .i64 o, .bool kb.null, .string (bb kb.data), .bool vb.null, .string (bb vb.data), .slice q6 hs.length cap6]) (by simp [results, Try.results107, go_sem, qc0, qc1, qc2, qc3, qc4, qc5, qc6]) rfl ⟨.slice q6 hs.length cap6, rfl, ?_⟩
 exact (((((((((H.out.p1.rawSet 6 (.slice q6 hs.length cap6)).p2).rawSet 0 _).rawSet 1 _).rawSet 2 _).rawSet 3 _).rawSet 4 _).rawSet 5 _).rawSet 6 _).drop.drop

set_option maxHeartbeats 1000000 in
set_option maxRecDepth 100000 in
theorem rec_fields_01 (p : Nat) (i i1 j1 i2 i3 j3 i4 i5 i6 : InS) (a t o : Int) (kb vb : BlobS) (hs : List HdrS) (e0 : i.int 1 = (a, i1)) (ha : (a != 0) = true) (ej1 : i1.fail 8 = j1) (e1 : j1.vlong = (t, i2)) (e2 : i2.vint = (o, i3)) (ho : o < 0) (ej3 : i3.fail 11 = j3) (e4 : j3.varied = (kb, i4)) (e5 : i4.varied = (vb, i5)) (e6 : i5.hdrs = (hs, i6)) {W0 w : World} {K : Know} {L : List Res} (h : St W0 w K (.inp p i :: L)) :
  Calls Try.prog 107 #[inPtr p] w fun en w' => ∃ v, en = .returned (.agg #[.int .i64 t, .int .i64 o, .bool kb.null, .string (bb kb.data), .bool vb.null, .string (bb vb.data), v]) ∧ St W0 w' (K.and (Know.flat RHdr v 3 hs)) (.inp p i6 :: L) := by
 have h0 := (h.allocRaw #[.int .i64 0, .int .i64 0, .bool false, .string ⟨#[]⟩, .bool false, .string ⟨#[]⟩, .slice none 0 0] 81).p1
 obtain ⟨wA, hwA⟩ : ∃ b, w.heap.size = b := ⟨_, rfl⟩
 rw [hwA] at h0
 have H := Lib.hid h0
 have E0 := Lib.hid e0
 have E1 := Lib.hid e1
 have E2 := Lib.hid e2
 have E4 := Lib.hid e4
 have E5 := Lib.hid e5
 have E6 := Lib.hid e6
 have EJ1 := Lib.hid ej1
 have EJ3 := Lib.hid ej3
 have t0 : True := trivial
 have t1 : True := trivial
 have t2 : True := trivial
 have t3 : True := trivial
 have t4 : True := trivial
 have t5 : True := trivial
 have t6 : True := trivial
 clear h h0 e0 e1 e2 e4 e5 e6 ej1 ej3
 go_enter Try.func107, Try.ntmps107
 go_wp2_with (first
  | (go_at_call 20; have _t := t0; clear _t; refine (s_int _ i 1 H.out).mono ?_; rw [E0.out]; rintro e wn ⟨rfl, h⟩; replace H := Lib.hid (show St W0 wn K (.inp p i1 :: .raw wA #[.int .i64 0, .int .i64 0, .bool false, .string ⟨#[]⟩, .bool false, .string ⟨#[]⟩, .slice none 0 0] 81 :: L) from h); clear h t0; skip)
  | (go_at_call 24; have _t := t1; clear _t; refine (s_fail _ i1 8 H.out).mono ?_; rw [EJ1.out]; rintro e wn ⟨rfl, h⟩; replace H := Lib.hid (show St W0 wn K (.inp p j1 :: .raw wA #[.int .i64 0, .int .i64 0, .bool false, .string ⟨#[]⟩, .bool false, .string ⟨#[]⟩, .slice none 0 0] 81 :: L) from h); clear h t1; obtain ⟨wB, hwB⟩ : ∃ b, wn.heap.size = b := ⟨_, rfl⟩; have HB := H.out.allocRaw #[.int .i64 0, .int .i64 0, .bool false, .string ⟨#[]⟩, .bool false, .string ⟨#[]⟩, .slice none 0 0] 81; rw [hwB] at HB; have HB := Lib.hid HB.p1)
  | (go_at_call 110; have _t := t2; clear _t; refine (sv_long _ j1 HB.out).mono ?_; rw [E1.out]; rintro e wn ⟨rfl, h⟩; replace H := Lib.hid (show St W0 wn (K) (.inp p i2 :: .raw wB #[.int .i64 0, .int .i64 0, .bool false, .string ⟨#[]⟩, .bool false, .string ⟨#[]⟩, .slice none 0 0] 81 :: .raw wA #[.int .i64 0, .int .i64 0, .bool false, .string ⟨#[]⟩, .bool false, .string ⟨#[]⟩, .slice none 0 0] 81 :: L) from h); clear h t2; obtain ⟨yc0, yc1, yc2, yc3, yc4, yc5, yc6, yf0, yf1, yf2, yf3, yf4, yf5, yf6⟩ := raw7 (H.out.p1))
  | (go_at_call 111; have _t := t3; clear _t; refine (sv_int _ i2 (St.set1 H.out)).mono ?_; rw [E2.out]; rintro e wn ⟨rfl, h⟩; replace H := Lib.hid (show St W0 wn (K) (.inp p i3 :: .raw wB #[.int .i64 t, .int .i64 0, .bool false, .string ⟨#[]⟩, .bool false, .string ⟨#[]⟩, .slice none 0 0] 81 :: .raw wA #[.int .i64 0, .int .i64 0, .bool false, .string ⟨#[]⟩, .bool false, .string ⟨#[]⟩, .slice none 0 0] 81 :: L) from h); clear h t3; obtain ⟨yc0, yc1, yc2, yc3, yc4, yc5, yc6, yf0, yf1, yf2, yf3, yf4, yf5, yf6⟩ := raw7 (H.out.p1))
  | (go_at_call 24; have _t := t4; clear _t; refine (s_fail _ i3 11 (St.set1 H.out)).mono ?_; rw [EJ3.out]; rintro e wn ⟨rfl, h⟩; replace H := Lib.hid (show St W0 wn (K) (.inp p j3 :: .raw wB #[.int .i64 t, .int .i64 o, .bool false, .string ⟨#[]⟩, .bool false, .string ⟨#[]⟩, .slice none 0 0] 81 :: .raw wA #[.int .i64 0, .int .i64 0, .bool false, .string ⟨#[]⟩, .bool false, .string ⟨#[]⟩, .slice none 0 0] 81 :: L) from h); clear h t4; obtain ⟨yc0, yc1, yc2, yc3, yc4, yc5, yc6, yf0, yf1, yf2, yf3, yf4, yf5, yf6⟩ := raw7 (H.out.p1); have HX := H)
  | (go_at_call 109; have _t := t5; clear _t; refine (blob_varied _ j3 H.out).mono ?_; rw [E4.out]; rintro e wn ⟨rfl, h⟩; replace H := Lib.hid (show St W0 wn (K) (.inp p i4 :: .raw wB #[.int .i64 t, .int .i64 o, .bool false, .string ⟨#[]⟩, .bool false, .string ⟨#[]⟩, .slice none 0 0] 81 :: .raw wA #[.int .i64 0, .int .i64 0, .bool false, .string ⟨#[]⟩, .bool false, .string ⟨#[]⟩, .slice none 0 0] 81 :: L) from h); clear h t5; obtain ⟨yc0, yc1, yc2, yc3, yc4, yc5, yc6, yf0, yf1, yf2, yf3, yf4, yf5, yf6⟩ := raw7 (H.out.p1); unfold bv)
  | (go_at_call 109; have _t := t6; clear _t; refine (blob_varied _ i4 (St.set1 (St.set1 H.out))).mono ?_; rw [E5.out]; rintro e wn ⟨rfl, h⟩; replace H := Lib.hid (show St W0 wn (K) (.inp p i5 :: .raw wB #[.int .i64 t, .int .i64 o, .bool kb.null, .string (bb kb.data), .bool false, .string ⟨#[]⟩, .slice none 0 0] 81 :: .raw wA #[.int .i64 0, .int .i64 0, .bool false, .string ⟨#[]⟩, .bool false, .string ⟨#[]⟩, .slice none 0 0] 81 :: L) from h); clear h t6; obtain ⟨yc0, yc1, yc2, yc3, yc4, yc5, yc6, yf0, yf1, yf2, yf3, yf4, yf5, yf6⟩ := raw7 (H.out.p1); unfold bv)
  | (go_at_call 112; refine (header_read _ i5 (St.set1 (St.set1 H.out))).mono ?_; rw [E6.out]; rintro e wn ⟨v, rfl, h⟩; obtain ⟨q6, cap6, hv6⟩ := flat_form (Know.has_right (Know.has_refl _)) h; subst hv6; replace H := Lib.hid (show St W0 wn (K.and (Know.flat RHdr (.slice q6 hs.length cap6) 3 hs)) (.inp p i6 :: .raw wB #[.int .i64 t, .int .i64 o, .bool kb.null, .string (bb kb.data), .bool vb.null, .string (bb vb.data), .slice none 0 0] 81 :: .raw wA #[.int .i64 0, .int .i64 0, .bool false, .string ⟨#[]⟩, .bool false, .string ⟨#[]⟩, .slice none 0 0] 81 :: L) from h); clear h; obtain ⟨yc0, yc1, yc2, yc3, yc4, yc5, yc6, yf0, yf1, yf2, yf3, yf4, yf5, yf6⟩ := raw7 (H.out.p1); obtain ⟨qc0, qc1, qc2, qc3, qc4, qc5, qc6, qf0, qf1, qf2, qf3, qf4, qf5, qf6⟩ := raw7 (H.out.p2); have hne1 : ¬ (wB = wA) := H.out.drop.raw_ne; have hne2 : ¬ (wA = wB) := (fun e => hne1 e.symm)))
 refine bodyPost_ret (v := .agg #[.int .i64 t, .int .i64 o, .bool kb.null, .string (bb kb.data), .bool vb.null, .string (bb vb.data), .slice q6 hs.length cap6]) (by simp [results, Try.results107, go_sem, qc0, qc1, qc2, qc3, qc4, qc5, qc6]) rfl ⟨.slice q6 hs.length cap6, rfl, ?_⟩
 exact (((((((((H.out.p1.rawSet 6 (.slice q6 hs.length cap6)).p2).rawSet 0 _).rawSet 1 _).rawSet 2 _).rawSet 3 _).rawSet 4 _).rawSet 5 _).rawSet 6 _).drop.drop

theorem rec_fields (p : Nat) (i : InS) {W0 w : World} {K : Know} {L : List Res} (h : St W0 w K (.inp p i :: L)) :
   Calls Try.prog 107 #[inPtr p] w fun en w' => ∃ v, en = .returned (.agg #[.int .i64 i.recFields.1.time, .int .i64 i.recFields.1.off, .bool i.recFields.1.key.null, .string (bb i.recFields.1.key.data), .bool i.recFields.1.val.null, .string (bb i.recFields.1.val.data), v]) ∧ St W0 w' (K.and (Know.flat RHdr v 3 i.recFields.1.hdrs)) (.inp p i.recFields.2 :: L) := by
 obtain ⟨⟨a, i1⟩, e0⟩ : ∃ z, i.int 1 = z := ⟨_, rfl⟩
 unfold InS.recFields
 rw [e0]
 simp only
 by_cases ha : a = 0
 · rw [if_pos ha]
   unfold InS.recTime InS.recOff
   by_cases ho : i1.vlong.2.vint.1 < 0
   · rw [if_pos ho]
     exact rec_fields_11 p i _ _ _ _ _ _ _ a _ _ _ _ _ e0 (by rw [ha]; rfl) rfl rfl ho rfl rfl rfl rfl h
   · rw [if_neg ho]
     exact rec_fields_10 p i _ _ _ _ _ _ a _ _ _ _ _ e0 (by rw [ha]; rfl) rfl rfl ho rfl rfl rfl h
 · rw [if_neg ha]
   unfold InS.recTime InS.recOff
   by_cases ho : (i1.fail 8).vlong.2.vint.1 < 0
   · rw [if_pos ho]
     exact rec_fields_01 p i _ _ _ _ _ _ _ _ a _ _ _ _ _ e0 (bne_iff_ne.2 ha) rfl rfl rfl ho rfl rfl rfl rfl h
   · rw [if_neg ho]
     exact rec_fields_00 p i _ _ _ _ _ _ _ a _ _ _ _ _ e0 (bne_iff_ne.2 ha) rfl rfl rfl ho rfl rfl rfl h

end Go.Proofs.Ytnnnglklgofabaa
