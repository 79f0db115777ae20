/- Contracts: decoding a record; whether it may be, by the document. -/
import Derived.Test.YtkenneeejdngaaaRec5
import Derived.Test.YtkenneeejdngaaaL06W
namespace Go.Proofs.Ytkenneeejdngaaa
open Go.RowKit

theorem rec_readQ (p : Nat) (i : InS) (x : RecS) (k : InS) (hx : i.record = (x, k)) {W0 w : World} {K : Know} {L : List Res} (h : St W0 w K (.inp p i :: L)) :
    Calls Try.prog 43 #[inPtr p] w fun en w' => ∃ v, en = .returned (.agg #[.int .i64 x.time, .int .i64 x.off, .bool x.key.null, .string (bb x.key.data), .bool x.val.null, .string (bb x.val.data), v]) ∧ St W0 w' (K.and (Know.flat RHdr v 3 x.hdrs)) (.inp p k :: L) := by
  have h1 := rec_read p i h
  rw [hx] at h1
  exact h1

set_option maxHeartbeats 1000000 in
set_option maxRecDepth 100000 in
theorem rec_decode_ok (s : Bs) (x : RecS) (k c : InS) (hx : (⟨s, 0, 0⟩ : InS).record = (x, k)) (hc : k.close = c) (hl : s.length ≤ 140737488355328) (he : c.err = 0) {W0 w : World} {K : Know} {L : List Res} (h : St W0 w K L) :
    Calls Try.prog 39 #[.string (bb s)] w fun en w' => ∃ v, en = .returned (.tuple #[.agg #[.int .i64 x.time, .int .i64 x.off, .bool x.key.null, .string (bb x.key.data), .bool x.val.null, .string (bb x.val.data), v], .int .i64 0]) ∧ St W0 w' (K.and (Know.flat RHdr v 3 x.hdrs)) L := by
  have h0 := h.allocRaw #[.int .i64 0, .int .i64 0, .bool false, .string ⟨#[]⟩, .bool false, .string ⟨#[]⟩, .slice none 0 0] 62
  obtain ⟨wA, hwA⟩ : ∃ b, w.heap.size = b := ⟨_, rfl⟩
  rw [hwA] at h0
  have H := Lib.hid h0
  have EX := Lib.hid hx
  have EC := Lib.hid hc
  have HL := Lib.hid hl
  have HE := Lib.hid he
  clear h h0 hx hc hl he
  go_enter Try.func39, Try.ntmps39
  go_wp2_with (first
    | (go_at_call 25; refine (s_new s HL.out H.out).mono ?_; rintro e wn ⟨bi, rfl, h⟩; replace H := Lib.hid h; clear h)
    | (go_at_call 43; refine (rec_readQ _ _ x k EX.out H.out).mono ?_; rintro e wn ⟨v6, rfl, h⟩; obtain ⟨q6, cap6, hv6⟩ := flat_form (Know.has_right (Know.has_refl _)) h; subst hv6; obtain ⟨wB, hwB⟩ : ∃ b, wn.heap.size = b := ⟨_, rfl⟩; have h := h.allocRaw #[.int .i64 x.time, .int .i64 x.off, .bool x.key.null, .string (bb x.key.data), .bool x.val.null, .string (bb x.val.data), (.slice q6 x.hdrs.length cap6)] 62; rw [hwB] at h; replace H := Lib.hid (show St W0 _ (K.and (Know.flat RHdr (.slice q6 x.hdrs.length cap6) 3 x.hdrs)) (.inp bi k :: .raw wB #[.int .i64 x.time, .int .i64 x.off, .bool x.key.null, .string (bb x.key.data), .bool x.val.null, .string (bb x.val.data), (.slice q6 x.hdrs.length cap6)] 62 :: .raw wA #[.int .i64 0, .int .i64 0, .bool false, .string ⟨#[]⟩, .bool false, .string ⟨#[]⟩, .slice none 0 0] 62 :: L) from h.p1); clear h)
    | (go_at_call 29; refine (s_close _ k H.out).mono ?_; rw [EC.out, HE.out]; rintro e wn ⟨rfl, h⟩; replace H := Lib.hid h; clear h; (first | (obtain ⟨ac0, ac1, ac2, ac3, ac4, ac5, ac6, af0, af1, af2, af3, af4, af5, af6⟩ := raw7 (b := wA) H.out) | (obtain ⟨ac0, ac1, ac2, ac3, ac4, ac5, ac6, af0, af1, af2, af3, af4, af5, af6⟩ := raw7 (b := wA) H.out.p1) | (obtain ⟨ac0, ac1, ac2, ac3, ac4, ac5, ac6, af0, af1, af2, af3, af4, af5, af6⟩ := raw7 (b := wA) H.out.p2) | (obtain ⟨ac0, ac1, ac2, ac3, ac4, ac5, ac6, af0, af1, af2, af3, af4, af5, af6⟩ := raw7 (b := wA) H.out.p3)); (first | (obtain ⟨bc0, bc1, bc2, bc3, bc4, bc5, bc6, bf0, bf1, bf2, bf3, bf4, bf5, bf6⟩ := raw7 (b := wB) H.out) | (obtain ⟨bc0, bc1, bc2, bc3, bc4, bc5, bc6, bf0, bf1, bf2, bf3, bf4, bf5, bf6⟩ := raw7 (b := wB) H.out.p1) | (obtain ⟨bc0, bc1, bc2, bc3, bc4, bc5, bc6, bf0, bf1, bf2, bf3, bf4, bf5, bf6⟩ := raw7 (b := wB) H.out.p2) | (obtain ⟨bc0, bc1, bc2, bc3, bc4, bc5, bc6, bf0, bf1, bf2, bf3, bf4, bf5, bf6⟩ := raw7 (b := wB) H.out.p3))))
  refine bodyPost_ret (v := .tuple #[.agg #[.int .i64 x.time, .int .i64 x.off, .bool x.key.null, .string (bb x.key.data), .bool x.val.null, .string (bb x.val.data), (.slice q6 x.hdrs.length cap6)], .int .i64 0]) (by simp [results, Try.results39, go_sem, ac0, ac1, ac2, ac3, ac4, ac5, ac6]) rfl ⟨.slice q6 x.hdrs.length cap6, rfl, (((((((H.out.p2.rawSet 0 _).rawSet 1 _).rawSet 2 _).rawSet 3 _).rawSet 4 _).rawSet 5 _).rawSet 6 _).drop.drop.drop⟩

set_option maxHeartbeats 1000000 in
set_option maxRecDepth 100000 in
theorem rec_decode_bad (s : Bs) (x : RecS) (k c : InS) (hx : (⟨s, 0, 0⟩ : InS).record = (x, k)) (hc : k.close = c) (hl : s.length ≤ 140737488355328) (e : Int) (he : c.err = e) (hen : (e != 0) = true) {W0 w : World} {K : Know} {L : List Res} (h : St W0 w K L) :
    Calls Try.prog 39 #[.string (bb s)] w fun en w' => en = .returned (.tuple #[.agg #[.int .i64 0, .int .i64 0, .bool false, .string ⟨#[]⟩, .bool false, .string ⟨#[]⟩, .slice none 0 0], .int .i64 e]) ∧ St W0 w' K L := by
  have h0 := h.allocRaw #[.int .i64 0, .int .i64 0, .bool false, .string ⟨#[]⟩, .bool false, .string ⟨#[]⟩, .slice none 0 0] 62
  obtain ⟨wA, hwA⟩ : ∃ b, w.heap.size = b := ⟨_, rfl⟩
  rw [hwA] at h0
  have H := Lib.hid h0
  have EX := Lib.hid hx
  have EC := Lib.hid hc
  have HL := Lib.hid hl
  have HE := Lib.hid he
  clear h h0 hx hc hl he
  go_enter Try.func39, Try.ntmps39
  go_wp2_with (first
    | (go_at_call 25; refine (s_new s HL.out H.out).mono ?_; rintro e wn ⟨bi, rfl, h⟩; replace H := Lib.hid h; clear h)
    | (go_at_call 43; refine (rec_readQ _ _ x k EX.out H.out).mono ?_; rintro e wn ⟨v6, rfl, h⟩; obtain ⟨q6, cap6, hv6⟩ := flat_form (Know.has_right (Know.has_refl _)) h; subst hv6; obtain ⟨wB, hwB⟩ : ∃ b, wn.heap.size = b := ⟨_, rfl⟩; have h := h.allocRaw #[.int .i64 x.time, .int .i64 x.off, .bool x.key.null, .string (bb x.key.data), .bool x.val.null, .string (bb x.val.data), (.slice q6 x.hdrs.length cap6)] 62; rw [hwB] at h; replace H := Lib.hid (show St W0 _ (K.and (Know.flat RHdr (.slice q6 x.hdrs.length cap6) 3 x.hdrs)) (.inp bi k :: .raw wB #[.int .i64 x.time, .int .i64 x.off, .bool x.key.null, .string (bb x.key.data), .bool x.val.null, .string (bb x.val.data), (.slice q6 x.hdrs.length cap6)] 62 :: .raw wA #[.int .i64 0, .int .i64 0, .bool false, .string ⟨#[]⟩, .bool false, .string ⟨#[]⟩, .slice none 0 0] 62 :: L) from h.p1); clear h)
    | (go_at_call 29; refine (s_close _ k H.out).mono ?_; rw [EC.out, HE.out]; rintro e wn ⟨rfl, h⟩; replace H := Lib.hid h; clear h; (first | (obtain ⟨ac0, ac1, ac2, ac3, ac4, ac5, ac6, af0, af1, af2, af3, af4, af5, af6⟩ := raw7 (b := wA) H.out) | (obtain ⟨ac0, ac1, ac2, ac3, ac4, ac5, ac6, af0, af1, af2, af3, af4, af5, af6⟩ := raw7 (b := wA) H.out.p1) | (obtain ⟨ac0, ac1, ac2, ac3, ac4, ac5, ac6, af0, af1, af2, af3, af4, af5, af6⟩ := raw7 (b := wA) H.out.p2) | (obtain ⟨ac0, ac1, ac2, ac3, ac4, ac5, ac6, af0, af1, af2, af3, af4, af5, af6⟩ := raw7 (b := wA) H.out.p3)); (first | (obtain ⟨bc0, bc1, bc2, bc3, bc4, bc5, bc6, bf0, bf1, bf2, bf3, bf4, bf5, bf6⟩ := raw7 (b := wB) H.out) | (obtain ⟨bc0, bc1, bc2, bc3, bc4, bc5, bc6, bf0, bf1, bf2, bf3, bf4, bf5, bf6⟩ := raw7 (b := wB) H.out.p1) | (obtain ⟨bc0, bc1, bc2, bc3, bc4, bc5, bc6, bf0, bf1, bf2, bf3, bf4, bf5, bf6⟩ := raw7 (b := wB) H.out.p2) | (obtain ⟨bc0, bc1, bc2, bc3, bc4, bc5, bc6, bf0, bf1, bf2, bf3, bf4, bf5, bf6⟩ := raw7 (b := wB) H.out.p3))))
  refine bodyPost_ret (v := .tuple #[.agg #[.int .i64 0, .int .i64 0, .bool false, .string ⟨#[]⟩, .bool false, .string ⟨#[]⟩, .slice none 0 0], .int .i64 e]) (by simp [results, Try.results39, go_sem, ac0, ac1, ac2, ac3, ac4, ac5, ac6]) rfl ⟨rfl, ((((((((H.out.p2.rawSet 0 _).rawSet 1 _).rawSet 2 _).rawSet 3 _).rawSet 4 _).rawSet 5 _).rawSet 6 _).drop.drop.drop).know (Know.has_left (Know.has_refl _))⟩

def decJ (s : Bs) : InS := (⟨s, 0, 0⟩ : InS).record.2.close
def decR (s : Bs) : RecS := if (decJ s).err = 0 then (⟨s, 0, 0⟩ : InS).record.1 else RecS.zero
theorem rec_decode (s : Bs) (x : RecS) (e : Int) (hx : decR s = x) (he : (decJ s).err = e) (hl : s.length ≤ 140737488355328) {W0 w : World} {K : Know} {L : List Res} (h : St W0 w K L) :
    Calls Try.prog 39 #[.string (bb s)] w fun en w' => ∃ v, en = .returned (.tuple #[.agg #[.int .i64 x.time, .int .i64 x.off, .bool x.key.null, .string (bb x.key.data), .bool x.val.null, .string (bb x.val.data), v], .int .i64 e]) ∧ St W0 w' (K.and (Know.flat RHdr v 3 x.hdrs)) L := by
  have hz : ∀ (K' : Know), K'.has (K'.and (Know.flat RHdr (.slice none 0 0) 3 [])) := fun K' => know_nil _ _ _
  obtain ⟨⟨y, k⟩, hr⟩ : ∃ z, (⟨s, 0, 0⟩ : InS).record = z := ⟨_, rfl⟩
  unfold decR at hx
  unfold decJ at hx he
  rw [hr] at hx he
  simp only at hx he
  by_cases h0 : k.close.err = 0
  · rw [if_pos h0] at hx
    subst hx
    rw [← he, h0]
    exact rec_decode_ok s y k _ hr rfl hl h0 h
  · rw [if_neg h0] at hx
    subst hx
    exact (rec_decode_bad s y k _ hr rfl hl e he (bne_iff_ne.2 (he ▸ h0)) h).mono fun en w' hh => ⟨_, hh.1, hh.2.know (hz K)⟩

set_option maxHeartbeats 1000000 in
set_option maxRecDepth 100000 in
theorem ref07_odd (n : Bool) (d : Bs) (r : Bool) (hr : (⟨n, d⟩ : BlobS).right = r) {W0 w : World} {K : Know} {L : List Res} (h : St W0 w K L) :
    Calls Try.prog 71 #[.agg #[.bool n, .string (bb d)]] w fun en w' => en = .returned (.bool (!r)) ∧ St W0 w' K L := by
  have hr : (n && !d.isEmpty) = !r := by
    unfold BlobS.right at hr
    cases n <;> cases r <;> cases d <;> simp_all
  have H := Lib.hid (h.alloc (.cells #[.bool n, .string (bb d)] 55))
  clear h
  cases n <;> cases d
  all_goals
    have HR := Lib.hid hr
    clear hr
    go_enter Try.func71, Try.ntmps71
    go_wp2
    go_ret
    exact ⟨ret_bool HR.out, H.out⟩
def badR (a b c : Bool) : Int := if a && b && c then 0 else 4

set_option maxHeartbeats 1000000 in
set_option maxRecDepth 100000 in
theorem ref07_right (x : RecS) (v : Value) (e : Int) (he : recOk x = e) (hl : x.hdrs.length ≤ 9223372036854775807) {W0 w : World} {K : Know} {L : List Res} (hk : K.has (Know.flat RHdr v 3 x.hdrs)) (h : St W0 w K L) :
    Calls Try.prog 37 #[.agg #[.int .i64 x.time, .int .i64 x.off, .bool x.key.null, .string (bb x.key.data), .bool x.val.null, .string (bb x.val.data), v]] w fun en w' => en = .returned (.int .i64 e) ∧ St W0 w' K L := by
  obtain ⟨wA, hwA⟩ : ∃ b, w.heap.size = b := ⟨_, rfl⟩
  have h0 := h.allocRaw #[.int .i64 x.time, .int .i64 x.off, .bool x.key.null, .string (bb x.key.data), .bool x.val.null, .string (bb x.val.data), v] 62
  rw [hwA] at h0
  have H := Lib.hid h0
  have HK := Lib.hid hk
  have HL := Lib.hid hl
  clear h hk hl h0
  unfold recOk at he
  by_cases h1 : x.off < 0
  · rw [if_pos (.inl h1)] at he
    subst he
    go_enter Try.func37, Try.ntmps37
    go_wp2
    go_ret
    exact ⟨rfl, H.out.drop⟩
  by_cases h2 : 2147483647 < x.off
  · rw [if_pos (.inr h2)] at he
    subst he
    go_enter Try.func37, Try.ntmps37
    go_wp2
    go_ret
    exact ⟨rfl, H.out.drop⟩
  rw [if_neg (by omega)] at he
  have he : badR x.key.right x.val.right (hright x.hdrs) = e := he
  obtain ⟨r1, hr1⟩ : ∃ r, x.key.right = r := ⟨_, rfl⟩
  obtain ⟨r2, hr2⟩ : ∃ r, x.val.right = r := ⟨_, rfl⟩
  obtain ⟨r3, hr3⟩ : ∃ r, hright x.hdrs = r := ⟨_, rfl⟩
  rw [hr1, hr2, hr3] at he
  have E1 := Lib.hid hr1
  have E2 := Lib.hid hr2
  have E3 := Lib.hid hr3
  clear hr1 hr2 hr3
  have t1 : True := trivial
  have t2 : True := trivial
  obtain ⟨ac0, ac1, ac2, ac3, ac4, ac5, ac6, af0, af1, af2, af3, af4, af5, af6⟩ := raw7 (b := wA) H.out
  cases r1 <;> cases r2 <;> cases r3
  all_goals
    subst he
    go_enter Try.func37, Try.ntmps37
    go_wp2_with (first
      | (go_at_call 71; have _t := t1; clear _t; refine (ref07_odd _ _ _ E1.out H.out).mono ?_; rintro e wn ⟨rfl, h⟩; replace H := Lib.hid h; clear h t1; (first | (obtain ⟨ac0, ac1, ac2, ac3, ac4, ac5, ac6, af0, af1, af2, af3, af4, af5, af6⟩ := raw7 (b := wA) H.out) | (obtain ⟨ac0, ac1, ac2, ac3, ac4, ac5, ac6, af0, af1, af2, af3, af4, af5, af6⟩ := raw7 (b := wA) H.out.p1) | (obtain ⟨ac0, ac1, ac2, ac3, ac4, ac5, ac6, af0, af1, af2, af3, af4, af5, af6⟩ := raw7 (b := wA) H.out.p2) | (obtain ⟨ac0, ac1, ac2, ac3, ac4, ac5, ac6, af0, af1, af2, af3, af4, af5, af6⟩ := raw7 (b := wA) H.out.p3)))
      | (go_at_call 71; have _t := t2; clear _t; refine (ref07_odd _ _ _ E2.out H.out).mono ?_; rintro e wn ⟨rfl, h⟩; replace H := Lib.hid h; clear h t2; (first | (obtain ⟨ac0, ac1, ac2, ac3, ac4, ac5, ac6, af0, af1, af2, af3, af4, af5, af6⟩ := raw7 (b := wA) H.out) | (obtain ⟨ac0, ac1, ac2, ac3, ac4, ac5, ac6, af0, af1, af2, af3, af4, af5, af6⟩ := raw7 (b := wA) H.out.p1) | (obtain ⟨ac0, ac1, ac2, ac3, ac4, ac5, ac6, af0, af1, af2, af3, af4, af5, af6⟩ := raw7 (b := wA) H.out.p2) | (obtain ⟨ac0, ac1, ac2, ac3, ac4, ac5, ac6, af0, af1, af2, af3, af4, af5, af6⟩ := raw7 (b := wA) H.out.p3)))
      | (go_at_call 24; refine (ref06_right v x.hdrs HL.out HK.out H.out).mono ?_; rw [E3.out]; rintro e wn ⟨rfl, h⟩; replace H := Lib.hid h; clear h))
    go_ret
    exact ⟨rfl, H.out.drop⟩

def smallR (x : RecS) : Int := if 500 < x.key.data.length ∨ 500 < x.val.data.length then 0 else smallN x.hdrs
set_option maxHeartbeats 1000000 in
set_option maxRecDepth 100000 in
theorem l07_small (x : RecS) (v : Value) (hl : x.hdrs.length ≤ 9223372036854775807) (hf : HFit x.hdrs) (hf1 : x.key.data.length ≤ 140737488351232) (hf2 : x.val.data.length ≤ 140737488351232) {W0 w : World} {K : Know} {L : List Res} (hk : K.has (Know.flat RHdr v 3 x.hdrs)) (h : St W0 w K L) :
    Calls Try.prog 35 #[.agg #[.int .i64 x.time, .int .i64 x.off, .bool x.key.null, .string (bb x.key.data), .bool x.val.null, .string (bb x.val.data), v]] w fun en w' => en = .returned (.int .i64 (smallR x)) ∧ St W0 w' K L := by
  obtain ⟨wA, hwA⟩ : ∃ b, w.heap.size = b := ⟨_, rfl⟩
  have h0 := h.allocRaw #[.int .i64 x.time, .int .i64 x.off, .bool x.key.null, .string (bb x.key.data), .bool x.val.null, .string (bb x.val.data), v] 62
  rw [hwA] at h0
  have H := Lib.hid h0
  have HK := Lib.hid hk
  have HL := Lib.hid hl
  have HF := Lib.hid hf
  clear h hk hl h0 hf
  obtain ⟨ac0, ac1, ac2, ac3, ac4, ac5, ac6, af0, af1, af2, af3, af4, af5, af6⟩ := raw7 (b := wA) H.out
  obtain ⟨r, hr⟩ : ∃ r, smallR x = r := ⟨_, rfl⟩
  rw [hr]
  unfold smallR at hr
  by_cases h1 : 500 < x.key.data.length
  · rw [if_pos (.inl h1)] at hr
    subst hr
    have hd : decide ((500 : Int) < (x.key.data.length : Int)) = true := decide_eq_true (by omega)
    go_enter Try.func35, Try.ntmps35
    go_wp2
    go_ret
    exact ⟨rfl, H.out.drop⟩
  have hd1 : decide ((500 : Int) < (x.key.data.length : Int)) = false := decide_eq_false (by omega)
  by_cases h2 : 500 < x.val.data.length
  · rw [if_pos (.inr h2)] at hr
    subst hr
    have hd : decide ((500 : Int) < (x.val.data.length : Int)) = true := decide_eq_true (by omega)
    go_enter Try.func35, Try.ntmps35
    go_wp2
    go_ret
    exact ⟨rfl, H.out.drop⟩
  have hd2 : decide ((500 : Int) < (x.val.data.length : Int)) = false := decide_eq_false (by omega)
  rw [if_neg (by omega)] at hr
  have HR := Lib.hid hr
  clear hr
  go_enter Try.func35, Try.ntmps35
  go_wp2_with (go_at_call 21; refine (l06_small2 v x.hdrs HL.out HF.out HK.out H.out).mono ?_; rw [HR.out]; rintro e wn ⟨rfl, h⟩; replace H := Lib.hid h; clear h)
  go_ret
  exact ⟨rfl, H.out.drop⟩

end Go.Proofs.Ytkenneeejdngaaa
