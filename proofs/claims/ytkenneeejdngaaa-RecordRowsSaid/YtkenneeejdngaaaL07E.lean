/- Layer 7, walked: RecordEncodes. -/
import Derived.Test.YtkenneeejdngaaaRec7
import Derived.Test.YtkenneeejdngaaaRec8
namespace Go.Proofs.Ytkenneeejdngaaa
open Go.RowKit

theorem rec_encode_none {W0 w : World} {K : Know} {L : List Res} (hk : K.has (Know.flat RHdr (.slice none 0 0) 3 [])) (h : St W0 w K L) :
    Calls Try.prog 36 #[.agg #[.int .i64 0, .int .i64 0, .bool true, .string ⟨#[]⟩, .bool true, .string ⟨#[]⟩, .slice none 0 0]] w fun en w' => en = .returned (.tuple #[.string (bb [12, 0, 0, 0, 1, 1, 0]), .int .i64 0]) ∧ St W0 w' K L :=
  rec_encode noneR (.slice none 0 0) 0 [12, 0, 0, 0, 1, 1, 0] (by unfold RecS.R noneR; simp) (by decide) recOk_none encOk_none hk h
theorem rec_decode_none {W0 w : World} {K : Know} {L : List Res} (h : St W0 w K L) :
    Calls Try.prog 39 #[.string (bb [12, 0, 0, 0, 1, 1, 0])] w fun en w' => ∃ v, en = .returned (.tuple #[.agg #[.int .i64 0, .int .i64 0, .bool true, .string ⟨#[]⟩, .bool true, .string ⟨#[]⟩, v], .int .i64 0]) ∧ St W0 w' (K.and (Know.flat RHdr v 3 [])) L :=
  rec_decode [12, 0, 0, 0, 1, 1, 0] noneR 0 dec_none.1 dec_none.2 (by decide) h
theorem rec_decode_long {W0 w : World} {K : Know} {L : List Res} (h : St W0 w K L) :
    Calls Try.prog 39 #[.string (bb [12, 0, 0, 0, 1, 1, 0, 0])] w fun en w' => ∃ v, en = .returned (.tuple #[.agg #[.int .i64 0, .int .i64 0, .bool false, .string ⟨#[]⟩, .bool false, .string ⟨#[]⟩, v], .int .i64 2]) ∧ St W0 w' (K.and (Know.flat RHdr v 3 [])) L :=
  rec_decode [12, 0, 0, 0, 1, 1, 0, 0] RecS.zero 2 (by unfold decR; rw [if_neg (by rw [dec_long]; decide)]) dec_long (by decide) h

set_option maxHeartbeats 1000000 in
set_option maxRecDepth 100000 in
theorem speaks07 {W0 w : World} {K : Know} {L : List Res} (h : St W0 w K L) :
    Calls Try.prog 34 #[] w fun en w' => en = .returned (.bool true) ∧ St W0 w' K L := by
  have h0 := (h.know (show K.has (K.and (Know.flat RHdr (.slice none 0 0) 3 [])) from know_nil _ _ _)).allocRaw #[.bool true, .string ⟨#[]⟩] 55
  obtain ⟨wA, hwA⟩ : ∃ b, w.heap.size = b := ⟨_, rfl⟩
  rw [hwA] at h0
  have H := Lib.hid h0
  have c0 : _ = some (Value.bool true) := h0.rawCell 0
  have c1 : _ = some (Value.string ⟨#[]⟩) := h0.rawCell 1
  have hcat : bb [12, 0, 0, 0, 1, 1, 0] ++ (⟨#[0]⟩ : ByteArray) = bb [12, 0, 0, 0, 1, 1, 0, 0] := bb_append [12, 0, 0, 0, 1, 1, 0] [0]
  have t1 : True := trivial
  have t2 : True := trivial
  clear h h0
  go_enter Try.func34, Try.ntmps34
  go_wp2_with (first
    | (go_at_call 36; refine (rec_encode_none (Know.has_right (Know.has_refl _)) H.out).mono ?_; rintro e wn ⟨rfl, h⟩; replace H := Lib.hid h; clear h)
    | (go_at_call 39; have _t := t1; clear _t; refine (rec_decode_none H.out).mono ?_; rintro e wn ⟨vd, rfl, h⟩; obtain ⟨qd, capd, hvd⟩ := flat_form (Know.has_right (Know.has_refl _)) h; subst hvd; obtain ⟨wX, hwX⟩ : ∃ b, wn.heap.size = b := ⟨_, rfl⟩; have h := h.allocRaw #[.int .i64 0, .int .i64 0, .bool true, .string ⟨#[]⟩, .bool true, .string ⟨#[]⟩, (.slice qd 0 capd)] 62; rw [hwX] at h; replace H := Lib.hid h; clear h t1; obtain ⟨wB, hwB⟩ : ∃ b, wX = b := ⟨_, rfl⟩; subst hwB)
    | (go_at_call 39; have _t := t2; clear _t; refine (rec_decode_long H.out).mono ?_; rintro e wn ⟨vd, rfl, h⟩; obtain ⟨qd, capd, hvd⟩ := flat_form (Know.has_right (Know.has_refl _)) h; subst hvd; obtain ⟨wX, hwX⟩ : ∃ b, wn.heap.size = b := ⟨_, rfl⟩; have h := h.allocRaw #[.int .i64 0, .int .i64 0, .bool false, .string ⟨#[]⟩, .bool false, .string ⟨#[]⟩, (.slice qd 0 capd)] 62; rw [hwX] at h; replace H := Lib.hid h; clear h t2; obtain ⟨bc0, bc1, bc2, bc3, bc4, bc5, bc6, bf0, bf1, bf2, bf3, bf4, bf5, bf6⟩ := raw7 (b := _) (H.out.p1)))
  go_ret
  exact ⟨rfl, (H.out.drop.drop.drop).know (Know.has_left (Know.has_left (Know.has_left (Know.has_refl _))))⟩

set_option maxHeartbeats 1000000 in
set_option maxRecDepth 100000 in
theorem recordEncodes_big (v : Value) (x : RecS) (hx : x.R) (hl : x.hdrs.length ≤ 9223372036854775807) (hf : HFit x.hdrs) (hf1 : x.key.data.length ≤ 140737488351232) (hf2 : x.val.data.length ≤ 140737488351232) (hs : smallR x = 0) {W0 w : World} {K : Know} (hk : K.has (Know.flat RHdr v 3 x.hdrs)) (h : St W0 w K []) :
    Calls Try.prog 8 #[.agg #[.int .i64 x.time, .int .i64 x.off, .bool x.key.null, .string (bb x.key.data), .bool x.val.null, .string (bb x.val.data), v]] w fun en w' => en = .returned (.bool true) ∧ Below W0.heap.size W0 w' := by
  obtain ⟨wA, hwA⟩ : ∃ b, w.heap.size = b := ⟨_, rfl⟩
  have h0 := h.allocRaw #[.int .i64 x.time, .int .i64 x.off, .bool x.key.null, .string (bb x.key.data), .bool x.val.null, .string (bb x.val.data), v] 62
  rw [hwA] at h0
  have H := Lib.hid h0
  have HK := Lib.hid hk
  have HL := Lib.hid hl
  have HF := Lib.hid hf
  have F1 := Lib.hid hf1
  have F2 := Lib.hid hf2
  have HX := Lib.hid hx
  have ES := Lib.hid hs
  clear h h0 hk hl hf hf1 hf2 hs hx
  go_enter Try.func8, Try.ntmps8
  go_wp2_with (first
    | (go_at_call 34; refine (speaks07 H.out).mono ?_; rintro e wn ⟨rfl, h⟩; replace H := Lib.hid h; clear h; obtain ⟨ac0, ac1, ac2, ac3, ac4, ac5, ac6, af0, af1, af2, af3, af4, af5, af6⟩ := raw7 (b := wA) (H.out))
    | (go_at_call 35; refine (l07_small x v HL.out HF.out F1.out F2.out HK.out H.out).mono ?_; rw [ES.out]; rintro e wn ⟨rfl, h⟩; replace H := Lib.hid h; clear h; obtain ⟨ac0, ac1, ac2, ac3, ac4, ac5, ac6, af0, af1, af2, af3, af4, af5, af6⟩ := raw7 (b := wA) (H.out)))
  go_ret
  exact ⟨rfl, H.out.below⟩

set_option maxHeartbeats 1000000 in
set_option maxRecDepth 100000 in
theorem recordEncodes_wrong (v : Value) (x : RecS) (hx : x.R) (hl : x.hdrs.length ≤ 9223372036854775807) (hf : HFit x.hdrs) (hf1 : x.key.data.length ≤ 140737488351232) (hf2 : x.val.data.length ≤ 140737488351232) (hs : smallR x = 1) (hsm : x.sum ≤ 3000) (e : Int) (he : recOk x = e) (he0 : e ≠ 0) {W0 w : World} {K : Know} (hk : K.has (Know.flat RHdr v 3 x.hdrs)) (h : St W0 w K []) :
    Calls Try.prog 8 #[.agg #[.int .i64 x.time, .int .i64 x.off, .bool x.key.null, .string (bb x.key.data), .bool x.val.null, .string (bb x.val.data), v]] w fun en w' => en = .returned (.bool true) ∧ Below W0.heap.size W0 w' := by
  obtain ⟨wA, hwA⟩ : ∃ b, w.heap.size = b := ⟨_, rfl⟩
  have h0 := h.allocRaw #[.int .i64 x.time, .int .i64 x.off, .bool x.key.null, .string (bb x.key.data), .bool x.val.null, .string (bb x.val.data), v] 62
  rw [hwA] at h0
  have H := Lib.hid h0
  have HK := Lib.hid hk
  have HL := Lib.hid hl
  have HF := Lib.hid hf
  have F1 := Lib.hid hf1
  have F2 := Lib.hid hf2
  have HX := Lib.hid hx
  have HS := Lib.hid (show x.sum ≤ 1000000 by omega)
  have hsl := hsum_le x.hdrs
  have HLL := Lib.hid (show x.hdrs.length ≤ 1000000 by unfold RecS.sum at hsm; omega)
  have ES := Lib.hid hs
  obtain ⟨s, hss⟩ : ∃ s, encOk x = s := ⟨_, rfl⟩
  have hs0 : s = [] := by rw [← hss]; unfold encOk; rw [if_neg (by rw [he]; exact he0)]
  subst hs0
  have ER := Lib.hid he
  have EE := Lib.hid hss
  have hb : (e != 0) = true := bne_iff_ne.2 he0
  obtain ⟨s, hsd⟩ : ∃ s : Bs, [] = s := ⟨_, rfl⟩
  clear hsd s
  clear h h0 hk hl hf hf1 hf2 hs hx hsm hsl he he0 hss
  go_enter Try.func8, Try.ntmps8
  go_wp2_with (first
    | (go_at_call 34; refine (speaks07 H.out).mono ?_; rintro e wn ⟨rfl, h⟩; replace H := Lib.hid h; clear h; obtain ⟨ac0, ac1, ac2, ac3, ac4, ac5, ac6, af0, af1, af2, af3, af4, af5, af6⟩ := raw7 (b := wA) (H.out))
    | (go_at_call 35; refine (l07_small x v HL.out HF.out F1.out F2.out HK.out H.out).mono ?_; rw [ES.out]; rintro e wn ⟨rfl, h⟩; replace H := Lib.hid h; clear h; obtain ⟨ac0, ac1, ac2, ac3, ac4, ac5, ac6, af0, af1, af2, af3, af4, af5, af6⟩ := raw7 (b := wA) (H.out))
    | (go_at_call 36; refine (rec_encode x v e [] HX.out HS.out ER.out EE.out HK.out H.out).mono ?_; rintro e wn ⟨rfl, h⟩; replace H := Lib.hid h; clear h; obtain ⟨ac0, ac1, ac2, ac3, ac4, ac5, ac6, af0, af1, af2, af3, af4, af5, af6⟩ := raw7 (b := wA) (H.out))
    | (go_at_call 37; refine (ref07_right x v e ER.out HL.out HK.out H.out).mono ?_; rintro e wn ⟨rfl, h⟩; replace H := Lib.hid h; clear h; obtain ⟨ac0, ac1, ac2, ac3, ac4, ac5, ac6, af0, af1, af2, af3, af4, af5, af6⟩ := raw7 (b := wA) (H.out))
    | (go_at_call 38; refine (rec_right x v e ER.out HLL.out HK.out H.out).mono ?_; rintro e wn ⟨rfl, h⟩; replace H := Lib.hid h; clear h; obtain ⟨ac0, ac1, ac2, ac3, ac4, ac5, ac6, af0, af1, af2, af3, af4, af5, af6⟩ := raw7 (b := wA) (H.out)))
  go_ret
  exact ⟨rfl, H.out.below⟩

set_option maxHeartbeats 1000000 in
set_option maxRecDepth 100000 in
theorem recordEncodes_right (v : Value) (x : RecS) (hx : x.R) (hl : x.hdrs.length ≤ 9223372036854775807) (hf : HFit x.hdrs) (hf1 : x.key.data.length ≤ 140737488351232) (hf2 : x.val.data.length ≤ 140737488351232) (hs : smallR x = 1) (hsm : x.sum ≤ 3000) (he : recOk x = 0) {W0 w : World} {K : Know} (hk : K.has (Know.flat RHdr v 3 x.hdrs)) (h : St W0 w K []) :
    Calls Try.prog 8 #[.agg #[.int .i64 x.time, .int .i64 x.off, .bool x.key.null, .string (bb x.key.data), .bool x.val.null, .string (bb x.val.data), v]] w fun en w' => en = .returned (.bool true) ∧ Below W0.heap.size W0 w' := by
  obtain ⟨wA, hwA⟩ : ∃ b, w.heap.size = b := ⟨_, rfl⟩
  have h0 := h.allocRaw #[.int .i64 x.time, .int .i64 x.off, .bool x.key.null, .string (bb x.key.data), .bool x.val.null, .string (bb x.val.data), v] 62
  rw [hwA] at h0
  have H := Lib.hid h0
  have HK := Lib.hid hk
  have HL := Lib.hid hl
  have HF := Lib.hid hf
  have F1 := Lib.hid hf1
  have F2 := Lib.hid hf2
  have HX := Lib.hid hx
  have HS := Lib.hid (show x.sum ≤ 1000000 by omega)
  have hsl := hsum_le x.hdrs
  have HLL := Lib.hid (show x.hdrs.length ≤ 1000000 by unfold RecS.sum at hsm; omega)
  have ES := Lib.hid hs
  have hbk := rec_back x hx he (by omega)
  have hle := encR_le x hx hsm
  have hss : encOk x = encR x := by unfold encOk; rw [if_pos he]
  obtain ⟨s, hsd⟩ : ∃ s, encR x = s := ⟨_, rfl⟩
  rw [hsd] at hbk hle hss
  have ER := Lib.hid he
  have EE := Lib.hid hss
  have EW := Lib.hid hsd
  have ED := Lib.hid hbk
  have HSL := Lib.hid (show s.length ≤ 140737488355328 by omega)
  clear h h0 hk hl hf hf1 hf2 hs hx hsm hsl he hss hsd hbk hle
  go_enter Try.func8, Try.ntmps8
  go_wp2_with (first
    | (go_at_call 34; refine (speaks07 H.out).mono ?_; rintro e wn ⟨rfl, h⟩; replace H := Lib.hid h; clear h; obtain ⟨ac0, ac1, ac2, ac3, ac4, ac5, ac6, af0, af1, af2, af3, af4, af5, af6⟩ := raw7 (b := wA) (H.out))
    | (go_at_call 35; refine (l07_small x v HL.out HF.out F1.out F2.out HK.out H.out).mono ?_; rw [ES.out]; rintro e wn ⟨rfl, h⟩; replace H := Lib.hid h; clear h; obtain ⟨ac0, ac1, ac2, ac3, ac4, ac5, ac6, af0, af1, af2, af3, af4, af5, af6⟩ := raw7 (b := wA) (H.out))
    | (go_at_call 36; refine (rec_encode x v 0 s HX.out HS.out ER.out EE.out HK.out H.out).mono ?_; rintro e wn ⟨rfl, h⟩; replace H := Lib.hid h; clear h; obtain ⟨ac0, ac1, ac2, ac3, ac4, ac5, ac6, af0, af1, af2, af3, af4, af5, af6⟩ := raw7 (b := wA) (H.out))
    | (go_at_call 37; refine (ref07_right x v 0 ER.out HL.out HK.out H.out).mono ?_; rintro e wn ⟨rfl, h⟩; replace H := Lib.hid h; clear h; obtain ⟨ac0, ac1, ac2, ac3, ac4, ac5, ac6, af0, af1, af2, af3, af4, af5, af6⟩ := raw7 (b := wA) (H.out))
    | (go_at_call 38; refine (rec_right x v 0 ER.out HLL.out HK.out H.out).mono ?_; rintro e wn ⟨rfl, h⟩; replace H := Lib.hid h; clear h; obtain ⟨ac0, ac1, ac2, ac3, ac4, ac5, ac6, af0, af1, af2, af3, af4, af5, af6⟩ := raw7 (b := wA) (H.out))
    | (go_at_call 39; refine (rec_decode s x 0 ED.out.1 ED.out.2 HSL.out H.out).mono ?_; rintro e wn ⟨vd, rfl, h⟩; obtain ⟨qd, capd, hvd⟩ := flat_form (Know.has_right (Know.has_refl _)) h; subst hvd; obtain ⟨wB, hwB⟩ : ∃ b, wn.heap.size = b := ⟨_, rfl⟩; have h := (h.allocRaw #[.int .i64 x.time, .int .i64 x.off, .bool x.key.null, .string (bb x.key.data), .bool x.val.null, .string (bb x.val.data), (.slice qd x.hdrs.length capd)] 62).p1; rw [hwB] at h; replace H := Lib.hid h; clear h; obtain ⟨ac0, ac1, ac2, ac3, ac4, ac5, ac6, af0, af1, af2, af3, af4, af5, af6⟩ := raw7 (b := wA) (H.out); obtain ⟨bc0, bc1, bc2, bc3, bc4, bc5, bc6, bf0, bf1, bf2, bf3, bf4, bf5, bf6⟩ := raw7 (b := wB) (H.out.p1))
    | (go_at_call 40; refine (ref07_write x v s EW.out HX.out HS.out (Know.has_trans (Know.has_left (Know.has_refl _)) HK.out) H.out).mono ?_; rintro e wn ⟨rfl, h⟩; replace H := Lib.hid h; clear h; obtain ⟨ac0, ac1, ac2, ac3, ac4, ac5, ac6, af0, af1, af2, af3, af4, af5, af6⟩ := raw7 (b := wA) (H.out); obtain ⟨bc0, bc1, bc2, bc3, bc4, bc5, bc6, bf0, bf1, bf2, bf3, bf4, bf5, bf6⟩ := raw7 (b := wB) (H.out.p1))
    | (go_at_call 41; refine (ref07_sameV x x _ v true (decide_eq_true rfl) HL.out HL.out (Know.has_right (Know.has_refl _)) (Know.has_trans (Know.has_left (Know.has_refl _)) HK.out) H.out).mono ?_; rintro e wn ⟨rfl, h⟩; replace H := Lib.hid h; clear h; obtain ⟨ac0, ac1, ac2, ac3, ac4, ac5, ac6, af0, af1, af2, af3, af4, af5, af6⟩ := raw7 (b := wA) (H.out); obtain ⟨bc0, bc1, bc2, bc3, bc4, bc5, bc6, bf0, bf1, bf2, bf3, bf4, bf5, bf6⟩ := raw7 (b := wB) (H.out.p1))
    | (go_at_call 42; refine (rec_sameV x x _ v true (decide_eq_true rfl) HL.out HL.out (Know.has_right (Know.has_refl _)) (Know.has_trans (Know.has_left (Know.has_refl _)) HK.out) H.out).mono ?_; rintro e wn ⟨rfl, h⟩; replace H := Lib.hid h; clear h))
  go_ret
  exact ⟨rfl, H.out.below⟩

theorem recordEncodes_any (x : RecS) (v : Value) (w : World) (hx : x.R) (hr : RowsOf (fun _ cs x => RHdr cs x) (· < w.heap.size) w v 3 x.hdrs) (hl : x.hdrs.length ≤ maxLen) (hf : HFit x.hdrs) (hf1 : x.key.data.length ≤ 140737488351232) (hf2 : x.val.data.length ≤ 140737488351232) :
    Calls Try.prog 8 #[.agg #[.int .i64 x.time, .int .i64 x.off, .bool x.key.null, .string (bb x.key.data), .bool x.val.null, .string (bb x.val.data), v]] w fun en w' => en = .returned (.bool true) ∧ Below w.heap.size w w' := by
  have h := rhdr_start hr
  by_cases hs : smallR x = 1
  · have hsm : x.sum ≤ 3000 := by
      unfold smallR at hs
      split at hs
      · cases hs
      · unfold smallN at hs
        split at hs
        · unfold RecS.sum; omega
        · cases hs
    by_cases he : recOk x = 0
    · exact recordEncodes_right v x hx hl hf hf1 hf2 hs hsm he (Know.has_refl _) h
    · exact recordEncodes_wrong v x hx hl hf hf1 hf2 hs hsm _ rfl he (Know.has_refl _) h
  · have hs : smallR x = 0 := by
      unfold smallR at *
      split
      · rfl
      · rename_i h1
        rw [if_neg h1] at hs
        unfold smallN at *
        split
        · rename_i h2; rw [if_pos h2] at hs; exact absurd rfl hs
        · rfl
    exact recordEncodes_big v x hx hl hf hf1 hf2 hs (Know.has_refl _) h

end Go.Proofs.Ytkenneeejdngaaa
