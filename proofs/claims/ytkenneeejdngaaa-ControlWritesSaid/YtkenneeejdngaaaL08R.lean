/- Layer 8, walked: ControlRecords. -/
import Derived.Test.YtkenneeejdngaaaCtl3
import Derived.Test.YtkenneeejdngaaaRec6
import Derived.Test.YtkenneeejdngaaaRec5
import Derived.Test.YtkenneeejdngaaaL06F
namespace Go.Proofs.Ytkenneeejdngaaa
open Go.RowKit

theorem ctl_key1 {W0 w : World} {K : Know} {L : List Res} (h : St W0 w K L) :
    Calls Try.prog 48 #[.int .i64 1] w fun en w' => en = .returned (.tuple #[.string (bb [0, 0, 0, 1]), .int .i64 0]) ∧ St W0 w' K L :=
  ctl_key 1 ([0, 0, 0, 1], 0) (by decide +kernel) (by decide) h
theorem ctl_readKey1 {W0 w : World} {K : Know} {L : List Res} (h : St W0 w K L) :
    Calls Try.prog 80 #[.string (bb [0, 0, 0, 1])] w fun en w' => en = .returned (.tuple #[.int .i64 1, .int .i64 0]) ∧ St W0 w' K L :=
  ctl_readKey [0, 0, 0, 1] (1, 0) (by decide +kernel) (by decide) h
theorem ctl_readKey2 {W0 w : World} {K : Know} {L : List Res} (h : St W0 w K L) :
    Calls Try.prog 80 #[.string (bb [0, 0, 0, 2])] w fun en w' => en = .returned (.tuple #[.int .i64 0, .int .i64 12]) ∧ St W0 w' K L :=
  ctl_readKey [0, 0, 0, 2] (0, 12) (by decide +kernel) (by decide) h

set_option maxHeartbeats 1000000 in
set_option maxRecDepth 100000 in
theorem speaks08 {W0 w : World} {K : Know} {L : List Res} (h : St W0 w K L) :
    Calls Try.prog 46 #[] w fun en w' => en = .returned (.bool true) ∧ St W0 w' K L := by
  have H := Lib.hid h
  have t1 : True := trivial
  have t2 : True := trivial
  clear h
  go_enter Try.func46, Try.ntmps46
  go_wp2_with (first
    | (go_at_call 48; refine (ctl_key1 H.out).mono ?_; rintro e wn ⟨rfl, h⟩; replace H := Lib.hid h; clear h)
    | (go_at_call 80; have _t := t1; clear _t; refine (ctl_readKey1 H.out).mono ?_; rintro e wn ⟨rfl, h⟩; replace H := Lib.hid h; clear h t1)
    | (go_at_call 80; have _t := t2; clear _t; refine (ctl_readKey2 H.out).mono ?_; rintro e wn ⟨rfl, h⟩; replace H := Lib.hid h; clear h t2))
  go_ret
  exact ⟨rfl, H.out⟩

set_option maxHeartbeats 1000000 in
set_option maxRecDepth 100000 in
theorem controlRecords_big (q : Option Addr) (cap : Nat) (x : RecS) (hl : x.hdrs.length ≤ 9223372036854775807) (hf : HFit x.hdrs) (hf1 : x.key.data.length ≤ 140737488351232) (hf2 : x.val.data.length ≤ 140737488351232) (hs : smallR x = 0) {W0 w : World} {K : Know} (hk : K.has (Know.flat RHdr (.slice q x.hdrs.length cap) 3 x.hdrs)) (h : St W0 w K []) :
    Calls Try.prog 12 #[.agg #[.int .i64 x.time, .int .i64 x.off, .bool x.key.null, .string (bb x.key.data), .bool x.val.null, .string (bb x.val.data), .slice q x.hdrs.length cap]] w fun en w' => en = .returned (.bool true) ∧ Below W0.heap.size W0 w' := by
  obtain ⟨wA, hwA⟩ : ∃ b, w.heap.size = b := ⟨_, rfl⟩
  have h0 := h.allocRaw #[.int .i64 x.time, .int .i64 x.off, .bool x.key.null, .string (bb x.key.data), .bool x.val.null, .string (bb x.val.data), .slice q x.hdrs.length cap] 62
  rw [hwA] at h0
  have H := Lib.hid h0
  have HK := Lib.hid hk
  have HL := Lib.hid hl
  have HF := Lib.hid hf
  have F1 := Lib.hid hf1
  have F2 := Lib.hid hf2
  have G1 := Lib.hid (show x.key.data.length ≤ 140737488355328 by omega)
  have G2 := Lib.hid (show x.val.data.length ≤ 140737488355328 by omega)
  have ES := Lib.hid hs
  clear h h0 hk hl hf hf1 hf2 hs
  go_enter Try.func12, Try.ntmps12
  go_wp2_with (first
    | (go_at_call 46; refine (speaks08 H.out).mono ?_; rintro e wn ⟨rfl, h⟩; replace H := Lib.hid h; clear h; obtain ⟨ac0, ac1, ac2, ac3, ac4, ac5, ac6, af0, af1, af2, af3, af4, af5, af6⟩ := raw7 (b := wA) (H.out))
    | (go_at_call 35; refine (l07_small x (.slice q x.hdrs.length cap) HL.out HF.out F1.out F2.out HK.out H.out).mono ?_; rw [ES.out]; rintro e wn ⟨rfl, h⟩; replace H := Lib.hid h; clear h; obtain ⟨ac0, ac1, ac2, ac3, ac4, ac5, ac6, af0, af1, af2, af3, af4, af5, af6⟩ := raw7 (b := wA) (H.out)))
  go_ret
  exact ⟨rfl, H.out.below⟩

set_option maxHeartbeats 1000000 in
set_option maxRecDepth 100000 in
theorem controlRecords_small (q : Option Addr) (cap : Nat) (x : RecS) (hl : x.hdrs.length ≤ 9223372036854775807) (hf : HFit x.hdrs) (hf1 : x.key.data.length ≤ 140737488351232) (hf2 : x.val.data.length ≤ 140737488351232) (hs : smallR x = 1) {W0 w : World} {K : Know} (hk : K.has (Know.flat RHdr (.slice q x.hdrs.length cap) 3 x.hdrs)) (h : St W0 w K []) :
    Calls Try.prog 12 #[.agg #[.int .i64 x.time, .int .i64 x.off, .bool x.key.null, .string (bb x.key.data), .bool x.val.null, .string (bb x.val.data), .slice q x.hdrs.length cap]] w fun en w' => en = .returned (.bool true) ∧ Below W0.heap.size W0 w' := by
  obtain ⟨wA, hwA⟩ : ∃ b, w.heap.size = b := ⟨_, rfl⟩
  have h0 := h.allocRaw #[.int .i64 x.time, .int .i64 x.off, .bool x.key.null, .string (bb x.key.data), .bool x.val.null, .string (bb x.val.data), .slice q x.hdrs.length cap] 62
  rw [hwA] at h0
  have H := Lib.hid h0
  have HK := Lib.hid hk
  have HL := Lib.hid hl
  have HF := Lib.hid hf
  have F1 := Lib.hid hf1
  have F2 := Lib.hid hf2
  have G1 := Lib.hid (show x.key.data.length ≤ 140737488355328 by omega)
  have G2 := Lib.hid (show x.val.data.length ≤ 140737488355328 by omega)
  have ES := Lib.hid hs
  obtain ⟨r, hr⟩ : ∃ r, ctlRead x.key.null x.val.null x.key.data x.val.data x.hdrs.length x.off = r := ⟨_, rfl⟩
  have ER := Lib.hid hr
  clear h h0 hk hl hf hf1 hf2 hs hr
  go_enter Try.func12, Try.ntmps12
  go_wp2_with (first
    | (go_at_call 46; refine (speaks08 H.out).mono ?_; rintro e wn ⟨rfl, h⟩; replace H := Lib.hid h; clear h; obtain ⟨ac0, ac1, ac2, ac3, ac4, ac5, ac6, af0, af1, af2, af3, af4, af5, af6⟩ := raw7 (b := wA) (H.out))
    | (go_at_call 35; refine (l07_small x (.slice q x.hdrs.length cap) HL.out HF.out F1.out F2.out HK.out H.out).mono ?_; rw [ES.out]; rintro e wn ⟨rfl, h⟩; replace H := Lib.hid h; clear h; obtain ⟨ac0, ac1, ac2, ac3, ac4, ac5, ac6, af0, af1, af2, af3, af4, af5, af6⟩ := raw7 (b := wA) (H.out))
    | (go_at_call 53; refine (ctl_read x.time x.off x.key.null x.val.null x.key.data x.val.data q x.hdrs.length cap r ER.out G1.out G2.out H.out).mono ?_; rintro e wn ⟨rfl, h⟩; replace H := Lib.hid h; clear h; obtain ⟨ac0, ac1, ac2, ac3, ac4, ac5, ac6, af0, af1, af2, af3, af4, af5, af6⟩ := raw7 (b := wA) (H.out))
    | (go_at_call 54; refine (ref08_read x.time x.off x.key.null x.val.null x.key.data x.val.data q x.hdrs.length cap r ER.out G1.out G2.out H.out).mono ?_; rintro e wn ⟨rfl, h⟩; replace H := Lib.hid h; clear h))
  go_ret
  exact ⟨rfl, H.out.below⟩
theorem smallR_dec (x : RecS) : smallR x = 1 ∨ smallR x = 0 := by
  unfold smallR
  split
  · exact .inr rfl
  · unfold smallN; split
    · exact .inl rfl
    · exact .inr rfl
theorem controlRecords_any (x : RecS) (v : Value) (w : World) (hr : RowsOf (fun _ cs x => RHdr cs x) (· < w.heap.size) w v 3 x.hdrs) (hl : x.hdrs.length ≤ maxLen) (hf : HFit x.hdrs) (hf1 : x.key.data.length ≤ 140737488351232) (hf2 : x.val.data.length ≤ 140737488351232) :
    Calls Try.prog 12 #[.agg #[.int .i64 x.time, .int .i64 x.off, .bool x.key.null, .string (bb x.key.data), .bool x.val.null, .string (bb x.val.data), v]] w fun en w' => en = .returned (.bool true) ∧ Below w.heap.size w w' := by
  have h := rhdr_start hr
  obtain ⟨q, cap, rfl⟩ := flat_form (Know.has_refl _) h
  rcases smallR_dec x with hs | hs
  · exact controlRecords_small q cap x hl hf hf1 hf2 hs (Know.has_refl _) h
  · exact controlRecords_big q cap x hl hf hf1 hf2 hs (Know.has_refl _) h

end Go.Proofs.Ytkenneeejdngaaa
