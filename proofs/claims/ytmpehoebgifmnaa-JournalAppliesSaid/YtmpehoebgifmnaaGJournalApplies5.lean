/- Whatever entries come, one behind the other: each answer, and all that is known, is the document's, and those that say it all, again, say the same: proved of every row of entries. -/
import Derived.Test.YtmpehoebgifmnaaGJournalApplies4
import Derived.RegionTactic
import Derived.WalkMore
import Derived.Test.YtmpehoebgifmnaaGJournalApplies3
import Derived.Test.YtmpehoebgifmnaaArgs
import Derived.SizedLaws
import Derived.Deep.Slices
import Derived.Test.YtmpehoebgifmnaaL06F
/- A text. -/
namespace Go.Proofs.Ytmpehoebgifmnaa
open Go.RowKit

theorem lenT_of_map {a b : List (TopS × Value)} (h : a.map (·.1) = b.map (·.1)) (hb : LenT b) : LenT a := by
 have hl := congrArg List.length h; rw [List.length_map, List.length_map] at hl; refine ⟨by rw [hl]; exact hb.1, fun x hx => ?_⟩; have h1 : x.1 ∈ a.map (·.1) := List.mem_map_of_mem hx; rw [h] at h1; obtain ⟨y, hy, he⟩ := List.mem_map.1 h1; rw [← he]; exact hb.2 y hy
set_option maxHeartbeats 4000000 in
set_option maxRecDepth 100000 in
theorem law15_is (jb mb n : Nat) (m : Int) (f : JF) (l : List KnR) (q : Option Addr) (cap : Nat) (hn : n ≤ 1000000) (ha : AllOk f l) {W0 w : World} {K : Know} {L : List Res} (hk : K.has (Know.kns (.slice q l.length cap) l)) (h : St W0 w K (.raw jb #[.map (some mb), .int .i64 m] 63 :: .gen (jmap mb n f) :: L)) :
    Calls Try.prog 13 #[.pointer (some ⟨jb, 0, none⟩), .slice q l.length cap] w fun en w' => en = .returned (.bool true) ∧ St W0 w' K (.raw jb #[.map (some mb), .int .i64 m] 63 :: .gen (jmap mb n f) :: L) := by
  have H := Lib.hid h; have HK := Lib.hid hk; have HAO := Lib.hid ha; have HN := Lib.hid hn; have HLK := Lib.hid (show l.length ≤ 1000 by have := ha.few; omega); have hli : (l.length : Int) ≤ 60 := by have := ha.few; omega
  clear h hk ha hn; go_enter Try.func13, Try.ntmps13; go_upto_region 2 with (go_at_call 23; (with_reducible refine (jr_ids jb mb n m f HN.out H.out).mono ?_); rintro e_ wn ⟨rv, ids, rfl, hio, h⟩; obtain ⟨rq, rcap, hrv⟩ := h.rowAny; subst hrv; have HIO := Lib.hid hio; have HLN := Lib.hid (HAO.out.len hio); clear hio; have h := h.p1.p2.p1; replace H := Lib.hid h; clear h); have hln : (ids.length : Int) = (l.length : Int) := by rw [HLN.out]
  have e1 : ((ids.length : Int) != (l.length : Int)) = false := by rw [hln]; simp
  have hki : (ids.length : Int) ≤ 60 := by omega
  clear hln; go_wp2_with fail; go_loopw [21] (fun iv wr => ∃ k : Nat, k ≤ ids.length ∧ iv = .int .i64 k ∧ St W0 wr K (.raw jb #[.map (some mb), .int .i64 m] 63 :: .gen (jmap mb n f) :: .row (.slice rq ids.length rcap) 9 1 ids.length (ids.map encStr) :: L)) (fun iv _ => ids.length - (intOf iv).toNat)
  case atStart => exact ⟨0, Nat.zero_le _, rfl, H.out⟩
  case round =>
    obtain ⟨k, hkl, rfl, hst⟩ := hrel; clear H; have H := Lib.hid hst; clear hst
    by_cases hlt : k < ids.length
    · obtain ⟨g, gcap, hg⟩ := H.out.p2.rowSlice (by omega); simp at hg; obtain ⟨rfl, rfl⟩ := hg; have hkn : (k : Int) < (ids.length : Int) := by omega
      cases k with
      | zero =>
      obtain ⟨id, hid⟩ : ∃ x, ids[0] = x := ⟨_, rfl⟩; obtain ⟨i, hil, hie, hno⟩ := HAO.out.at HIO.out (0) hlt; rw [hid] at hie hno; obtain ⟨x, hx⟩ : ∃ x, l[i] = x := ⟨_, rfl⟩; have hmem : x ∈ l := hx ▸ List.getElem_mem hil; obtain ⟨S, hfs, hsl, hv⟩ := HAO.out.val x hmem; obtain ⟨hidl, _⟩ := HAO.out.ids x hmem; have hxt := kns_tops HK.out hmem; rw [hx] at hie; obtain ⟨kid, p, e, t, s, u, st, tl, xq, xcap⟩ := x; simp only at hfs hv hie hidl hxt; have HRW := Lib.hid (show ∀ (L' : List Res) (K' : Know) w', St W0 w' K' (.row (.slice (some ⟨g, 0, none⟩) ids.length rcap) 9 1 ids.length (ids.map encStr) :: L') → (w'.cell? ⟨g, 0, none⟩ = some (.string (bb id))) from fun L' K' w' hs => (hs.rowCell 0 (by omega)).trans (enc_at ids 0 hlt id hid)); have HII := Lib.hid hil; have HXI := Lib.hid hx; have HID := Lib.hid hie; have HNO := Lib.hid hno; have HFS := Lib.hid (show f id = some S by rw [← hie]; exact hfs); have HIL := Lib.hid (show id.length ≤ 1000000 by rw [← hie]; omega); have HSL := Lib.hid (show S.length ≤ 1000000 by omega); have HV := Lib.hid hv; have HL1 := Lib.hid (lenT_dec hsl hv); have HXT := Lib.hid hxt; have y9 := HRW.out _ _ _ H.out.p2; have y0 := y9; clear y9 hid hie hno hx hmem hfs hsl hv hidl hxt
      go_wp2_with (first
    | (go_at_call 32; (try clear y0 y1); (with_reducible refine (law15_find l q cap id kid p e t s u st tl xq xcap i HII.out HXI.out HID.out HNO.out HLK.out HK.out H.out).mono ?_); rintro e_ wn ⟨rfl, h⟩; obtain ⟨fb, hfb⟩ : ∃ b, wn.heap.size = b := ⟨_, rfl⟩; have h := h.allocRaw #[.int .i64 p, .int .i64 e, .int .i64 t, .int .i64 s, .slice xq tl.length xcap, .int .i64 u, .int .i64 st] 37; rw [hfb] at h; have h := h.p1.p2.p1; have y9 := HRW.out _ _ _ (h.p3); have y0 := y9; clear y9; replace H := Lib.hid h; clear h)
    | (go_at_call 21; (try clear y0 y1); (with_reducible refine (jr_get_some jb mb n m f id S HFS.out HIL.out HSL.out p e t s u st (tl.map (·.1)) HV.out H.out).mono ?_); rintro e_ wn ⟨qt, capt, lr, rfl, hlr, h⟩; obtain ⟨gb, hgb⟩ : ∃ b, wn.heap.size = b := ⟨_, rfl⟩; have h := h.allocRaw #[.int .i64 p, .int .i64 e, .int .i64 t, .int .i64 s, .slice qt lr.length capt, .int .i64 u, .int .i64 st] 37; rw [hgb] at h; have HLR := Lib.hid hlr; clear hlr; have y9 := HRW.out _ _ _ (h.p4); have y0 := y9; clear y9; have a0 := (h).rawCell 0; have a1 := (h).rawCell 1; have a2 := (h).rawCell 2; have a3 := (h).rawCell 3; have a4 := (h).rawCell 4; have a5 := (h).rawCell 5; have a6 := (h).rawCell 6; simp at a0 a1 a2 a3 a4 a5 a6; have b0 := (h.p3).rawCell 0; have b1 := (h.p3).rawCell 1; have b2 := (h.p3).rawCell 2; have b3 := (h.p3).rawCell 3; have b4 := (h.p3).rawCell 4; have b5 := (h.p3).rawCell 5; have b6 := (h.p3).rawCell 6; simp at b0 b1 b2 b3 b4 b5 b6; replace H := Lib.hid h; clear h)
    | (go_at_call 22; (try clear y0 y1); (with_reducible refine (ref14_sameT p e t s u st tl lr xq qt xcap capt HLR.out.symm HL1.out (lenT_of_map HLR.out HL1.out) (Know.has_left HXT.out) (Know.has_right (Know.has_refl _)) H.out).mono ?_); rintro e_ wn ⟨rfl, h⟩; have y9 := HRW.out _ _ _ (h.p4); have y0 := y9; clear y9; replace H := Lib.hid h; clear h))
      go_roundw
      case rel => exact ⟨0 + 1, hlt, by go_num, (H.out.drop.p2.drop).know (Know.has_left (Know.has_refl _))⟩
      case measure => first | (simp [intOf]; done) | (simp [intOf]; omega)

      | succ m9 =>
      obtain ⟨id, hid⟩ : ∃ x, ids[m9 + 1] = x := ⟨_, rfl⟩; obtain ⟨i, hil, hie, hno⟩ := HAO.out.at HIO.out (m9 + 1) hlt; rw [hid] at hie hno; have hb9 := HIO.out.less m9 hlt; obtain ⟨id0, hid0⟩ : ∃ x, ids[m9] = x := ⟨_, rfl⟩; rw [hid, hid0] at hb9; have hmi : (m9 : Int) ≤ 1000 := by have := HLN.out; have := HLK.out; omega
      obtain ⟨x, hx⟩ : ∃ x, l[i] = x := ⟨_, rfl⟩; have hmem : x ∈ l := hx ▸ List.getElem_mem hil; obtain ⟨S, hfs, hsl, hv⟩ := HAO.out.val x hmem; obtain ⟨hidl, _⟩ := HAO.out.ids x hmem; have hxt := kns_tops HK.out hmem; rw [hx] at hie; obtain ⟨kid, p, e, t, s, u, st, tl, xq, xcap⟩ := x; simp only at hfs hv hie hidl hxt; have HRW := Lib.hid (show ∀ (L' : List Res) (K' : Know) w', St W0 w' K' (.row (.slice (some ⟨g, 0, none⟩) ids.length rcap) 9 1 ids.length (ids.map encStr) :: L') → (w'.cell? ⟨g, m9 + 1, none⟩ = some (.string (bb id)) ∧ w'.cell? ⟨g, m9, none⟩ = some (.string (bb id0))) from fun L' K' w' hs => ⟨(hs.rowCell (m9 + 1) (by omega)).trans (enc_at ids _ hlt id hid), (hs.rowCell m9 (by omega)).trans (enc_at ids m9 (by omega) id0 hid0)⟩); have HII := Lib.hid hil; have HXI := Lib.hid hx; have HID := Lib.hid hie; have HNO := Lib.hid hno; have HFS := Lib.hid (show f id = some S by rw [← hie]; exact hfs); have HIL := Lib.hid (show id.length ≤ 1000000 by rw [← hie]; omega); have HSL := Lib.hid (show S.length ≤ 1000000 by omega); have HV := Lib.hid hv; have HL1 := Lib.hid (lenT_dec hsl hv); have HXT := Lib.hid hxt; have y9 := HRW.out _ _ _ H.out.p2; have y0 := y9.1; have y1 := y9.2; clear y9 hid hie hno hx hmem hfs hsl hv hidl hxt hid0
      go_wp2_with (first
    | (go_at_call 32; (try clear y0 y1); (with_reducible refine (law15_find l q cap id kid p e t s u st tl xq xcap i HII.out HXI.out HID.out HNO.out HLK.out HK.out H.out).mono ?_); rintro e_ wn ⟨rfl, h⟩; obtain ⟨fb, hfb⟩ : ∃ b, wn.heap.size = b := ⟨_, rfl⟩; have h := h.allocRaw #[.int .i64 p, .int .i64 e, .int .i64 t, .int .i64 s, .slice xq tl.length xcap, .int .i64 u, .int .i64 st] 37; rw [hfb] at h; have h := h.p1.p2.p1; have y9 := HRW.out _ _ _ (h.p3); have y0 := y9.1; have y1 := y9.2; clear y9; replace H := Lib.hid h; clear h)
    | (go_at_call 21; (try clear y0 y1); (with_reducible refine (jr_get_some jb mb n m f id S HFS.out HIL.out HSL.out p e t s u st (tl.map (·.1)) HV.out H.out).mono ?_); rintro e_ wn ⟨qt, capt, lr, rfl, hlr, h⟩; obtain ⟨gb, hgb⟩ : ∃ b, wn.heap.size = b := ⟨_, rfl⟩; have h := h.allocRaw #[.int .i64 p, .int .i64 e, .int .i64 t, .int .i64 s, .slice qt lr.length capt, .int .i64 u, .int .i64 st] 37; rw [hgb] at h; have HLR := Lib.hid hlr; clear hlr; have y9 := HRW.out _ _ _ (h.p4); have y0 := y9.1; have y1 := y9.2; clear y9; have a0 := (h).rawCell 0; have a1 := (h).rawCell 1; have a2 := (h).rawCell 2; have a3 := (h).rawCell 3; have a4 := (h).rawCell 4; have a5 := (h).rawCell 5; have a6 := (h).rawCell 6; simp at a0 a1 a2 a3 a4 a5 a6; have b0 := (h.p3).rawCell 0; have b1 := (h.p3).rawCell 1; have b2 := (h.p3).rawCell 2; have b3 := (h.p3).rawCell 3; have b4 := (h.p3).rawCell 4; have b5 := (h.p3).rawCell 5; have b6 := (h.p3).rawCell 6; simp at b0 b1 b2 b3 b4 b5 b6; replace H := Lib.hid h; clear h)
    | (go_at_call 22; (try clear y0 y1); (with_reducible refine (ref14_sameT p e t s u st tl lr xq qt xcap capt HLR.out.symm HL1.out (lenT_of_map HLR.out HL1.out) (Know.has_left HXT.out) (Know.has_right (Know.has_refl _)) H.out).mono ?_); rintro e_ wn ⟨rfl, h⟩; have y9 := HRW.out _ _ _ (h.p4); have y0 := y9.1; have y1 := y9.2; clear y9; replace H := Lib.hid h; clear h))
      go_roundw
      case rel => exact ⟨m9 + 1 + 1, hlt, by go_num, (H.out.drop.p2.drop).know (Know.has_left (Know.has_refl _))⟩
      case measure => first | (simp [intOf]; done) | (simp [intOf]; omega)

    · obtain rfl : k = ids.length := by omega
      go_wp2_with fail; go_ret; exact ⟨rfl, H.out.p2.drop⟩
def k97 : Bs := keyBytes [97]
theorem k97_enc : keyEnc [97] = (k97, 0) := by kernel_rfl
theorem k97_rd : keyRd k97 = ([97], 0) := by kernel_rfl
theorem k97_len : k97.length ≤ 1000 := by decide
theorem put_z (k S : Bs) (hk : k97 = k) (hS : vz37 = S) {W0 w : World} {K : Know} {L : List Res} (h : St W0 w K L) :
  Calls Try.prog 16 #[.string ⟨#[97]⟩, .agg #[.int .i64 0, .int .i64 0, .int .i64 0, .int .i64 0, .slice none 0 0, .int .i64 0, .int .i64 (-1)]] w fun en w' => en = .returned (.tuple #[.agg #[.string (bb k), .bool false, .string (bb S)], .int .i64 0]) ∧ St W0 w' K L := by
 subst hk; subst hS; have h2 : St W0 w (K.and (Know.tops (.slice none 0 0) [])) L := h.know (tops_nil K); refine (jr_put [97] k97 vz37 k97_enc (by decide) 0 0 0 0 0 (-1) [] none 0 [] rfl rfl (by kernel_rfl) (by unfold ValS.R; exact ⟨by decide, by decide, by decide, by decide, by decide, by decide⟩) few_nil (Know.has_right (Know.has_refl _)) h2).mono ?_; rintro e_ wn ⟨rfl, h3⟩; exact ⟨rfl, h3.know (Know.has_left (Know.has_refl _))⟩
theorem drop_z (k : Bs) (hk : k97 = k) {W0 w : World} {K : Know} {L : List Res} (h : St W0 w K L) :
  Calls Try.prog 17 #[.string ⟨#[97]⟩] w fun en w' => en = .returned (.tuple #[.agg #[.string (bb k), .bool true, .string (bb [])], .int .i64 0]) ∧ St W0 w' K L := by
 subst hk; exact jr_drop [97] k97 k97_enc (by decide) h
theorem apply_z1 (jb mb : Nat) (k S : Bs) (hk : k97 = k) (hS : vz37 = S) {W0 w : World} {K : Know} {L : List Res} (h : St W0 w K (.raw jb #[.map (some mb), .int .i64 0] 63 :: .gen (jmap mb 0 (fun _ => none)) :: L)) :
  Calls Try.prog 11 #[.pointer (some ⟨jb, 0, none⟩), .agg #[.string (bb k), .bool false, .string (bb S)]] w fun en w' => en = .returned (.int .i64 0) ∧ St W0 w' K (.raw jb #[.map (some mb), .int .i64 1] 63 :: .gen (jmap mb 1 (jset (fun _ => none) [97] (some S))) :: L) := by
 subst hk; subst hS; exact jr_apply_put jb mb 0 0 _ k97 [97] vz37 0 0 0 0 0 (-1) [] k97_rd vz37_dec k97_len (by decide) (by rw [vz37_len]; decide) (by decide) (by decide) (by decide) h
theorem apply_z2 (jb mb : Nat) (f : JF) (k : Bs) (hk : k97 = k) {W0 w : World} {K : Know} {L : List Res} (h : St W0 w K (.raw jb #[.map (some mb), .int .i64 1] 63 :: .gen (jmap mb 1 f) :: L)) :
  Calls Try.prog 11 #[.pointer (some ⟨jb, 0, none⟩), .agg #[.string (bb k), .bool true, .string (bb [])]] w fun en w' => en = .returned (.int .i64 0) ∧ St W0 w' K (.raw jb #[.map (some mb), .int .i64 2] 63 :: .gen (jmap mb 1 (jset f [97] none)) :: L) := by
 subst hk; exact jr_apply_drop jb mb 1 1 f k97 [97] k97_rd k97_len (by decide) (by decide) (by decide) h
theorem get_z1 (jb mb : Nat) (S : Bs) (hS : vz37 = S) {W0 w : World} {K : Know} {L : List Res} (h : St W0 w K (.raw jb #[.map (some mb), .int .i64 1] 63 :: .gen (jmap mb 1 (jset (fun _ => none) [97] (some S))) :: L)) :
  Calls Try.prog 21 #[.pointer (some ⟨jb, 0, none⟩), .string ⟨#[97]⟩] w fun en w' => ∃ (qt : Option Addr) (capt : Nat) (lr : List (TopS × Value)), en = .returned (.tuple #[.agg #[.int .i64 0, .int .i64 0, .int .i64 0, .int .i64 0, .slice qt lr.length capt, .int .i64 0, .int .i64 (-1)], .bool true]) ∧ St W0 w' K (.raw jb #[.map (some mb), .int .i64 1] 63 :: .gen (jmap mb 1 (jset (fun _ => none) [97] (some S))) :: L) := by
 subst hS; refine (jr_get_some jb mb 1 1 _ [97] vz37 rfl (by decide) vz37_len2 0 0 0 0 0 (-1) [] vz37_dec h).mono ?_; rintro e_ wn ⟨qt, capt, lr, rfl, _, h3⟩; exact ⟨qt, capt, lr, rfl, h3.know (Know.has_left (Know.has_refl _))⟩
theorem get_z2 (jb mb : Nat) (f : JF) {W0 w : World} {K : Know} {L : List Res} (h : St W0 w K (.raw jb #[.map (some mb), .int .i64 2] 63 :: .gen (jmap mb 1 (jset f [97] none)) :: L)) :
  Calls Try.prog 21 #[.pointer (some ⟨jb, 0, none⟩), .string ⟨#[97]⟩] w fun en w' => en = .returned (.tuple #[.agg #[.int .i64 0, .int .i64 0, .int .i64 0, .int .i64 0, .slice none 0 0, .int .i64 0, .int .i64 0], .bool false]) ∧ St W0 w' K (.raw jb #[.map (some mb), .int .i64 2] 63 :: .gen (jmap mb 1 (jset f [97] none)) :: L) :=
 jr_get_none jb mb 1 2 _ [97] (by unfold jset; rw [if_pos rfl]) (by decide) h
set_option maxHeartbeats 4000000 in
set_option maxRecDepth 100000 in
theorem speaks15 {W0 w : World} {K : Know} {L : List Res} (h : St W0 w K L) :
  Calls Try.prog 5 #[] w fun en w' => en = .returned (.bool true) ∧ St W0 w' K L := by
 have H := Lib.hid h; obtain ⟨k, hk⟩ : ∃ k, k97 = k := ⟨_, rfl⟩; obtain ⟨S, hS⟩ : ∃ S, vz37 = S := ⟨_, rfl⟩; have HKK := Lib.hid hk; have HS := Lib.hid hS; clear h hk hS; go_enter Try.func5, Try.ntmps5
 go_wp2_with (first
  | (go_at_call 6; (with_reducible refine (jr_new H.out).mono ?_); rintro e_ wn ⟨jb, mb, rfl, h⟩; replace H := Lib.hid h; clear h)
  | (go_at_call 16; (with_reducible refine (put_z k S HKK.out HS.out H.out).mono ?_); rintro e_ wn ⟨rfl, h⟩; obtain ⟨ab, hab⟩ : ∃ b, wn.heap.size = b := ⟨_, rfl⟩; have h := h.allocRaw #[.string (bb k), .bool false, .string (bb S)] 30; rw [hab] at h; have a0 := (h).rawCell 0; have a1 := (h).rawCell 1; have a2 := (h).rawCell 2; simp at a0 a1 a2; replace H := Lib.hid h; clear h)
  | (go_at_call 17; (try clear a0 a1 a2 b0 b1 b2); (with_reducible refine (drop_z k HKK.out H.out).mono ?_); rintro e_ wn ⟨rfl, h⟩; obtain ⟨bb9, hbb9⟩ : ∃ b, wn.heap.size = b := ⟨_, rfl⟩; have h := h.allocRaw #[.string (bb k), .bool true, .string (bb [])] 30; rw [hbb9] at h; have b0 := (h).rawCell 0; have b1 := (h).rawCell 1; have b2 := (h).rawCell 2; simp at b0 b1 b2; have a0 := (h.p1).rawCell 0; have a1 := (h.p1).rawCell 1; have a2 := (h.p1).rawCell 2; simp at a0 a1 a2; have h := h.p2.p3.p1; replace H := Lib.hid h; clear h)
  | (go_at_call 11; (try clear a0 a1 a2 b0 b1 b2); (with_reducible refine (apply_z1 jb mb k S HKK.out HS.out H.out).mono ?_); rintro e_ wn ⟨rfl, h⟩; have b0 := (h.p2).rawCell 0; have b1 := (h.p2).rawCell 1; have b2 := (h.p2).rawCell 2; simp at b0 b1 b2; have a0 := (h.p3).rawCell 0; have a1 := (h.p3).rawCell 1; have a2 := (h.p3).rawCell 2; simp at a0 a1 a2; replace H := Lib.hid h; clear h)
  | (go_at_call 21; (try clear a0 a1 a2 b0 b1 b2); (with_reducible refine (get_z1 jb mb S HS.out H.out).mono ?_); rintro e_ wn ⟨qt, capt, lr, rfl, h⟩; have h := h.alloc (.cells #[.int .i64 0, .int .i64 0, .int .i64 0, .int .i64 0, .slice qt lr.length capt, .int .i64 0, .int .i64 (-1)] 37 (0, 0)); have b0 := (h.p2).rawCell 0; have b1 := (h.p2).rawCell 1; have b2 := (h.p2).rawCell 2; simp at b0 b1 b2; have a0 := (h.p3).rawCell 0; have a1 := (h.p3).rawCell 1; have a2 := (h.p3).rawCell 2; simp at a0 a1 a2; replace H := Lib.hid h; clear h)
  | (go_at_call 11; (try clear a0 a1 a2 b0 b1 b2); (with_reducible refine (apply_z2 jb mb _ k HKK.out H.out).mono ?_); rintro e_ wn ⟨rfl, h⟩; have b0 := (h.p2).rawCell 0; have b1 := (h.p2).rawCell 1; have b2 := (h.p2).rawCell 2; simp at b0 b1 b2; have a0 := (h.p3).rawCell 0; have a1 := (h.p3).rawCell 1; have a2 := (h.p3).rawCell 2; simp at a0 a1 a2; replace H := Lib.hid h; clear h)
  | (go_at_call 21; (try clear a0 a1 a2 b0 b1 b2); (with_reducible refine (get_z2 jb mb _ H.out).mono ?_); rintro e_ wn ⟨rfl, h⟩; have h := h.alloc (.cells #[.int .i64 0, .int .i64 0, .int .i64 0, .int .i64 0, .slice none 0 0, .int .i64 0, .int .i64 0] 37 (0, 0)); replace H := Lib.hid h; clear h)
  | (go_at_call 12; (with_reducible refine (jr_many jb mb 1 2 _ H.out).mono ?_); rintro e_ wn ⟨rfl, h⟩; replace H := Lib.hid h; clear h))
 go_ret; exact ⟨rfl, H.out.drop.drop.drop.drop⟩
set_option maxHeartbeats 4000000 in
set_option maxRecDepth 100000 in
theorem jr_compact (jb mb n : Nat) (m : Int) (f : JF) (l : List KnR) (hn : n ≤ 1000000) (ha : AllOk f l) {W0 w : World} {K : Know} {L : List Res} (h : St W0 w K (.raw jb #[.map (some mb), .int .i64 m] 63 :: .gen (jmap mb n f) :: L)) :
  Calls Try.prog 14 #[.pointer (some ⟨jb, 0, none⟩)] w fun en w' => ∃ (v : Value) (ids : List Bs), en = .returned v ∧ IdsOf f ids ∧ St W0 w' K (.raw jb #[.map (some mb), .int .i64 m] 63 :: .gen (jmap mb n f) :: .row v 30 3 ids.length (ids.flatMap (entOf f)) :: L) := by
 have H := Lib.hid h; have HAO := Lib.hid ha; have HN := Lib.hid hn; have hli : l.length ≤ 60 := ha.few; clear h ha hn; go_enter Try.func14, Try.ntmps14; go_wp2_with (go_at_call 23; (with_reducible refine (jr_ids jb mb n m f HN.out H.out).mono ?_); rintro e_ wn ⟨rv, ids, rfl, hio, h⟩; obtain ⟨rq, rcap, hrv⟩ := h.rowAny; subst hrv; have HIO := Lib.hid hio; have HLN := Lib.hid (HAO.out.len hio); have hki : (ids.length : Int) ≤ 60 := (by have := HAO.out.len hio; omega); clear hio; have h := h.p1.p2.p1; replace H := Lib.hid h; clear h); have HZ := Lib.hid (H.out.nilRow 30 3).p1.p2.p1; go_loopw [13, 3] (fun iv lv wr => ∃ (k : Nat) (xs : List Value), k ≤ ids.length ∧ iv = .int .i64 k ∧ Hid ((ids.take k).flatMap (entOf f) = xs) ∧ St W0 wr K (.raw jb #[.map (some mb), .int .i64 m] 63 :: .gen (jmap mb n f) :: .row lv 30 3 k xs :: .row (.slice rq ids.length rcap) 9 1 ids.length (ids.map encStr) :: L)) (fun iv _ _ => ids.length - (intOf iv).toNat)
 case atStart => exact ⟨0, [], Nat.zero_le _, rfl, Lib.hid rfl, HZ.out⟩
 case round =>
  obtain ⟨k, xs, hkl, rfl, HXS, hst⟩ := hrel; obtain ⟨lq, lcap, rfl⟩ := hst.p2.rowAny; clear H HZ; have H := Lib.hid hst; clear hst
  by_cases hlt : k < ids.length
  · obtain ⟨g, gcap, hg⟩ := H.out.p3.rowSlice (by omega); simp at hg; obtain ⟨rfl, rfl⟩ := hg; have hkn : (k : Int) < (ids.length : Int) := by omega
    have HKN := Lib.hid (show k ≤ 1000 by have := HLN.out; omega); have hgt := HAO.out.get HIO.out k hlt; obtain ⟨id, hid⟩ : ∃ x, ids[k] = x := ⟨_, rfl⟩; rw [hid] at hgt; obtain ⟨key, S, p, e, t, s, u, st, tl, h5, h6, h4, h1, h2, h3⟩ := hgt; obtain ⟨h7, h8, h9⟩ := valDec_one h3; have hke := keyRd_enc key id h5; have y0 : wr.cell? ⟨g, k, none⟩ = some (.string (bb id)) := (H.out.p3.rowCell k (by omega)).trans (enc_at ids k hlt id hid); have HET := Lib.hid (show (ids.take (k + 1)).flatMap (entOf f) = xs ++ [.string (bb key), .bool false, .string (bb S)] by rw [ent_take f ids k hlt id hid, HXS.out, ent_eq hke h1]); have HFS := Lib.hid h1; have HIL := Lib.hid (show id.length ≤ 1000000 by omega); have HI4 := Lib.hid (show id.length ≤ 40000 by omega); have HSL := Lib.hid (show S.length ≤ 1000000 by omega); have HS1 := Lib.hid h2; have HV := Lib.hid h3; have HKE := Lib.hid hke; have HSE := Lib.hid (show ValS.enc ⟨p, e, t, s, tl, u, st⟩ = S from h7); have HER := Lib.hid (show ValS.err ⟨p, e, t, s, tl, u, st⟩ = 0 from h8); have HRR := Lib.hid (show ValS.R ⟨p, e, t, s, tl, u, st⟩ from h9); clear hid h5 h6 h4 h1 h2 h3 h7 h8 h9 hke
    go_wp2_with (first
  | (go_at_call 21; (try clear y0); (with_reducible refine (jr_get_some jb mb n m f id S HFS.out HIL.out HSL.out p e t s u st tl HV.out H.out).mono ?_); rintro e_ wn ⟨qt, capt, lr, rfl, hlr, h⟩; obtain ⟨gb, hgb⟩ : ∃ b, wn.heap.size = b := ⟨_, rfl⟩; have h := h.allocRaw #[.int .i64 p, .int .i64 e, .int .i64 t, .int .i64 s, .slice qt lr.length capt, .int .i64 u, .int .i64 st] 37; rw [hgb] at h; have HLR := Lib.hid hlr; clear hlr; have a0 := (h).rawCell 0; have a1 := (h).rawCell 1; have a2 := (h).rawCell 2; have a3 := (h).rawCell 3; have a4 := (h).rawCell 4; have a5 := (h).rawCell 5; have a6 := (h).rawCell 6; simp at a0 a1 a2 a3 a4 a5 a6; replace H := Lib.hid h; clear h)
  | (go_at_call 16; (try clear a0 a1 a2 a3 a4 a5 a6); (with_reducible refine (jr_put id key S HKE.out HI4.out p e t s u st lr qt capt tl HLR.out HSE.out HER.out HRR.out (fewT_mapJ HS1.out HV.out HLR.out) (Know.has_right (Know.has_refl _)) H.out).mono ?_); rintro e_ wn ⟨rfl, h⟩; have h := h.know (Know.has_left (Know.has_refl _)); obtain ⟨eb, heb⟩ : ∃ b, wn.heap.size = b := ⟨_, rfl⟩; have h := h.allocRaw #[.string (bb key), .bool false, .string (bb S)] 30; rw [heb] at h; have b0 := (h).rawCell 0; have b1 := (h).rawCell 1; have b2 := (h).rawCell 2; simp at b0 b1 b2; replace H := Lib.hid h; clear h)
  | (at_builtin; refine wpl_app1_st rfl _ _ 22 rfl 30 Try.underlying22 elem_je _ _ _ rfl H.out.p4 [.string (bb key), .bool false, .string (bb S)] 30 (by first | rfl | (rw [World.size_alloc]; rfl) | (rw [World.size_alloc, heb]; rfl)) rfl (by simp [Value.oneCell']) (by have := HKN.out; unfold maxLen; omega) (by have := HKN.out; omega) ?_; intro v' w' h; obtain ⟨qv, cv, hv⟩ := h.rowAny; subst hv; replace H := Lib.hid h; clear h))
    go_roundw
    case rel => exact ⟨k + 1, xs ++ [.string (bb key), .bool false, .string (bb S)], hlt, by go_num, HET, (H.out.p1.drop.p1.drop).p1.p2.p1⟩
    case measure => first | (simp [intOf]; done) | (simp [intOf]; omega)
  · obtain rfl : k = ids.length := by omega
    have hx := HXS.out; rw [List.take_length] at hx; subst hx; go_wp2_with fail; go_ret; exact ⟨_, ids, rfl, HIO.out, H.out.p3.drop⟩
set_option maxHeartbeats 4000000 in
set_option maxRecDepth 100000 in
theorem ja_long (l : List EntV) (q : Option Addr) (cap : Nat) (hl : 60 < l.length) {W0 w : World} {K : Know} (h : St W0 w K []) :
  Calls Try.prog 3 #[.slice q l.length cap] w fun en w' => en = .returned (.bool true) ∧ Below W0.heap.size W0 w' := by
 have H := Lib.hid h; have hli : 60 < (l.length : Int) := by omega
 clear h hl; go_enter Try.func3, Try.ntmps3; go_wp2_with (go_at_call 5; (with_reducible refine (speaks15 H.out).mono ?_); rintro e_ wn ⟨rfl, h⟩; replace H := Lib.hid h; clear h); go_ret; exact ⟨rfl, H.out.below⟩

theorem zq0 {p : Prop} (h : p := by
  go_roundw
  case rel => exact ⟨k + 1, n, m, f, all, qa, ca, _, hlt, by omega, by omega, by omega, by go_num, rfl, rfl, HAO, HKK, HKS, H.out.p2.drop⟩
  case measure => first | (simp [intOf]; done) | (simp [intOf]; omega)) : p := h
set_option maxHeartbeats 8000000 in
set_option maxRecDepth 100000 in
theorem ja_main (l : List EntV) (q : Option Addr) (cap : Nat) (hl : l.length ≤ 60) {W0 w : World} {K : Know} (hk : K.has (Know.flat RJE (.slice q l.length cap) 3 l)) (h : St W0 w K []) :
  Calls Try.prog 3 #[.slice q l.length cap] w fun en w' => en = .returned (.bool true) ∧ Below W0.heap.size W0 w' := by
 have H := Lib.hid h; have HK := Lib.hid hk; have hli : (l.length : Int) ≤ 60 := by omega
 clear h hk; go_enter Try.func3, Try.ntmps3
 go_wp2_with (first
  | (go_at_call 5; (with_reducible refine (speaks15 H.out).mono ?_); rintro e_ wn ⟨rfl, h⟩; replace H := Lib.hid h; clear h)
  | (go_at_call 6; (with_reducible refine (jr_new H.out).mono ?_); rintro e_ wn ⟨jb, mb, rfl, h⟩; replace H := Lib.hid h; clear h))
 go_loopw [24, 4, 5] (fun iv mv av wr => ∃ (k n m : Nat) (f : JF) (all : List KnR) (qa : Option Addr) (ca : Nat) (K' : Know), k ≤ l.length ∧ n ≤ k ∧ m ≤ k ∧ all.length ≤ k ∧ iv = .int .i64 k ∧ mv = .int .i64 m ∧ av = .slice qa all.length ca ∧ Hid (AllOk f all) ∧ Hid (K'.has K) ∧ Hid (K'.has (Know.kns (.slice qa all.length ca) all)) ∧ St W0 wr K' (.raw jb #[.map (some mb), .int .i64 m] 63 :: .gen (jmap mb n f) :: [])) (fun iv _ _ _ => l.length - (intOf iv).toNat)
 case atStart => exact ⟨0, 0, 0, _, [], none, 0, K, Nat.zero_le _, Nat.le_refl _, Nat.le_refl _, Nat.le_refl _, rfl, rfl, rfl, Lib.hid AllOk.nil, Lib.hid (Know.has_refl _), Lib.hid (kns_nil K), H.out⟩
 case round =>
  obtain ⟨k, n, m, f, all, qa, ca, K', hkl, hnk, hmk, hak, rfl, rfl, rfl, HAO, HKK, HKS, hst⟩ := hrel; clear H; have H := Lib.hid hst; clear hst
  by_cases hlt : k < l.length
  · have HK2 := Lib.hid (Know.has_trans HKK.out HK.out); obtain ⟨b, off, hq⟩ := je_at HK2.out H.out (by omega); subst hq; obtain ⟨x, hx⟩ : ∃ x, l[k] = x := ⟨_, rfl⟩; obtain ⟨c0, c1, c2⟩ := je_cell HK2.out H.out k hlt x hx; obtain ⟨key, nu, d⟩ := x; simp only at c0 c1 c2; clear hx HK2; have hkn : (k : Int) < (l.length : Int) := by omega
    obtain ⟨eb, heb⟩ : ∃ b, wr.heap.size = b := ⟨_, rfl⟩
    by_cases hk1 : key.length ≤ 1000
    rotate_left
    · have g1 := H.out.allocRaw #[.string (bb key), .bool nu, .string (bb d)] 30; rw [heb] at g1; have e0 := (g1).rawCell 0; have e1 := (g1).rawCell 1; have e2 := (g1).rawCell 2; simp at e0 e1 e2; have q1 : 1000 < (key.length : Int) := by omega
      have q2 : decide (1000 < (key.length : Int)) = true := decide_eq_true q1; clear H; have H := Lib.hid g1; clear g1 hk1; go_wp2_with fail; go_ret; exact ⟨rfl, H.out.below⟩
    by_cases hd1 : d.length ≤ 1000
    rotate_left
    · have g1 := H.out.allocRaw #[.string (bb key), .bool nu, .string (bb d)] 30; rw [heb] at g1; have e0 := (g1).rawCell 0; have e1 := (g1).rawCell 1; have e2 := (g1).rawCell 2; simp at e0 e1 e2; have q1 : ¬ 1000 < (key.length : Int) := by omega
      have q2 : decide (1000 < (key.length : Int)) = false := decide_eq_false q1; have q3 : 1000 < (d.length : Int) := by omega
      have q4 : decide (1000 < (d.length : Int)) = true := decide_eq_true q3; clear H; have H := Lib.hid g1; clear g1 hk1 hd1; go_wp2_with fail; go_ret; exact ⟨rfl, H.out.below⟩
    have r1 : ¬ 1000 < (key.length : Int) := by omega
    have r2 : decide (1000 < (key.length : Int)) = false := decide_eq_false r1; have r3 : ¬ 1000 < (d.length : Int) := by omega
    have r4 : decide (1000 < (d.length : Int)) = false := decide_eq_false r3; obtain ⟨⟨id, E⟩, hky⟩ : ∃ r, keyRd key = r := ⟨_, rfl⟩; have HKY := Lib.hid hky; have HK1 := Lib.hid hk1; have HKL := Lib.hid (show key.length ≤ 40100 by omega); have HID := Lib.hid (show id.length ≤ 1000 by have h9 := keyRd_len key; rw [hky] at h9; exact Nat.le_trans h9 hk1); have HD1 := Lib.hid hd1; have HD6 := Lib.hid (show d.length ≤ 1000000 by omega); have hm0 : 0 ≤ (m : Int) := by omega
    have hm1 : (m : Int) ≤ 1000000 := by omega
    have hm2 : (m : Int) ≤ 60 := by omega
    have HM0 := Lib.hid hm0; have HM1 := Lib.hid hm1; have HN1 := Lib.hid (show n < 1000000 by omega); have HN2 := Lib.hid (show n ≤ 1000000 by omega); have HN3 := Lib.hid (show n + 1 ≤ 1000000 by omega); have HAL := Lib.hid (show all.length ≤ 1000 by omega); have q1 : ((m : Int) != (m : Int)) = false := by simp
    have q2 : ((m : Int) + 1 != (m : Int) + 1) = false := by simp
    by_cases hE : E = 0
    rotate_left
    · cases nu with
      | true =>
        have g1 := H.out.allocRaw #[.string (bb key), .bool true, .string (bb d)] 30; rw [heb] at g1; have e0 := (g1).rawCell 0; have e1 := (g1).rawCell 1; have e2 := (g1).rawCell 2; simp at e0 e1 e2; have g2 := g1.p1.p2.p1; clear H; have H := Lib.hid g2; clear g1 g2; have H0 := Lib.hid hE; have q3 : (E == 0) = false := by rw [beq_eq_false_iff_ne]; exact hE
        have q4 : (E != 0) = true := by simp [bne, q3]
        have q5 : (E != E) = false := by simp
        clear hE hky
        go_wp2_with (first
         | (go_at_call 7; (try clear e0 e1 e2); (with_reducible refine (key_decode' key id E HKL.out HKY.out H.out).mono ?_); rintro e_ wn ⟨rfl, h⟩; have xx := h.p2; have e0 := (xx).rawCell 0; have e1 := (xx).rawCell 1; have e2 := (xx).rawCell 2; simp at e0 e1 e2; clear xx; replace H := Lib.hid h; clear h)
         | (go_at_call 11; (try clear e0 e1 e2); (with_reducible refine (jr_apply_key jb mb n _ f key id d true E HKY.out H0.out HK1.out H.out).mono ?_); rintro e_ wn ⟨rfl, h⟩; replace H := Lib.hid h; clear h)
         | (go_at_call 12; (with_reducible refine (jr_many jb mb _ _ _ H.out).mono ?_); rintro e_ wn ⟨rfl, h⟩; replace H := Lib.hid h; clear h)
         | (go_at_call 13; (with_reducible refine (law15_is jb mb _ _ _ all qa ca HN2.out HAO.out HKS.out H.out).mono ?_); rintro e_ wn ⟨rfl, h⟩; replace H := Lib.hid h; clear h))
        exact zq0
      | false =>
        have g1 := H.out.allocRaw #[.string (bb key), .bool false, .string (bb d)] 30; rw [heb] at g1; have e0 := (g1).rawCell 0; have e1 := (g1).rawCell 1; have e2 := (g1).rawCell 2; simp at e0 e1 e2; have g2 := g1.p1.p2.p1; clear H; have H := Lib.hid g2; clear g1 g2; have H0 := Lib.hid hE; have q3 : (E == 0) = false := by rw [beq_eq_false_iff_ne]; exact hE
        have q4 : (E != 0) = true := by simp [bne, q3]
        have q5 : (E != E) = false := by simp
        clear hE hky
        go_wp2_with (first
         | (go_at_call 7; (try clear e0 e1 e2); (with_reducible refine (key_decode' key id E HKL.out HKY.out H.out).mono ?_); rintro e_ wn ⟨rfl, h⟩; have xx := h.p2; have e0 := (xx).rawCell 0; have e1 := (xx).rawCell 1; have e2 := (xx).rawCell 2; simp at e0 e1 e2; clear xx; replace H := Lib.hid h; clear h)
         | (go_at_call 11; (try clear e0 e1 e2); (with_reducible refine (jr_apply_key jb mb n _ f key id d false E HKY.out H0.out HK1.out H.out).mono ?_); rintro e_ wn ⟨rfl, h⟩; replace H := Lib.hid h; clear h)
         | (go_at_call 12; (with_reducible refine (jr_many jb mb _ _ _ H.out).mono ?_); rintro e_ wn ⟨rfl, h⟩; replace H := Lib.hid h; clear h)
         | (go_at_call 13; (with_reducible refine (law15_is jb mb _ _ _ all qa ca HN2.out HAO.out HKS.out H.out).mono ?_); rintro e_ wn ⟨rfl, h⟩; replace H := Lib.hid h; clear h))
        exact zq0
    subst hE
    cases nu with
    | true =>
      by_cases hd0 : d = []
      rotate_left
      · skip
        have g1 := H.out.allocRaw #[.string (bb key), .bool true, .string (bb d)] 30; rw [heb] at g1; have e0 := (g1).rawCell 0; have e1 := (g1).rawCell 1; have e2 := (g1).rawCell 2; simp at e0 e1 e2; have g2 := g1.p1.p2.p1; clear H; have H := Lib.hid g2; clear g1 g2; have HR := Lib.hid (show (⟨true, d⟩ : BlobS).right = false by unfold BlobS.right; cases d with | nil => exact absurd rfl hd0 | cons a b => rfl); have q3 : (d == []) = false := by rw [beq_eq_false_iff_ne]; exact hd0
        have q4 : (d != []) = true := by simp [bne, q3]
        clear hd0 hky
        go_wp2_with (first
         | (go_at_call 7; (try clear e0 e1 e2); (with_reducible refine (key_decode' key id 0 HKL.out HKY.out H.out).mono ?_); rintro e_ wn ⟨rfl, h⟩; have xx := h.p2; have e0 := (xx).rawCell 0; have e1 := (xx).rawCell 1; have e2 := (xx).rawCell 2; simp at e0 e1 e2; clear xx; replace H := Lib.hid h; clear h)
         | (go_at_call 11; (try clear e0 e1 e2); (with_reducible refine (jr_apply_bad jb mb n _ f key id d true HKY.out HR.out HK1.out HID.out H.out).mono ?_); rintro e_ wn ⟨rfl, h⟩; replace H := Lib.hid h; clear h)
         | (go_at_call 12; (with_reducible refine (jr_many jb mb _ _ _ H.out).mono ?_); rintro e_ wn ⟨rfl, h⟩; replace H := Lib.hid h; clear h)
         | (go_at_call 13; (with_reducible refine (law15_is jb mb _ _ _ all qa ca HN2.out HAO.out HKS.out H.out).mono ?_); rintro e_ wn ⟨rfl, h⟩; replace H := Lib.hid h; clear h))
        exact zq0
      · subst hd0; have g1 := H.out.allocRaw #[.string (bb key), .bool true, .string (bb [])] 30; rw [heb] at g1; have e0 := (g1).rawCell 0; have e1 := (g1).rawCell 1; have e2 := (g1).rawCell 2; simp at e0 e1 e2; have g2 := g1.p1.p2.p1; clear H; have H := Lib.hid g2; clear g1 g2; have HAO2 := Lib.hid (HAO.out.drop id); have HKE2 := Lib.hid (kout_le all id); clear hky
        go_wp2_with (first
         | (go_at_call 7; (try clear e0 e1 e2); (with_reducible refine (key_decode' key id 0 HKL.out HKY.out H.out).mono ?_); rintro e_ wn ⟨rfl, h⟩; have xx := h.p2; have e0 := (xx).rawCell 0; have e1 := (xx).rawCell 1; have e2 := (xx).rawCell 2; simp at e0 e1 e2; clear xx; replace H := Lib.hid h; clear h)
         | (go_at_call 8; (try clear e0 e1 e2); (with_reducible refine (law15_without all qa ca id HAL.out HKS.out H.out).mono ?_); rintro e_ wn ⟨v, rfl, h⟩; obtain ⟨qv, cv, hv⟩ := h.rowAny; subst hv; have h := h.freezeKns (fun x hx => kns_tops HKS.out (kout_mem.1 hx).1); have xx := h.p2; have e0 := (xx).rawCell 0; have e1 := (xx).rawCell 1; have e2 := (xx).rawCell 2; simp at e0 e1 e2; clear xx; replace H := Lib.hid h; clear h)
         | (go_at_call 11; (try clear e0 e1 e2); (with_reducible refine (jr_apply_drop jb mb n _ f key id HKY.out HK1.out HID.out HM0.out HM1.out H.out).mono ?_); rintro e_ wn ⟨rfl, h⟩; replace H := Lib.hid h; clear h)
         | (go_at_call 12; (with_reducible refine (jr_many jb mb _ _ _ H.out).mono ?_); rintro e_ wn ⟨rfl, h⟩; replace H := Lib.hid h; clear h)
         | (go_at_call 13; (with_reducible refine (law15_is jb mb _ _ _ (kout all id) qv cv HN2.out HAO2.out (Know.has_right (Know.has_refl _)) H.out).mono ?_); rintro e_ wn ⟨rfl, h⟩; replace H := Lib.hid h; clear h))
        go_roundw
        case rel => exact ⟨k + 1, n, (m + 1), (jset f id none), (kout all id), qv, cv, _, hlt, by omega, by omega, (Nat.le_trans HKE2.out (by omega)), by go_num, rfl, rfl, HAO2, (Lib.hid (Know.has_trans (Know.has_left (Know.has_refl _)) HKK.out)), (Lib.hid (Know.has_right (Know.has_refl _))), H.out.p2.drop⟩
        case measure => first | (simp [intOf]; done) | (simp [intOf]; omega)
    | false =>
      obtain ⟨⟨v, E2⟩, hv⟩ : ∃ r, valDec d = r := ⟨_, rfl⟩
      by_cases hE2 : E2 = 0
      rotate_left
      · skip
        have g1 := H.out.allocRaw #[.string (bb key), .bool false, .string (bb d)] 30; rw [heb] at g1; have e0 := (g1).rawCell 0; have e1 := (g1).rawCell 1; have e2 := (g1).rawCell 2; simp at e0 e1 e2; have g2 := g1.p1.p2.p1; clear H; have H := Lib.hid g2; clear g1 g2; have HV := Lib.hid hv; have H0 := Lib.hid hE2; have q3 : (E2 == 0) = false := by rw [beq_eq_false_iff_ne]; exact hE2
        have q4 : (E2 != 0) = true := by simp [bne, q3]
        have q5 : (E2 != E2) = false := by simp
        clear hv hE2 hky
        go_wp2_with (first
         | (go_at_call 7; (try clear e0 e1 e2); (with_reducible refine (key_decode' key id 0 HKL.out HKY.out H.out).mono ?_); rintro e_ wn ⟨rfl, h⟩; have xx := h.p2; have e0 := (xx).rawCell 0; have e1 := (xx).rawCell 1; have e2 := (xx).rawCell 2; simp at e0 e1 e2; clear xx; replace H := Lib.hid h; clear h)
         | (go_at_call 9; (try clear e0 e1 e2); (with_reducible refine (val_decode_bad d HD6.out v E2 HV.out H0.out H.out).mono ?_); rintro e_ wn ⟨rfl, h⟩; have h := h.alloc (.cells #[.int .i64 0, .int .i64 0, .int .i64 0, .int .i64 0, .slice none 0 0, .int .i64 0, .int .i64 0] 37 (0, 0)); have xx := h.p2; have e0 := (xx).rawCell 0; have e1 := (xx).rawCell 1; have e2 := (xx).rawCell 2; simp at e0 e1 e2; clear xx; replace H := Lib.hid h; clear h)
         | (go_at_call 11; (try clear e0 e1 e2); (with_reducible refine (jr_apply_err jb mb n _ f key id d v E2 HKY.out HV.out H0.out HK1.out HID.out HD1.out H.out).mono ?_); rintro e_ wn ⟨rfl, h⟩; replace H := Lib.hid h; clear h)
         | (go_at_call 12; (with_reducible refine (jr_many jb mb _ _ _ H.out).mono ?_); rintro e_ wn ⟨rfl, h⟩; replace H := Lib.hid h; clear h)
         | (go_at_call 13; (with_reducible refine (law15_is jb mb _ _ _ all qa ca HN2.out HAO.out HKS.out H.out).mono ?_); rintro e_ wn ⟨rfl, h⟩; replace H := Lib.hid h; clear h))
        exact zq0
      · subst hE2; obtain ⟨p, e, t, s, tops, u, st⟩ := v; have g1 := H.out.allocRaw #[.string (bb key), .bool false, .string (bb d)] 30; rw [heb] at g1; have e0 := (g1).rawCell 0; have e1 := (g1).rawCell 1; have e2 := (g1).rawCell 2; simp at e0 e1 e2; have g2 := g1.p1.p2.p1; clear H; have H := Lib.hid g2; clear g1 g2; have HV := Lib.hid hv; have HKO := Lib.hid (kout_le all id); have HKO2 := Lib.hid (show (kout all id).length < 60 from Nat.lt_of_le_of_lt (kout_le all id) (by omega)); clear hv hky
        go_wp2_with (first
         | (go_at_call 7; (try clear e0 e1 e2); (with_reducible refine (key_decode' key id 0 HKL.out HKY.out H.out).mono ?_); rintro e_ wn ⟨rfl, h⟩; have xx := h.p2; have e0 := (xx).rawCell 0; have e1 := (xx).rawCell 1; have e2 := (xx).rawCell 2; simp at e0 e1 e2; clear xx; replace H := Lib.hid h; clear h)
         | (go_at_call 9; (try clear e0 e1 e2); (with_reducible refine (val_decode_okV d HD6.out p e t s u st tops HV.out H.out).mono ?_); rintro e_ wn ⟨qt, capt, lr, rfl, hlr, h⟩; obtain ⟨vb, hvb⟩ : ∃ b, wn.heap.size = b := ⟨_, rfl⟩; have h := h.allocRaw #[.int .i64 p, .int .i64 e, .int .i64 t, .int .i64 s, .slice qt lr.length capt, .int .i64 u, .int .i64 st] 37; rw [hvb] at h; have HLR := Lib.hid hlr; clear hlr; have a0 := (h).rawCell 0; have a1 := (h).rawCell 1; have a2 := (h).rawCell 2; have a3 := (h).rawCell 3; have a4 := (h).rawCell 4; have a5 := (h).rawCell 5; have a6 := (h).rawCell 6; simp at a0 a1 a2 a3 a4 a5 a6; have h := h.p1.p2.p1; have xx := h.p3; have e0 := (xx).rawCell 0; have e1 := (xx).rawCell 1; have e2 := (xx).rawCell 2; simp at e0 e1 e2; clear xx; replace H := Lib.hid h; clear h)
         | (go_at_call 10; (try clear e0 e1 e2); (try clear a0 a1 a2 a3 a4 a5 a6); (with_reducible refine (law15_with all qa ca id p e t s u st lr qt capt HAL.out (Know.has_trans (Know.has_left (Know.has_refl _)) HKS.out) H.out).mono ?_); rintro e_ wn ⟨v, rfl, h⟩; obtain ⟨all2, hall2⟩ : ∃ y, kout all id ++ [(⟨id, p, e, t, s, u, st, lr, qt, capt⟩ : KnR)] = y := ⟨_, rfl⟩; have hle2 : (kout all id).length + 1 = all2.length := (by rw [← hall2, List.length_append]; rfl); have hfl2 : (kout all id).flatMap kcells ++ [.string (bb id), .int .i64 p, .int .i64 e, .int .i64 t, .int .i64 s, .slice qt lr.length capt, .int .i64 u, .int .i64 st] = all2.flatMap kcells := (by rw [← hall2, List.flatMap_append]; rfl); rw [hle2, hfl2] at h; obtain ⟨qv, cv, hv⟩ := h.rowAny; subst hv; have h := h.freezeKns (fun x hx => (by rw [← hall2] at hx; exact kout_ht HKS.out hx)); have HA2 := Lib.hid hall2; have HLE2 := Lib.hid hle2; clear hall2 hle2 hfl2; have xx := h.p3; have e0 := (xx).rawCell 0; have e1 := (xx).rawCell 1; have e2 := (xx).rawCell 2; simp at e0 e1 e2; clear xx; replace H := Lib.hid h; clear h)
         | (go_at_call 11; (try clear e0 e1 e2); (with_reducible refine (jr_apply_put jb mb n _ f key id d p e t s u st tops HKY.out HV.out HK1.out HID.out HD1.out HN1.out HM0.out HM1.out H.out).mono ?_); rintro e_ wn ⟨rfl, h⟩; replace H := Lib.hid h; clear h)
         | (go_at_call 12; (with_reducible refine (jr_many jb mb _ _ _ H.out).mono ?_); rintro e_ wn ⟨rfl, h⟩; replace H := Lib.hid h; clear h)
         | (go_at_call 13; (with_reducible refine (law15_is jb mb _ _ _ all2 qv cv HN3.out (all_put HAO.out HA2.out HKO2.out HD1.out HV.out HLR.out HID.out HKY.out HK1.out) (Know.has_right (Know.has_refl _)) H.out).mono ?_); rintro e_ wn ⟨rfl, h⟩; replace H := Lib.hid h; clear h))
        go_roundw
        case rel => exact ⟨k + 1, (n + 1), (m + 1), (jset f id (some d)), all2, qv, cv, _, hlt, by omega, by omega, (by have h8 := HLE2.out; have h9 := HKO.out; omega), by go_num, rfl, rfl, (Lib.hid (all_put HAO.out HA2.out HKO2.out HD1.out HV.out HLR.out HID.out HKY.out HK1.out)), (Lib.hid (Know.has_trans (Know.has_left (Know.has_left (Know.has_refl _))) HKK.out)), (Lib.hid (Know.has_right (Know.has_refl _))), H.out.p2.drop.p2.drop⟩
        case measure => first | (simp [intOf]; done) | (simp [intOf]; omega)
  · obtain rfl : k = l.length := by omega
    have HN2 := Lib.hid (show n ≤ 1000000 by omega); have hal : (all.length : Int) ≤ 60 := by omega
    go_upto_region 28 with (first
        | (go_at_call 6; (with_reducible refine (jr_new H.out).mono ?_); rintro e_ wn ⟨kb, mb2, rfl, h⟩; have h := h.p2.p3.p1; replace H := Lib.hid h; clear h)
        | (go_at_call 14; (with_reducible refine (jr_compact jb mb n _ f all HN2.out HAO.out H.out).mono ?_); rintro e_ wn ⟨v, ids, rfl, hio, h⟩; obtain ⟨qc, cc, hv⟩ := h.p2.rowAny; subst hv; have HIO := Lib.hid hio; have HLN := Lib.hid (HAO.out.len hio); clear hio; have h := h.p2; have h := h.freezeEnts.drop.drop; replace H := Lib.hid h; clear h))
    have hln : (ids.length : Int) = (all.length : Int) := by rw [HLN.out]
    have hki : (ids.length : Int) ≤ 60 := by omega
    have hkj : ids.length ≤ 60 := by omega
    have HKE := Lib.hid (show (K'.and (Know.flat RJE (.slice qc ids.length cc) 3 (ids.map (entV f)))).has (Know.flat RJE (.slice qc ids.length cc) 3 (ids.map (entV f))) from Know.has_right (Know.has_refl _)); have HKS2 := Lib.hid (show (K'.and (Know.flat RJE (.slice qc ids.length cc) 3 (ids.map (entV f)))).has (Know.kns (.slice qa all.length ca) all) from Know.has_trans (Know.has_left (Know.has_refl _)) HKS.out); obtain ⟨K3, hK3⟩ : ∃ K3, K'.and (Know.flat RJE (.slice qc ids.length cc) 3 (ids.map (entV f))) = K3 := ⟨_, rfl⟩; rw [hK3] at H HKE HKS2; have HLI := Lib.hid hln; clear hK3 hln; have HZ := Lib.hid (show St W0 _ K3 (.raw kb #[.map (some mb2), .int .i64 ((0 : Nat) : Int)] 63 :: .gen (jmap mb2 0 (fUp f ids 0)) :: []) by rw [fUp_zero]; exact H.out); go_wp2_with fail; go_loopw [111] (fun iv wr => ∃ i : Nat, i ≤ ids.length ∧ iv = .int .i64 i ∧ St W0 wr K3 (.raw kb #[.map (some mb2), .int .i64 (i : Int)] 63 :: .gen (jmap mb2 i (fUp f ids i)) :: [])) (fun iv _ => ids.length - (intOf iv).toNat)
    case atStart => exact ⟨0, Nat.zero_le _, rfl, HZ.out⟩
    case round =>
      obtain ⟨i, hil, rfl, hst⟩ := hrel; clear H HZ; have H := Lib.hid hst; clear hst
      by_cases hit : i < ids.length
      · obtain ⟨b, off, hq⟩ := je_at HKE.out H.out (by rw [List.length_map]; omega); subst hq; have hgt := HAO.out.get HIO.out i hit; obtain ⟨id, hid⟩ : ∃ x, ids[i] = x := ⟨_, rfl⟩; rw [hid] at hgt; obtain ⟨key, S, p, e, t, s, u, st, tl, h5, h6, h4, h1, h2, h3⟩ := hgt; have hke := keyRd_enc key id h5; obtain ⟨c0, c1, c2⟩ := je_cell HKE.out H.out i (by rw [List.length_map]; exact hit) _ (ent_at i hit hid hke h1); simp only at c0 c1 c2; have hin : (i : Int) < (ids.length : Int) := by omega
        obtain ⟨eb, heb⟩ : ∃ b, wr.heap.size = b := ⟨_, rfl⟩; have g1 := H.out.allocRaw #[.string (bb key), .bool false, .string (bb S)] 30; rw [heb] at g1; have e0 := (g1).rawCell 0; have e1 := (g1).rawCell 1; have e2 := (g1).rawCell 2; simp at e0 e1 e2; have g2 := g1.p1.p2.p1; have HKY := Lib.hid h5; have HK1 := Lib.hid h6; have HID := Lib.hid h4; have HD1 := Lib.hid h2; have HV := Lib.hid h3; have HUP := Lib.hid (fUp_step f ids i hit id S hid h1); have HI1 := Lib.hid (show i < 1000000 by omega); have HM0 := Lib.hid (show 0 ≤ (i : Int) by omega); have HM1 := Lib.hid (show (i : Int) ≤ 1000000 by omega); clear H; have H := Lib.hid g2; clear g1 g2 h5 h6 h4 h1 h2 h3 hke hid; go_wp2_with (go_at_call 11; (try clear e0 e1 e2); (with_reducible refine (jr_apply_put kb mb2 i _ (fUp f ids i) key id S p e t s u st tl HKY.out HV.out HK1.out HID.out HD1.out HI1.out HM0.out HM1.out H.out).mono ?_); rintro e_ wn ⟨rfl, h⟩; rw [HUP.out] at h; replace H := Lib.hid h; clear h); go_roundw
        case rel => exact ⟨i + 1, hit, by go_num, H.out.p2.drop⟩
        case measure => first | (simp [intOf]; done) | (simp [intOf]; omega)
      · obtain rfl : i = ids.length := by omega
        have HZ := Lib.hid (show St W0 _ K3 (.raw kb #[.map (some mb2), .int .i64 (ids.length : Int)] 63 :: .gen (jmap mb2 ids.length f) :: []) by have h9 := H.out; rw [fUp_all HIO.out] at h9; exact h9); have HN3 := Lib.hid (show ids.length ≤ 1000000 by omega); have e5 : ((ids.length : Int) == (all.length : Int)) = true := by rw [HLI.out]; simp
        clear H; have H := HZ; clear HZ
        go_wp2_with (first
        | (go_at_call 13; (with_reducible refine (law15_is kb mb2 _ _ _ all qa ca HN3.out HAO.out HKS2.out H.out).mono ?_); rintro e_ wn ⟨rfl, h⟩; replace H := Lib.hid h; clear h)
        | (go_at_call 12; (with_reducible refine (jr_many kb mb2 _ _ _ H.out).mono ?_); rintro e_ wn ⟨rfl, h⟩; replace H := Lib.hid h; clear h))
        go_ret; exact ⟨rfl, H.out.below⟩
theorem cells_str : Try.prog.cellsOf 9 = 1 := by kernel_rfl
theorem len2 {α : Type} {l : List α} (h : l.length = 2) : ∃ a b, l = [a, b] := by
 match l, h with
 | [a, b], _ => exact ⟨a, b, rfl⟩
theorem len3 {α : Type} {l : List α} (h : l.length = 3) : ∃ a b c, l = [a, b, c] := by
 match l, h with
 | [a, b, c], _ => exact ⟨a, b, c, rfl⟩
open Go.ChangeShapes Go.WideShapes Go.ChangeAt Go.Deep

def Light {H : Type} (t : TypeId) (d : DataW H) : Prop := ∀ k ∈ d.weights Try.prog t, k ≤ reachBytes
theorem reach_eq : reachBytes = 140737488351232 := rfl

section
variable {H : Type} {enc : TypeId × Value → H} {w : World} {spare : Nat → Bool} {held : Bool}

theorem light_arg {ts : List TypeId} {ds : List (DataW H)} (h : (DataW.weightsEach Try.prog ts ds).all (· ≤ reachBytes) = true) {j : Nat} {t : TypeId} {d : DataW H} (ht : ts[j]? = some t) (hd : ds[j]? = some d) : Light t d := by
 intro k hk; have := List.all_eq_true.1 h k (DataW.weights_mem_each ht hd k hk)
 simpa using this

theorem opens_field {t : TypeId} {fs : Array Field} {n N : Nat} {cs : List Value} {y : DataW H × List MemPlace} (ht : Try.prog.underlying t = some (.struct fs)) (h : DataW.trod enc Try.prog w 0 spare held n t cs = some y) (hl : Light t y.1) (hN : ∀ x ∈ y.2, x.block < N) :
  cs.length = Try.prog.cellsOf t ∧ ∃ m, ∀ (i : Nat) (f : Field), fs[i]? = some f → ∃ z, DataW.trod enc Try.prog w 0 spare held m f.type ((cs.drop f.offset).take (Try.prog.cellsOf f.type)) = some z ∧ Light f.type z.1 ∧ ∀ x ∈ z.2, x.block < N := by
 obtain ⟨xs, m, _, rfl, hc, hxl, hg⟩ := DataW.trod_struct ht h; refine ⟨hc, m, fun i f hf => ?_⟩; have hi : i < fs.size := (Array.getElem?_eq_some_iff.1 hf).1; have hx : xs[i]? = some (xs[i]'(by omega)) := List.getElem?_eq_getElem (by omega); refine ⟨_, (hg i f hf).trans hx, ?_, fun x hxx => hN x (List.mem_flatMap.2 ⟨_, List.getElem_mem _, hxx⟩)⟩; intro k hk; refine hl k ?_; simp only [DataW.weights, ht]; exact DataW.weights_mem_each (j := i) (by rw [List.getElem?_map, Array.getElem?_toList, hf]; rfl) (by rw [List.getElem?_map, hx]; rfl) k hk

theorem opens_str {t : TypeId} {n : Nat} {cs : List Value} {y : DataW H × List MemPlace} (ht : Try.prog.underlying t = some .string) (h : DataW.trod enc Try.prog w 0 spare held n t cs = some y) (hl : Light t y.1) : ∃ s : Bs, cs = [.string (bb s)] ∧ s.length ≤ 140737488351232 := by
 obtain ⟨s, e, e2, q⟩ := DataW.trod_string ht h; refine ⟨s.data.toList, e, ?_⟩; subst e2; have := hl s.data.toList.length (by simp [DataW.weights]); rw [reach_eq] at this; exact this
theorem opens_bool {t : TypeId} {n : Nat} {cs : List Value} {y : DataW H × List MemPlace} (ht : Try.prog.underlying t = some .bool) (h : DataW.trod enc Try.prog w 0 spare held n t cs = some y) : ∃ x : Bool, cs = [.bool x] := by
 obtain ⟨x, e, _⟩ := DataW.trod_bool ht h; exact ⟨x, e⟩

theorem weightsAll_mem' {P : Program} {e : TypeId} : ∀ {l : List (DataW H)} {d : DataW H}, d ∈ l → ∀ k ∈ d.weights P e, k ∈ DataW.weightsAll P e l
  | a :: l, d, hd, k, hk => by
    simp only [DataW.weightsAll, List.mem_append]
    rcases List.mem_cons.1 hd with rfl | hd
    · exact .inl hk
    · exact .inr (weightsAll_mem' hd k hk)

theorem opens_rows {α : Type} {R : World → List Value → α → Prop} {t e : TypeId} {sz N : Nat} (ht : Try.prog.underlying t = some (.slice e)) (hC : Try.prog.cellsOf e = sz) (hsz : 0 < sz)
    (hR : ∀ n cs y, DataW.trod enc Try.prog w 0 spare held n e cs = some y → Light e y.1 → (∀ x ∈ y.2, x.block < N) → ∃ x, R w cs x)
    {fuel : Nat} {cs : List Value} {x : DataW H × List MemPlace} (h : DataW.trod enc Try.prog w 0 spare held fuel t cs = some x) (hl : Light t x.1) (hlt : ∀ y ∈ x.2, y.block < N) (hN : N ≤ w.heap.size) :
    ∃ v l, cs = [v] ∧ RowsOf R (· < N) w v sz l ∧ l.length * Try.prog.bytesOf e ≤ 140737488351232 ∧ l.length ≤ maxLen := by
  rcases open_slice ht h with ⟨rfl, rfl⟩ | ⟨a, len, cap, m, n, D, Pl, rfl, hb, hlc, hm, hmm, hx, hi⟩
  · exact ⟨_, [], rfl, ⟨none, 0, rfl, fun h => absurd h (by simp)⟩, by simp, by simp⟩
  · have hlm : len ≤ m := by rw [hmm]; split <;> omega
    have hp2 : x.2 = MemPlace.row a (m * Try.prog.cellsOf e) ++ (List.range m).flatMap Pl := by rw [hx]
    have hx1 : x.1 = .slice ((List.range len).map D) ((List.range (m - len)).map fun j => D (len + j)) := by rw [hx]
    have hsum : len * Try.prog.bytesOf e ≤ 140737488351232 := by
      have := hl (((List.range len).map D).length * Try.prog.bytesOf e + ((List.range (m - len)).map fun j => D (len + j)).length * Try.prog.bytesOf e) (by rw [hx1]; simp [DataW.weights, ht, Nat.add_mul]); rw [reach_eq] at this; simp only [List.length_map, List.length_range] at this
      omega
    have hle : ∀ i, i < len → Light e (D i) := by
      intro i hil k hk; refine hl k ?_; rw [hx1]; simp only [DataW.weights, ht, List.mem_cons, List.mem_append]; exact .inr (.inl (weightsAll_mem' (List.mem_map.2 ⟨i, List.mem_range.2 hil, rfl⟩) k hk))
    have key : ∀ i, i < len → ∃ y : α, ∃ cs', cs'.length = sz ∧ R w cs' y ∧ (∀ f u, cs'[f]? = some u → w.cell? ((a.add (i * sz)).add f) = some u) := by
      intro i hil; obtain ⟨cs', hc, htr⟩ := hi i (by omega); obtain ⟨_, hcl, hat⟩ := World.cells?_some hc; obtain ⟨y, hy⟩ := hR n cs' _ htr (hle i hil) (fun z hz => hlt z (by rw [hp2, List.mem_append]; exact .inr (List.mem_flatMap.2 ⟨i, by simp; omega, hz⟩))); rw [hC] at hcl hat; refine ⟨y, cs', hcl, hy, fun f u hu => ?_⟩; have hf : f < sz := by rw [← hcl]; exact (List.getElem?_eq_some_iff.1 hu).1
      rw [hat f hf, hu]
    obtain ⟨l, hll, hq⟩ := list_of len _ key; refine ⟨_, l, rfl, ⟨some a, cap, by rw [hll], fun h0 => ?_⟩, by rw [hll]; exact hsum, by omega⟩; obtain ⟨cs0, h1, h2, h3⟩ := hq 0 h0
    have hc0 : w.cell? a = some (cs0[0]'(by omega)) := by
      have := h3 0 _ (List.getElem?_eq_getElem (by omega))
      simpa [Addr.add] using this
    have hsp : a.spot = none := by
      cases hs : a.spot with
      | none => rfl
      | some s =>
        unfold World.cell? at hc0
        split at hc0 <;> simp_all
    obtain ⟨ab, ao, asp⟩ := a; simp only at hsp; subst hsp
    have hlt0 : ab < N := hlt (.cell ab ao) (by
      rw [hp2, List.mem_append]
      left
      simp only [MemPlace.row, List.mem_map, List.mem_range]
      exact ⟨0, by rw [hC]; exact Nat.mul_pos (by omega) hsz, by simp⟩)
    refine ⟨ab, ao, rfl, hlt0, Nat.lt_of_lt_of_le hlt0 hN, fun i hi => ?_⟩; obtain ⟨cs', g1, g2, g3⟩ := hq i hi; refine ⟨cs', g1, g2, fun f u hu => ?_⟩; have := g3 f u hu; have e1 : ∀ (o q : Nat), (⟨ab, o, none⟩ : Addr).add q = ⟨ab, o + q, none⟩ := by intro o q; unfold Addr.add; split <;> simp_all
    rw [e1, e1, Nat.add_assoc] at this; exact this
end

theorem RowsOf.part {α : Type} {R : World → List Value → α → Prop} {Q : α → Prop} {D : Nat → Prop} {w : World} {v : Value} {sz : Nat} {l : List α} (h : RowsOf (fun w cs x => R w cs x ∧ Q x) D w v sz l) : RowsOf R D w v sz l ∧ ∀ x ∈ l, Q x := by
 refine ⟨h.mono (fun _ _ h => h) (fun _ _ h => h.1), fun x hx => ?_⟩; obtain ⟨i, hi, rfl⟩ := List.mem_iff_getElem.1 hx; obtain ⟨p, cap, rfl, h⟩ := h; obtain ⟨b, off, rfl, _, _, hc⟩ := h (by omega); obtain ⟨cs, _, h2, _⟩ := hc i hi; exact h2.2

end Go.Proofs.Ytmpehoebgifmnaa
namespace Go.Proofs.Ytmpehoebgifmnaa
open Go.RowKit

open Go.ChangeShapes Go.WideShapes Go.ChangeAt Go.Deep

theorem cells_blob : Try.prog.cellsOf 28 = 2 := by kernel_rfl
theorem cells_bool : Try.prog.cellsOf 4 = 1 := by kernel_rfl
section
variable {H : Type} {enc : TypeId × Value → H} {w : World} {spare : Nat → Bool} {held : Bool}
end
end Go.Proofs.Ytmpehoebgifmnaa
namespace Go.Proofs.Ytmpehoebgifmnaa
open Go.RowKit
open Go.ChangeShapes Go.WideShapes Go.ChangeAt Go.Deep

section
variable {H : Type} {enc : TypeId × Value → H} {w : World} {spare : Nat → Bool} {held : Bool}
set_option maxRecDepth 100000 in
theorem blob_opens {N : Nat} : ∀ n cs y, DataW.trod enc Try.prog w 0 spare held n 28 cs = some y → Light 28 y.1 → (∀ x ∈ y.2, x.block < N) → ∃ x : BlobS, cs = [.bool x.null, .string (bb x.data)] ∧ x.data.length ≤ 140737488351232 := by
 intro n cs y h hl hN; obtain ⟨hc, m, hf⟩ := opens_field Try.underlying28 h hl hN; rw [cells_blob] at hc; obtain ⟨a, b, rfl⟩ := len2 hc; obtain ⟨z0, g0, l0, _⟩ := hf 0 _ rfl; obtain ⟨z1, g1, l1, _⟩ := hf 1 _ rfl; have g0 : DataW.trod enc Try.prog w 0 spare held m 4 (List.take (Try.prog.cellsOf 4) (List.drop 0 [a, b])) = some z0 := g0; have g1 : DataW.trod enc Try.prog w 0 spare held m 9 (List.take (Try.prog.cellsOf 9) (List.drop 1 [a, b])) = some z1 := g1; rw [cells_bool] at g0; rw [cells_str] at g1; obtain ⟨x, e0⟩ := opens_bool Try.underlying4 g0; obtain ⟨s, e1, hs⟩ := opens_str Try.underlying9 g1 l1; simp at e0 e1; subst e0 e1; exact ⟨⟨x, s⟩, rfl, hs⟩
end
end Go.Proofs.Ytmpehoebgifmnaa
namespace Go.Proofs.Ytmpehoebgifmnaa
open Go.RowKit
open Go.ChangeShapes Go.WideShapes Go.ChangeAt Go.Deep

theorem cells_je : Try.prog.cellsOf 30 = 3 := by kernel_rfl
section
variable {H : Type} {enc : TypeId × Value → H} {w : World} {spare : Nat → Bool} {held : Bool}
set_option maxRecDepth 100000 in
theorem rje_opens {N : Nat} : ∀ n cs y, DataW.trod enc Try.prog w 0 spare held n 30 cs = some y → Light 30 y.1 → (∀ x ∈ y.2, x.block < N) → ∃ x : EntV, RJE cs x ∧ True := by
 intro n cs y h hl hN; obtain ⟨hc, m, hf⟩ := opens_field Try.underlying30 h hl hN; rw [cells_je] at hc; obtain ⟨a, b, c, rfl⟩ := len3 hc; obtain ⟨z0, g0, l0, n0⟩ := hf 0 _ rfl; obtain ⟨z1, g1, l1, n1⟩ := hf 1 _ rfl; have g0 : DataW.trod enc Try.prog w 0 spare held m 9 (List.take (Try.prog.cellsOf 9) (List.drop 0 [a, b, c])) = some z0 := g0; have g1 : DataW.trod enc Try.prog w 0 spare held m 28 (List.take (Try.prog.cellsOf 28) (List.drop 1 [a, b, c])) = some z1 := g1; rw [cells_str] at g0; rw [cells_blob] at g1; obtain ⟨s, e0, hs⟩ := opens_str Try.underlying9 g0 l0; obtain ⟨x, e1, hx⟩ := blob_opens _ _ _ g1 l1 n1; simp at e0 e1; obtain ⟨e1, e2⟩ := e1; subst e0 e1 e2; exact ⟨⟨s, x.null, x.data⟩, rfl, trivial⟩
end
theorem journalApplies_any (l : List EntV) (v : Value) (W : World) (hr : RowsOf (fun _ cs x => RJE cs x) (· < W.heap.size) W v 3 l) :
  Calls Try.prog 3 #[v] W fun en w' => en = .returned (.bool true) ∧ Below W.heap.size W w' := by
 have h : St W W (Know.flat RJE v 3 l) [] := St.start hr; obtain ⟨q, cap, hv, _⟩ := hr; subst hv
 by_cases hl : l.length ≤ 60
 · exact ja_main l q cap hl (Know.has_refl _) h
 · exact ja_long l q cap (by omega) h

end Go.Proofs.Ytmpehoebgifmnaa
/- Whatever entries come, one behind the other: each answer, and all that is known, is the document's, and those that say it all, again, say the same: proved of every row of entries. -/
namespace Go.Proofs.Ytmpehoebgifmnaa
open Go.ChangeShapes Go.WideShapes Go.ChangeAt Go.ChangeMaps Go.RowKit

set_option maxRecDepth 100000 in
theorem journalApplies_lifted (os : Os) (started : os.Started) (H : Type) (enc : TypeId × Value → H) :
  ReturnsInHanded {} Try.checked os 3 .any (Rows.journalAppliesSpec.pre6 enc Try.prog Try.f3 Rows.journalAppliesRow.domain false) (Rows.journalAppliesSpec.post enc Try.prog Try.f3 false true false false) := by
 refine returnsInHanded_of_change_sized (C := Try.checked) Try.own started (by as_aux_lemma => kernel_rfl) Try.func3
  (ChangeSpec.witness6 (enc := enc) (C := Try.checked) false ⟨#[], #[.slice none 0 0], []⟩ 8 (by as_aux_lemma => kernel_rfl) (by as_aux_lemma => kernel_rfl) (by as_aux_lemma => kernel_rfl) (by as_aux_lemma => kernel_rfl)) ?_
 intro W base args ds gs before hval0 hW hcnd hsz0 _; have hval : ∀ (j : Nat) t v, Try.f3.params[j]? = some t → args[j]? = some v → Value.okWide Try.prog W .any base t v := hval0; clear hval0; refine law_contract (n := 1) (tb := 4) rfl rfl rfl Try.underlying4 (by intro ds h; match ds, h with | [d0], _ => rfl) (by as_aux_lemma => kernel_rfl) hW ?_; intro p hA0 hlt; have hA : DataW.TrodAll enc Try.prog W 0 (fun _ => true) true Try.f3.params.toList args.toList ds p := hA0; clear hA0; rw [Try.params3] at hA hval; obtain ⟨v0, d0, rfl, rfl, h0⟩ := trodAll_one hA; have hsz : (DataW.weightsEach Try.prog (Try.f3.params.toList ++ Rows.journalAppliesSpec.plain.varTypes Try.prog) ([d0] ++ gs)).all (· ≤ reachBytes) = true := hsz0; rw [Try.params3] at hsz; obtain ⟨c0, e0, k0, rfl⟩ := okWide_slice Try.underlying22 (hval 0 22 v0 rfl rfl); have lg0 : Light 22 d0 := light_arg hsz (j := 0) rfl rfl; obtain ⟨fuel0, hf0⟩ := h0; obtain ⟨w0, l0, hw0, hrq0, hbl0, hl0⟩ := opens_rows (R := fun w cs x => (fun _ cs x => RJE cs x) w cs x ∧ (fun _ => True) x) (N := W.heap.size) Try.underlying22 cells_je (by decide) rje_opens hf0 lg0 (fun y hy => hlt y (by simp [hy])) (Nat.le_refl _); obtain ⟨hr0, hq0⟩ := hrq0.part; obtain rfl : w0 = Value.slice c0 e0 k0 := by simpa [Value.cells] using hw0.symm
 exact journalApplies_any l0 _ W hr0

theorem journalApplies_holds : Rows.JournalAppliesSaid :=
 OpenClaim.holds_of_wide 3 Try.f3 rfl rfl rfl rfl rfl rfl rfl ⟨rfl, rfl, rfl, rfl, rfl⟩ rfl rfl rfl rfl rfl (by as_aux_lemma => kernel_rfl) Try.func3 (by as_aux_lemma => kernel_rfl)
  (of_decide_eq_true (by as_aux_lemma => kernel_rfl)) (by as_aux_lemma => (unfold Func.isWrapper; rw [if_neg (by as_aux_lemma => decide +kernel)]; exact ⟨rfl, rfl⟩))
  (fun os started H enc _ => journalApplies_lifted os started H enc)

end Go.Proofs.Ytmpehoebgifmnaa
