/- Contracts: what stands in a record, by the document: where it goes wrong. -/
import Derived.Test.YtkenneeejdngaaaRec10
import Derived.Test.YtkenneeejdngaaaL06R
namespace Go.Proofs.Ytkenneeejdngaaa
open Go.RowKit

set_option maxHeartbeats 1000000 in
set_option maxRecDepth 100000 in
theorem ref07_inner_off (s t1 : Bs) (u k : Nat) (hl1 : 0 < s.length) (hz : s[0] = 0) (q1 : s.drop 1 = t1) (hv1 : vgetF 1 10 0 0 t1 = .ok (u, k)) (hu : u < 18446744073709551616) (hs : s.length ≤ 1000000) (s2 : Bs) (hk : 1 + k ≤ s.length) (q2 : s.drop (1 + k) = s2) (e : Int) (hv2 : vgetF 15 5 0 0 s2 = .error e) (hb : (e != 0) = true) {W0 w : World} {K : Know} {L : List Res} (h : St W0 w K L) :
    Calls Try.prog 77 #[.string (bb s)] w fun en w' => en = .returned (.agg #[.int .i64 0, .int .i64 0, .bool false, .string ⟨#[]⟩, .bool false, .string ⟨#[]⟩, .slice none 0 0, .int .i64 0, .int .i64 e]) ∧ St W0 w' K L := by
  have h0 := h.allocRaw #[.int .i64 0, .int .i64 0, .bool false, .string ⟨#[]⟩, .bool false, .string ⟨#[]⟩, .slice none 0 0, .int .i64 0, .int .i64 0] 73
  obtain ⟨wA, hwA⟩ : ∃ b, w.heap.size = b := ⟨_, rfl⟩
  rw [hwA] at h0
  have H := Lib.hid h0
  have h1 : decide ((s.length : Int) < 1) = false := decide_eq_false (by omega)
  have hcn : ((s[0].toNat : Int) != 0) = false := by rw [hz]; rfl
  have hb1 : (1 : Int) ≤ (s.length : Int) := by omega
  have HV1 := Lib.hid hv1
  have HU := Lib.hid hu
  have hlt1 : t1.length + 1 = s.length := by rw [← q1, List.length_drop]; omega
  have HS1 := Lib.hid (show t1.length ≤ 140737488355328 by omega)
  have Q1 := Lib.hid (show List.take (s.length - 1) (List.tail s) = t1 by rw [← q1, List.drop_one]; exact List.take_of_length_le (by simp))
  have k1 : True := trivial
  have hb2 : (1 : Int) + k ≤ (s.length : Int) := by omega
  have hl2 : s2.length + k + 1 = s.length := by rw [← q2, List.length_drop]; omega
  have HS2 := Lib.hid (show s2.length ≤ 140737488355328 by omega)
  have Q2 := Lib.hid (show List.take (s.length - (1 + k)) (List.drop (1 + k) s) = s2 by rw [← q2]; exact List.take_of_length_le (by simp))
  have HV2 := Lib.hid hv2
  clear hz hv1 hu q1 q2 hv2 h h0
  go_enter Try.func77, Try.ntmps77
  go_wp2_with (first
    | (go_at_call 68; have _t := k1; clear _t; rw [Q1.out]; (with_reducible refine (ref_get64O t1 u k HV1.out HS1.out H.out).mono ?_); rintro e wn ⟨rfl, h⟩; replace H := Lib.hid h; clear h; clear k1; have k2 : True := trivial)
    | (go_at_call 68; have _t := k2; clear _t; rw [Q2.out]; (with_reducible refine (ref_getE s2 e HV2.out HS2.out H.out).mono ?_); rintro e wn ⟨rfl, h⟩; replace H := Lib.hid h; clear h; clear k2; have k3 : True := trivial)
    | (go_at_call 76; refine (ref07_fault _ H.out).mono ?_; rintro e wn ⟨rfl, h⟩; replace H := Lib.hid h; clear h; (first | (obtain ⟨ac0, ac1, ac2, ac3, ac4, ac5, ac6, ac7, ac8, af0, af1, af2, af3, af4, af5, af6, af7, af8⟩ := raw9 (b := wA) (H.out)) | (obtain ⟨ac0, ac1, ac2, ac3, ac4, ac5, ac6, ac7, ac8, af0, af1, af2, af3, af4, af5, af6, af7, af8⟩ := raw9 (b := wA) (H.out.p1)) | (obtain ⟨ac0, ac1, ac2, ac3, ac4, ac5, ac6, ac7, ac8, af0, af1, af2, af3, af4, af5, af6, af7, af8⟩ := raw9 (b := wA) (H.out.p2)) | (obtain ⟨ac0, ac1, ac2, ac3, ac4, ac5, ac6, ac7, ac8, af0, af1, af2, af3, af4, af5, af6, af7, af8⟩ := raw9 (b := wA) (H.out.p3)) | (obtain ⟨ac0, ac1, ac2, ac3, ac4, ac5, ac6, ac7, ac8, af0, af1, af2, af3, af4, af5, af6, af7, af8⟩ := raw9 (b := wA) (H.out.p4)))))
  refine bodyPost_ret (v := .agg #[.int .i64 0, .int .i64 0, .bool false, .string ⟨#[]⟩, .bool false, .string ⟨#[]⟩, .slice none 0 0, .int .i64 0, .int .i64 e]) (by simp [results, Try.results77, go_sem, ac0, ac1, ac2, ac3, ac4, ac5, ac6, ac7, ac8]) rfl ⟨rfl, ((((((((((H.out.rawSet 0 _).rawSet 1 _).rawSet 2 _).rawSet 3 _).rawSet 4 _).rawSet 5 _).rawSet 6 _).rawSet 7 _).rawSet 8 _).drop)⟩

set_option maxHeartbeats 1000000 in
set_option maxRecDepth 100000 in
theorem ref07_inner_neg (s t1 : Bs) (u k : Nat) (hl1 : 0 < s.length) (hz : s[0] = 0) (q1 : s.drop 1 = t1) (hv1 : vgetF 1 10 0 0 t1 = .ok (u, k)) (hu : u < 18446744073709551616) (hs : s.length ≤ 1000000) (s2 : Bs) (hk : 1 + k ≤ s.length) (q2 : s.drop (1 + k) = s2) (v m : Nat) (bt bo : Int) (hv2 : vgetF 15 5 0 0 s2 = .ok (v, m)) (hbt : backN u = bt) (hbo : backN v = bo) (hvv : v < 18446744073709551616) (ho : bo < 0) {W0 w : World} {K : Know} {L : List Res} (h : St W0 w K L) :
    Calls Try.prog 77 #[.string (bb s)] w fun en w' => en = .returned (.agg #[.int .i64 0, .int .i64 0, .bool false, .string ⟨#[]⟩, .bool false, .string ⟨#[]⟩, .slice none 0 0, .int .i64 0, .int .i64 11]) ∧ St W0 w' K L := by
  have h0 := h.allocRaw #[.int .i64 0, .int .i64 0, .bool false, .string ⟨#[]⟩, .bool false, .string ⟨#[]⟩, .slice none 0 0, .int .i64 0, .int .i64 0] 73
  obtain ⟨wA, hwA⟩ : ∃ b, w.heap.size = b := ⟨_, rfl⟩
  rw [hwA] at h0
  have H := Lib.hid h0
  have h1 : decide ((s.length : Int) < 1) = false := decide_eq_false (by omega)
  have hcn : ((s[0].toNat : Int) != 0) = false := by rw [hz]; rfl
  have hb1 : (1 : Int) ≤ (s.length : Int) := by omega
  have HV1 := Lib.hid hv1
  have HU := Lib.hid hu
  have hlt1 : t1.length + 1 = s.length := by rw [← q1, List.length_drop]; omega
  have HS1 := Lib.hid (show t1.length ≤ 140737488355328 by omega)
  have Q1 := Lib.hid (show List.take (s.length - 1) (List.tail s) = t1 by rw [← q1, List.drop_one]; exact List.take_of_length_le (by simp))
  have k1 : True := trivial
  have hb2 : (1 : Int) + k ≤ (s.length : Int) := by omega
  have hl2 : s2.length + k + 1 = s.length := by rw [← q2, List.length_drop]; omega
  have HS2 := Lib.hid (show s2.length ≤ 140737488355328 by omega)
  have Q2 := Lib.hid (show List.take (s.length - (1 + k)) (List.drop (1 + k) s) = s2 by rw [← q2]; exact List.take_of_length_le (by simp))
  have HV2 := Lib.hid hv2
  have HBT := Lib.hid hbt
  have HBO := Lib.hid hbo
  have HW := Lib.hid hvv
  clear hz hv1 hu q1 q2 hv2 hbt hbo hvv h h0
  go_enter Try.func77, Try.ntmps77
  go_wp2_with (first
    | (go_at_call 68; have _t := k1; clear _t; rw [Q1.out]; (with_reducible refine (ref_get64O t1 u k HV1.out HS1.out H.out).mono ?_); rintro e wn ⟨rfl, h⟩; replace H := Lib.hid h; clear h; clear k1; have k2 : True := trivial)
    | (go_at_call 68; have _t := k2; clear _t; rw [Q2.out]; (with_reducible refine (ref_getO s2 v m HV2.out HS2.out H.out).mono ?_); rintro e wn ⟨rfl, h⟩; replace H := Lib.hid h; clear h; clear k2; have k3 : True := trivial)
    | (go_at_call 69; have _t := k3; clear _t; (with_reducible refine (ref_backQ u bt HBT.out HU.out H.out).mono ?_); rintro e wn ⟨rfl, h⟩; replace H := Lib.hid h; clear h; clear k3; have k4 : True := trivial)
    | (go_at_call 69; have _t := k4; clear _t; (with_reducible refine (ref_backQ v bo HBO.out HW.out H.out).mono ?_); rintro e wn ⟨rfl, h⟩; obtain ⟨wR, hwR⟩ : ∃ b, wn.heap.size = b := ⟨_, rfl⟩; have h := h.allocRaw #[.int .i64 bt, .int .i64 bo, .bool false, .string ⟨#[]⟩, .bool false, .string ⟨#[]⟩, .slice none 0 0] 62; rw [hwR] at h; replace H := Lib.hid h; clear h; clear k4; have k5 : True := trivial; obtain ⟨rc0, rc1, rc2, rc3, rc4, rc5, rc6, rf0, rf1, rf2, rf3, rf4, rf5, rf6⟩ := raw7 (b := wR) (H.out))
    | (go_at_call 76; refine (ref07_fault _ H.out).mono ?_; rintro e wn ⟨rfl, h⟩; replace H := Lib.hid h; clear h; (first | (obtain ⟨ac0, ac1, ac2, ac3, ac4, ac5, ac6, ac7, ac8, af0, af1, af2, af3, af4, af5, af6, af7, af8⟩ := raw9 (b := wA) (H.out)) | (obtain ⟨ac0, ac1, ac2, ac3, ac4, ac5, ac6, ac7, ac8, af0, af1, af2, af3, af4, af5, af6, af7, af8⟩ := raw9 (b := wA) (H.out.p1)) | (obtain ⟨ac0, ac1, ac2, ac3, ac4, ac5, ac6, ac7, ac8, af0, af1, af2, af3, af4, af5, af6, af7, af8⟩ := raw9 (b := wA) (H.out.p2)) | (obtain ⟨ac0, ac1, ac2, ac3, ac4, ac5, ac6, ac7, ac8, af0, af1, af2, af3, af4, af5, af6, af7, af8⟩ := raw9 (b := wA) (H.out.p3)) | (obtain ⟨ac0, ac1, ac2, ac3, ac4, ac5, ac6, ac7, ac8, af0, af1, af2, af3, af4, af5, af6, af7, af8⟩ := raw9 (b := wA) (H.out.p4)))))
  refine bodyPost_ret (v := .agg #[.int .i64 0, .int .i64 0, .bool false, .string ⟨#[]⟩, .bool false, .string ⟨#[]⟩, .slice none 0 0, .int .i64 0, .int .i64 11]) (by simp [results, Try.results77, go_sem, ac0, ac1, ac2, ac3, ac4, ac5, ac6, ac7, ac8]) rfl ⟨rfl, ((((((((((H.out.p1.rawSet 0 _).rawSet 1 _).rawSet 2 _).rawSet 3 _).rawSet 4 _).rawSet 5 _).rawSet 6 _).rawSet 7 _).rawSet 8 _).drop.drop)⟩

set_option maxHeartbeats 1000000 in
set_option maxRecDepth 100000 in
theorem ref07_inner_key (s t1 : Bs) (u k : Nat) (hl1 : 0 < s.length) (hz : s[0] = 0) (q1 : s.drop 1 = t1) (hv1 : vgetF 1 10 0 0 t1 = .ok (u, k)) (hu : u < 18446744073709551616) (hs : s.length ≤ 1000000) (s2 : Bs) (hk : 1 + k ≤ s.length) (q2 : s.drop (1 + k) = s2) (v m : Nat) (bt bo : Int) (hv2 : vgetF 15 5 0 0 s2 = .ok (v, m)) (hbt : backN u = bt) (hbo : backN v = bo) (hvv : v < 18446744073709551616) (s3 : Bs) (hm : m ≤ s2.length) (q3 : s2.drop m = s3) (ho : 0 ≤ bo) (e : Int) (hg : revaried s3 = .error e) (hb : (e != 0) = true) {W0 w : World} {K : Know} {L : List Res} (h : St W0 w K L) :
    Calls Try.prog 77 #[.string (bb s)] w fun en w' => en = .returned (.agg #[.int .i64 0, .int .i64 0, .bool false, .string ⟨#[]⟩, .bool false, .string ⟨#[]⟩, .slice none 0 0, .int .i64 0, .int .i64 e]) ∧ St W0 w' K L := by
  have h0 := h.allocRaw #[.int .i64 0, .int .i64 0, .bool false, .string ⟨#[]⟩, .bool false, .string ⟨#[]⟩, .slice none 0 0, .int .i64 0, .int .i64 0] 73
  obtain ⟨wA, hwA⟩ : ∃ b, w.heap.size = b := ⟨_, rfl⟩
  rw [hwA] at h0
  have H := Lib.hid h0
  have h1 : decide ((s.length : Int) < 1) = false := decide_eq_false (by omega)
  have hcn : ((s[0].toNat : Int) != 0) = false := by rw [hz]; rfl
  have hb1 : (1 : Int) ≤ (s.length : Int) := by omega
  have HV1 := Lib.hid hv1
  have HU := Lib.hid hu
  have hlt1 : t1.length + 1 = s.length := by rw [← q1, List.length_drop]; omega
  have HS1 := Lib.hid (show t1.length ≤ 140737488355328 by omega)
  have Q1 := Lib.hid (show List.take (s.length - 1) (List.tail s) = t1 by rw [← q1, List.drop_one]; exact List.take_of_length_le (by simp))
  have k1 : True := trivial
  have hb2 : (1 : Int) + k ≤ (s.length : Int) := by omega
  have hl2 : s2.length + k + 1 = s.length := by rw [← q2, List.length_drop]; omega
  have HS2 := Lib.hid (show s2.length ≤ 140737488355328 by omega)
  have Q2 := Lib.hid (show List.take (s.length - (1 + k)) (List.drop (1 + k) s) = s2 by rw [← q2]; exact List.take_of_length_le (by simp))
  have HV2 := Lib.hid hv2
  have HBT := Lib.hid hbt
  have HBO := Lib.hid hbo
  have HW := Lib.hid hvv
  have hdo : decide (bo < 0) = false := decide_eq_false (by omega)
  have hb3 : (m : Int) ≤ (s2.length : Int) := by omega
  have hl3 : s3.length + m = s2.length := by rw [← q3, List.length_drop]; omega
  have HS3 := Lib.hid (show s3.length ≤ 140737488355328 by omega)
  have Q3 := Lib.hid (show List.take (s2.length - m) (List.drop m s2) = s3 by rw [← q3]; exact List.take_of_length_le (by simp))
  have HG1 := Lib.hid (show gotV (revaried s3) = .agg #[.bool false, .string (bb []), .int .i64 0, .int .i64 e] by rw [hg]; rfl)
  clear hz hv1 hu q1 q2 hv2 hbt hbo hvv q3 hg h h0
  go_enter Try.func77, Try.ntmps77
  go_wp2_with (first
    | (go_at_call 68; have _t := k1; clear _t; rw [Q1.out]; (with_reducible refine (ref_get64O t1 u k HV1.out HS1.out H.out).mono ?_); rintro e wn ⟨rfl, h⟩; replace H := Lib.hid h; clear h; clear k1; have k2 : True := trivial)
    | (go_at_call 68; have _t := k2; clear _t; rw [Q2.out]; (with_reducible refine (ref_getO s2 v m HV2.out HS2.out H.out).mono ?_); rintro e wn ⟨rfl, h⟩; replace H := Lib.hid h; clear h; clear k2; have k3 : True := trivial)
    | (go_at_call 69; have _t := k3; clear _t; (with_reducible refine (ref_backQ u bt HBT.out HU.out H.out).mono ?_); rintro e wn ⟨rfl, h⟩; replace H := Lib.hid h; clear h; clear k3; have k4 : True := trivial)
    | (go_at_call 69; have _t := k4; clear _t; (with_reducible refine (ref_backQ v bo HBO.out HW.out H.out).mono ?_); rintro e wn ⟨rfl, h⟩; obtain ⟨wR, hwR⟩ : ∃ b, wn.heap.size = b := ⟨_, rfl⟩; have h := h.allocRaw #[.int .i64 bt, .int .i64 bo, .bool false, .string ⟨#[]⟩, .bool false, .string ⟨#[]⟩, .slice none 0 0] 62; rw [hwR] at h; replace H := Lib.hid h; clear h; clear k4; have k5 : True := trivial; obtain ⟨rc0, rc1, rc2, rc3, rc4, rc5, rc6, rf0, rf1, rf2, rf3, rf4, rf5, rf6⟩ := raw7 (b := wR) (H.out))
    | (go_at_call 70; have _t := k5; clear _t; rw [Q3.out]; (with_reducible refine (ref04_readVariedT s3 s3 _ rfl HS3.out HG1.out H.out).mono ?_); rintro e wn ⟨rfl, h⟩; obtain ⟨wK, hwK⟩ : ∃ b, wn.heap.size = b := ⟨_, rfl⟩; have h := h.allocRaw #[.bool false, .string (bb []), .int .i64 0, .int .i64 e] 111; rw [hwK] at h; replace H := Lib.hid h; clear h; clear k5; have k6 : True := trivial; obtain ⟨q0, q1, q2, q3⟩ := raw_all4r (b := wK) (H.out))
    | (go_at_call 76; refine (ref07_fault _ H.out).mono ?_; rintro e wn ⟨rfl, h⟩; replace H := Lib.hid h; clear h; (first | (obtain ⟨ac0, ac1, ac2, ac3, ac4, ac5, ac6, ac7, ac8, af0, af1, af2, af3, af4, af5, af6, af7, af8⟩ := raw9 (b := wA) (H.out)) | (obtain ⟨ac0, ac1, ac2, ac3, ac4, ac5, ac6, ac7, ac8, af0, af1, af2, af3, af4, af5, af6, af7, af8⟩ := raw9 (b := wA) (H.out.p1)) | (obtain ⟨ac0, ac1, ac2, ac3, ac4, ac5, ac6, ac7, ac8, af0, af1, af2, af3, af4, af5, af6, af7, af8⟩ := raw9 (b := wA) (H.out.p2)) | (obtain ⟨ac0, ac1, ac2, ac3, ac4, ac5, ac6, ac7, ac8, af0, af1, af2, af3, af4, af5, af6, af7, af8⟩ := raw9 (b := wA) (H.out.p3)) | (obtain ⟨ac0, ac1, ac2, ac3, ac4, ac5, ac6, ac7, ac8, af0, af1, af2, af3, af4, af5, af6, af7, af8⟩ := raw9 (b := wA) (H.out.p4)))))
  refine bodyPost_ret (v := .agg #[.int .i64 0, .int .i64 0, .bool false, .string ⟨#[]⟩, .bool false, .string ⟨#[]⟩, .slice none 0 0, .int .i64 0, .int .i64 e]) (by simp [results, Try.results77, go_sem, ac0, ac1, ac2, ac3, ac4, ac5, ac6, ac7, ac8]) rfl ⟨rfl, ((((((((((H.out.p2.rawSet 0 _).rawSet 1 _).rawSet 2 _).rawSet 3 _).rawSet 4 _).rawSet 5 _).rawSet 6 _).rawSet 7 _).rawSet 8 _).drop.drop.drop)⟩

set_option maxHeartbeats 1000000 in
set_option maxRecDepth 100000 in
theorem ref07_inner_val (s t1 : Bs) (u k : Nat) (hl1 : 0 < s.length) (hz : s[0] = 0) (q1 : s.drop 1 = t1) (hv1 : vgetF 1 10 0 0 t1 = .ok (u, k)) (hu : u < 18446744073709551616) (hs : s.length ≤ 1000000) (s2 : Bs) (hk : 1 + k ≤ s.length) (q2 : s.drop (1 + k) = s2) (v m : Nat) (bt bo : Int) (hv2 : vgetF 15 5 0 0 s2 = .ok (v, m)) (hbt : backN u = bt) (hbo : backN v = bo) (hvv : v < 18446744073709551616) (s3 : Bs) (hm : m ≤ s2.length) (q3 : s2.drop m = s3) (ho : 0 ≤ bo) (s4 : Bs) (kb : BlobS) (ka : Nat) (hka : ka ≤ s3.length) (q4 : s3.drop ka = s4) (hg1 : revaried s3 = .ok (kb, ka)) (e : Int) (hg : revaried s4 = .error e) (hb : (e != 0) = true) {W0 w : World} {K : Know} {L : List Res} (h : St W0 w K L) :
    Calls Try.prog 77 #[.string (bb s)] w fun en w' => en = .returned (.agg #[.int .i64 0, .int .i64 0, .bool false, .string ⟨#[]⟩, .bool false, .string ⟨#[]⟩, .slice none 0 0, .int .i64 0, .int .i64 e]) ∧ St W0 w' K L := by
  have h0 := h.allocRaw #[.int .i64 0, .int .i64 0, .bool false, .string ⟨#[]⟩, .bool false, .string ⟨#[]⟩, .slice none 0 0, .int .i64 0, .int .i64 0] 73
  obtain ⟨wA, hwA⟩ : ∃ b, w.heap.size = b := ⟨_, rfl⟩
  rw [hwA] at h0
  have H := Lib.hid h0
  have h1 : decide ((s.length : Int) < 1) = false := decide_eq_false (by omega)
  have hcn : ((s[0].toNat : Int) != 0) = false := by rw [hz]; rfl
  have hb1 : (1 : Int) ≤ (s.length : Int) := by omega
  have HV1 := Lib.hid hv1
  have HU := Lib.hid hu
  have hlt1 : t1.length + 1 = s.length := by rw [← q1, List.length_drop]; omega
  have HS1 := Lib.hid (show t1.length ≤ 140737488355328 by omega)
  have Q1 := Lib.hid (show List.take (s.length - 1) (List.tail s) = t1 by rw [← q1, List.drop_one]; exact List.take_of_length_le (by simp))
  have k1 : True := trivial
  have hb2 : (1 : Int) + k ≤ (s.length : Int) := by omega
  have hl2 : s2.length + k + 1 = s.length := by rw [← q2, List.length_drop]; omega
  have HS2 := Lib.hid (show s2.length ≤ 140737488355328 by omega)
  have Q2 := Lib.hid (show List.take (s.length - (1 + k)) (List.drop (1 + k) s) = s2 by rw [← q2]; exact List.take_of_length_le (by simp))
  have HV2 := Lib.hid hv2
  have HBT := Lib.hid hbt
  have HBO := Lib.hid hbo
  have HW := Lib.hid hvv
  have hdo : decide (bo < 0) = false := decide_eq_false (by omega)
  have hb3 : (m : Int) ≤ (s2.length : Int) := by omega
  have hl3 : s3.length + m = s2.length := by rw [← q3, List.length_drop]; omega
  have HS3 := Lib.hid (show s3.length ≤ 140737488355328 by omega)
  have Q3 := Lib.hid (show List.take (s2.length - m) (List.drop m s2) = s3 by rw [← q3]; exact List.take_of_length_le (by simp))
  have hb4 : (ka : Int) ≤ (s3.length : Int) := by omega
  have hl4 : s4.length + ka = s3.length := by rw [← q4, List.length_drop]; omega
  have HS4 := Lib.hid (show s4.length ≤ 140737488355328 by omega)
  have Q4 := Lib.hid (show List.take (s3.length - ka) (List.drop ka s3) = s4 by rw [← q4]; exact List.take_of_length_le (by simp))
  have HG1 := Lib.hid (show gotV (revaried s3) = .agg #[.bool kb.null, .string (bb kb.data), .int .i64 ka, .int .i64 0] by rw [hg1]; rfl)
  have HG2 := Lib.hid (show gotV (revaried s4) = .agg #[.bool false, .string (bb []), .int .i64 0, .int .i64 e] by rw [hg]; rfl)
  clear hz hv1 hu q1 q2 hv2 hbt hbo hvv q3 q4 hg1 hg h h0
  go_enter Try.func77, Try.ntmps77
  go_wp2_with (first
    | (go_at_call 68; have _t := k1; clear _t; rw [Q1.out]; (with_reducible refine (ref_get64O t1 u k HV1.out HS1.out H.out).mono ?_); rintro e wn ⟨rfl, h⟩; replace H := Lib.hid h; clear h; clear k1; have k2 : True := trivial)
    | (go_at_call 68; have _t := k2; clear _t; rw [Q2.out]; (with_reducible refine (ref_getO s2 v m HV2.out HS2.out H.out).mono ?_); rintro e wn ⟨rfl, h⟩; replace H := Lib.hid h; clear h; clear k2; have k3 : True := trivial)
    | (go_at_call 69; have _t := k3; clear _t; (with_reducible refine (ref_backQ u bt HBT.out HU.out H.out).mono ?_); rintro e wn ⟨rfl, h⟩; replace H := Lib.hid h; clear h; clear k3; have k4 : True := trivial)
    | (go_at_call 69; have _t := k4; clear _t; (with_reducible refine (ref_backQ v bo HBO.out HW.out H.out).mono ?_); rintro e wn ⟨rfl, h⟩; obtain ⟨wR, hwR⟩ : ∃ b, wn.heap.size = b := ⟨_, rfl⟩; have h := h.allocRaw #[.int .i64 bt, .int .i64 bo, .bool false, .string ⟨#[]⟩, .bool false, .string ⟨#[]⟩, .slice none 0 0] 62; rw [hwR] at h; replace H := Lib.hid h; clear h; clear k4; have k5 : True := trivial; obtain ⟨rc0, rc1, rc2, rc3, rc4, rc5, rc6, rf0, rf1, rf2, rf3, rf4, rf5, rf6⟩ := raw7 (b := wR) (H.out))
    | (go_at_call 70; have _t := k5; clear _t; rw [Q3.out]; (with_reducible refine (ref04_readVariedT s3 s3 _ rfl HS3.out HG1.out H.out).mono ?_); rintro e wn ⟨rfl, h⟩; obtain ⟨wK, hwK⟩ : ∃ b, wn.heap.size = b := ⟨_, rfl⟩; have h := h.allocRaw #[.bool kb.null, .string (bb kb.data), .int .i64 ka, .int .i64 0] 111; rw [hwK] at h; replace H := Lib.hid h; clear h; clear k5; have k6 : True := trivial; obtain ⟨q0, q1, q2, q3⟩ := raw_all4r (b := wK) (H.out))
    | (go_at_call 70; have _t := k6; clear _t; rw [Q4.out]; (with_reducible refine (ref04_readVariedT s4 s4 _ rfl HS4.out HG2.out H.out).mono ?_); rintro e wn ⟨rfl, h⟩; obtain ⟨wV, hwV⟩ : ∃ b, wn.heap.size = b := ⟨_, rfl⟩; have h := h.allocRaw #[.bool false, .string (bb []), .int .i64 0, .int .i64 e] 111; rw [hwV] at h; replace H := Lib.hid h; clear h; clear k6; have k7 : True := trivial; obtain ⟨p0, p1, p2, p3⟩ := raw_all4r (b := wV) (H.out); obtain ⟨q0, q1, q2, q3⟩ := raw_all4r (b := wK) (H.out.p1))
    | (go_at_call 76; refine (ref07_fault _ H.out).mono ?_; rintro e wn ⟨rfl, h⟩; replace H := Lib.hid h; clear h; (first | (obtain ⟨ac0, ac1, ac2, ac3, ac4, ac5, ac6, ac7, ac8, af0, af1, af2, af3, af4, af5, af6, af7, af8⟩ := raw9 (b := wA) (H.out)) | (obtain ⟨ac0, ac1, ac2, ac3, ac4, ac5, ac6, ac7, ac8, af0, af1, af2, af3, af4, af5, af6, af7, af8⟩ := raw9 (b := wA) (H.out.p1)) | (obtain ⟨ac0, ac1, ac2, ac3, ac4, ac5, ac6, ac7, ac8, af0, af1, af2, af3, af4, af5, af6, af7, af8⟩ := raw9 (b := wA) (H.out.p2)) | (obtain ⟨ac0, ac1, ac2, ac3, ac4, ac5, ac6, ac7, ac8, af0, af1, af2, af3, af4, af5, af6, af7, af8⟩ := raw9 (b := wA) (H.out.p3)) | (obtain ⟨ac0, ac1, ac2, ac3, ac4, ac5, ac6, ac7, ac8, af0, af1, af2, af3, af4, af5, af6, af7, af8⟩ := raw9 (b := wA) (H.out.p4)))))
  refine bodyPost_ret (v := .agg #[.int .i64 0, .int .i64 0, .bool false, .string ⟨#[]⟩, .bool false, .string ⟨#[]⟩, .slice none 0 0, .int .i64 0, .int .i64 e]) (by simp [results, Try.results77, go_sem, ac0, ac1, ac2, ac3, ac4, ac5, ac6, ac7, ac8]) rfl ⟨rfl, ((((((((((H.out.p3.rawSet 0 _).rawSet 1 _).rawSet 2 _).rawSet 3 _).rawSet 4 _).rawSet 5 _).rawSet 6 _).rawSet 7 _).rawSet 8 _).drop.drop.drop.drop)⟩

end Go.Proofs.Ytkenneeejdngaaa
