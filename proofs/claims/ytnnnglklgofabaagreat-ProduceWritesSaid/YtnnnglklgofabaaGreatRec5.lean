/- A text. -/
import Derived.Test.YtnnnglklgofabaaGreatRef06
import Derived.Test.YtnnnglklgofabaaGreatRec4
import Derived.Deep.RegionHeld3
namespace Go.Proofs.YtnnnglklgofabaaGreat
open Go.RowKit

set_option maxHeartbeats 1000000 in
set_option maxRecDepth 100000 in
theorem sl_equal (va vb : Value) (a b : List HdrS) (hl : a.length ≤ 9223372036854775807) (hl2 : b.length ≤ 9223372036854775807) {W0 w : World} {K : Know} {L : List Res} (hka : K.has (Know.flat RHdr va 3 a)) (hkb : K.has (Know.flat RHdr vb 3 b)) (h : St W0 w K L) :
   Calls Tryz.prog 163 #[va, vb] w fun en w' => en = .returned (.bool (decide (a = b))) ∧ St W0 w' K L := by
 obtain ⟨q, cap, rfl⟩ := flat_form hka h; obtain ⟨q2, cap2, rfl⟩ := flat_form hkb h; have H := Lib.hid h; have HA := Lib.hid hka; have HB := Lib.hid hkb; clear h hka hkb
 by_cases hlen : a.length = b.length
 · have HLEN := Lib.hid hlen; have hq : ∀ (P : Prop) [Decidable P], decide P = decide P := fun _ _ => rfl
   obtain ⟨r, hr⟩ : ∃ r, decide (a = b) = r := ⟨_, rfl⟩; have HR := Lib.hid hr; rw [hr]; rw [← hlen]; clear hr hlen hq; go_enter Tryz.func163, Tryz.ntmps163; go_wp2; go_loopw [13] (fun iv wr => ∃ k : Nat, k ≤ a.length ∧ iv = .int .i64 k ∧ a.take k = b.take k ∧ St W0 wr K L) (fun iv _ => a.length - (intOf iv).toNat)
   case atStart => exact ⟨0, Nat.zero_le _, rfl, by simp, H.out⟩
   case round =>
    exact zq7
 · obtain ⟨r, hr⟩ : ∃ r, decide (a = b) = r := ⟨_, rfl⟩; have HR := Lib.hid hr; have hne : ¬ ((a.length : Int) = (b.length : Int)) := by omega
   have HLEN := Lib.hid hlen; rw [hr]; clear hr hlen; go_enter Tryz.func163, Tryz.ntmps163; go_wp2; go_ret; exact ⟨ret_bool (by rw [← HR.out]; exact (decide_eq_false (by rintro rfl; exact HLEN.out rfl)).symm), H.out⟩

theorem dec_false {a b : RecS} (h : ¬ a = b) {r : Bool} (hr : decide (a = b) = r) : r = false := by rw [← hr]; exact decide_eq_false h

theorem zq14 {p : Prop} (h : p := by rw [show r = false from HR.out]; clear hn hr; go_enter Tryz.func140, Tryz.ntmps140; go_wp2; go_ret; exact ⟨rfl, H.out.drop.drop⟩) : p := h
theorem zq45 {p : Prop} (h : p := by intro h; cases h; exact hn rfl) : p := h
set_option maxHeartbeats 1000000 in
set_option maxRecDepth 100000 in
theorem rec_same (t1 o1 t2 o2 : Int) (n1 m1 n2 m2 : Bool) (d1 f1 d2 f2 : Bs) (l1 l2 : List HdrS) (va vb : Value) (r : Bool) (hr : decide ((⟨t1, o1, ⟨n1, d1⟩, ⟨m1, f1⟩, l1⟩ : RecS) = ⟨t2, o2, ⟨n2, d2⟩, ⟨m2, f2⟩, l2⟩) = r) (hl1 : l1.length ≤ 9223372036854775807) (hl2 : l2.length ≤ 9223372036854775807) {W0 w : World} {K : Know} {L : List Res} (hka : K.has (Know.flat RHdr va 3 l1)) (hkb : K.has (Know.flat RHdr vb 3 l2)) (h : St W0 w K L) :
   Calls Tryz.prog 140 #[.agg #[.int .i64 t1, .int .i64 o1, .bool n1, .string (bb d1), .bool m1, .string (bb f1), va], .agg #[.int .i64 t2, .int .i64 o2, .bool n2, .string (bb d2), .bool m2, .string (bb f2), vb]] w fun en w' => en = .returned (.bool r) ∧ St W0 w' K L := by
 have h0 := (h.allocRaw #[.int .i64 t1, .int .i64 o1, .bool n1, .string (bb d1), .bool m1, .string (bb f1), va] 119).allocRaw #[.int .i64 t2, .int .i64 o2, .bool n2, .string (bb d2), .bool m2, .string (bb f2), vb] 119; rw [World.size_alloc] at h0; have H := Lib.hid h0; have HA := Lib.hid hka; have HB := Lib.hid hkb; have HL1 := Lib.hid hl1; have HL2 := Lib.hid hl2; clear h h0 hka hkb hl1 hl2
 by_cases hn : t1 = t2
 rotate_left
 · have HR := Lib.hid (show r = false from dec_false zq45 hr); have hb : (t1 == t2) = false := by simpa using hn
   exact zq14
 subst hn
 by_cases hn : o1 = o2
 rotate_left
 · have HR := Lib.hid (show r = false from dec_false zq45 hr); have hb : (o1 == o2) = false := by simpa using hn
   exact zq14
 subst hn
 by_cases hn : n1 = n2
 rotate_left
 · have HR := Lib.hid (show r = false from dec_false zq45 hr); have hb : (n1 == n2) = false := by simpa using hn
   exact zq14
 subst hn
 by_cases hn : d1 = d2
 rotate_left
 · have HR := Lib.hid (show r = false from dec_false zq45 hr); have hb : (d1 == d2) = false := by simpa using hn
   exact zq14
 subst hn
 by_cases hn : m1 = m2
 rotate_left
 · have HR := Lib.hid (show r = false from dec_false zq45 hr); have hb : (m1 == m2) = false := by simpa using hn
   exact zq14
 subst hn
 by_cases hn : f1 = f2
 rotate_left
 · have HR := Lib.hid (show r = false from dec_false zq45 hr); have hb : (f1 == f2) = false := by simpa using hn
   exact zq14
 subst hn; have HD := Lib.hid (show decide (l1 = l2) = r by rw [← hr]; exact decide_eq_decide.mpr ⟨fun h => by rw [h], fun h => by cases h; rfl⟩); clear hr; go_enter Tryz.func140, Tryz.ntmps140; go_wp2_with (go_at_call 163; refine (sl_equal va vb l1 l2 HL1.out HL2.out HA.out HB.out H.out).mono ?_; rw [HD.out]; rintro e wn ⟨rfl, h⟩; replace H := Lib.hid h; clear h); go_ret; exact ⟨rfl, H.out.drop.drop⟩
theorem rec_sameV (a b : RecS) (va vb : Value) (r : Bool) (hr : decide (a = b) = r) (hl1 : a.hdrs.length ≤ 9223372036854775807) (hl2 : b.hdrs.length ≤ 9223372036854775807) {W0 w : World} {K : Know} {L : List Res} (hka : K.has (Know.flat RHdr va 3 a.hdrs)) (hkb : K.has (Know.flat RHdr vb 3 b.hdrs)) (h : St W0 w K L) :
  Calls Tryz.prog 140 #[.agg #[.int .i64 a.time, .int .i64 a.off, .bool a.key.null, .string (bb a.key.data), .bool a.val.null, .string (bb a.val.data), va], .agg #[.int .i64 b.time, .int .i64 b.off, .bool b.key.null, .string (bb b.key.data), .bool b.val.null, .string (bb b.val.data), vb]] w fun en w' => en = .returned (.bool r) ∧ St W0 w' K L :=
 rec_same a.time a.off b.time b.off a.key.null a.val.null b.key.null b.val.null a.key.data a.val.data b.key.data b.val.data a.hdrs b.hdrs va vb r hr hl1 hl2 hka hkb h

theorem zq15 {p : Prop} (h : p := by rw [show r = false from HR.out]; clear hn hr; go_enter Tryz.func116, Tryz.ntmps116; go_wp2; go_ret; exact ⟨rfl, H.out.drop.drop⟩) : p := h
set_option maxHeartbeats 1000000 in
set_option maxRecDepth 100000 in
theorem ref07_same (t1 o1 t2 o2 : Int) (n1 m1 n2 m2 : Bool) (d1 f1 d2 f2 : Bs) (l1 l2 : List HdrS) (va vb : Value) (r : Bool) (hr : decide ((⟨t1, o1, ⟨n1, d1⟩, ⟨m1, f1⟩, l1⟩ : RecS) = ⟨t2, o2, ⟨n2, d2⟩, ⟨m2, f2⟩, l2⟩) = r) (hl1 : l1.length ≤ 9223372036854775807) (hl2 : l2.length ≤ 9223372036854775807) {W0 w : World} {K : Know} {L : List Res} (hka : K.has (Know.flat RHdr va 3 l1)) (hkb : K.has (Know.flat RHdr vb 3 l2)) (h : St W0 w K L) :
   Calls Tryz.prog 116 #[.agg #[.int .i64 t1, .int .i64 o1, .bool n1, .string (bb d1), .bool m1, .string (bb f1), va], .agg #[.int .i64 t2, .int .i64 o2, .bool n2, .string (bb d2), .bool m2, .string (bb f2), vb]] w fun en w' => en = .returned (.bool r) ∧ St W0 w' K L := by
 have h0 := (h.allocRaw #[.int .i64 t1, .int .i64 o1, .bool n1, .string (bb d1), .bool m1, .string (bb f1), va] 119).allocRaw #[.int .i64 t2, .int .i64 o2, .bool n2, .string (bb d2), .bool m2, .string (bb f2), vb] 119; rw [World.size_alloc] at h0; have H := Lib.hid h0; have HA := Lib.hid hka; have HB := Lib.hid hkb; have HL1 := Lib.hid hl1; have HL2 := Lib.hid hl2; clear h h0 hka hkb hl1 hl2
 by_cases hn : t1 = t2
 rotate_left
 · have HR := Lib.hid (show r = false from dec_false zq45 hr); have hb : (t1 == t2) = false := by simpa using hn
   exact zq15
 subst hn
 by_cases hn : o1 = o2
 rotate_left
 · have HR := Lib.hid (show r = false from dec_false zq45 hr); have hb : (o1 == o2) = false := by simpa using hn
   exact zq15
 subst hn
 by_cases hn : n1 = n2
 rotate_left
 · have HR := Lib.hid (show r = false from dec_false zq45 hr); have hb : (n1 == n2) = false := by simpa using hn
   exact zq15
 subst hn
 by_cases hn : d1 = d2
 rotate_left
 · have HR := Lib.hid (show r = false from dec_false zq45 hr); have hb : (d1 == d2) = false := by simpa using hn
   exact zq15
 subst hn
 by_cases hn : m1 = m2
 rotate_left
 · have HR := Lib.hid (show r = false from dec_false zq45 hr); have hb : (m1 == m2) = false := by simpa using hn
   exact zq15
 subst hn
 by_cases hn : f1 = f2
 rotate_left
 · have HR := Lib.hid (show r = false from dec_false zq45 hr); have hb : (f1 == f2) = false := by simpa using hn
   exact zq15
 subst hn; have HD := Lib.hid (show decide (l1 = l2) = r by rw [← hr]; exact decide_eq_decide.mpr ⟨fun h => by rw [h], fun h => by cases h; rfl⟩); clear hr; go_enter Tryz.func116, Tryz.ntmps116; go_wp2_with (go_at_call 145; refine (ref06_same va vb l1 l2 HL1.out HL2.out HA.out HB.out H.out).mono ?_; rw [HD.out]; rintro e wn ⟨rfl, h⟩; replace H := Lib.hid h; clear h); go_ret; exact ⟨rfl, H.out.drop.drop⟩
theorem ref07_sameV (a b : RecS) (va vb : Value) (r : Bool) (hr : decide (a = b) = r) (hl1 : a.hdrs.length ≤ 9223372036854775807) (hl2 : b.hdrs.length ≤ 9223372036854775807) {W0 w : World} {K : Know} {L : List Res} (hka : K.has (Know.flat RHdr va 3 a.hdrs)) (hkb : K.has (Know.flat RHdr vb 3 b.hdrs)) (h : St W0 w K L) :
  Calls Tryz.prog 116 #[.agg #[.int .i64 a.time, .int .i64 a.off, .bool a.key.null, .string (bb a.key.data), .bool a.val.null, .string (bb a.val.data), va], .agg #[.int .i64 b.time, .int .i64 b.off, .bool b.key.null, .string (bb b.key.data), .bool b.val.null, .string (bb b.val.data), vb]] w fun en w' => en = .returned (.bool r) ∧ St W0 w' K L :=
 ref07_same a.time a.off b.time b.off a.key.null a.val.null b.key.null b.val.null a.key.data a.val.data b.key.data b.val.data a.hdrs b.hdrs va vb r hr hl1 hl2 hka hkb h

end Go.Proofs.YtnnnglklgofabaaGreat
