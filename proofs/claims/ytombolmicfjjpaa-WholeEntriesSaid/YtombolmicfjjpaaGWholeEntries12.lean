/- The keys of two names are one just if the names are, and the bytes of two values just if these are, and each is read again: proved of all. -/
import Derived.Test.YtombolmicfjjpaaGWholeEntries5
import Derived.Test.YtombolmicfjjpaaGWholeEntries6
import Derived.Test.YtombolmicfjjpaaGWholeEntries7
import Derived.Test.YtombolmicfjjpaaGWholeEntries8
import Derived.Test.YtombolmicfjjpaaGWholeEntries9
import Derived.Test.YtombolmicfjjpaaGWholeEntries10
import Derived.Test.YtombolmicfjjpaaGWholeEntries11
import Derived.Test.YtombolmicfjjpaaGWholeEntries4
import Derived.Lib.SmallJoins
import Derived.Laws.IdiomArrays
import Derived.Test.YtombolmicfjjpaaArgs
/- WholeEntries, bb -/
namespace Go.Proofs.Ytombolmicfjjpaa
open Go.RowKit

set_option maxHeartbeats 4000000 in
set_option maxRecDepth 100000 in
theorem we_bb_qt (x0 x1 : Bs) (hx0 : (x0.length : Int) ≤ 500) (hx1 : (x1.length : Int) ≤ 500) (p1 e1 t1 s1 u1 st1 : Int) (l1 : List (TopS × Value)) (q1 : Option Addr) (cap1 : Nat) (tl1 : List TopS) (ht1 : l1.map (·.1) = tl1) (hfi1 : FewI l1) (p2 e2 t2 s2 u2 st2 : Int) (l2 : List (TopS × Value)) (q2 : Option Addr) (cap2 : Nat) (tl2 : List TopS) (ht2 : l2.map (·.1) = tl2) (hfi2 : FewI l2) (hw1 : few (l1.map (·.1)) = 1) (hw2 : few (l2.map (·.1)) = 1) (k0 k1 : Bs) (f0 f1 : Int) (hke0 : keyEnc x0 = (k0, f0)) (hke1 : keyEnc x1 = (k1, f1)) (hf0 : f0 ≠ 0) (hf1 : f1 ≠ 0) (S1 : Bs) (hS1 : ValS.enc ⟨p1, e1, t1, s1, tl1, u1, st1⟩ = S1) (he1 : ValS.err ⟨p1, e1, t1, s1, tl1, u1, st1⟩ = 0) (hR1 : ValS.R ⟨p1, e1, t1, s1, tl1, u1, st1⟩) (S2 : Bs) (hS2 : ValS.enc ⟨p2, e2, t2, s2, tl2, u2, st2⟩ = S2) (he2 : ValS.err ⟨p2, e2, t2, s2, tl2, u2, st2⟩ = 0) (hR2 : ValS.R ⟨p2, e2, t2, s2, tl2, u2, st2⟩) (hss : (S1 == S2) = true) (hd : decide ((⟨p1, e1, t1, s1, tl1, u1, st1⟩ : ValS) = ⟨p2, e2, t2, s2, tl2, u2, st2⟩) = true) (hsl : S1.length ≤ 1000000) (hvd : valDec S1 = (⟨p1, e1, t1, s1, tl1, u1, st1⟩, 0)) {W0 w : World} {K : Know} {L : List Res} (hk1 : K.has (Know.tops (.slice q1 l1.length cap1) l1)) (hk2 : K.has (Know.tops (.slice q2 l2.length cap2) l2)) (h : St W0 w K L) :
    Calls Try.prog 6 #[.agg #[.string (bb x0), .string (bb x1)], .agg #[.int .i64 p1, .int .i64 e1, .int .i64 t1, .int .i64 s1, .slice q1 l1.length cap1, .int .i64 u1, .int .i64 st1], .agg #[.int .i64 p2, .int .i64 e2, .int .i64 t2, .int .i64 s2, .slice q2 l2.length cap2, .int .i64 u2, .int .i64 st2]] w fun en w' => en = .returned (.bool true) ∧ Below W0.heap.size W0 w' := by
  have h := ((h.allocRaw #[.string (bb x0), .string (bb x1)] 60).allocRaw #[.int .i64 p1, .int .i64 e1, .int .i64 t1, .int .i64 s1, .slice q1 l1.length cap1, .int .i64 u1, .int .i64 st1] 24).allocRaw #[.int .i64 p2, .int .i64 e2, .int .i64 t2, .int .i64 s2, .slice q2 l2.length cap2, .int .i64 u2, .int .i64 st2] 24
  rw [World.size_alloc, World.size_alloc] at h
  have H := Lib.hid h
  have tok : True := trivial
  have HT1 := Lib.hid ht1
  have HK1 := Lib.hid hk1
  have HNL1 := Lib.hid hfi1.1
  have HNB1 := Lib.hid (show ∀ x ∈ l1, x.1.name.length ≤ 140737488351232 ∧ x.1.parts.length ≤ 17592186043904 from fun x hx => ⟨(hfi1.2 x hx).1, (hfi1.2 x hx).2.1⟩)
  have HT2 := Lib.hid ht2
  have HK2 := Lib.hid hk2
  have HNL2 := Lib.hid hfi2.1
  have HNB2 := Lib.hid (show ∀ x ∈ l2, x.1.name.length ≤ 140737488351232 ∧ x.1.parts.length ≤ 17592186043904 from fun x hx => ⟨(hfi2.2 x hx).1, (hfi2.2 x hx).2.1⟩)
  have HFW1 := Lib.hid hw1
  have HFW2 := Lib.hid hw2
  have HF1 := Lib.hid (few_T (few_one hw1))
  have HF2 := Lib.hid (few_T (few_one hw2))
  have HLT1 := Lib.hid (lenT_of HF1.out)
  have HLT2 := Lib.hid (lenT_of HF2.out)
  have HX0 := Lib.hid (show x0.length ≤ 40000 by omega)
  have HX1 := Lib.hid (show x1.length ≤ 40000 by omega)
  have HKE0 := Lib.hid hke0
  have HKE1 := Lib.hid hke1
  have gf01 : (f0 == 0) = false := by rw [beq_eq_false_iff_ne]; assumption
  have gf02 : (f0 != 0) = true := by simp [bne, gf01]
  have gf11 : (f1 == 0) = false := by rw [beq_eq_false_iff_ne]; assumption
  have gf12 : (f1 != 0) = true := by simp [bne, gf11]
  have gx0 : decide (500 < (x0.length : Int)) = false := decide_eq_false (by omega)
  have gx1 : decide (500 < (x1.length : Int)) = false := decide_eq_false (by omega)
  have HS1 := Lib.hid hS1
  have HE1 := Lib.hid he1
  have HRR1 := Lib.hid hR1
  have HS2 := Lib.hid hS2
  have HE2 := Lib.hid he2
  have HRR2 := Lib.hid hR2
  have HD := Lib.hid hd
  have HSL := Lib.hid hsl
  have HVD := Lib.hid hvd
  clear h hk1 hk2 ht1 ht2 hfi1 hfi2 hw1 hw2 hke0 hke1 hf0 hf1 hS1 he1 hR1 hS2 he2 hR2 hd hsl hvd
  go_enter Try.func6, Try.ntmps6
  go_wp2_with (first
    | (go_at_call 35; have _t := tok; clear _t; refine (key_encode' [97] [0, 0, 0, 1, 97] 0 (by decide) (by decide +kernel) H.out).mono ?_; rintro e_ wn ⟨rfl, h⟩; have c0 := h.rawCell 0; have c1 := h.rawCell 1; have c2 := h.rawCell 2; have c3 := h.rawCell 3; have c4 := h.rawCell 4; have c5 := h.rawCell 5; have c6 := h.rawCell 6; have d0 := h.p1.rawCell 0; have d1 := h.p1.rawCell 1; have d2 := h.p1.rawCell 2; have d3 := h.p1.rawCell 3; have d4 := h.p1.rawCell 4; have d5 := h.p1.rawCell 5; have d6 := h.p1.rawCell 6; have i0 := h.p2.rawCell 0; have i1 := h.p2.rawCell 1; simp at c0 d0 c1 d1 c2 d2 c3 d3 c4 d4 c5 d5 c6 d6 i0 i1; replace H := Lib.hid h; clear h; clear tok)
    | (go_at_call 14; (with_reducible refine (law14_few l1 q1 cap1 HNL1.out HNB1.out 1 HFW1.out HK1.out H.out).mono ?_); rintro e_ wn ⟨rfl, h⟩; have c0 := h.rawCell 0; have c1 := h.rawCell 1; have c2 := h.rawCell 2; have c3 := h.rawCell 3; have c4 := h.rawCell 4; have c5 := h.rawCell 5; have c6 := h.rawCell 6; have d0 := h.p1.rawCell 0; have d1 := h.p1.rawCell 1; have d2 := h.p1.rawCell 2; have d3 := h.p1.rawCell 3; have d4 := h.p1.rawCell 4; have d5 := h.p1.rawCell 5; have d6 := h.p1.rawCell 6; have i0 := h.p2.rawCell 0; have i1 := h.p2.rawCell 1; simp at c0 d0 c1 d1 c2 d2 c3 d3 c4 d4 c5 d5 c6 d6 i0 i1; replace H := Lib.hid h; clear h)
    | (go_at_call 14; (with_reducible refine (law14_few l2 q2 cap2 HNL2.out HNB2.out 1 HFW2.out HK2.out H.out).mono ?_); rintro e_ wn ⟨rfl, h⟩; have c0 := h.rawCell 0; have c1 := h.rawCell 1; have c2 := h.rawCell 2; have c3 := h.rawCell 3; have c4 := h.rawCell 4; have c5 := h.rawCell 5; have c6 := h.rawCell 6; have d0 := h.p1.rawCell 0; have d1 := h.p1.rawCell 1; have d2 := h.p1.rawCell 2; have d3 := h.p1.rawCell 3; have d4 := h.p1.rawCell 4; have d5 := h.p1.rawCell 5; have d6 := h.p1.rawCell 6; have i0 := h.p2.rawCell 0; have i1 := h.p2.rawCell 1; simp at c0 d0 c1 d1 c2 d2 c3 d3 c4 d4 c5 d5 c6 d6 i0 i1; replace H := Lib.hid h; clear h)
    | (go_at_call 35; (with_reducible refine (key_encode' x0 k0 f0 HX0.out HKE0.out H.out).mono ?_); rintro e_ wn ⟨rfl, h⟩; have c0 := h.rawCell 0; have c1 := h.rawCell 1; have c2 := h.rawCell 2; have c3 := h.rawCell 3; have c4 := h.rawCell 4; have c5 := h.rawCell 5; have c6 := h.rawCell 6; have d0 := h.p1.rawCell 0; have d1 := h.p1.rawCell 1; have d2 := h.p1.rawCell 2; have d3 := h.p1.rawCell 3; have d4 := h.p1.rawCell 4; have d5 := h.p1.rawCell 5; have d6 := h.p1.rawCell 6; have i0 := h.p2.rawCell 0; have i1 := h.p2.rawCell 1; simp at c0 d0 c1 d1 c2 d2 c3 d3 c4 d4 c5 d5 c6 d6 i0 i1; replace H := Lib.hid h; clear h)
    | (go_at_call 35; (with_reducible refine (key_encode' x1 k1 f1 HX1.out HKE1.out H.out).mono ?_); rintro e_ wn ⟨rfl, h⟩; have c0 := h.rawCell 0; have c1 := h.rawCell 1; have c2 := h.rawCell 2; have c3 := h.rawCell 3; have c4 := h.rawCell 4; have c5 := h.rawCell 5; have c6 := h.rawCell 6; have d0 := h.p1.rawCell 0; have d1 := h.p1.rawCell 1; have d2 := h.p1.rawCell 2; have d3 := h.p1.rawCell 3; have d4 := h.p1.rawCell 4; have d5 := h.p1.rawCell 5; have d6 := h.p1.rawCell 6; have i0 := h.p2.rawCell 0; have i1 := h.p2.rawCell 1; simp at c0 d0 c1 d1 c2 d2 c3 d3 c4 d4 c5 d5 c6 d6 i0 i1; replace H := Lib.hid h; clear h)
    | (go_at_call 15; (with_reducible refine (val_encode_okS p1 e1 t1 s1 u1 st1 l1 q1 cap1 tl1 HT1.out S1 HS1.out HE1.out HRR1.out HF1.out HK1.out H.out).mono ?_); rintro e_ wn ⟨rfl, h⟩; have c0 := h.rawCell 0; have c1 := h.rawCell 1; have c2 := h.rawCell 2; have c3 := h.rawCell 3; have c4 := h.rawCell 4; have c5 := h.rawCell 5; have c6 := h.rawCell 6; have d0 := h.p1.rawCell 0; have d1 := h.p1.rawCell 1; have d2 := h.p1.rawCell 2; have d3 := h.p1.rawCell 3; have d4 := h.p1.rawCell 4; have d5 := h.p1.rawCell 5; have d6 := h.p1.rawCell 6; have i0 := h.p2.rawCell 0; have i1 := h.p2.rawCell 1; simp at c0 d0 c1 d1 c2 d2 c3 d3 c4 d4 c5 d5 c6 d6 i0 i1; replace H := Lib.hid h; clear h)
    | (go_at_call 15; (with_reducible refine (val_encode_okS p2 e2 t2 s2 u2 st2 l2 q2 cap2 tl2 HT2.out S2 HS2.out HE2.out HRR2.out HF2.out HK2.out H.out).mono ?_); rintro e_ wn ⟨rfl, h⟩; have c0 := h.rawCell 0; have c1 := h.rawCell 1; have c2 := h.rawCell 2; have c3 := h.rawCell 3; have c4 := h.rawCell 4; have c5 := h.rawCell 5; have c6 := h.rawCell 6; have d0 := h.p1.rawCell 0; have d1 := h.p1.rawCell 1; have d2 := h.p1.rawCell 2; have d3 := h.p1.rawCell 3; have d4 := h.p1.rawCell 4; have d5 := h.p1.rawCell 5; have d6 := h.p1.rawCell 6; have i0 := h.p2.rawCell 0; have i1 := h.p2.rawCell 1; simp at c0 d0 c1 d1 c2 d2 c3 d3 c4 d4 c5 d5 c6 d6 i0 i1; replace H := Lib.hid h; clear h)
    | (go_at_call 20; (with_reducible refine (ref14_same p1 e1 t1 s1 u1 st1 p2 e2 t2 s2 u2 st2 l1 l2 q1 q2 cap1 cap2 tl1 tl2 HT1.out HT2.out true HD.out HLT1.out HLT2.out HK1.out HK2.out H.out).mono ?_); rintro e_ wn ⟨rfl, h⟩; have c0 := h.rawCell 0; have c1 := h.rawCell 1; have c2 := h.rawCell 2; have c3 := h.rawCell 3; have c4 := h.rawCell 4; have c5 := h.rawCell 5; have c6 := h.rawCell 6; have d0 := h.p1.rawCell 0; have d1 := h.p1.rawCell 1; have d2 := h.p1.rawCell 2; have d3 := h.p1.rawCell 3; have d4 := h.p1.rawCell 4; have d5 := h.p1.rawCell 5; have d6 := h.p1.rawCell 6; have i0 := h.p2.rawCell 0; have i1 := h.p2.rawCell 1; simp at c0 d0 c1 d1 c2 d2 c3 d3 c4 d4 c5 d5 c6 d6 i0 i1; replace H := Lib.hid h; clear h)
    | (go_at_call 18; (with_reducible refine (val_decode_okV S1 HSL.out p1 e1 t1 s1 u1 st1 tl1 HVD.out H.out).mono ?_); rintro e_ wn ⟨qt, capt, lr, rfl, hlr, h⟩; obtain ⟨vb, hvb⟩ : ∃ b, wn.heap.size = b := ⟨_, rfl⟩; have h := h.allocRaw #[.int .i64 p1, .int .i64 e1, .int .i64 t1, .int .i64 s1, .slice qt lr.length capt, .int .i64 u1, .int .i64 st1] 24; rw [hvb] at h; have HLR := Lib.hid hlr; clear hlr; have HLT3 := Lib.hid (lenT_of (fewT_map HF1.out (HLR.out.trans HT1.out.symm))); have HK3 := Lib.hid (Know.has_right (b := Know.tops (.slice qt lr.length capt) lr) (Know.has_refl _) : (K.and (Know.tops (.slice qt lr.length capt) lr)).has _); have HK4 := Lib.hid (Know.has_left HK1.out : (K.and (Know.tops (.slice qt lr.length capt) lr)).has _); have v0 := h.rawCell 0; have v1 := h.rawCell 1; have v2 := h.rawCell 2; have v3 := h.rawCell 3; have v4 := h.rawCell 4; have v5 := h.rawCell 5; have v6 := h.rawCell 6; have c0 := h.p1.rawCell 0; have c1 := h.p1.rawCell 1; have c2 := h.p1.rawCell 2; have c3 := h.p1.rawCell 3; have c4 := h.p1.rawCell 4; have c5 := h.p1.rawCell 5; have c6 := h.p1.rawCell 6; have d0 := h.p2.rawCell 0; have d1 := h.p2.rawCell 1; have d2 := h.p2.rawCell 2; have d3 := h.p2.rawCell 3; have d4 := h.p2.rawCell 4; have d5 := h.p2.rawCell 5; have d6 := h.p2.rawCell 6; have i0 := h.p3.rawCell 0; have i1 := h.p3.rawCell 1; simp at v0 c0 d0 v1 c1 d1 v2 c2 d2 v3 c3 d3 v4 c4 d4 v5 c5 d5 v6 c6 d6 i0 i1; replace H := Lib.hid h; clear h)
    | (go_at_call 20; (with_reducible refine (ref14_same p1 e1 t1 s1 u1 st1 p1 e1 t1 s1 u1 st1 lr l1 qt q1 capt cap1 tl1 tl1 HLR.out HT1.out true (decide_eq_true rfl) HLT3.out HLT1.out HK3.out HK4.out H.out).mono ?_); rintro e_ wn ⟨rfl, h⟩; have v0 := h.rawCell 0; have v1 := h.rawCell 1; have v2 := h.rawCell 2; have v3 := h.rawCell 3; have v4 := h.rawCell 4; have v5 := h.rawCell 5; have v6 := h.rawCell 6; have c0 := h.p1.rawCell 0; have c1 := h.p1.rawCell 1; have c2 := h.p1.rawCell 2; have c3 := h.p1.rawCell 3; have c4 := h.p1.rawCell 4; have c5 := h.p1.rawCell 5; have c6 := h.p1.rawCell 6; have d0 := h.p2.rawCell 0; have d1 := h.p2.rawCell 1; have d2 := h.p2.rawCell 2; have d3 := h.p2.rawCell 3; have d4 := h.p2.rawCell 4; have d5 := h.p2.rawCell 5; have d6 := h.p2.rawCell 6; have i0 := h.p3.rawCell 0; have i1 := h.p3.rawCell 1; simp at v0 c0 d0 v1 c1 d1 v2 c2 d2 v3 c3 d3 v4 c4 d4 v5 c5 d5 v6 c6 d6 i0 i1; replace H := Lib.hid h; clear h))
  go_ret
  exact ⟨rfl, H.out.below⟩

set_option maxHeartbeats 4000000 in
set_option maxRecDepth 100000 in
theorem we_bb_qf (x0 x1 : Bs) (hx0 : (x0.length : Int) ≤ 500) (hx1 : (x1.length : Int) ≤ 500) (p1 e1 t1 s1 u1 st1 : Int) (l1 : List (TopS × Value)) (q1 : Option Addr) (cap1 : Nat) (tl1 : List TopS) (ht1 : l1.map (·.1) = tl1) (hfi1 : FewI l1) (p2 e2 t2 s2 u2 st2 : Int) (l2 : List (TopS × Value)) (q2 : Option Addr) (cap2 : Nat) (tl2 : List TopS) (ht2 : l2.map (·.1) = tl2) (hfi2 : FewI l2) (hw1 : few (l1.map (·.1)) = 1) (hw2 : few (l2.map (·.1)) = 1) (k0 k1 : Bs) (f0 f1 : Int) (hke0 : keyEnc x0 = (k0, f0)) (hke1 : keyEnc x1 = (k1, f1)) (hf0 : f0 ≠ 0) (hf1 : f1 ≠ 0) (S1 : Bs) (hS1 : ValS.enc ⟨p1, e1, t1, s1, tl1, u1, st1⟩ = S1) (he1 : ValS.err ⟨p1, e1, t1, s1, tl1, u1, st1⟩ = 0) (hR1 : ValS.R ⟨p1, e1, t1, s1, tl1, u1, st1⟩) (S2 : Bs) (hS2 : ValS.enc ⟨p2, e2, t2, s2, tl2, u2, st2⟩ = S2) (he2 : ValS.err ⟨p2, e2, t2, s2, tl2, u2, st2⟩ = 0) (hR2 : ValS.R ⟨p2, e2, t2, s2, tl2, u2, st2⟩) (hss : (S1 == S2) = false) (hd : decide ((⟨p1, e1, t1, s1, tl1, u1, st1⟩ : ValS) = ⟨p2, e2, t2, s2, tl2, u2, st2⟩) = false) (hsl : S1.length ≤ 1000000) (hvd : valDec S1 = (⟨p1, e1, t1, s1, tl1, u1, st1⟩, 0)) {W0 w : World} {K : Know} {L : List Res} (hk1 : K.has (Know.tops (.slice q1 l1.length cap1) l1)) (hk2 : K.has (Know.tops (.slice q2 l2.length cap2) l2)) (h : St W0 w K L) :
    Calls Try.prog 6 #[.agg #[.string (bb x0), .string (bb x1)], .agg #[.int .i64 p1, .int .i64 e1, .int .i64 t1, .int .i64 s1, .slice q1 l1.length cap1, .int .i64 u1, .int .i64 st1], .agg #[.int .i64 p2, .int .i64 e2, .int .i64 t2, .int .i64 s2, .slice q2 l2.length cap2, .int .i64 u2, .int .i64 st2]] w fun en w' => en = .returned (.bool true) ∧ Below W0.heap.size W0 w' := by
  have h := ((h.allocRaw #[.string (bb x0), .string (bb x1)] 60).allocRaw #[.int .i64 p1, .int .i64 e1, .int .i64 t1, .int .i64 s1, .slice q1 l1.length cap1, .int .i64 u1, .int .i64 st1] 24).allocRaw #[.int .i64 p2, .int .i64 e2, .int .i64 t2, .int .i64 s2, .slice q2 l2.length cap2, .int .i64 u2, .int .i64 st2] 24
  rw [World.size_alloc, World.size_alloc] at h
  have H := Lib.hid h
  have tok : True := trivial
  have HT1 := Lib.hid ht1
  have HK1 := Lib.hid hk1
  have HNL1 := Lib.hid hfi1.1
  have HNB1 := Lib.hid (show ∀ x ∈ l1, x.1.name.length ≤ 140737488351232 ∧ x.1.parts.length ≤ 17592186043904 from fun x hx => ⟨(hfi1.2 x hx).1, (hfi1.2 x hx).2.1⟩)
  have HT2 := Lib.hid ht2
  have HK2 := Lib.hid hk2
  have HNL2 := Lib.hid hfi2.1
  have HNB2 := Lib.hid (show ∀ x ∈ l2, x.1.name.length ≤ 140737488351232 ∧ x.1.parts.length ≤ 17592186043904 from fun x hx => ⟨(hfi2.2 x hx).1, (hfi2.2 x hx).2.1⟩)
  have HFW1 := Lib.hid hw1
  have HFW2 := Lib.hid hw2
  have HF1 := Lib.hid (few_T (few_one hw1))
  have HF2 := Lib.hid (few_T (few_one hw2))
  have HLT1 := Lib.hid (lenT_of HF1.out)
  have HLT2 := Lib.hid (lenT_of HF2.out)
  have HX0 := Lib.hid (show x0.length ≤ 40000 by omega)
  have HX1 := Lib.hid (show x1.length ≤ 40000 by omega)
  have HKE0 := Lib.hid hke0
  have HKE1 := Lib.hid hke1
  have gf01 : (f0 == 0) = false := by rw [beq_eq_false_iff_ne]; assumption
  have gf02 : (f0 != 0) = true := by simp [bne, gf01]
  have gf11 : (f1 == 0) = false := by rw [beq_eq_false_iff_ne]; assumption
  have gf12 : (f1 != 0) = true := by simp [bne, gf11]
  have gx0 : decide (500 < (x0.length : Int)) = false := decide_eq_false (by omega)
  have gx1 : decide (500 < (x1.length : Int)) = false := decide_eq_false (by omega)
  have HS1 := Lib.hid hS1
  have HE1 := Lib.hid he1
  have HRR1 := Lib.hid hR1
  have HS2 := Lib.hid hS2
  have HE2 := Lib.hid he2
  have HRR2 := Lib.hid hR2
  have HD := Lib.hid hd
  have HSL := Lib.hid hsl
  have HVD := Lib.hid hvd
  clear h hk1 hk2 ht1 ht2 hfi1 hfi2 hw1 hw2 hke0 hke1 hf0 hf1 hS1 he1 hR1 hS2 he2 hR2 hd hsl hvd
  go_enter Try.func6, Try.ntmps6
  go_wp2_with (first
    | (go_at_call 35; have _t := tok; clear _t; refine (key_encode' [97] [0, 0, 0, 1, 97] 0 (by decide) (by decide +kernel) H.out).mono ?_; rintro e_ wn ⟨rfl, h⟩; have c0 := h.rawCell 0; have c1 := h.rawCell 1; have c2 := h.rawCell 2; have c3 := h.rawCell 3; have c4 := h.rawCell 4; have c5 := h.rawCell 5; have c6 := h.rawCell 6; have d0 := h.p1.rawCell 0; have d1 := h.p1.rawCell 1; have d2 := h.p1.rawCell 2; have d3 := h.p1.rawCell 3; have d4 := h.p1.rawCell 4; have d5 := h.p1.rawCell 5; have d6 := h.p1.rawCell 6; have i0 := h.p2.rawCell 0; have i1 := h.p2.rawCell 1; simp at c0 d0 c1 d1 c2 d2 c3 d3 c4 d4 c5 d5 c6 d6 i0 i1; replace H := Lib.hid h; clear h; clear tok)
    | (go_at_call 14; (with_reducible refine (law14_few l1 q1 cap1 HNL1.out HNB1.out 1 HFW1.out HK1.out H.out).mono ?_); rintro e_ wn ⟨rfl, h⟩; have c0 := h.rawCell 0; have c1 := h.rawCell 1; have c2 := h.rawCell 2; have c3 := h.rawCell 3; have c4 := h.rawCell 4; have c5 := h.rawCell 5; have c6 := h.rawCell 6; have d0 := h.p1.rawCell 0; have d1 := h.p1.rawCell 1; have d2 := h.p1.rawCell 2; have d3 := h.p1.rawCell 3; have d4 := h.p1.rawCell 4; have d5 := h.p1.rawCell 5; have d6 := h.p1.rawCell 6; have i0 := h.p2.rawCell 0; have i1 := h.p2.rawCell 1; simp at c0 d0 c1 d1 c2 d2 c3 d3 c4 d4 c5 d5 c6 d6 i0 i1; replace H := Lib.hid h; clear h)
    | (go_at_call 14; (with_reducible refine (law14_few l2 q2 cap2 HNL2.out HNB2.out 1 HFW2.out HK2.out H.out).mono ?_); rintro e_ wn ⟨rfl, h⟩; have c0 := h.rawCell 0; have c1 := h.rawCell 1; have c2 := h.rawCell 2; have c3 := h.rawCell 3; have c4 := h.rawCell 4; have c5 := h.rawCell 5; have c6 := h.rawCell 6; have d0 := h.p1.rawCell 0; have d1 := h.p1.rawCell 1; have d2 := h.p1.rawCell 2; have d3 := h.p1.rawCell 3; have d4 := h.p1.rawCell 4; have d5 := h.p1.rawCell 5; have d6 := h.p1.rawCell 6; have i0 := h.p2.rawCell 0; have i1 := h.p2.rawCell 1; simp at c0 d0 c1 d1 c2 d2 c3 d3 c4 d4 c5 d5 c6 d6 i0 i1; replace H := Lib.hid h; clear h)
    | (go_at_call 35; (with_reducible refine (key_encode' x0 k0 f0 HX0.out HKE0.out H.out).mono ?_); rintro e_ wn ⟨rfl, h⟩; have c0 := h.rawCell 0; have c1 := h.rawCell 1; have c2 := h.rawCell 2; have c3 := h.rawCell 3; have c4 := h.rawCell 4; have c5 := h.rawCell 5; have c6 := h.rawCell 6; have d0 := h.p1.rawCell 0; have d1 := h.p1.rawCell 1; have d2 := h.p1.rawCell 2; have d3 := h.p1.rawCell 3; have d4 := h.p1.rawCell 4; have d5 := h.p1.rawCell 5; have d6 := h.p1.rawCell 6; have i0 := h.p2.rawCell 0; have i1 := h.p2.rawCell 1; simp at c0 d0 c1 d1 c2 d2 c3 d3 c4 d4 c5 d5 c6 d6 i0 i1; replace H := Lib.hid h; clear h)
    | (go_at_call 35; (with_reducible refine (key_encode' x1 k1 f1 HX1.out HKE1.out H.out).mono ?_); rintro e_ wn ⟨rfl, h⟩; have c0 := h.rawCell 0; have c1 := h.rawCell 1; have c2 := h.rawCell 2; have c3 := h.rawCell 3; have c4 := h.rawCell 4; have c5 := h.rawCell 5; have c6 := h.rawCell 6; have d0 := h.p1.rawCell 0; have d1 := h.p1.rawCell 1; have d2 := h.p1.rawCell 2; have d3 := h.p1.rawCell 3; have d4 := h.p1.rawCell 4; have d5 := h.p1.rawCell 5; have d6 := h.p1.rawCell 6; have i0 := h.p2.rawCell 0; have i1 := h.p2.rawCell 1; simp at c0 d0 c1 d1 c2 d2 c3 d3 c4 d4 c5 d5 c6 d6 i0 i1; replace H := Lib.hid h; clear h)
    | (go_at_call 15; (with_reducible refine (val_encode_okS p1 e1 t1 s1 u1 st1 l1 q1 cap1 tl1 HT1.out S1 HS1.out HE1.out HRR1.out HF1.out HK1.out H.out).mono ?_); rintro e_ wn ⟨rfl, h⟩; have c0 := h.rawCell 0; have c1 := h.rawCell 1; have c2 := h.rawCell 2; have c3 := h.rawCell 3; have c4 := h.rawCell 4; have c5 := h.rawCell 5; have c6 := h.rawCell 6; have d0 := h.p1.rawCell 0; have d1 := h.p1.rawCell 1; have d2 := h.p1.rawCell 2; have d3 := h.p1.rawCell 3; have d4 := h.p1.rawCell 4; have d5 := h.p1.rawCell 5; have d6 := h.p1.rawCell 6; have i0 := h.p2.rawCell 0; have i1 := h.p2.rawCell 1; simp at c0 d0 c1 d1 c2 d2 c3 d3 c4 d4 c5 d5 c6 d6 i0 i1; replace H := Lib.hid h; clear h)
    | (go_at_call 15; (with_reducible refine (val_encode_okS p2 e2 t2 s2 u2 st2 l2 q2 cap2 tl2 HT2.out S2 HS2.out HE2.out HRR2.out HF2.out HK2.out H.out).mono ?_); rintro e_ wn ⟨rfl, h⟩; have c0 := h.rawCell 0; have c1 := h.rawCell 1; have c2 := h.rawCell 2; have c3 := h.rawCell 3; have c4 := h.rawCell 4; have c5 := h.rawCell 5; have c6 := h.rawCell 6; have d0 := h.p1.rawCell 0; have d1 := h.p1.rawCell 1; have d2 := h.p1.rawCell 2; have d3 := h.p1.rawCell 3; have d4 := h.p1.rawCell 4; have d5 := h.p1.rawCell 5; have d6 := h.p1.rawCell 6; have i0 := h.p2.rawCell 0; have i1 := h.p2.rawCell 1; simp at c0 d0 c1 d1 c2 d2 c3 d3 c4 d4 c5 d5 c6 d6 i0 i1; replace H := Lib.hid h; clear h)
    | (go_at_call 20; (with_reducible refine (ref14_same p1 e1 t1 s1 u1 st1 p2 e2 t2 s2 u2 st2 l1 l2 q1 q2 cap1 cap2 tl1 tl2 HT1.out HT2.out false HD.out HLT1.out HLT2.out HK1.out HK2.out H.out).mono ?_); rintro e_ wn ⟨rfl, h⟩; have c0 := h.rawCell 0; have c1 := h.rawCell 1; have c2 := h.rawCell 2; have c3 := h.rawCell 3; have c4 := h.rawCell 4; have c5 := h.rawCell 5; have c6 := h.rawCell 6; have d0 := h.p1.rawCell 0; have d1 := h.p1.rawCell 1; have d2 := h.p1.rawCell 2; have d3 := h.p1.rawCell 3; have d4 := h.p1.rawCell 4; have d5 := h.p1.rawCell 5; have d6 := h.p1.rawCell 6; have i0 := h.p2.rawCell 0; have i1 := h.p2.rawCell 1; simp at c0 d0 c1 d1 c2 d2 c3 d3 c4 d4 c5 d5 c6 d6 i0 i1; replace H := Lib.hid h; clear h)
    | (go_at_call 18; (with_reducible refine (val_decode_okV S1 HSL.out p1 e1 t1 s1 u1 st1 tl1 HVD.out H.out).mono ?_); rintro e_ wn ⟨qt, capt, lr, rfl, hlr, h⟩; obtain ⟨vb, hvb⟩ : ∃ b, wn.heap.size = b := ⟨_, rfl⟩; have h := h.allocRaw #[.int .i64 p1, .int .i64 e1, .int .i64 t1, .int .i64 s1, .slice qt lr.length capt, .int .i64 u1, .int .i64 st1] 24; rw [hvb] at h; have HLR := Lib.hid hlr; clear hlr; have HLT3 := Lib.hid (lenT_of (fewT_map HF1.out (HLR.out.trans HT1.out.symm))); have HK3 := Lib.hid (Know.has_right (b := Know.tops (.slice qt lr.length capt) lr) (Know.has_refl _) : (K.and (Know.tops (.slice qt lr.length capt) lr)).has _); have HK4 := Lib.hid (Know.has_left HK1.out : (K.and (Know.tops (.slice qt lr.length capt) lr)).has _); have v0 := h.rawCell 0; have v1 := h.rawCell 1; have v2 := h.rawCell 2; have v3 := h.rawCell 3; have v4 := h.rawCell 4; have v5 := h.rawCell 5; have v6 := h.rawCell 6; have c0 := h.p1.rawCell 0; have c1 := h.p1.rawCell 1; have c2 := h.p1.rawCell 2; have c3 := h.p1.rawCell 3; have c4 := h.p1.rawCell 4; have c5 := h.p1.rawCell 5; have c6 := h.p1.rawCell 6; have d0 := h.p2.rawCell 0; have d1 := h.p2.rawCell 1; have d2 := h.p2.rawCell 2; have d3 := h.p2.rawCell 3; have d4 := h.p2.rawCell 4; have d5 := h.p2.rawCell 5; have d6 := h.p2.rawCell 6; have i0 := h.p3.rawCell 0; have i1 := h.p3.rawCell 1; simp at v0 c0 d0 v1 c1 d1 v2 c2 d2 v3 c3 d3 v4 c4 d4 v5 c5 d5 v6 c6 d6 i0 i1; replace H := Lib.hid h; clear h)
    | (go_at_call 20; (with_reducible refine (ref14_same p1 e1 t1 s1 u1 st1 p1 e1 t1 s1 u1 st1 lr l1 qt q1 capt cap1 tl1 tl1 HLR.out HT1.out true (decide_eq_true rfl) HLT3.out HLT1.out HK3.out HK4.out H.out).mono ?_); rintro e_ wn ⟨rfl, h⟩; have v0 := h.rawCell 0; have v1 := h.rawCell 1; have v2 := h.rawCell 2; have v3 := h.rawCell 3; have v4 := h.rawCell 4; have v5 := h.rawCell 5; have v6 := h.rawCell 6; have c0 := h.p1.rawCell 0; have c1 := h.p1.rawCell 1; have c2 := h.p1.rawCell 2; have c3 := h.p1.rawCell 3; have c4 := h.p1.rawCell 4; have c5 := h.p1.rawCell 5; have c6 := h.p1.rawCell 6; have d0 := h.p2.rawCell 0; have d1 := h.p2.rawCell 1; have d2 := h.p2.rawCell 2; have d3 := h.p2.rawCell 3; have d4 := h.p2.rawCell 4; have d5 := h.p2.rawCell 5; have d6 := h.p2.rawCell 6; have i0 := h.p3.rawCell 0; have i1 := h.p3.rawCell 1; simp at v0 c0 d0 v1 c1 d1 v2 c2 d2 v3 c3 d3 v4 c4 d4 v5 c5 d5 v6 c6 d6 i0 i1; replace H := Lib.hid h; clear h))
  go_ret
  exact ⟨rfl, H.out.below⟩

set_option maxHeartbeats 4000000 in
set_option maxRecDepth 100000 in
theorem we_bb_ob (x0 x1 : Bs) (hx0 : (x0.length : Int) ≤ 500) (hx1 : (x1.length : Int) ≤ 500) (p1 e1 t1 s1 u1 st1 : Int) (l1 : List (TopS × Value)) (q1 : Option Addr) (cap1 : Nat) (tl1 : List TopS) (ht1 : l1.map (·.1) = tl1) (hfi1 : FewI l1) (p2 e2 t2 s2 u2 st2 : Int) (l2 : List (TopS × Value)) (q2 : Option Addr) (cap2 : Nat) (tl2 : List TopS) (ht2 : l2.map (·.1) = tl2) (hfi2 : FewI l2) (hw1 : few (l1.map (·.1)) = 1) (hw2 : few (l2.map (·.1)) = 1) (k0 k1 : Bs) (f0 f1 : Int) (hke0 : keyEnc x0 = (k0, f0)) (hke1 : keyEnc x1 = (k1, f1)) (hf0 : f0 ≠ 0) (hf1 : f1 ≠ 0) (S1 : Bs) (hS1 : ValS.enc ⟨p1, e1, t1, s1, tl1, u1, st1⟩ = S1) (he1 : ValS.err ⟨p1, e1, t1, s1, tl1, u1, st1⟩ = 0) (hR1 : ValS.R ⟨p1, e1, t1, s1, tl1, u1, st1⟩) (E2 : Int) (he2 : ValS.err ⟨p2, e2, t2, s2, tl2, u2, st2⟩ = E2) (h02 : E2 ≠ 0) (hsl : S1.length ≤ 1000000) (hvd : valDec S1 = (⟨p1, e1, t1, s1, tl1, u1, st1⟩, 0)) {W0 w : World} {K : Know} {L : List Res} (hk1 : K.has (Know.tops (.slice q1 l1.length cap1) l1)) (hk2 : K.has (Know.tops (.slice q2 l2.length cap2) l2)) (h : St W0 w K L) :
    Calls Try.prog 6 #[.agg #[.string (bb x0), .string (bb x1)], .agg #[.int .i64 p1, .int .i64 e1, .int .i64 t1, .int .i64 s1, .slice q1 l1.length cap1, .int .i64 u1, .int .i64 st1], .agg #[.int .i64 p2, .int .i64 e2, .int .i64 t2, .int .i64 s2, .slice q2 l2.length cap2, .int .i64 u2, .int .i64 st2]] w fun en w' => en = .returned (.bool true) ∧ Below W0.heap.size W0 w' := by
  have h := ((h.allocRaw #[.string (bb x0), .string (bb x1)] 60).allocRaw #[.int .i64 p1, .int .i64 e1, .int .i64 t1, .int .i64 s1, .slice q1 l1.length cap1, .int .i64 u1, .int .i64 st1] 24).allocRaw #[.int .i64 p2, .int .i64 e2, .int .i64 t2, .int .i64 s2, .slice q2 l2.length cap2, .int .i64 u2, .int .i64 st2] 24
  rw [World.size_alloc, World.size_alloc] at h
  have H := Lib.hid h
  have tok : True := trivial
  have HT1 := Lib.hid ht1
  have HK1 := Lib.hid hk1
  have HNL1 := Lib.hid hfi1.1
  have HNB1 := Lib.hid (show ∀ x ∈ l1, x.1.name.length ≤ 140737488351232 ∧ x.1.parts.length ≤ 17592186043904 from fun x hx => ⟨(hfi1.2 x hx).1, (hfi1.2 x hx).2.1⟩)
  have HT2 := Lib.hid ht2
  have HK2 := Lib.hid hk2
  have HNL2 := Lib.hid hfi2.1
  have HNB2 := Lib.hid (show ∀ x ∈ l2, x.1.name.length ≤ 140737488351232 ∧ x.1.parts.length ≤ 17592186043904 from fun x hx => ⟨(hfi2.2 x hx).1, (hfi2.2 x hx).2.1⟩)
  have HFW1 := Lib.hid hw1
  have HFW2 := Lib.hid hw2
  have HF1 := Lib.hid (few_T (few_one hw1))
  have HF2 := Lib.hid (few_T (few_one hw2))
  have HLT1 := Lib.hid (lenT_of HF1.out)
  have HLT2 := Lib.hid (lenT_of HF2.out)
  have HX0 := Lib.hid (show x0.length ≤ 40000 by omega)
  have HX1 := Lib.hid (show x1.length ≤ 40000 by omega)
  have HKE0 := Lib.hid hke0
  have HKE1 := Lib.hid hke1
  have gf01 : (f0 == 0) = false := by rw [beq_eq_false_iff_ne]; assumption
  have gf02 : (f0 != 0) = true := by simp [bne, gf01]
  have gf11 : (f1 == 0) = false := by rw [beq_eq_false_iff_ne]; assumption
  have gf12 : (f1 != 0) = true := by simp [bne, gf11]
  have gx0 : decide (500 < (x0.length : Int)) = false := decide_eq_false (by omega)
  have gx1 : decide (500 < (x1.length : Int)) = false := decide_eq_false (by omega)
  have HS1 := Lib.hid hS1
  have HE1 := Lib.hid he1
  have HRR1 := Lib.hid hR1
  have HE2 := Lib.hid he2
  have HE02 := Lib.hid h02
  have ge21 : (E2 == 0) = false := by rw [beq_eq_false_iff_ne]; assumption
  have ge22 : (E2 != 0) = true := by simp [bne, ge21]
  have HSL := Lib.hid hsl
  have HVD := Lib.hid hvd
  clear h hk1 hk2 ht1 ht2 hfi1 hfi2 hw1 hw2 hke0 hke1 hf0 hf1 hS1 he1 hR1 he2 h02 hsl hvd
  go_enter Try.func6, Try.ntmps6
  go_wp2_with (first
    | (go_at_call 35; have _t := tok; clear _t; refine (key_encode' [97] [0, 0, 0, 1, 97] 0 (by decide) (by decide +kernel) H.out).mono ?_; rintro e_ wn ⟨rfl, h⟩; have c0 := h.rawCell 0; have c1 := h.rawCell 1; have c2 := h.rawCell 2; have c3 := h.rawCell 3; have c4 := h.rawCell 4; have c5 := h.rawCell 5; have c6 := h.rawCell 6; have d0 := h.p1.rawCell 0; have d1 := h.p1.rawCell 1; have d2 := h.p1.rawCell 2; have d3 := h.p1.rawCell 3; have d4 := h.p1.rawCell 4; have d5 := h.p1.rawCell 5; have d6 := h.p1.rawCell 6; have i0 := h.p2.rawCell 0; have i1 := h.p2.rawCell 1; simp at c0 d0 c1 d1 c2 d2 c3 d3 c4 d4 c5 d5 c6 d6 i0 i1; replace H := Lib.hid h; clear h; clear tok)
    | (go_at_call 14; (with_reducible refine (law14_few l1 q1 cap1 HNL1.out HNB1.out 1 HFW1.out HK1.out H.out).mono ?_); rintro e_ wn ⟨rfl, h⟩; have c0 := h.rawCell 0; have c1 := h.rawCell 1; have c2 := h.rawCell 2; have c3 := h.rawCell 3; have c4 := h.rawCell 4; have c5 := h.rawCell 5; have c6 := h.rawCell 6; have d0 := h.p1.rawCell 0; have d1 := h.p1.rawCell 1; have d2 := h.p1.rawCell 2; have d3 := h.p1.rawCell 3; have d4 := h.p1.rawCell 4; have d5 := h.p1.rawCell 5; have d6 := h.p1.rawCell 6; have i0 := h.p2.rawCell 0; have i1 := h.p2.rawCell 1; simp at c0 d0 c1 d1 c2 d2 c3 d3 c4 d4 c5 d5 c6 d6 i0 i1; replace H := Lib.hid h; clear h)
    | (go_at_call 14; (with_reducible refine (law14_few l2 q2 cap2 HNL2.out HNB2.out 1 HFW2.out HK2.out H.out).mono ?_); rintro e_ wn ⟨rfl, h⟩; have c0 := h.rawCell 0; have c1 := h.rawCell 1; have c2 := h.rawCell 2; have c3 := h.rawCell 3; have c4 := h.rawCell 4; have c5 := h.rawCell 5; have c6 := h.rawCell 6; have d0 := h.p1.rawCell 0; have d1 := h.p1.rawCell 1; have d2 := h.p1.rawCell 2; have d3 := h.p1.rawCell 3; have d4 := h.p1.rawCell 4; have d5 := h.p1.rawCell 5; have d6 := h.p1.rawCell 6; have i0 := h.p2.rawCell 0; have i1 := h.p2.rawCell 1; simp at c0 d0 c1 d1 c2 d2 c3 d3 c4 d4 c5 d5 c6 d6 i0 i1; replace H := Lib.hid h; clear h)
    | (go_at_call 35; (with_reducible refine (key_encode' x0 k0 f0 HX0.out HKE0.out H.out).mono ?_); rintro e_ wn ⟨rfl, h⟩; have c0 := h.rawCell 0; have c1 := h.rawCell 1; have c2 := h.rawCell 2; have c3 := h.rawCell 3; have c4 := h.rawCell 4; have c5 := h.rawCell 5; have c6 := h.rawCell 6; have d0 := h.p1.rawCell 0; have d1 := h.p1.rawCell 1; have d2 := h.p1.rawCell 2; have d3 := h.p1.rawCell 3; have d4 := h.p1.rawCell 4; have d5 := h.p1.rawCell 5; have d6 := h.p1.rawCell 6; have i0 := h.p2.rawCell 0; have i1 := h.p2.rawCell 1; simp at c0 d0 c1 d1 c2 d2 c3 d3 c4 d4 c5 d5 c6 d6 i0 i1; replace H := Lib.hid h; clear h)
    | (go_at_call 35; (with_reducible refine (key_encode' x1 k1 f1 HX1.out HKE1.out H.out).mono ?_); rintro e_ wn ⟨rfl, h⟩; have c0 := h.rawCell 0; have c1 := h.rawCell 1; have c2 := h.rawCell 2; have c3 := h.rawCell 3; have c4 := h.rawCell 4; have c5 := h.rawCell 5; have c6 := h.rawCell 6; have d0 := h.p1.rawCell 0; have d1 := h.p1.rawCell 1; have d2 := h.p1.rawCell 2; have d3 := h.p1.rawCell 3; have d4 := h.p1.rawCell 4; have d5 := h.p1.rawCell 5; have d6 := h.p1.rawCell 6; have i0 := h.p2.rawCell 0; have i1 := h.p2.rawCell 1; simp at c0 d0 c1 d1 c2 d2 c3 d3 c4 d4 c5 d5 c6 d6 i0 i1; replace H := Lib.hid h; clear h)
    | (go_at_call 15; (with_reducible refine (val_encode_okS p1 e1 t1 s1 u1 st1 l1 q1 cap1 tl1 HT1.out S1 HS1.out HE1.out HRR1.out HF1.out HK1.out H.out).mono ?_); rintro e_ wn ⟨rfl, h⟩; have c0 := h.rawCell 0; have c1 := h.rawCell 1; have c2 := h.rawCell 2; have c3 := h.rawCell 3; have c4 := h.rawCell 4; have c5 := h.rawCell 5; have c6 := h.rawCell 6; have d0 := h.p1.rawCell 0; have d1 := h.p1.rawCell 1; have d2 := h.p1.rawCell 2; have d3 := h.p1.rawCell 3; have d4 := h.p1.rawCell 4; have d5 := h.p1.rawCell 5; have d6 := h.p1.rawCell 6; have i0 := h.p2.rawCell 0; have i1 := h.p2.rawCell 1; simp at c0 d0 c1 d1 c2 d2 c3 d3 c4 d4 c5 d5 c6 d6 i0 i1; replace H := Lib.hid h; clear h)
    | (go_at_call 15; (with_reducible refine (val_encode_badS p2 e2 t2 s2 u2 st2 l2 q2 cap2 tl2 HT2.out _ HE2.out HE02.out HF2.out HK2.out H.out).mono ?_); rintro e_ wn ⟨rfl, h⟩; have c0 := h.rawCell 0; have c1 := h.rawCell 1; have c2 := h.rawCell 2; have c3 := h.rawCell 3; have c4 := h.rawCell 4; have c5 := h.rawCell 5; have c6 := h.rawCell 6; have d0 := h.p1.rawCell 0; have d1 := h.p1.rawCell 1; have d2 := h.p1.rawCell 2; have d3 := h.p1.rawCell 3; have d4 := h.p1.rawCell 4; have d5 := h.p1.rawCell 5; have d6 := h.p1.rawCell 6; have i0 := h.p2.rawCell 0; have i1 := h.p2.rawCell 1; simp at c0 d0 c1 d1 c2 d2 c3 d3 c4 d4 c5 d5 c6 d6 i0 i1; replace H := Lib.hid h; clear h)
    | (go_at_call 18; (with_reducible refine (val_decode_okV S1 HSL.out p1 e1 t1 s1 u1 st1 tl1 HVD.out H.out).mono ?_); rintro e_ wn ⟨qt, capt, lr, rfl, hlr, h⟩; obtain ⟨vb, hvb⟩ : ∃ b, wn.heap.size = b := ⟨_, rfl⟩; have h := h.allocRaw #[.int .i64 p1, .int .i64 e1, .int .i64 t1, .int .i64 s1, .slice qt lr.length capt, .int .i64 u1, .int .i64 st1] 24; rw [hvb] at h; have HLR := Lib.hid hlr; clear hlr; have HLT3 := Lib.hid (lenT_of (fewT_map HF1.out (HLR.out.trans HT1.out.symm))); have HK3 := Lib.hid (Know.has_right (b := Know.tops (.slice qt lr.length capt) lr) (Know.has_refl _) : (K.and (Know.tops (.slice qt lr.length capt) lr)).has _); have HK4 := Lib.hid (Know.has_left HK1.out : (K.and (Know.tops (.slice qt lr.length capt) lr)).has _); have v0 := h.rawCell 0; have v1 := h.rawCell 1; have v2 := h.rawCell 2; have v3 := h.rawCell 3; have v4 := h.rawCell 4; have v5 := h.rawCell 5; have v6 := h.rawCell 6; have c0 := h.p1.rawCell 0; have c1 := h.p1.rawCell 1; have c2 := h.p1.rawCell 2; have c3 := h.p1.rawCell 3; have c4 := h.p1.rawCell 4; have c5 := h.p1.rawCell 5; have c6 := h.p1.rawCell 6; have d0 := h.p2.rawCell 0; have d1 := h.p2.rawCell 1; have d2 := h.p2.rawCell 2; have d3 := h.p2.rawCell 3; have d4 := h.p2.rawCell 4; have d5 := h.p2.rawCell 5; have d6 := h.p2.rawCell 6; have i0 := h.p3.rawCell 0; have i1 := h.p3.rawCell 1; simp at v0 c0 d0 v1 c1 d1 v2 c2 d2 v3 c3 d3 v4 c4 d4 v5 c5 d5 v6 c6 d6 i0 i1; replace H := Lib.hid h; clear h)
    | (go_at_call 20; (with_reducible refine (ref14_same p1 e1 t1 s1 u1 st1 p1 e1 t1 s1 u1 st1 lr l1 qt q1 capt cap1 tl1 tl1 HLR.out HT1.out true (decide_eq_true rfl) HLT3.out HLT1.out HK3.out HK4.out H.out).mono ?_); rintro e_ wn ⟨rfl, h⟩; have v0 := h.rawCell 0; have v1 := h.rawCell 1; have v2 := h.rawCell 2; have v3 := h.rawCell 3; have v4 := h.rawCell 4; have v5 := h.rawCell 5; have v6 := h.rawCell 6; have c0 := h.p1.rawCell 0; have c1 := h.p1.rawCell 1; have c2 := h.p1.rawCell 2; have c3 := h.p1.rawCell 3; have c4 := h.p1.rawCell 4; have c5 := h.p1.rawCell 5; have c6 := h.p1.rawCell 6; have d0 := h.p2.rawCell 0; have d1 := h.p2.rawCell 1; have d2 := h.p2.rawCell 2; have d3 := h.p2.rawCell 3; have d4 := h.p2.rawCell 4; have d5 := h.p2.rawCell 5; have d6 := h.p2.rawCell 6; have i0 := h.p3.rawCell 0; have i1 := h.p3.rawCell 1; simp at v0 c0 d0 v1 c1 d1 v2 c2 d2 v3 c3 d3 v4 c4 d4 v5 c5 d5 v6 c6 d6 i0 i1; replace H := Lib.hid h; clear h))
  go_ret
  exact ⟨rfl, H.out.below⟩

set_option maxHeartbeats 4000000 in
set_option maxRecDepth 100000 in
theorem we_bb_bo (x0 x1 : Bs) (hx0 : (x0.length : Int) ≤ 500) (hx1 : (x1.length : Int) ≤ 500) (p1 e1 t1 s1 u1 st1 : Int) (l1 : List (TopS × Value)) (q1 : Option Addr) (cap1 : Nat) (tl1 : List TopS) (ht1 : l1.map (·.1) = tl1) (hfi1 : FewI l1) (p2 e2 t2 s2 u2 st2 : Int) (l2 : List (TopS × Value)) (q2 : Option Addr) (cap2 : Nat) (tl2 : List TopS) (ht2 : l2.map (·.1) = tl2) (hfi2 : FewI l2) (hw1 : few (l1.map (·.1)) = 1) (hw2 : few (l2.map (·.1)) = 1) (k0 k1 : Bs) (f0 f1 : Int) (hke0 : keyEnc x0 = (k0, f0)) (hke1 : keyEnc x1 = (k1, f1)) (hf0 : f0 ≠ 0) (hf1 : f1 ≠ 0) (E1 : Int) (he1 : ValS.err ⟨p1, e1, t1, s1, tl1, u1, st1⟩ = E1) (h01 : E1 ≠ 0) (S2 : Bs) (hS2 : ValS.enc ⟨p2, e2, t2, s2, tl2, u2, st2⟩ = S2) (he2 : ValS.err ⟨p2, e2, t2, s2, tl2, u2, st2⟩ = 0) (hR2 : ValS.R ⟨p2, e2, t2, s2, tl2, u2, st2⟩) {W0 w : World} {K : Know} {L : List Res} (hk1 : K.has (Know.tops (.slice q1 l1.length cap1) l1)) (hk2 : K.has (Know.tops (.slice q2 l2.length cap2) l2)) (h : St W0 w K L) :
    Calls Try.prog 6 #[.agg #[.string (bb x0), .string (bb x1)], .agg #[.int .i64 p1, .int .i64 e1, .int .i64 t1, .int .i64 s1, .slice q1 l1.length cap1, .int .i64 u1, .int .i64 st1], .agg #[.int .i64 p2, .int .i64 e2, .int .i64 t2, .int .i64 s2, .slice q2 l2.length cap2, .int .i64 u2, .int .i64 st2]] w fun en w' => en = .returned (.bool true) ∧ Below W0.heap.size W0 w' := by
  have h := ((h.allocRaw #[.string (bb x0), .string (bb x1)] 60).allocRaw #[.int .i64 p1, .int .i64 e1, .int .i64 t1, .int .i64 s1, .slice q1 l1.length cap1, .int .i64 u1, .int .i64 st1] 24).allocRaw #[.int .i64 p2, .int .i64 e2, .int .i64 t2, .int .i64 s2, .slice q2 l2.length cap2, .int .i64 u2, .int .i64 st2] 24
  rw [World.size_alloc, World.size_alloc] at h
  have H := Lib.hid h
  have tok : True := trivial
  have HT1 := Lib.hid ht1
  have HK1 := Lib.hid hk1
  have HNL1 := Lib.hid hfi1.1
  have HNB1 := Lib.hid (show ∀ x ∈ l1, x.1.name.length ≤ 140737488351232 ∧ x.1.parts.length ≤ 17592186043904 from fun x hx => ⟨(hfi1.2 x hx).1, (hfi1.2 x hx).2.1⟩)
  have HT2 := Lib.hid ht2
  have HK2 := Lib.hid hk2
  have HNL2 := Lib.hid hfi2.1
  have HNB2 := Lib.hid (show ∀ x ∈ l2, x.1.name.length ≤ 140737488351232 ∧ x.1.parts.length ≤ 17592186043904 from fun x hx => ⟨(hfi2.2 x hx).1, (hfi2.2 x hx).2.1⟩)
  have HFW1 := Lib.hid hw1
  have HFW2 := Lib.hid hw2
  have HF1 := Lib.hid (few_T (few_one hw1))
  have HF2 := Lib.hid (few_T (few_one hw2))
  have HLT1 := Lib.hid (lenT_of HF1.out)
  have HLT2 := Lib.hid (lenT_of HF2.out)
  have HX0 := Lib.hid (show x0.length ≤ 40000 by omega)
  have HX1 := Lib.hid (show x1.length ≤ 40000 by omega)
  have HKE0 := Lib.hid hke0
  have HKE1 := Lib.hid hke1
  have gf01 : (f0 == 0) = false := by rw [beq_eq_false_iff_ne]; assumption
  have gf02 : (f0 != 0) = true := by simp [bne, gf01]
  have gf11 : (f1 == 0) = false := by rw [beq_eq_false_iff_ne]; assumption
  have gf12 : (f1 != 0) = true := by simp [bne, gf11]
  have gx0 : decide (500 < (x0.length : Int)) = false := decide_eq_false (by omega)
  have gx1 : decide (500 < (x1.length : Int)) = false := decide_eq_false (by omega)
  have HE1 := Lib.hid he1
  have HE01 := Lib.hid h01
  have ge11 : (E1 == 0) = false := by rw [beq_eq_false_iff_ne]; assumption
  have ge12 : (E1 != 0) = true := by simp [bne, ge11]
  have HS2 := Lib.hid hS2
  have HE2 := Lib.hid he2
  have HRR2 := Lib.hid hR2
  clear h hk1 hk2 ht1 ht2 hfi1 hfi2 hw1 hw2 hke0 hke1 hf0 hf1 he1 h01 hS2 he2 hR2
  go_enter Try.func6, Try.ntmps6
  go_wp2_with (first
    | (go_at_call 35; have _t := tok; clear _t; refine (key_encode' [97] [0, 0, 0, 1, 97] 0 (by decide) (by decide +kernel) H.out).mono ?_; rintro e_ wn ⟨rfl, h⟩; have c0 := h.rawCell 0; have c1 := h.rawCell 1; have c2 := h.rawCell 2; have c3 := h.rawCell 3; have c4 := h.rawCell 4; have c5 := h.rawCell 5; have c6 := h.rawCell 6; have d0 := h.p1.rawCell 0; have d1 := h.p1.rawCell 1; have d2 := h.p1.rawCell 2; have d3 := h.p1.rawCell 3; have d4 := h.p1.rawCell 4; have d5 := h.p1.rawCell 5; have d6 := h.p1.rawCell 6; have i0 := h.p2.rawCell 0; have i1 := h.p2.rawCell 1; simp at c0 d0 c1 d1 c2 d2 c3 d3 c4 d4 c5 d5 c6 d6 i0 i1; replace H := Lib.hid h; clear h; clear tok)
    | (go_at_call 14; (with_reducible refine (law14_few l1 q1 cap1 HNL1.out HNB1.out 1 HFW1.out HK1.out H.out).mono ?_); rintro e_ wn ⟨rfl, h⟩; have c0 := h.rawCell 0; have c1 := h.rawCell 1; have c2 := h.rawCell 2; have c3 := h.rawCell 3; have c4 := h.rawCell 4; have c5 := h.rawCell 5; have c6 := h.rawCell 6; have d0 := h.p1.rawCell 0; have d1 := h.p1.rawCell 1; have d2 := h.p1.rawCell 2; have d3 := h.p1.rawCell 3; have d4 := h.p1.rawCell 4; have d5 := h.p1.rawCell 5; have d6 := h.p1.rawCell 6; have i0 := h.p2.rawCell 0; have i1 := h.p2.rawCell 1; simp at c0 d0 c1 d1 c2 d2 c3 d3 c4 d4 c5 d5 c6 d6 i0 i1; replace H := Lib.hid h; clear h)
    | (go_at_call 14; (with_reducible refine (law14_few l2 q2 cap2 HNL2.out HNB2.out 1 HFW2.out HK2.out H.out).mono ?_); rintro e_ wn ⟨rfl, h⟩; have c0 := h.rawCell 0; have c1 := h.rawCell 1; have c2 := h.rawCell 2; have c3 := h.rawCell 3; have c4 := h.rawCell 4; have c5 := h.rawCell 5; have c6 := h.rawCell 6; have d0 := h.p1.rawCell 0; have d1 := h.p1.rawCell 1; have d2 := h.p1.rawCell 2; have d3 := h.p1.rawCell 3; have d4 := h.p1.rawCell 4; have d5 := h.p1.rawCell 5; have d6 := h.p1.rawCell 6; have i0 := h.p2.rawCell 0; have i1 := h.p2.rawCell 1; simp at c0 d0 c1 d1 c2 d2 c3 d3 c4 d4 c5 d5 c6 d6 i0 i1; replace H := Lib.hid h; clear h)
    | (go_at_call 35; (with_reducible refine (key_encode' x0 k0 f0 HX0.out HKE0.out H.out).mono ?_); rintro e_ wn ⟨rfl, h⟩; have c0 := h.rawCell 0; have c1 := h.rawCell 1; have c2 := h.rawCell 2; have c3 := h.rawCell 3; have c4 := h.rawCell 4; have c5 := h.rawCell 5; have c6 := h.rawCell 6; have d0 := h.p1.rawCell 0; have d1 := h.p1.rawCell 1; have d2 := h.p1.rawCell 2; have d3 := h.p1.rawCell 3; have d4 := h.p1.rawCell 4; have d5 := h.p1.rawCell 5; have d6 := h.p1.rawCell 6; have i0 := h.p2.rawCell 0; have i1 := h.p2.rawCell 1; simp at c0 d0 c1 d1 c2 d2 c3 d3 c4 d4 c5 d5 c6 d6 i0 i1; replace H := Lib.hid h; clear h)
    | (go_at_call 35; (with_reducible refine (key_encode' x1 k1 f1 HX1.out HKE1.out H.out).mono ?_); rintro e_ wn ⟨rfl, h⟩; have c0 := h.rawCell 0; have c1 := h.rawCell 1; have c2 := h.rawCell 2; have c3 := h.rawCell 3; have c4 := h.rawCell 4; have c5 := h.rawCell 5; have c6 := h.rawCell 6; have d0 := h.p1.rawCell 0; have d1 := h.p1.rawCell 1; have d2 := h.p1.rawCell 2; have d3 := h.p1.rawCell 3; have d4 := h.p1.rawCell 4; have d5 := h.p1.rawCell 5; have d6 := h.p1.rawCell 6; have i0 := h.p2.rawCell 0; have i1 := h.p2.rawCell 1; simp at c0 d0 c1 d1 c2 d2 c3 d3 c4 d4 c5 d5 c6 d6 i0 i1; replace H := Lib.hid h; clear h)
    | (go_at_call 15; (with_reducible refine (val_encode_badS p1 e1 t1 s1 u1 st1 l1 q1 cap1 tl1 HT1.out _ HE1.out HE01.out HF1.out HK1.out H.out).mono ?_); rintro e_ wn ⟨rfl, h⟩; have c0 := h.rawCell 0; have c1 := h.rawCell 1; have c2 := h.rawCell 2; have c3 := h.rawCell 3; have c4 := h.rawCell 4; have c5 := h.rawCell 5; have c6 := h.rawCell 6; have d0 := h.p1.rawCell 0; have d1 := h.p1.rawCell 1; have d2 := h.p1.rawCell 2; have d3 := h.p1.rawCell 3; have d4 := h.p1.rawCell 4; have d5 := h.p1.rawCell 5; have d6 := h.p1.rawCell 6; have i0 := h.p2.rawCell 0; have i1 := h.p2.rawCell 1; simp at c0 d0 c1 d1 c2 d2 c3 d3 c4 d4 c5 d5 c6 d6 i0 i1; replace H := Lib.hid h; clear h)
    | (go_at_call 15; (with_reducible refine (val_encode_okS p2 e2 t2 s2 u2 st2 l2 q2 cap2 tl2 HT2.out S2 HS2.out HE2.out HRR2.out HF2.out HK2.out H.out).mono ?_); rintro e_ wn ⟨rfl, h⟩; have c0 := h.rawCell 0; have c1 := h.rawCell 1; have c2 := h.rawCell 2; have c3 := h.rawCell 3; have c4 := h.rawCell 4; have c5 := h.rawCell 5; have c6 := h.rawCell 6; have d0 := h.p1.rawCell 0; have d1 := h.p1.rawCell 1; have d2 := h.p1.rawCell 2; have d3 := h.p1.rawCell 3; have d4 := h.p1.rawCell 4; have d5 := h.p1.rawCell 5; have d6 := h.p1.rawCell 6; have i0 := h.p2.rawCell 0; have i1 := h.p2.rawCell 1; simp at c0 d0 c1 d1 c2 d2 c3 d3 c4 d4 c5 d5 c6 d6 i0 i1; replace H := Lib.hid h; clear h))
  go_ret
  exact ⟨rfl, H.out.below⟩

set_option maxHeartbeats 4000000 in
set_option maxRecDepth 100000 in
theorem we_bb_bb (x0 x1 : Bs) (hx0 : (x0.length : Int) ≤ 500) (hx1 : (x1.length : Int) ≤ 500) (p1 e1 t1 s1 u1 st1 : Int) (l1 : List (TopS × Value)) (q1 : Option Addr) (cap1 : Nat) (tl1 : List TopS) (ht1 : l1.map (·.1) = tl1) (hfi1 : FewI l1) (p2 e2 t2 s2 u2 st2 : Int) (l2 : List (TopS × Value)) (q2 : Option Addr) (cap2 : Nat) (tl2 : List TopS) (ht2 : l2.map (·.1) = tl2) (hfi2 : FewI l2) (hw1 : few (l1.map (·.1)) = 1) (hw2 : few (l2.map (·.1)) = 1) (k0 k1 : Bs) (f0 f1 : Int) (hke0 : keyEnc x0 = (k0, f0)) (hke1 : keyEnc x1 = (k1, f1)) (hf0 : f0 ≠ 0) (hf1 : f1 ≠ 0) (E1 : Int) (he1 : ValS.err ⟨p1, e1, t1, s1, tl1, u1, st1⟩ = E1) (h01 : E1 ≠ 0) (E2 : Int) (he2 : ValS.err ⟨p2, e2, t2, s2, tl2, u2, st2⟩ = E2) (h02 : E2 ≠ 0) {W0 w : World} {K : Know} {L : List Res} (hk1 : K.has (Know.tops (.slice q1 l1.length cap1) l1)) (hk2 : K.has (Know.tops (.slice q2 l2.length cap2) l2)) (h : St W0 w K L) :
    Calls Try.prog 6 #[.agg #[.string (bb x0), .string (bb x1)], .agg #[.int .i64 p1, .int .i64 e1, .int .i64 t1, .int .i64 s1, .slice q1 l1.length cap1, .int .i64 u1, .int .i64 st1], .agg #[.int .i64 p2, .int .i64 e2, .int .i64 t2, .int .i64 s2, .slice q2 l2.length cap2, .int .i64 u2, .int .i64 st2]] w fun en w' => en = .returned (.bool true) ∧ Below W0.heap.size W0 w' := by
  have h := ((h.allocRaw #[.string (bb x0), .string (bb x1)] 60).allocRaw #[.int .i64 p1, .int .i64 e1, .int .i64 t1, .int .i64 s1, .slice q1 l1.length cap1, .int .i64 u1, .int .i64 st1] 24).allocRaw #[.int .i64 p2, .int .i64 e2, .int .i64 t2, .int .i64 s2, .slice q2 l2.length cap2, .int .i64 u2, .int .i64 st2] 24
  rw [World.size_alloc, World.size_alloc] at h
  have H := Lib.hid h
  have tok : True := trivial
  have HT1 := Lib.hid ht1
  have HK1 := Lib.hid hk1
  have HNL1 := Lib.hid hfi1.1
  have HNB1 := Lib.hid (show ∀ x ∈ l1, x.1.name.length ≤ 140737488351232 ∧ x.1.parts.length ≤ 17592186043904 from fun x hx => ⟨(hfi1.2 x hx).1, (hfi1.2 x hx).2.1⟩)
  have HT2 := Lib.hid ht2
  have HK2 := Lib.hid hk2
  have HNL2 := Lib.hid hfi2.1
  have HNB2 := Lib.hid (show ∀ x ∈ l2, x.1.name.length ≤ 140737488351232 ∧ x.1.parts.length ≤ 17592186043904 from fun x hx => ⟨(hfi2.2 x hx).1, (hfi2.2 x hx).2.1⟩)
  have HFW1 := Lib.hid hw1
  have HFW2 := Lib.hid hw2
  have HF1 := Lib.hid (few_T (few_one hw1))
  have HF2 := Lib.hid (few_T (few_one hw2))
  have HLT1 := Lib.hid (lenT_of HF1.out)
  have HLT2 := Lib.hid (lenT_of HF2.out)
  have HX0 := Lib.hid (show x0.length ≤ 40000 by omega)
  have HX1 := Lib.hid (show x1.length ≤ 40000 by omega)
  have HKE0 := Lib.hid hke0
  have HKE1 := Lib.hid hke1
  have gf01 : (f0 == 0) = false := by rw [beq_eq_false_iff_ne]; assumption
  have gf02 : (f0 != 0) = true := by simp [bne, gf01]
  have gf11 : (f1 == 0) = false := by rw [beq_eq_false_iff_ne]; assumption
  have gf12 : (f1 != 0) = true := by simp [bne, gf11]
  have gx0 : decide (500 < (x0.length : Int)) = false := decide_eq_false (by omega)
  have gx1 : decide (500 < (x1.length : Int)) = false := decide_eq_false (by omega)
  have HE1 := Lib.hid he1
  have HE01 := Lib.hid h01
  have ge11 : (E1 == 0) = false := by rw [beq_eq_false_iff_ne]; assumption
  have ge12 : (E1 != 0) = true := by simp [bne, ge11]
  have HE2 := Lib.hid he2
  have HE02 := Lib.hid h02
  have ge21 : (E2 == 0) = false := by rw [beq_eq_false_iff_ne]; assumption
  have ge22 : (E2 != 0) = true := by simp [bne, ge21]
  clear h hk1 hk2 ht1 ht2 hfi1 hfi2 hw1 hw2 hke0 hke1 hf0 hf1 he1 h01 he2 h02
  go_enter Try.func6, Try.ntmps6
  go_wp2_with (first
    | (go_at_call 35; have _t := tok; clear _t; refine (key_encode' [97] [0, 0, 0, 1, 97] 0 (by decide) (by decide +kernel) H.out).mono ?_; rintro e_ wn ⟨rfl, h⟩; have c0 := h.rawCell 0; have c1 := h.rawCell 1; have c2 := h.rawCell 2; have c3 := h.rawCell 3; have c4 := h.rawCell 4; have c5 := h.rawCell 5; have c6 := h.rawCell 6; have d0 := h.p1.rawCell 0; have d1 := h.p1.rawCell 1; have d2 := h.p1.rawCell 2; have d3 := h.p1.rawCell 3; have d4 := h.p1.rawCell 4; have d5 := h.p1.rawCell 5; have d6 := h.p1.rawCell 6; have i0 := h.p2.rawCell 0; have i1 := h.p2.rawCell 1; simp at c0 d0 c1 d1 c2 d2 c3 d3 c4 d4 c5 d5 c6 d6 i0 i1; replace H := Lib.hid h; clear h; clear tok)
    | (go_at_call 14; (with_reducible refine (law14_few l1 q1 cap1 HNL1.out HNB1.out 1 HFW1.out HK1.out H.out).mono ?_); rintro e_ wn ⟨rfl, h⟩; have c0 := h.rawCell 0; have c1 := h.rawCell 1; have c2 := h.rawCell 2; have c3 := h.rawCell 3; have c4 := h.rawCell 4; have c5 := h.rawCell 5; have c6 := h.rawCell 6; have d0 := h.p1.rawCell 0; have d1 := h.p1.rawCell 1; have d2 := h.p1.rawCell 2; have d3 := h.p1.rawCell 3; have d4 := h.p1.rawCell 4; have d5 := h.p1.rawCell 5; have d6 := h.p1.rawCell 6; have i0 := h.p2.rawCell 0; have i1 := h.p2.rawCell 1; simp at c0 d0 c1 d1 c2 d2 c3 d3 c4 d4 c5 d5 c6 d6 i0 i1; replace H := Lib.hid h; clear h)
    | (go_at_call 14; (with_reducible refine (law14_few l2 q2 cap2 HNL2.out HNB2.out 1 HFW2.out HK2.out H.out).mono ?_); rintro e_ wn ⟨rfl, h⟩; have c0 := h.rawCell 0; have c1 := h.rawCell 1; have c2 := h.rawCell 2; have c3 := h.rawCell 3; have c4 := h.rawCell 4; have c5 := h.rawCell 5; have c6 := h.rawCell 6; have d0 := h.p1.rawCell 0; have d1 := h.p1.rawCell 1; have d2 := h.p1.rawCell 2; have d3 := h.p1.rawCell 3; have d4 := h.p1.rawCell 4; have d5 := h.p1.rawCell 5; have d6 := h.p1.rawCell 6; have i0 := h.p2.rawCell 0; have i1 := h.p2.rawCell 1; simp at c0 d0 c1 d1 c2 d2 c3 d3 c4 d4 c5 d5 c6 d6 i0 i1; replace H := Lib.hid h; clear h)
    | (go_at_call 35; (with_reducible refine (key_encode' x0 k0 f0 HX0.out HKE0.out H.out).mono ?_); rintro e_ wn ⟨rfl, h⟩; have c0 := h.rawCell 0; have c1 := h.rawCell 1; have c2 := h.rawCell 2; have c3 := h.rawCell 3; have c4 := h.rawCell 4; have c5 := h.rawCell 5; have c6 := h.rawCell 6; have d0 := h.p1.rawCell 0; have d1 := h.p1.rawCell 1; have d2 := h.p1.rawCell 2; have d3 := h.p1.rawCell 3; have d4 := h.p1.rawCell 4; have d5 := h.p1.rawCell 5; have d6 := h.p1.rawCell 6; have i0 := h.p2.rawCell 0; have i1 := h.p2.rawCell 1; simp at c0 d0 c1 d1 c2 d2 c3 d3 c4 d4 c5 d5 c6 d6 i0 i1; replace H := Lib.hid h; clear h)
    | (go_at_call 35; (with_reducible refine (key_encode' x1 k1 f1 HX1.out HKE1.out H.out).mono ?_); rintro e_ wn ⟨rfl, h⟩; have c0 := h.rawCell 0; have c1 := h.rawCell 1; have c2 := h.rawCell 2; have c3 := h.rawCell 3; have c4 := h.rawCell 4; have c5 := h.rawCell 5; have c6 := h.rawCell 6; have d0 := h.p1.rawCell 0; have d1 := h.p1.rawCell 1; have d2 := h.p1.rawCell 2; have d3 := h.p1.rawCell 3; have d4 := h.p1.rawCell 4; have d5 := h.p1.rawCell 5; have d6 := h.p1.rawCell 6; have i0 := h.p2.rawCell 0; have i1 := h.p2.rawCell 1; simp at c0 d0 c1 d1 c2 d2 c3 d3 c4 d4 c5 d5 c6 d6 i0 i1; replace H := Lib.hid h; clear h)
    | (go_at_call 15; (with_reducible refine (val_encode_badS p1 e1 t1 s1 u1 st1 l1 q1 cap1 tl1 HT1.out _ HE1.out HE01.out HF1.out HK1.out H.out).mono ?_); rintro e_ wn ⟨rfl, h⟩; have c0 := h.rawCell 0; have c1 := h.rawCell 1; have c2 := h.rawCell 2; have c3 := h.rawCell 3; have c4 := h.rawCell 4; have c5 := h.rawCell 5; have c6 := h.rawCell 6; have d0 := h.p1.rawCell 0; have d1 := h.p1.rawCell 1; have d2 := h.p1.rawCell 2; have d3 := h.p1.rawCell 3; have d4 := h.p1.rawCell 4; have d5 := h.p1.rawCell 5; have d6 := h.p1.rawCell 6; have i0 := h.p2.rawCell 0; have i1 := h.p2.rawCell 1; simp at c0 d0 c1 d1 c2 d2 c3 d3 c4 d4 c5 d5 c6 d6 i0 i1; replace H := Lib.hid h; clear h)
    | (go_at_call 15; (with_reducible refine (val_encode_badS p2 e2 t2 s2 u2 st2 l2 q2 cap2 tl2 HT2.out _ HE2.out HE02.out HF2.out HK2.out H.out).mono ?_); rintro e_ wn ⟨rfl, h⟩; have c0 := h.rawCell 0; have c1 := h.rawCell 1; have c2 := h.rawCell 2; have c3 := h.rawCell 3; have c4 := h.rawCell 4; have c5 := h.rawCell 5; have c6 := h.rawCell 6; have d0 := h.p1.rawCell 0; have d1 := h.p1.rawCell 1; have d2 := h.p1.rawCell 2; have d3 := h.p1.rawCell 3; have d4 := h.p1.rawCell 4; have d5 := h.p1.rawCell 5; have d6 := h.p1.rawCell 6; have i0 := h.p2.rawCell 0; have i1 := h.p2.rawCell 1; simp at c0 d0 c1 d1 c2 d2 c3 d3 c4 d4 c5 d5 c6 d6 i0 i1; replace H := Lib.hid h; clear h))
  go_ret
  exact ⟨rfl, H.out.below⟩

end Go.Proofs.Ytombolmicfjjpaa

/- Layer 13, walked: KeyEncodes. -/
namespace Go.Proofs.Ytombolmicfjjpaa
open Go.RowKit

theorem key_right' (s : Bs) (r : Bool) (hs : s.length ≤ 140737488355328) (hr : keyRight s = r) {W0 w : World} {K : Know} {L : List Res} (h : St W0 w K L) :
    Calls Try.prog 89 #[.string (bb s)] w fun en w' => en = .returned (.bool r) ∧ St W0 w' K L := hr ▸ key_right s hs h
theorem keyRight_iff (s : Bs) : keyRight s = true ↔ 1 ≤ s.length ∧ s.length ≤ 32767 := by
  unfold keyRight
  cases s <;> simp
end Go.Proofs.Ytombolmicfjjpaa

/- WholeEntries, all ways. -/
namespace Go.Proofs.Ytombolmicfjjpaa
open Go.RowKit

theorem St.two {W : World} {A B : Know} (ha : St W W A []) (hb : St W W B []) : St W W (A.and B) [] := by
  obtain ⟨F, a, fa⟩ := ha.get
  obtain ⟨G, b, gb⟩ := hb.get
  exact St.start ⟨A.mono _ _ _ a fa, B.mono _ _ _ b gb⟩
theorem key_way (x : Bs) (h : (x.length : Int) ≤ 500) : (∃ k, keyEnc x = (k, 0) ∧ keyRd k = (x, 0) ∧ k.length ≤ 40100) ∨ ∃ k f, keyEnc x = (k, f) ∧ f ≠ 0 := by
  by_cases hr : keyRight x = true
  · exact .inl ⟨keyBytes x, by unfold keyEnc; rw [if_pos hr], keyRd_back x hr, by unfold keyBytes; simp only [List.length_append, beBytes_length]; omega⟩
  · exact .inr ⟨[], 4, by unfold keyEnc; rw [if_neg hr], by decide⟩
theorem key_pair (x0 x1 : Bs) (h0 : (x0.length : Int) ≤ 500) (h1 : (x1.length : Int) ≤ 500) :
    (∃ k0 k1, keyEnc x0 = (k0, 0) ∧ keyEnc x1 = (k1, 0) ∧ (k0 == k1) = true ∧ (x0 == x1) = true ∧ keyRd k0 = (x0, 0) ∧ k0.length ≤ 40100) ∨ (∃ k0 k1, keyEnc x0 = (k0, 0) ∧ keyEnc x1 = (k1, 0) ∧ (k0 == k1) = false ∧ (x0 == x1) = false ∧ keyRd k0 = (x0, 0) ∧ k0.length ≤ 40100) ∨ (∃ k0 k1 f1, keyEnc x0 = (k0, 0) ∧ keyEnc x1 = (k1, f1) ∧ f1 ≠ 0 ∧ keyRd k0 = (x0, 0) ∧ k0.length ≤ 40100) ∨ (∃ k0 k1 f0, keyEnc x0 = (k0, f0) ∧ keyEnc x1 = (k1, 0) ∧ f0 ≠ 0) ∨ (∃ k0 k1 f0 f1, keyEnc x0 = (k0, f0) ∧ keyEnc x1 = (k1, f1) ∧ f0 ≠ 0 ∧ f1 ≠ 0) := by
  rcases key_way x0 h0 with ⟨k0, a0, b0, c0⟩ | ⟨k0, f0, a0, b0⟩ <;> rcases key_way x1 h1 with ⟨k1, a1, b1, _⟩ | ⟨k1, f1, a1, b1⟩
  · by_cases hx : x0 = x1
    · subst hx
      rw [a0] at a1
      cases a1
      exact .inl ⟨k0, k0, a0, a0, beq_self_eq_true _, beq_self_eq_true _, b0, c0⟩
    · refine .inr (.inl ⟨k0, k1, a0, a1, ?_, ?_, b0, c0⟩)
      · rw [beq_eq_false_iff_ne]
        intro hk
        subst hk
        rw [b0] at b1
        cases b1
        exact hx rfl
      · rw [beq_eq_false_iff_ne]
        exact hx
  · exact .inr (.inr (.inl ⟨k0, k1, f1, a0, a1, b1, b0, c0⟩))
  · exact .inr (.inr (.inr (.inl ⟨k0, k1, f0, a0, a1, b0⟩)))
  · exact .inr (.inr (.inr (.inr ⟨k0, k1, f0, f1, a0, a1, b0, b1⟩)))
theorem val_fit (v : ValS) (l : List (TopS × Value)) (hl : l.map (·.1) = v.tops) (hw : topWs v.tops ≤ 1000) (he : v.err = 0) (hR : v.R) : valDec v.enc = (v, 0) ∧ v.enc.length ≤ 1000000 := by
  have hp := v.ok_parts he
  have hF := few_T (show topWs (l.map (·.1)) ≤ 1000 by rw [hl]; exact hw)
  have hfit : FitTs v.tops := by rw [← hl]; exact fit_of_rise l hF (by rw [hl]; exact hp.2.2.2.2)
  exact ⟨valDec_back _ he hR hfit, by rw [enc_lenV]; omega⟩
theorem val_pair (v1 v2 : ValS) (l1 l2 : List (TopS × Value)) (hl1 : l1.map (·.1) = v1.tops) (hl2 : l2.map (·.1) = v2.tops) (hw1 : topWs v1.tops ≤ 1000) (hw2 : topWs v2.tops ≤ 1000) (hR1 : v1.R) (hR2 : v2.R) :
    (∃ S1, v1.enc = S1 ∧ v1.err = 0 ∧ ∃ S2, v2.enc = S2 ∧ v2.err = 0 ∧ (S1 == S2) = true ∧ decide (v1 = v2) = true ∧ S1.length ≤ 1000000 ∧ valDec S1 = (v1, 0)) ∨ (∃ S1, v1.enc = S1 ∧ v1.err = 0 ∧ ∃ S2, v2.enc = S2 ∧ v2.err = 0 ∧ (S1 == S2) = false ∧ decide (v1 = v2) = false ∧ S1.length ≤ 1000000 ∧ valDec S1 = (v1, 0)) ∨ (∃ S1, v1.enc = S1 ∧ v1.err = 0 ∧ ∃ E2, v2.err = E2 ∧ E2 ≠ 0 ∧ S1.length ≤ 1000000 ∧ valDec S1 = (v1, 0)) ∨ (∃ E1, v1.err = E1 ∧ E1 ≠ 0 ∧ ∃ S2, v2.enc = S2 ∧ v2.err = 0) ∨ (∃ E1, v1.err = E1 ∧ E1 ≠ 0 ∧ ∃ E2, v2.err = E2 ∧ E2 ≠ 0) := by
  by_cases he1 : v1.err = 0 <;> by_cases he2 : v2.err = 0
  · obtain ⟨d1, c1⟩ := val_fit v1 l1 hl1 hw1 he1 hR1
    obtain ⟨d2, c2⟩ := val_fit v2 l2 hl2 hw2 he2 hR2
    by_cases hv : v1 = v2
    · subst hv
      exact .inl ⟨_, rfl, he1, _, rfl, he1, beq_self_eq_true _, decide_eq_true rfl, c1, d1⟩
    · refine .inr (.inl ⟨_, rfl, he1, _, rfl, he2, ?_, decide_eq_false hv, c1, d1⟩)
      rw [beq_eq_false_iff_ne]
      intro hk
      rw [hk, d2] at d1
      cases d1
      exact hv rfl
  · obtain ⟨d1, c1⟩ := val_fit v1 l1 hl1 hw1 he1 hR1
    exact .inr (.inr (.inl ⟨_, rfl, he1, _, rfl, he2, c1, d1⟩))
  · exact .inr (.inr (.inr (.inl ⟨_, rfl, he1, _, rfl, he2⟩)))
  · exact .inr (.inr (.inr (.inr ⟨_, rfl, he1, _, rfl, he2⟩)))

theorem wholeEntries_any (x0 x1 : Bs) (p1 e1 t1 s1 u1 st1 : Int) (l1 : List (TopS × Value)) (q1 : Option Addr) (cap1 : Nat) (hR1 : ValS.R ⟨p1, e1, t1, s1, l1.map (·.1), u1, st1⟩) (hfi1 : FewI l1) (p2 e2 t2 s2 u2 st2 : Int) (l2 : List (TopS × Value)) (q2 : Option Addr) (cap2 : Nat) (hR2 : ValS.R ⟨p2, e2, t2, s2, l2.map (·.1), u2, st2⟩) (hfi2 : FewI l2) {W0 w : World} {K : Know} (hk1 : K.has (Know.tops (.slice q1 l1.length cap1) l1)) (hk2 : K.has (Know.tops (.slice q2 l2.length cap2) l2)) (h : St W0 w K []) :
    Calls Try.prog 6 #[.agg #[.string (bb x0), .string (bb x1)], .agg #[.int .i64 p1, .int .i64 e1, .int .i64 t1, .int .i64 s1, .slice q1 l1.length cap1, .int .i64 u1, .int .i64 st1], .agg #[.int .i64 p2, .int .i64 e2, .int .i64 t2, .int .i64 s2, .slice q2 l2.length cap2, .int .i64 u2, .int .i64 st2]] w fun en w' => en = .returned (.bool true) ∧ Below W0.heap.size W0 w' := by
  obtain ⟨tl1, ht1⟩ : ∃ tl, l1.map (·.1) = tl := ⟨_, rfl⟩
  obtain ⟨tl2, ht2⟩ : ∃ tl, l2.map (·.1) = tl := ⟨_, rfl⟩
  rw [ht1] at hR1
  rw [ht2] at hR2
  by_cases hx0 : (x0.length : Int) ≤ 500
  rotate_left
  · exact we_x0 x0 x1 (by omega) p1 e1 t1 s1 u1 st1 l1 q1 cap1 tl1 ht1 hfi1 p2 e2 t2 s2 u2 st2 l2 q2 cap2 tl2 ht2 hfi2 hk1 hk2 h
  by_cases hx1 : (x1.length : Int) ≤ 500
  rotate_left
  · exact we_x1 x0 x1 hx0 (by omega) p1 e1 t1 s1 u1 st1 l1 q1 cap1 tl1 ht1 hfi1 p2 e2 t2 s2 u2 st2 l2 q2 cap2 tl2 ht2 hfi2 hk1 hk2 h
  by_cases hv1 : topWs (l1.map (·.1)) ≤ 1000
  rotate_left
  · exact we_f1 x0 x1 hx0 hx1 p1 e1 t1 s1 u1 st1 l1 q1 cap1 tl1 ht1 hfi1 p2 e2 t2 s2 u2 st2 l2 q2 cap2 tl2 ht2 hfi2 (by unfold few; rw [if_neg hv1]) hk1 hk2 h
  have hw1 : few (l1.map (·.1)) = 1 := by unfold few; rw [if_pos hv1]
  by_cases hv2 : topWs (l2.map (·.1)) ≤ 1000
  rotate_left
  · exact we_f2 x0 x1 hx0 hx1 p1 e1 t1 s1 u1 st1 l1 q1 cap1 tl1 ht1 hfi1 p2 e2 t2 s2 u2 st2 l2 q2 cap2 tl2 ht2 hfi2 hw1 (by unfold few; rw [if_neg hv2]) hk1 hk2 h
  have hw2 : few (l2.map (·.1)) = 1 := by unfold few; rw [if_pos hv2]
  rw [ht1] at hv1
  rw [ht2] at hv2
  have hkp := key_pair x0 x1 hx0 hx1
  have hvp := val_pair ⟨p1, e1, t1, s1, tl1, u1, st1⟩ ⟨p2, e2, t2, s2, tl2, u2, st2⟩ l1 l2 ht1 ht2 hv1 hv2 hR1 hR2
  rcases hkp with ⟨k0, k1, hke0, hke1, hkk, hxx, hkd, hkl⟩ | ⟨k0, k1, hke0, hke1, hkk, hxx, hkd, hkl⟩ | ⟨k0, k1, f1, hke0, hke1, hf1, hkd, hkl⟩ | ⟨k0, k1, f0, hke0, hke1, hf0⟩ | ⟨k0, k1, f0, f1, hke0, hke1, hf0, hf1⟩
  · rcases hvp with ⟨S1, hS1, he1, S2, hS2, he2, hss, hd, hsl, hvd⟩ | ⟨S1, hS1, he1, S2, hS2, he2, hss, hd, hsl, hvd⟩ | ⟨S1, hS1, he1, E2, he2, h02, hsl, hvd⟩ | ⟨E1, he1, h01, S2, hS2, he2⟩ | ⟨E1, he1, h01, E2, he2, h02⟩
    · exact we_qt_qt x0 x1 hx0 hx1 p1 e1 t1 s1 u1 st1 l1 q1 cap1 tl1 ht1 hfi1 p2 e2 t2 s2 u2 st2 l2 q2 cap2 tl2 ht2 hfi2 hw1 hw2 k0 k1 hke0 hke1 hkk hxx hkd hkl S1 hS1 he1 hR1 S2 hS2 he2 hR2 hss hd hsl hvd hk1 hk2 h
    · exact we_qt_qf x0 x1 hx0 hx1 p1 e1 t1 s1 u1 st1 l1 q1 cap1 tl1 ht1 hfi1 p2 e2 t2 s2 u2 st2 l2 q2 cap2 tl2 ht2 hfi2 hw1 hw2 k0 k1 hke0 hke1 hkk hxx hkd hkl S1 hS1 he1 hR1 S2 hS2 he2 hR2 hss hd hsl hvd hk1 hk2 h
    · exact we_qt_ob x0 x1 hx0 hx1 p1 e1 t1 s1 u1 st1 l1 q1 cap1 tl1 ht1 hfi1 p2 e2 t2 s2 u2 st2 l2 q2 cap2 tl2 ht2 hfi2 hw1 hw2 k0 k1 hke0 hke1 hkk hxx hkd hkl S1 hS1 he1 hR1 E2 he2 h02 hsl hvd hk1 hk2 h
    · exact we_qt_bo x0 x1 hx0 hx1 p1 e1 t1 s1 u1 st1 l1 q1 cap1 tl1 ht1 hfi1 p2 e2 t2 s2 u2 st2 l2 q2 cap2 tl2 ht2 hfi2 hw1 hw2 k0 k1 hke0 hke1 hkk hxx hkd hkl E1 he1 h01 S2 hS2 he2 hR2 hk1 hk2 h
    · exact we_qt_bb x0 x1 hx0 hx1 p1 e1 t1 s1 u1 st1 l1 q1 cap1 tl1 ht1 hfi1 p2 e2 t2 s2 u2 st2 l2 q2 cap2 tl2 ht2 hfi2 hw1 hw2 k0 k1 hke0 hke1 hkk hxx hkd hkl E1 he1 h01 E2 he2 h02 hk1 hk2 h
  · rcases hvp with ⟨S1, hS1, he1, S2, hS2, he2, hss, hd, hsl, hvd⟩ | ⟨S1, hS1, he1, S2, hS2, he2, hss, hd, hsl, hvd⟩ | ⟨S1, hS1, he1, E2, he2, h02, hsl, hvd⟩ | ⟨E1, he1, h01, S2, hS2, he2⟩ | ⟨E1, he1, h01, E2, he2, h02⟩
    · exact we_qf_qt x0 x1 hx0 hx1 p1 e1 t1 s1 u1 st1 l1 q1 cap1 tl1 ht1 hfi1 p2 e2 t2 s2 u2 st2 l2 q2 cap2 tl2 ht2 hfi2 hw1 hw2 k0 k1 hke0 hke1 hkk hxx hkd hkl S1 hS1 he1 hR1 S2 hS2 he2 hR2 hss hd hsl hvd hk1 hk2 h
    · exact we_qf_qf x0 x1 hx0 hx1 p1 e1 t1 s1 u1 st1 l1 q1 cap1 tl1 ht1 hfi1 p2 e2 t2 s2 u2 st2 l2 q2 cap2 tl2 ht2 hfi2 hw1 hw2 k0 k1 hke0 hke1 hkk hxx hkd hkl S1 hS1 he1 hR1 S2 hS2 he2 hR2 hss hd hsl hvd hk1 hk2 h
    · exact we_qf_ob x0 x1 hx0 hx1 p1 e1 t1 s1 u1 st1 l1 q1 cap1 tl1 ht1 hfi1 p2 e2 t2 s2 u2 st2 l2 q2 cap2 tl2 ht2 hfi2 hw1 hw2 k0 k1 hke0 hke1 hkk hxx hkd hkl S1 hS1 he1 hR1 E2 he2 h02 hsl hvd hk1 hk2 h
    · exact we_qf_bo x0 x1 hx0 hx1 p1 e1 t1 s1 u1 st1 l1 q1 cap1 tl1 ht1 hfi1 p2 e2 t2 s2 u2 st2 l2 q2 cap2 tl2 ht2 hfi2 hw1 hw2 k0 k1 hke0 hke1 hkk hxx hkd hkl E1 he1 h01 S2 hS2 he2 hR2 hk1 hk2 h
    · exact we_qf_bb x0 x1 hx0 hx1 p1 e1 t1 s1 u1 st1 l1 q1 cap1 tl1 ht1 hfi1 p2 e2 t2 s2 u2 st2 l2 q2 cap2 tl2 ht2 hfi2 hw1 hw2 k0 k1 hke0 hke1 hkk hxx hkd hkl E1 he1 h01 E2 he2 h02 hk1 hk2 h
  · rcases hvp with ⟨S1, hS1, he1, S2, hS2, he2, hss, hd, hsl, hvd⟩ | ⟨S1, hS1, he1, S2, hS2, he2, hss, hd, hsl, hvd⟩ | ⟨S1, hS1, he1, E2, he2, h02, hsl, hvd⟩ | ⟨E1, he1, h01, S2, hS2, he2⟩ | ⟨E1, he1, h01, E2, he2, h02⟩
    · exact we_ob_qt x0 x1 hx0 hx1 p1 e1 t1 s1 u1 st1 l1 q1 cap1 tl1 ht1 hfi1 p2 e2 t2 s2 u2 st2 l2 q2 cap2 tl2 ht2 hfi2 hw1 hw2 k0 k1 f1 hke0 hke1 hf1 hkd hkl S1 hS1 he1 hR1 S2 hS2 he2 hR2 hss hd hsl hvd hk1 hk2 h
    · exact we_ob_qf x0 x1 hx0 hx1 p1 e1 t1 s1 u1 st1 l1 q1 cap1 tl1 ht1 hfi1 p2 e2 t2 s2 u2 st2 l2 q2 cap2 tl2 ht2 hfi2 hw1 hw2 k0 k1 f1 hke0 hke1 hf1 hkd hkl S1 hS1 he1 hR1 S2 hS2 he2 hR2 hss hd hsl hvd hk1 hk2 h
    · exact we_ob_ob x0 x1 hx0 hx1 p1 e1 t1 s1 u1 st1 l1 q1 cap1 tl1 ht1 hfi1 p2 e2 t2 s2 u2 st2 l2 q2 cap2 tl2 ht2 hfi2 hw1 hw2 k0 k1 f1 hke0 hke1 hf1 hkd hkl S1 hS1 he1 hR1 E2 he2 h02 hsl hvd hk1 hk2 h
    · exact we_ob_bo x0 x1 hx0 hx1 p1 e1 t1 s1 u1 st1 l1 q1 cap1 tl1 ht1 hfi1 p2 e2 t2 s2 u2 st2 l2 q2 cap2 tl2 ht2 hfi2 hw1 hw2 k0 k1 f1 hke0 hke1 hf1 hkd hkl E1 he1 h01 S2 hS2 he2 hR2 hk1 hk2 h
    · exact we_ob_bb x0 x1 hx0 hx1 p1 e1 t1 s1 u1 st1 l1 q1 cap1 tl1 ht1 hfi1 p2 e2 t2 s2 u2 st2 l2 q2 cap2 tl2 ht2 hfi2 hw1 hw2 k0 k1 f1 hke0 hke1 hf1 hkd hkl E1 he1 h01 E2 he2 h02 hk1 hk2 h
  · rcases hvp with ⟨S1, hS1, he1, S2, hS2, he2, hss, hd, hsl, hvd⟩ | ⟨S1, hS1, he1, S2, hS2, he2, hss, hd, hsl, hvd⟩ | ⟨S1, hS1, he1, E2, he2, h02, hsl, hvd⟩ | ⟨E1, he1, h01, S2, hS2, he2⟩ | ⟨E1, he1, h01, E2, he2, h02⟩
    · exact we_bo_qt x0 x1 hx0 hx1 p1 e1 t1 s1 u1 st1 l1 q1 cap1 tl1 ht1 hfi1 p2 e2 t2 s2 u2 st2 l2 q2 cap2 tl2 ht2 hfi2 hw1 hw2 k0 k1 f0 hke0 hke1 hf0 S1 hS1 he1 hR1 S2 hS2 he2 hR2 hss hd hsl hvd hk1 hk2 h
    · exact we_bo_qf x0 x1 hx0 hx1 p1 e1 t1 s1 u1 st1 l1 q1 cap1 tl1 ht1 hfi1 p2 e2 t2 s2 u2 st2 l2 q2 cap2 tl2 ht2 hfi2 hw1 hw2 k0 k1 f0 hke0 hke1 hf0 S1 hS1 he1 hR1 S2 hS2 he2 hR2 hss hd hsl hvd hk1 hk2 h
    · exact we_bo_ob x0 x1 hx0 hx1 p1 e1 t1 s1 u1 st1 l1 q1 cap1 tl1 ht1 hfi1 p2 e2 t2 s2 u2 st2 l2 q2 cap2 tl2 ht2 hfi2 hw1 hw2 k0 k1 f0 hke0 hke1 hf0 S1 hS1 he1 hR1 E2 he2 h02 hsl hvd hk1 hk2 h
    · exact we_bo_bo x0 x1 hx0 hx1 p1 e1 t1 s1 u1 st1 l1 q1 cap1 tl1 ht1 hfi1 p2 e2 t2 s2 u2 st2 l2 q2 cap2 tl2 ht2 hfi2 hw1 hw2 k0 k1 f0 hke0 hke1 hf0 E1 he1 h01 S2 hS2 he2 hR2 hk1 hk2 h
    · exact we_bo_bb x0 x1 hx0 hx1 p1 e1 t1 s1 u1 st1 l1 q1 cap1 tl1 ht1 hfi1 p2 e2 t2 s2 u2 st2 l2 q2 cap2 tl2 ht2 hfi2 hw1 hw2 k0 k1 f0 hke0 hke1 hf0 E1 he1 h01 E2 he2 h02 hk1 hk2 h
  · rcases hvp with ⟨S1, hS1, he1, S2, hS2, he2, hss, hd, hsl, hvd⟩ | ⟨S1, hS1, he1, S2, hS2, he2, hss, hd, hsl, hvd⟩ | ⟨S1, hS1, he1, E2, he2, h02, hsl, hvd⟩ | ⟨E1, he1, h01, S2, hS2, he2⟩ | ⟨E1, he1, h01, E2, he2, h02⟩
    · exact we_bb_qt x0 x1 hx0 hx1 p1 e1 t1 s1 u1 st1 l1 q1 cap1 tl1 ht1 hfi1 p2 e2 t2 s2 u2 st2 l2 q2 cap2 tl2 ht2 hfi2 hw1 hw2 k0 k1 f0 f1 hke0 hke1 hf0 hf1 S1 hS1 he1 hR1 S2 hS2 he2 hR2 hss hd hsl hvd hk1 hk2 h
    · exact we_bb_qf x0 x1 hx0 hx1 p1 e1 t1 s1 u1 st1 l1 q1 cap1 tl1 ht1 hfi1 p2 e2 t2 s2 u2 st2 l2 q2 cap2 tl2 ht2 hfi2 hw1 hw2 k0 k1 f0 f1 hke0 hke1 hf0 hf1 S1 hS1 he1 hR1 S2 hS2 he2 hR2 hss hd hsl hvd hk1 hk2 h
    · exact we_bb_ob x0 x1 hx0 hx1 p1 e1 t1 s1 u1 st1 l1 q1 cap1 tl1 ht1 hfi1 p2 e2 t2 s2 u2 st2 l2 q2 cap2 tl2 ht2 hfi2 hw1 hw2 k0 k1 f0 f1 hke0 hke1 hf0 hf1 S1 hS1 he1 hR1 E2 he2 h02 hsl hvd hk1 hk2 h
    · exact we_bb_bo x0 x1 hx0 hx1 p1 e1 t1 s1 u1 st1 l1 q1 cap1 tl1 ht1 hfi1 p2 e2 t2 s2 u2 st2 l2 q2 cap2 tl2 ht2 hfi2 hw1 hw2 k0 k1 f0 f1 hke0 hke1 hf0 hf1 E1 he1 h01 S2 hS2 he2 hR2 hk1 hk2 h
    · exact we_bb_bb x0 x1 hx0 hx1 p1 e1 t1 s1 u1 st1 l1 q1 cap1 tl1 ht1 hfi1 p2 e2 t2 s2 u2 st2 l2 q2 cap2 tl2 ht2 hfi2 hw1 hw2 k0 k1 f0 f1 hke0 hke1 hf0 hf1 E1 he1 h01 E2 he2 h02 hk1 hk2 h

end Go.Proofs.Ytombolmicfjjpaa

/- Arrays of two numbers, by value. -/
namespace Go.Proofs.Ytombolmicfjjpaa
open Go.Joins Go.ChangeShapes Go.WideShapes Go.RowKit Go.Deep
section
variable {H : Type} {enc : TypeId × Value → H} {P : Program} {w : World} {base : Nat} {spare : Nat → Bool} {held : Bool}
theorem trod_array2' {t e : TypeId} {fuel : Nat} {c0 c1 : Value} {x : DataW H × List MemPlace} (ht : P.underlying t = some (.array 2 e)) (hce : P.cellsOf e = 1)
    (h : DataW.trod enc P w base spare held fuel t [c0, c1] = some x) :
    ∃ y0 y1 n, DataW.trod enc P w base spare held n e [c0] = some y0 ∧ DataW.trod enc P w base spare held n e [c1] = some y1 ∧ x = (.agg [y0.1, y1.1], y0.2 ++ y1.2) := by
  cases fuel with
  | zero => simp [DataW.trod] at h
  | succ n =>
    unfold DataW.trod at h
    rw [ht] at h
    have r2 : List.range 2 = [0, 1] := rfl
    simp [r2, hce] at h
    obtain ⟨_, h⟩ := h
    cases h0 : DataW.trod enc P w base spare held n e [c0] with
    | none => simp [h0] at h
    | some y0 =>
      cases h1 : DataW.trod enc P w base spare held n e [c1] with
      | none => simp [h0, h1] at h
      | some y1 =>
        simp [h0, h1] at h
        exact ⟨y0, y1, n, h0, h1, h.symm⟩
theorem open_ints2 {r : Reach} {b0 : Nat} {t e : TypeId} {v : Value} {d : DataW H} {p : List MemPlace} (ht : P.underlying t = some (.array 2 e)) (he : P.underlying e = some (.int .i64)) (hce : P.cellsOf e = 1) (hC : P.cellsOf t = 2)
    (hv : Value.okWide P w r b0 t v) (h : DataW.Trod enc P w base spare held t v d p) : ∃ x0 x1 : Int, v = .agg #[.int .i64 x0, .int .i64 x1] ∧ (-9223372036854775808 ≤ x0 ∧ x0 < 9223372036854775808) ∧ (-9223372036854775808 ≤ x1 ∧ x1 < 9223372036854775808) := by
  unfold Value.okWide at hv
  rw [ht] at hv
  obtain ⟨cs, rfl, hsz, _⟩ := hv
  obtain ⟨l⟩ := cs
  match l, hsz.trans hC with
  | [c0, c1], _ =>
    obtain ⟨fuel, hf⟩ := h
    obtain ⟨y0, y1, n, h0, h1, _⟩ := trod_array2' ht hce hf
    obtain ⟨x0, e0, _, f0⟩ := DataW.trod_int he h0
    obtain ⟨x1, e1, _, f1⟩ := DataW.trod_int he h1
    simp at e0 e1
    subst e0 e1
    exact ⟨x0, x1, rfl, wf_i64 f0, wf_i64 f1⟩
end
end Go.Proofs.Ytombolmicfjjpaa

/- Arrays of two texts, by value. -/
namespace Go.Proofs.Ytombolmicfjjpaa
open Go.RowKit

open Go.Joins Go.ChangeShapes Go.WideShapes Go.Deep
section
variable {H : Type} {enc : TypeId × Value → H} {P : Program} {w : World} {base : Nat} {spare : Nat → Bool} {held : Bool}
theorem open_strs2 {r : Reach} {b0 : Nat} {t e : TypeId} {v : Value} {d : DataW H} {p : List MemPlace} (ht : P.underlying t = some (.array 2 e)) (he : P.underlying e = some .string) (hce : P.cellsOf e = 1) (hC : P.cellsOf t = 2)
    (hv : Value.okWide P w r b0 t v) (h : DataW.Trod enc P w base spare held t v d p) : ∃ x0 x1 : Bs, v = .agg #[.string (bb x0), .string (bb x1)] ∧ x0.length ≤ 9223372036854775807 ∧ x1.length ≤ 9223372036854775807 := by
  unfold Value.okWide at hv
  rw [ht] at hv
  obtain ⟨cs, rfl, hsz, _⟩ := hv
  obtain ⟨l⟩ := cs
  match l, hsz.trans hC with
  | [c0, c1], _ =>
    obtain ⟨fuel, hf⟩ := h
    obtain ⟨y0, y1, n, h0, h1, _⟩ := trod_array2' ht hce hf
    obtain ⟨x0, e0, _, f0⟩ := DataW.trod_string he h0
    obtain ⟨x1, e1, _, f1⟩ := DataW.trod_string he h1
    simp at e0 e1
    subst e0 e1
    exact ⟨x0.data.toList, x1.data.toList, rfl, f0, f1⟩
end

end Go.Proofs.Ytombolmicfjjpaa

/- The keys of two names are one just if the names are, and the bytes of two values just if these are, and each is read again: proved of all. -/
namespace Go.Proofs.Ytombolmicfjjpaa
open Go.ChangeShapes Go.WideShapes Go.ChangeAt Go.ChangeMaps Go.RowKit

set_option maxRecDepth 100000 in
theorem wholeEntries_lifted (os : Os) (started : os.Started) (H : Type) (enc : TypeId × Value → H) :
    ReturnsInHanded {} Try.checked os 6 .any (Rows.wholeEntriesSpec.pre6 enc Try.prog Try.f6 Rows.wholeEntriesRow.domain false) (Rows.wholeEntriesSpec.post enc Try.prog Try.f6 false true false false) := by
  refine returnsInHanded_of_change_sized (C := Try.checked) Try.own started (by as_aux_lemma => kernel_rfl) Try.func6
    (ChangeSpec.witness6 (enc := enc) (C := Try.checked) false ⟨#[], #[.agg #[.string ⟨#[]⟩, .string ⟨#[]⟩], .agg #[.int .i64 0, .int .i64 0, .int .i64 0, .int .i64 0, .slice none 0 0, .int .i64 0, .int .i64 0], .agg #[.int .i64 0, .int .i64 0, .int .i64 0, .int .i64 0, .slice none 0 0, .int .i64 0, .int .i64 0]], []⟩ 8 (by as_aux_lemma => kernel_rfl) (by as_aux_lemma => kernel_rfl) (by as_aux_lemma => kernel_rfl) (by as_aux_lemma => kernel_rfl)) ?_
  intro W base args ds gs before hval0 hW hcnd hsz0 _
  have hval : ∀ (j : Nat) t v, Try.f6.params[j]? = some t → args[j]? = some v → Value.okWide Try.prog W .any base t v := hval0
  clear hval0
  refine law_contract (n := 3) (tb := 4) rfl rfl rfl Try.underlying4 (by intro ds h; match ds, h with | [d0, d1, d2], _ => rfl) (by as_aux_lemma => kernel_rfl) hW ?_
  intro p hA0 hlt
  have hA : DataW.TrodAll enc Try.prog W 0 (fun _ => true) true Try.f6.params.toList args.toList ds p := hA0
  clear hA0
  rw [Try.params6] at hA hval
  obtain ⟨v0, v1, v2, d0, d1, d2, p0, p1, p2, rfl, rfl, rfl, h0, h1, h2⟩ := trodAll_three hA
  have hsz : (DataW.weightsEach Try.prog (Try.f6.params.toList ++ Rows.wholeEntriesSpec.plain.varTypes Try.prog) ([d0, d1, d2] ++ gs)).all (· ≤ reachBytes) = true := hsz0
  rw [Try.params6] at hsz
  obtain ⟨x0, x1, rfl, _, _⟩ := open_strs2 Try.underlying60 Try.underlying9 (by kernel_rfl) (by kernel_rfl) (hval 0 60 v0 rfl rfl) h0
  have lg1 : Light 24 d1 := light_arg hsz (j := 1) rfl rfl
  obtain ⟨p1, e1, t1, s1, u1, st1, l1, q1, cap1, rfl, hR1, hfi1, hst1⟩ := val_open (hval 1 24 v1 rfl rfl) h1 lg1 (fun y hy => hlt y (by simp [hy]))
  have lg2 : Light 24 d2 := light_arg hsz (j := 2) rfl rfl
  obtain ⟨p2, e2, t2, s2, u2, st2, l2, q2, cap2, rfl, hR2, hfi2, hst2⟩ := val_open (hval 2 24 v2 rfl rfl) h2 lg2 (fun y hy => hlt y (by simp [hy]))
  exact wholeEntries_any x0 x1 p1 e1 t1 s1 u1 st1 l1 q1 cap1 hR1 hfi1 p2 e2 t2 s2 u2 st2 l2 q2 cap2 hR2 hfi2 (Know.has_left (Know.has_refl _)) (Know.has_right (Know.has_refl _)) (St.two hst1 hst2)

theorem wholeEntries_holds : Rows.WholeEntriesSaid :=
  OpenClaim.holds_of_wide 6 Try.f6 rfl rfl rfl rfl rfl rfl rfl ⟨rfl, rfl, rfl, rfl, rfl⟩ rfl rfl rfl rfl rfl (by as_aux_lemma => kernel_rfl) Try.func6 (by as_aux_lemma => kernel_rfl)
    (of_decide_eq_true (by as_aux_lemma => kernel_rfl)) (by as_aux_lemma => (unfold Func.isWrapper; rw [if_neg (by as_aux_lemma => decide +kernel)]; exact ⟨rfl, rfl⟩))
    (fun os started H enc _ => wholeEntries_lifted os started H enc)

end Go.Proofs.Ytombolmicfjjpaa
