/- WholeEntries, ob -/
import Derived.Test.YtombolmicfjjpaaGWholeEntries5
import Derived.Test.YtombolmicfjjpaaGWholeEntries6
import Derived.Test.YtombolmicfjjpaaGWholeEntries7
/- WholeEntries, ob -/
namespace Go.Proofs.Ytombolmicfjjpaa
open Go.RowKit

set_option maxHeartbeats 4000000 in
set_option maxRecDepth 100000 in
theorem we_ob_qt (x0 x1 : Bs) (hx0 : (x0.length : Int) ≤ 500) (hx1 : (x1.length : Int) ≤ 500) (p1 e1 t1 s1 u1 st1 : Int) (l1 : List (TopS × Value)) (q1 : Option Addr) (cap1 : Nat) (tl1 : List TopS) (ht1 : l1.map (·.1) = tl1) (hfi1 : FewI l1) (p2 e2 t2 s2 u2 st2 : Int) (l2 : List (TopS × Value)) (q2 : Option Addr) (cap2 : Nat) (tl2 : List TopS) (ht2 : l2.map (·.1) = tl2) (hfi2 : FewI l2) (hw1 : few (l1.map (·.1)) = 1) (hw2 : few (l2.map (·.1)) = 1) (k0 k1 : Bs) (f1 : Int) (hke0 : keyEnc x0 = (k0, 0)) (hke1 : keyEnc x1 = (k1, f1)) (hf1 : f1 ≠ 0) (hkd : keyRd k0 = (x0, 0)) (hkl : k0.length ≤ 40100) (S1 : Bs) (hS1 : ValS.enc ⟨p1, e1, t1, s1, tl1, u1, st1⟩ = S1) (he1 : ValS.err ⟨p1, e1, t1, s1, tl1, u1, st1⟩ = 0) (hR1 : ValS.R ⟨p1, e1, t1, s1, tl1, u1, st1⟩) (S2 : Bs) (hS2 : ValS.enc ⟨p2, e2, t2, s2, tl2, u2, st2⟩ = S2) (he2 : ValS.err ⟨p2, e2, t2, s2, tl2, u2, st2⟩ = 0) (hR2 : ValS.R ⟨p2, e2, t2, s2, tl2, u2, st2⟩) (hss : (S1 == S2) = true) (hd : decide ((⟨p1, e1, t1, s1, tl1, u1, st1⟩ : ValS) = ⟨p2, e2, t2, s2, tl2, u2, st2⟩) = true) (hsl : S1.length ≤ 1000000) (hvd : valDec S1 = (⟨p1, e1, t1, s1, tl1, u1, st1⟩, 0)) {W0 w : World} {K : Know} {L : List Res} (hk1 : K.has (Know.tops (.slice q1 l1.length cap1) l1)) (hk2 : K.has (Know.tops (.slice q2 l2.length cap2) l2)) (h : St W0 w K L) :
    Calls Try.prog 6 #[.agg #[.string (bb x0), .string (bb x1)], .agg #[.int .i64 p1, .int .i64 e1, .int .i64 t1, .int .i64 s1, .slice q1 l1.length cap1, .int .i64 u1, .int .i64 st1], .agg #[.int .i64 p2, .int .i64 e2, .int .i64 t2, .int .i64 s2, .slice q2 l2.length cap2, .int .i64 u2, .int .i64 st2]] w fun en w' => en = .returned (.bool true) ∧ Below W0.heap.size W0 w' := by
  have h := ((h.allocRaw #[.string (bb x0), .string (bb x1)] 60).allocRaw #[.int .i64 p1, .int .i64 e1, .int .i64 t1, .int .i64 s1, .slice q1 l1.length cap1, .int .i64 u1, .int .i64 st1] 24).allocRaw #[.int .i64 p2, .int .i64 e2, .int .i64 t2, .int .i64 s2, .slice q2 l2.length cap2, .int .i64 u2, .int .i64 st2] 24
  rw [World.size_alloc, World.size_alloc] at h
  have H := Lib.hid h
  have tok : True := trivial
  have HT1 := Lib.hid ht1
  have HK1 := Lib.hid hk1
  have HNL1 := Lib.hid hfi1.1
  have HNB1 := Lib.hid (show ∀ x ∈ l1, x.1.name.length ≤ 140737488351232 ∧ x.1.parts.length ≤ 17592186043904 from fun x hx => ⟨(hfi1.2 x hx).1, (hfi1.2 x hx).2.1⟩)
  have HT2 := Lib.hid ht2
  have HK2 := Lib.hid hk2
  have HNL2 := Lib.hid hfi2.1
  have HNB2 := Lib.hid (show ∀ x ∈ l2, x.1.name.length ≤ 140737488351232 ∧ x.1.parts.length ≤ 17592186043904 from fun x hx => ⟨(hfi2.2 x hx).1, (hfi2.2 x hx).2.1⟩)
  have HFW1 := Lib.hid hw1
  have HFW2 := Lib.hid hw2
  have HF1 := Lib.hid (few_T (few_one hw1))
  have HF2 := Lib.hid (few_T (few_one hw2))
  have HLT1 := Lib.hid (lenT_of HF1.out)
  have HLT2 := Lib.hid (lenT_of HF2.out)
  have HX0 := Lib.hid (show x0.length ≤ 40000 by omega)
  have HX1 := Lib.hid (show x1.length ≤ 40000 by omega)
  have HKE0 := Lib.hid hke0
  have HKE1 := Lib.hid hke1
  have HKD := Lib.hid hkd
  have HKL := Lib.hid hkl
  have gf11 : (f1 == 0) = false := by rw [beq_eq_false_iff_ne]; assumption
  have gf12 : (f1 != 0) = true := by simp [bne, gf11]
  have gx0 : decide (500 < (x0.length : Int)) = false := decide_eq_false (by omega)
  have gx1 : decide (500 < (x1.length : Int)) = false := decide_eq_false (by omega)
  have HS1 := Lib.hid hS1
  have HE1 := Lib.hid he1
  have HRR1 := Lib.hid hR1
  have HS2 := Lib.hid hS2
  have HE2 := Lib.hid he2
  have HRR2 := Lib.hid hR2
  have HD := Lib.hid hd
  have HSL := Lib.hid hsl
  have HVD := Lib.hid hvd
  clear h hk1 hk2 ht1 ht2 hfi1 hfi2 hw1 hw2 hke0 hke1 hkd hkl hf1 hS1 he1 hR1 hS2 he2 hR2 hd hsl hvd
  go_enter Try.func6, Try.ntmps6
  go_wp2_with (first
    | (go_at_call 35; have _t := tok; clear _t; refine (key_encode' [97] [0, 0, 0, 1, 97] 0 (by decide) (by decide +kernel) H.out).mono ?_; rintro e_ wn ⟨rfl, h⟩; have c0 := h.rawCell 0; have c1 := h.rawCell 1; have c2 := h.rawCell 2; have c3 := h.rawCell 3; have c4 := h.rawCell 4; have c5 := h.rawCell 5; have c6 := h.rawCell 6; have d0 := h.p1.rawCell 0; have d1 := h.p1.rawCell 1; have d2 := h.p1.rawCell 2; have d3 := h.p1.rawCell 3; have d4 := h.p1.rawCell 4; have d5 := h.p1.rawCell 5; have d6 := h.p1.rawCell 6; have i0 := h.p2.rawCell 0; have i1 := h.p2.rawCell 1; simp at c0 d0 c1 d1 c2 d2 c3 d3 c4 d4 c5 d5 c6 d6 i0 i1; replace H := Lib.hid h; clear h; clear tok)
    | (go_at_call 14; (with_reducible refine (law14_few l1 q1 cap1 HNL1.out HNB1.out 1 HFW1.out HK1.out H.out).mono ?_); rintro e_ wn ⟨rfl, h⟩; have c0 := h.rawCell 0; have c1 := h.rawCell 1; have c2 := h.rawCell 2; have c3 := h.rawCell 3; have c4 := h.rawCell 4; have c5 := h.rawCell 5; have c6 := h.rawCell 6; have d0 := h.p1.rawCell 0; have d1 := h.p1.rawCell 1; have d2 := h.p1.rawCell 2; have d3 := h.p1.rawCell 3; have d4 := h.p1.rawCell 4; have d5 := h.p1.rawCell 5; have d6 := h.p1.rawCell 6; have i0 := h.p2.rawCell 0; have i1 := h.p2.rawCell 1; simp at c0 d0 c1 d1 c2 d2 c3 d3 c4 d4 c5 d5 c6 d6 i0 i1; replace H := Lib.hid h; clear h)
    | (go_at_call 14; (with_reducible refine (law14_few l2 q2 cap2 HNL2.out HNB2.out 1 HFW2.out HK2.out H.out).mono ?_); rintro e_ wn ⟨rfl, h⟩; have c0 := h.rawCell 0; have c1 := h.rawCell 1; have c2 := h.rawCell 2; have c3 := h.rawCell 3; have c4 := h.rawCell 4; have c5 := h.rawCell 5; have c6 := h.rawCell 6; have d0 := h.p1.rawCell 0; have d1 := h.p1.rawCell 1; have d2 := h.p1.rawCell 2; have d3 := h.p1.rawCell 3; have d4 := h.p1.rawCell 4; have d5 := h.p1.rawCell 5; have d6 := h.p1.rawCell 6; have i0 := h.p2.rawCell 0; have i1 := h.p2.rawCell 1; simp at c0 d0 c1 d1 c2 d2 c3 d3 c4 d4 c5 d5 c6 d6 i0 i1; replace H := Lib.hid h; clear h)
    | (go_at_call 35; (with_reducible refine (key_encode' x0 k0 0 HX0.out HKE0.out H.out).mono ?_); rintro e_ wn ⟨rfl, h⟩; have c0 := h.rawCell 0; have c1 := h.rawCell 1; have c2 := h.rawCell 2; have c3 := h.rawCell 3; have c4 := h.rawCell 4; have c5 := h.rawCell 5; have c6 := h.rawCell 6; have d0 := h.p1.rawCell 0; have d1 := h.p1.rawCell 1; have d2 := h.p1.rawCell 2; have d3 := h.p1.rawCell 3; have d4 := h.p1.rawCell 4; have d5 := h.p1.rawCell 5; have d6 := h.p1.rawCell 6; have i0 := h.p2.rawCell 0; have i1 := h.p2.rawCell 1; simp at c0 d0 c1 d1 c2 d2 c3 d3 c4 d4 c5 d5 c6 d6 i0 i1; replace H := Lib.hid h; clear h)
    | (go_at_call 35; (with_reducible refine (key_encode' x1 k1 f1 HX1.out HKE1.out H.out).mono ?_); rintro e_ wn ⟨rfl, h⟩; have c0 := h.rawCell 0; have c1 := h.rawCell 1; have c2 := h.rawCell 2; have c3 := h.rawCell 3; have c4 := h.rawCell 4; have c5 := h.rawCell 5; have c6 := h.rawCell 6; have d0 := h.p1.rawCell 0; have d1 := h.p1.rawCell 1; have d2 := h.p1.rawCell 2; have d3 := h.p1.rawCell 3; have d4 := h.p1.rawCell 4; have d5 := h.p1.rawCell 5; have d6 := h.p1.rawCell 6; have i0 := h.p2.rawCell 0; have i1 := h.p2.rawCell 1; simp at c0 d0 c1 d1 c2 d2 c3 d3 c4 d4 c5 d5 c6 d6 i0 i1; replace H := Lib.hid h; clear h)
    | (go_at_call 36; (with_reducible refine (key_decode' k0 x0 0 HKL.out HKD.out H.out).mono ?_); rintro e_ wn ⟨rfl, h⟩; have c0 := h.rawCell 0; have c1 := h.rawCell 1; have c2 := h.rawCell 2; have c3 := h.rawCell 3; have c4 := h.rawCell 4; have c5 := h.rawCell 5; have c6 := h.rawCell 6; have d0 := h.p1.rawCell 0; have d1 := h.p1.rawCell 1; have d2 := h.p1.rawCell 2; have d3 := h.p1.rawCell 3; have d4 := h.p1.rawCell 4; have d5 := h.p1.rawCell 5; have d6 := h.p1.rawCell 6; have i0 := h.p2.rawCell 0; have i1 := h.p2.rawCell 1; simp at c0 d0 c1 d1 c2 d2 c3 d3 c4 d4 c5 d5 c6 d6 i0 i1; replace H := Lib.hid h; clear h)
    | (go_at_call 15; (with_reducible refine (val_encode_okS p1 e1 t1 s1 u1 st1 l1 q1 cap1 tl1 HT1.out S1 HS1.out HE1.out HRR1.out HF1.out HK1.out H.out).mono ?_); rintro e_ wn ⟨rfl, h⟩; have c0 := h.rawCell 0; have c1 := h.rawCell 1; have c2 := h.rawCell 2; have c3 := h.rawCell 3; have c4 := h.rawCell 4; have c5 := h.rawCell 5; have c6 := h.rawCell 6; have d0 := h.p1.rawCell 0; have d1 := h.p1.rawCell 1; have d2 := h.p1.rawCell 2; have d3 := h.p1.rawCell 3; have d4 := h.p1.rawCell 4; have d5 := h.p1.rawCell 5; have d6 := h.p1.rawCell 6; have i0 := h.p2.rawCell 0; have i1 := h.p2.rawCell 1; simp at c0 d0 c1 d1 c2 d2 c3 d3 c4 d4 c5 d5 c6 d6 i0 i1; replace H := Lib.hid h; clear h)
    | (go_at_call 15; (with_reducible refine (val_encode_okS p2 e2 t2 s2 u2 st2 l2 q2 cap2 tl2 HT2.out S2 HS2.out HE2.out HRR2.out HF2.out HK2.out H.out).mono ?_); rintro e_ wn ⟨rfl, h⟩; have c0 := h.rawCell 0; have c1 := h.rawCell 1; have c2 := h.rawCell 2; have c3 := h.rawCell 3; have c4 := h.rawCell 4; have c5 := h.rawCell 5; have c6 := h.rawCell 6; have d0 := h.p1.rawCell 0; have d1 := h.p1.rawCell 1; have d2 := h.p1.rawCell 2; have d3 := h.p1.rawCell 3; have d4 := h.p1.rawCell 4; have d5 := h.p1.rawCell 5; have d6 := h.p1.rawCell 6; have i0 := h.p2.rawCell 0; have i1 := h.p2.rawCell 1; simp at c0 d0 c1 d1 c2 d2 c3 d3 c4 d4 c5 d5 c6 d6 i0 i1; replace H := Lib.hid h; clear h)
    | (go_at_call 20; (with_reducible refine (ref14_same p1 e1 t1 s1 u1 st1 p2 e2 t2 s2 u2 st2 l1 l2 q1 q2 cap1 cap2 tl1 tl2 HT1.out HT2.out true HD.out HLT1.out HLT2.out HK1.out HK2.out H.out).mono ?_); rintro e_ wn ⟨rfl, h⟩; have c0 := h.rawCell 0; have c1 := h.rawCell 1; have c2 := h.rawCell 2; have c3 := h.rawCell 3; have c4 := h.rawCell 4; have c5 := h.rawCell 5; have c6 := h.rawCell 6; have d0 := h.p1.rawCell 0; have d1 := h.p1.rawCell 1; have d2 := h.p1.rawCell 2; have d3 := h.p1.rawCell 3; have d4 := h.p1.rawCell 4; have d5 := h.p1.rawCell 5; have d6 := h.p1.rawCell 6; have i0 := h.p2.rawCell 0; have i1 := h.p2.rawCell 1; simp at c0 d0 c1 d1 c2 d2 c3 d3 c4 d4 c5 d5 c6 d6 i0 i1; replace H := Lib.hid h; clear h)
    | (go_at_call 18; (with_reducible refine (val_decode_okV S1 HSL.out p1 e1 t1 s1 u1 st1 tl1 HVD.out H.out).mono ?_); rintro e_ wn ⟨qt, capt, lr, rfl, hlr, h⟩; obtain ⟨vb, hvb⟩ : ∃ b, wn.heap.size = b := ⟨_, rfl⟩; have h := h.allocRaw #[.int .i64 p1, .int .i64 e1, .int .i64 t1, .int .i64 s1, .slice qt lr.length capt, .int .i64 u1, .int .i64 st1] 24; rw [hvb] at h; have HLR := Lib.hid hlr; clear hlr; have HLT3 := Lib.hid (lenT_of (fewT_map HF1.out (HLR.out.trans HT1.out.symm))); have HK3 := Lib.hid (Know.has_right (b := Know.tops (.slice qt lr.length capt) lr) (Know.has_refl _) : (K.and (Know.tops (.slice qt lr.length capt) lr)).has _); have HK4 := Lib.hid (Know.has_left HK1.out : (K.and (Know.tops (.slice qt lr.length capt) lr)).has _); have v0 := h.rawCell 0; have v1 := h.rawCell 1; have v2 := h.rawCell 2; have v3 := h.rawCell 3; have v4 := h.rawCell 4; have v5 := h.rawCell 5; have v6 := h.rawCell 6; have c0 := h.p1.rawCell 0; have c1 := h.p1.rawCell 1; have c2 := h.p1.rawCell 2; have c3 := h.p1.rawCell 3; have c4 := h.p1.rawCell 4; have c5 := h.p1.rawCell 5; have c6 := h.p1.rawCell 6; have d0 := h.p2.rawCell 0; have d1 := h.p2.rawCell 1; have d2 := h.p2.rawCell 2; have d3 := h.p2.rawCell 3; have d4 := h.p2.rawCell 4; have d5 := h.p2.rawCell 5; have d6 := h.p2.rawCell 6; have i0 := h.p3.rawCell 0; have i1 := h.p3.rawCell 1; simp at v0 c0 d0 v1 c1 d1 v2 c2 d2 v3 c3 d3 v4 c4 d4 v5 c5 d5 v6 c6 d6 i0 i1; replace H := Lib.hid h; clear h)
    | (go_at_call 20; (with_reducible refine (ref14_same p1 e1 t1 s1 u1 st1 p1 e1 t1 s1 u1 st1 lr l1 qt q1 capt cap1 tl1 tl1 HLR.out HT1.out true (decide_eq_true rfl) HLT3.out HLT1.out HK3.out HK4.out H.out).mono ?_); rintro e_ wn ⟨rfl, h⟩; have v0 := h.rawCell 0; have v1 := h.rawCell 1; have v2 := h.rawCell 2; have v3 := h.rawCell 3; have v4 := h.rawCell 4; have v5 := h.rawCell 5; have v6 := h.rawCell 6; have c0 := h.p1.rawCell 0; have c1 := h.p1.rawCell 1; have c2 := h.p1.rawCell 2; have c3 := h.p1.rawCell 3; have c4 := h.p1.rawCell 4; have c5 := h.p1.rawCell 5; have c6 := h.p1.rawCell 6; have d0 := h.p2.rawCell 0; have d1 := h.p2.rawCell 1; have d2 := h.p2.rawCell 2; have d3 := h.p2.rawCell 3; have d4 := h.p2.rawCell 4; have d5 := h.p2.rawCell 5; have d6 := h.p2.rawCell 6; have i0 := h.p3.rawCell 0; have i1 := h.p3.rawCell 1; simp at v0 c0 d0 v1 c1 d1 v2 c2 d2 v3 c3 d3 v4 c4 d4 v5 c5 d5 v6 c6 d6 i0 i1; replace H := Lib.hid h; clear h))
  go_ret
  exact ⟨rfl, H.out.below⟩

set_option maxHeartbeats 4000000 in
set_option maxRecDepth 100000 in
theorem we_ob_qf (x0 x1 : Bs) (hx0 : (x0.length : Int) ≤ 500) (hx1 : (x1.length : Int) ≤ 500) (p1 e1 t1 s1 u1 st1 : Int) (l1 : List (TopS × Value)) (q1 : Option Addr) (cap1 : Nat) (tl1 : List TopS) (ht1 : l1.map (·.1) = tl1) (hfi1 : FewI l1) (p2 e2 t2 s2 u2 st2 : Int) (l2 : List (TopS × Value)) (q2 : Option Addr) (cap2 : Nat) (tl2 : List TopS) (ht2 : l2.map (·.1) = tl2) (hfi2 : FewI l2) (hw1 : few (l1.map (·.1)) = 1) (hw2 : few (l2.map (·.1)) = 1) (k0 k1 : Bs) (f1 : Int) (hke0 : keyEnc x0 = (k0, 0)) (hke1 : keyEnc x1 = (k1, f1)) (hf1 : f1 ≠ 0) (hkd : keyRd k0 = (x0, 0)) (hkl : k0.length ≤ 40100) (S1 : Bs) (hS1 : ValS.enc ⟨p1, e1, t1, s1, tl1, u1, st1⟩ = S1) (he1 : ValS.err ⟨p1, e1, t1, s1, tl1, u1, st1⟩ = 0) (hR1 : ValS.R ⟨p1, e1, t1, s1, tl1, u1, st1⟩) (S2 : Bs) (hS2 : ValS.enc ⟨p2, e2, t2, s2, tl2, u2, st2⟩ = S2) (he2 : ValS.err ⟨p2, e2, t2, s2, tl2, u2, st2⟩ = 0) (hR2 : ValS.R ⟨p2, e2, t2, s2, tl2, u2, st2⟩) (hss : (S1 == S2) = false) (hd : decide ((⟨p1, e1, t1, s1, tl1, u1, st1⟩ : ValS) = ⟨p2, e2, t2, s2, tl2, u2, st2⟩) = false) (hsl : S1.length ≤ 1000000) (hvd : valDec S1 = (⟨p1, e1, t1, s1, tl1, u1, st1⟩, 0)) {W0 w : World} {K : Know} {L : List Res} (hk1 : K.has (Know.tops (.slice q1 l1.length cap1) l1)) (hk2 : K.has (Know.tops (.slice q2 l2.length cap2) l2)) (h : St W0 w K L) :
    Calls Try.prog 6 #[.agg #[.string (bb x0), .string (bb x1)], .agg #[.int .i64 p1, .int .i64 e1, .int .i64 t1, .int .i64 s1, .slice q1 l1.length cap1, .int .i64 u1, .int .i64 st1], .agg #[.int .i64 p2, .int .i64 e2, .int .i64 t2, .int .i64 s2, .slice q2 l2.length cap2, .int .i64 u2, .int .i64 st2]] w fun en w' => en = .returned (.bool true) ∧ Below W0.heap.size W0 w' := by
  have h := ((h.allocRaw #[.string (bb x0), .string (bb x1)] 60).allocRaw #[.int .i64 p1, .int .i64 e1, .int .i64 t1, .int .i64 s1, .slice q1 l1.length cap1, .int .i64 u1, .int .i64 st1] 24).allocRaw #[.int .i64 p2, .int .i64 e2, .int .i64 t2, .int .i64 s2, .slice q2 l2.length cap2, .int .i64 u2, .int .i64 st2] 24
  rw [World.size_alloc, World.size_alloc] at h
  have H := Lib.hid h
  have tok : True := trivial
  have HT1 := Lib.hid ht1
  have HK1 := Lib.hid hk1
  have HNL1 := Lib.hid hfi1.1
  have HNB1 := Lib.hid (show ∀ x ∈ l1, x.1.name.length ≤ 140737488351232 ∧ x.1.parts.length ≤ 17592186043904 from fun x hx => ⟨(hfi1.2 x hx).1, (hfi1.2 x hx).2.1⟩)
  have HT2 := Lib.hid ht2
  have HK2 := Lib.hid hk2
  have HNL2 := Lib.hid hfi2.1
  have HNB2 := Lib.hid (show ∀ x ∈ l2, x.1.name.length ≤ 140737488351232 ∧ x.1.parts.length ≤ 17592186043904 from fun x hx => ⟨(hfi2.2 x hx).1, (hfi2.2 x hx).2.1⟩)
  have HFW1 := Lib.hid hw1
  have HFW2 := Lib.hid hw2
  have HF1 := Lib.hid (few_T (few_one hw1))
  have HF2 := Lib.hid (few_T (few_one hw2))
  have HLT1 := Lib.hid (lenT_of HF1.out)
  have HLT2 := Lib.hid (lenT_of HF2.out)
  have HX0 := Lib.hid (show x0.length ≤ 40000 by omega)
  have HX1 := Lib.hid (show x1.length ≤ 40000 by omega)
  have HKE0 := Lib.hid hke0
  have HKE1 := Lib.hid hke1
  have HKD := Lib.hid hkd
  have HKL := Lib.hid hkl
  have gf11 : (f1 == 0) = false := by rw [beq_eq_false_iff_ne]; assumption
  have gf12 : (f1 != 0) = true := by simp [bne, gf11]
  have gx0 : decide (500 < (x0.length : Int)) = false := decide_eq_false (by omega)
  have gx1 : decide (500 < (x1.length : Int)) = false := decide_eq_false (by omega)
  have HS1 := Lib.hid hS1
  have HE1 := Lib.hid he1
  have HRR1 := Lib.hid hR1
  have HS2 := Lib.hid hS2
  have HE2 := Lib.hid he2
  have HRR2 := Lib.hid hR2
  have HD := Lib.hid hd
  have HSL := Lib.hid hsl
  have HVD := Lib.hid hvd
  clear h hk1 hk2 ht1 ht2 hfi1 hfi2 hw1 hw2 hke0 hke1 hkd hkl hf1 hS1 he1 hR1 hS2 he2 hR2 hd hsl hvd
  go_enter Try.func6, Try.ntmps6
  go_wp2_with (first
    | (go_at_call 35; have _t := tok; clear _t; refine (key_encode' [97] [0, 0, 0, 1, 97] 0 (by decide) (by decide +kernel) H.out).mono ?_; rintro e_ wn ⟨rfl, h⟩; have c0 := h.rawCell 0; have c1 := h.rawCell 1; have c2 := h.rawCell 2; have c3 := h.rawCell 3; have c4 := h.rawCell 4; have c5 := h.rawCell 5; have c6 := h.rawCell 6; have d0 := h.p1.rawCell 0; have d1 := h.p1.rawCell 1; have d2 := h.p1.rawCell 2; have d3 := h.p1.rawCell 3; have d4 := h.p1.rawCell 4; have d5 := h.p1.rawCell 5; have d6 := h.p1.rawCell 6; have i0 := h.p2.rawCell 0; have i1 := h.p2.rawCell 1; simp at c0 d0 c1 d1 c2 d2 c3 d3 c4 d4 c5 d5 c6 d6 i0 i1; replace H := Lib.hid h; clear h; clear tok)
    | (go_at_call 14; (with_reducible refine (law14_few l1 q1 cap1 HNL1.out HNB1.out 1 HFW1.out HK1.out H.out).mono ?_); rintro e_ wn ⟨rfl, h⟩; have c0 := h.rawCell 0; have c1 := h.rawCell 1; have c2 := h.rawCell 2; have c3 := h.rawCell 3; have c4 := h.rawCell 4; have c5 := h.rawCell 5; have c6 := h.rawCell 6; have d0 := h.p1.rawCell 0; have d1 := h.p1.rawCell 1; have d2 := h.p1.rawCell 2; have d3 := h.p1.rawCell 3; have d4 := h.p1.rawCell 4; have d5 := h.p1.rawCell 5; have d6 := h.p1.rawCell 6; have i0 := h.p2.rawCell 0; have i1 := h.p2.rawCell 1; simp at c0 d0 c1 d1 c2 d2 c3 d3 c4 d4 c5 d5 c6 d6 i0 i1; replace H := Lib.hid h; clear h)
    | (go_at_call 14; (with_reducible refine (law14_few l2 q2 cap2 HNL2.out HNB2.out 1 HFW2.out HK2.out H.out).mono ?_); rintro e_ wn ⟨rfl, h⟩; have c0 := h.rawCell 0; have c1 := h.rawCell 1; have c2 := h.rawCell 2; have c3 := h.rawCell 3; have c4 := h.rawCell 4; have c5 := h.rawCell 5; have c6 := h.rawCell 6; have d0 := h.p1.rawCell 0; have d1 := h.p1.rawCell 1; have d2 := h.p1.rawCell 2; have d3 := h.p1.rawCell 3; have d4 := h.p1.rawCell 4; have d5 := h.p1.rawCell 5; have d6 := h.p1.rawCell 6; have i0 := h.p2.rawCell 0; have i1 := h.p2.rawCell 1; simp at c0 d0 c1 d1 c2 d2 c3 d3 c4 d4 c5 d5 c6 d6 i0 i1; replace H := Lib.hid h; clear h)
    | (go_at_call 35; (with_reducible refine (key_encode' x0 k0 0 HX0.out HKE0.out H.out).mono ?_); rintro e_ wn ⟨rfl, h⟩; have c0 := h.rawCell 0; have c1 := h.rawCell 1; have c2 := h.rawCell 2; have c3 := h.rawCell 3; have c4 := h.rawCell 4; have c5 := h.rawCell 5; have c6 := h.rawCell 6; have d0 := h.p1.rawCell 0; have d1 := h.p1.rawCell 1; have d2 := h.p1.rawCell 2; have d3 := h.p1.rawCell 3; have d4 := h.p1.rawCell 4; have d5 := h.p1.rawCell 5; have d6 := h.p1.rawCell 6; have i0 := h.p2.rawCell 0; have i1 := h.p2.rawCell 1; simp at c0 d0 c1 d1 c2 d2 c3 d3 c4 d4 c5 d5 c6 d6 i0 i1; replace H := Lib.hid h; clear h)
    | (go_at_call 35; (with_reducible refine (key_encode' x1 k1 f1 HX1.out HKE1.out H.out).mono ?_); rintro e_ wn ⟨rfl, h⟩; have c0 := h.rawCell 0; have c1 := h.rawCell 1; have c2 := h.rawCell 2; have c3 := h.rawCell 3; have c4 := h.rawCell 4; have c5 := h.rawCell 5; have c6 := h.rawCell 6; have d0 := h.p1.rawCell 0; have d1 := h.p1.rawCell 1; have d2 := h.p1.rawCell 2; have d3 := h.p1.rawCell 3; have d4 := h.p1.rawCell 4; have d5 := h.p1.rawCell 5; have d6 := h.p1.rawCell 6; have i0 := h.p2.rawCell 0; have i1 := h.p2.rawCell 1; simp at c0 d0 c1 d1 c2 d2 c3 d3 c4 d4 c5 d5 c6 d6 i0 i1; replace H := Lib.hid h; clear h)
    | (go_at_call 36; (with_reducible refine (key_decode' k0 x0 0 HKL.out HKD.out H.out).mono ?_); rintro e_ wn ⟨rfl, h⟩; have c0 := h.rawCell 0; have c1 := h.rawCell 1; have c2 := h.rawCell 2; have c3 := h.rawCell 3; have c4 := h.rawCell 4; have c5 := h.rawCell 5; have c6 := h.rawCell 6; have d0 := h.p1.rawCell 0; have d1 := h.p1.rawCell 1; have d2 := h.p1.rawCell 2; have d3 := h.p1.rawCell 3; have d4 := h.p1.rawCell 4; have d5 := h.p1.rawCell 5; have d6 := h.p1.rawCell 6; have i0 := h.p2.rawCell 0; have i1 := h.p2.rawCell 1; simp at c0 d0 c1 d1 c2 d2 c3 d3 c4 d4 c5 d5 c6 d6 i0 i1; replace H := Lib.hid h; clear h)
    | (go_at_call 15; (with_reducible refine (val_encode_okS p1 e1 t1 s1 u1 st1 l1 q1 cap1 tl1 HT1.out S1 HS1.out HE1.out HRR1.out HF1.out HK1.out H.out).mono ?_); rintro e_ wn ⟨rfl, h⟩; have c0 := h.rawCell 0; have c1 := h.rawCell 1; have c2 := h.rawCell 2; have c3 := h.rawCell 3; have c4 := h.rawCell 4; have c5 := h.rawCell 5; have c6 := h.rawCell 6; have d0 := h.p1.rawCell 0; have d1 := h.p1.rawCell 1; have d2 := h.p1.rawCell 2; have d3 := h.p1.rawCell 3; have d4 := h.p1.rawCell 4; have d5 := h.p1.rawCell 5; have d6 := h.p1.rawCell 6; have i0 := h.p2.rawCell 0; have i1 := h.p2.rawCell 1; simp at c0 d0 c1 d1 c2 d2 c3 d3 c4 d4 c5 d5 c6 d6 i0 i1; replace H := Lib.hid h; clear h)
    | (go_at_call 15; (with_reducible refine (val_encode_okS p2 e2 t2 s2 u2 st2 l2 q2 cap2 tl2 HT2.out S2 HS2.out HE2.out HRR2.out HF2.out HK2.out H.out).mono ?_); rintro e_ wn ⟨rfl, h⟩; have c0 := h.rawCell 0; have c1 := h.rawCell 1; have c2 := h.rawCell 2; have c3 := h.rawCell 3; have c4 := h.rawCell 4; have c5 := h.rawCell 5; have c6 := h.rawCell 6; have d0 := h.p1.rawCell 0; have d1 := h.p1.rawCell 1; have d2 := h.p1.rawCell 2; have d3 := h.p1.rawCell 3; have d4 := h.p1.rawCell 4; have d5 := h.p1.rawCell 5; have d6 := h.p1.rawCell 6; have i0 := h.p2.rawCell 0; have i1 := h.p2.rawCell 1; simp at c0 d0 c1 d1 c2 d2 c3 d3 c4 d4 c5 d5 c6 d6 i0 i1; replace H := Lib.hid h; clear h)
    | (go_at_call 20; (with_reducible refine (ref14_same p1 e1 t1 s1 u1 st1 p2 e2 t2 s2 u2 st2 l1 l2 q1 q2 cap1 cap2 tl1 tl2 HT1.out HT2.out false HD.out HLT1.out HLT2.out HK1.out HK2.out H.out).mono ?_); rintro e_ wn ⟨rfl, h⟩; have c0 := h.rawCell 0; have c1 := h.rawCell 1; have c2 := h.rawCell 2; have c3 := h.rawCell 3; have c4 := h.rawCell 4; have c5 := h.rawCell 5; have c6 := h.rawCell 6; have d0 := h.p1.rawCell 0; have d1 := h.p1.rawCell 1; have d2 := h.p1.rawCell 2; have d3 := h.p1.rawCell 3; have d4 := h.p1.rawCell 4; have d5 := h.p1.rawCell 5; have d6 := h.p1.rawCell 6; have i0 := h.p2.rawCell 0; have i1 := h.p2.rawCell 1; simp at c0 d0 c1 d1 c2 d2 c3 d3 c4 d4 c5 d5 c6 d6 i0 i1; replace H := Lib.hid h; clear h)
    | (go_at_call 18; (with_reducible refine (val_decode_okV S1 HSL.out p1 e1 t1 s1 u1 st1 tl1 HVD.out H.out).mono ?_); rintro e_ wn ⟨qt, capt, lr, rfl, hlr, h⟩; obtain ⟨vb, hvb⟩ : ∃ b, wn.heap.size = b := ⟨_, rfl⟩; have h := h.allocRaw #[.int .i64 p1, .int .i64 e1, .int .i64 t1, .int .i64 s1, .slice qt lr.length capt, .int .i64 u1, .int .i64 st1] 24; rw [hvb] at h; have HLR := Lib.hid hlr; clear hlr; have HLT3 := Lib.hid (lenT_of (fewT_map HF1.out (HLR.out.trans HT1.out.symm))); have HK3 := Lib.hid (Know.has_right (b := Know.tops (.slice qt lr.length capt) lr) (Know.has_refl _) : (K.and (Know.tops (.slice qt lr.length capt) lr)).has _); have HK4 := Lib.hid (Know.has_left HK1.out : (K.and (Know.tops (.slice qt lr.length capt) lr)).has _); have v0 := h.rawCell 0; have v1 := h.rawCell 1; have v2 := h.rawCell 2; have v3 := h.rawCell 3; have v4 := h.rawCell 4; have v5 := h.rawCell 5; have v6 := h.rawCell 6; have c0 := h.p1.rawCell 0; have c1 := h.p1.rawCell 1; have c2 := h.p1.rawCell 2; have c3 := h.p1.rawCell 3; have c4 := h.p1.rawCell 4; have c5 := h.p1.rawCell 5; have c6 := h.p1.rawCell 6; have d0 := h.p2.rawCell 0; have d1 := h.p2.rawCell 1; have d2 := h.p2.rawCell 2; have d3 := h.p2.rawCell 3; have d4 := h.p2.rawCell 4; have d5 := h.p2.rawCell 5; have d6 := h.p2.rawCell 6; have i0 := h.p3.rawCell 0; have i1 := h.p3.rawCell 1; simp at v0 c0 d0 v1 c1 d1 v2 c2 d2 v3 c3 d3 v4 c4 d4 v5 c5 d5 v6 c6 d6 i0 i1; replace H := Lib.hid h; clear h)
    | (go_at_call 20; (with_reducible refine (ref14_same p1 e1 t1 s1 u1 st1 p1 e1 t1 s1 u1 st1 lr l1 qt q1 capt cap1 tl1 tl1 HLR.out HT1.out true (decide_eq_true rfl) HLT3.out HLT1.out HK3.out HK4.out H.out).mono ?_); rintro e_ wn ⟨rfl, h⟩; have v0 := h.rawCell 0; have v1 := h.rawCell 1; have v2 := h.rawCell 2; have v3 := h.rawCell 3; have v4 := h.rawCell 4; have v5 := h.rawCell 5; have v6 := h.rawCell 6; have c0 := h.p1.rawCell 0; have c1 := h.p1.rawCell 1; have c2 := h.p1.rawCell 2; have c3 := h.p1.rawCell 3; have c4 := h.p1.rawCell 4; have c5 := h.p1.rawCell 5; have c6 := h.p1.rawCell 6; have d0 := h.p2.rawCell 0; have d1 := h.p2.rawCell 1; have d2 := h.p2.rawCell 2; have d3 := h.p2.rawCell 3; have d4 := h.p2.rawCell 4; have d5 := h.p2.rawCell 5; have d6 := h.p2.rawCell 6; have i0 := h.p3.rawCell 0; have i1 := h.p3.rawCell 1; simp at v0 c0 d0 v1 c1 d1 v2 c2 d2 v3 c3 d3 v4 c4 d4 v5 c5 d5 v6 c6 d6 i0 i1; replace H := Lib.hid h; clear h))
  go_ret
  exact ⟨rfl, H.out.below⟩

set_option maxHeartbeats 4000000 in
set_option maxRecDepth 100000 in
theorem we_ob_ob (x0 x1 : Bs) (hx0 : (x0.length : Int) ≤ 500) (hx1 : (x1.length : Int) ≤ 500) (p1 e1 t1 s1 u1 st1 : Int) (l1 : List (TopS × Value)) (q1 : Option Addr) (cap1 : Nat) (tl1 : List TopS) (ht1 : l1.map (·.1) = tl1) (hfi1 : FewI l1) (p2 e2 t2 s2 u2 st2 : Int) (l2 : List (TopS × Value)) (q2 : Option Addr) (cap2 : Nat) (tl2 : List TopS) (ht2 : l2.map (·.1) = tl2) (hfi2 : FewI l2) (hw1 : few (l1.map (·.1)) = 1) (hw2 : few (l2.map (·.1)) = 1) (k0 k1 : Bs) (f1 : Int) (hke0 : keyEnc x0 = (k0, 0)) (hke1 : keyEnc x1 = (k1, f1)) (hf1 : f1 ≠ 0) (hkd : keyRd k0 = (x0, 0)) (hkl : k0.length ≤ 40100) (S1 : Bs) (hS1 : ValS.enc ⟨p1, e1, t1, s1, tl1, u1, st1⟩ = S1) (he1 : ValS.err ⟨p1, e1, t1, s1, tl1, u1, st1⟩ = 0) (hR1 : ValS.R ⟨p1, e1, t1, s1, tl1, u1, st1⟩) (E2 : Int) (he2 : ValS.err ⟨p2, e2, t2, s2, tl2, u2, st2⟩ = E2) (h02 : E2 ≠ 0) (hsl : S1.length ≤ 1000000) (hvd : valDec S1 = (⟨p1, e1, t1, s1, tl1, u1, st1⟩, 0)) {W0 w : World} {K : Know} {L : List Res} (hk1 : K.has (Know.tops (.slice q1 l1.length cap1) l1)) (hk2 : K.has (Know.tops (.slice q2 l2.length cap2) l2)) (h : St W0 w K L) :
    Calls Try.prog 6 #[.agg #[.string (bb x0), .string (bb x1)], .agg #[.int .i64 p1, .int .i64 e1, .int .i64 t1, .int .i64 s1, .slice q1 l1.length cap1, .int .i64 u1, .int .i64 st1], .agg #[.int .i64 p2, .int .i64 e2, .int .i64 t2, .int .i64 s2, .slice q2 l2.length cap2, .int .i64 u2, .int .i64 st2]] w fun en w' => en = .returned (.bool true) ∧ Below W0.heap.size W0 w' := by
  have h := ((h.allocRaw #[.string (bb x0), .string (bb x1)] 60).allocRaw #[.int .i64 p1, .int .i64 e1, .int .i64 t1, .int .i64 s1, .slice q1 l1.length cap1, .int .i64 u1, .int .i64 st1] 24).allocRaw #[.int .i64 p2, .int .i64 e2, .int .i64 t2, .int .i64 s2, .slice q2 l2.length cap2, .int .i64 u2, .int .i64 st2] 24
  rw [World.size_alloc, World.size_alloc] at h
  have H := Lib.hid h
  have tok : True := trivial
  have HT1 := Lib.hid ht1
  have HK1 := Lib.hid hk1
  have HNL1 := Lib.hid hfi1.1
  have HNB1 := Lib.hid (show ∀ x ∈ l1, x.1.name.length ≤ 140737488351232 ∧ x.1.parts.length ≤ 17592186043904 from fun x hx => ⟨(hfi1.2 x hx).1, (hfi1.2 x hx).2.1⟩)
  have HT2 := Lib.hid ht2
  have HK2 := Lib.hid hk2
  have HNL2 := Lib.hid hfi2.1
  have HNB2 := Lib.hid (show ∀ x ∈ l2, x.1.name.length ≤ 140737488351232 ∧ x.1.parts.length ≤ 17592186043904 from fun x hx => ⟨(hfi2.2 x hx).1, (hfi2.2 x hx).2.1⟩)
  have HFW1 := Lib.hid hw1
  have HFW2 := Lib.hid hw2
  have HF1 := Lib.hid (few_T (few_one hw1))
  have HF2 := Lib.hid (few_T (few_one hw2))
  have HLT1 := Lib.hid (lenT_of HF1.out)
  have HLT2 := Lib.hid (lenT_of HF2.out)
  have HX0 := Lib.hid (show x0.length ≤ 40000 by omega)
  have HX1 := Lib.hid (show x1.length ≤ 40000 by omega)
  have HKE0 := Lib.hid hke0
  have HKE1 := Lib.hid hke1
  have HKD := Lib.hid hkd
  have HKL := Lib.hid hkl
  have gf11 : (f1 == 0) = false := by rw [beq_eq_false_iff_ne]; assumption
  have gf12 : (f1 != 0) = true := by simp [bne, gf11]
  have gx0 : decide (500 < (x0.length : Int)) = false := decide_eq_false (by omega)
  have gx1 : decide (500 < (x1.length : Int)) = false := decide_eq_false (by omega)
  have HS1 := Lib.hid hS1
  have HE1 := Lib.hid he1
  have HRR1 := Lib.hid hR1
  have HE2 := Lib.hid he2
  have HE02 := Lib.hid h02
  have ge21 : (E2 == 0) = false := by rw [beq_eq_false_iff_ne]; assumption
  have ge22 : (E2 != 0) = true := by simp [bne, ge21]
  have HSL := Lib.hid hsl
  have HVD := Lib.hid hvd
  clear h hk1 hk2 ht1 ht2 hfi1 hfi2 hw1 hw2 hke0 hke1 hkd hkl hf1 hS1 he1 hR1 he2 h02 hsl hvd
  go_enter Try.func6, Try.ntmps6
  go_wp2_with (first
    | (go_at_call 35; have _t := tok; clear _t; refine (key_encode' [97] [0, 0, 0, 1, 97] 0 (by decide) (by decide +kernel) H.out).mono ?_; rintro e_ wn ⟨rfl, h⟩; have c0 := h.rawCell 0; have c1 := h.rawCell 1; have c2 := h.rawCell 2; have c3 := h.rawCell 3; have c4 := h.rawCell 4; have c5 := h.rawCell 5; have c6 := h.rawCell 6; have d0 := h.p1.rawCell 0; have d1 := h.p1.rawCell 1; have d2 := h.p1.rawCell 2; have d3 := h.p1.rawCell 3; have d4 := h.p1.rawCell 4; have d5 := h.p1.rawCell 5; have d6 := h.p1.rawCell 6; have i0 := h.p2.rawCell 0; have i1 := h.p2.rawCell 1; simp at c0 d0 c1 d1 c2 d2 c3 d3 c4 d4 c5 d5 c6 d6 i0 i1; replace H := Lib.hid h; clear h; clear tok)
    | (go_at_call 14; (with_reducible refine (law14_few l1 q1 cap1 HNL1.out HNB1.out 1 HFW1.out HK1.out H.out).mono ?_); rintro e_ wn ⟨rfl, h⟩; have c0 := h.rawCell 0; have c1 := h.rawCell 1; have c2 := h.rawCell 2; have c3 := h.rawCell 3; have c4 := h.rawCell 4; have c5 := h.rawCell 5; have c6 := h.rawCell 6; have d0 := h.p1.rawCell 0; have d1 := h.p1.rawCell 1; have d2 := h.p1.rawCell 2; have d3 := h.p1.rawCell 3; have d4 := h.p1.rawCell 4; have d5 := h.p1.rawCell 5; have d6 := h.p1.rawCell 6; have i0 := h.p2.rawCell 0; have i1 := h.p2.rawCell 1; simp at c0 d0 c1 d1 c2 d2 c3 d3 c4 d4 c5 d5 c6 d6 i0 i1; replace H := Lib.hid h; clear h)
    | (go_at_call 14; (with_reducible refine (law14_few l2 q2 cap2 HNL2.out HNB2.out 1 HFW2.out HK2.out H.out).mono ?_); rintro e_ wn ⟨rfl, h⟩; have c0 := h.rawCell 0; have c1 := h.rawCell 1; have c2 := h.rawCell 2; have c3 := h.rawCell 3; have c4 := h.rawCell 4; have c5 := h.rawCell 5; have c6 := h.rawCell 6; have d0 := h.p1.rawCell 0; have d1 := h.p1.rawCell 1; have d2 := h.p1.rawCell 2; have d3 := h.p1.rawCell 3; have d4 := h.p1.rawCell 4; have d5 := h.p1.rawCell 5; have d6 := h.p1.rawCell 6; have i0 := h.p2.rawCell 0; have i1 := h.p2.rawCell 1; simp at c0 d0 c1 d1 c2 d2 c3 d3 c4 d4 c5 d5 c6 d6 i0 i1; replace H := Lib.hid h; clear h)
    | (go_at_call 35; (with_reducible refine (key_encode' x0 k0 0 HX0.out HKE0.out H.out).mono ?_); rintro e_ wn ⟨rfl, h⟩; have c0 := h.rawCell 0; have c1 := h.rawCell 1; have c2 := h.rawCell 2; have c3 := h.rawCell 3; have c4 := h.rawCell 4; have c5 := h.rawCell 5; have c6 := h.rawCell 6; have d0 := h.p1.rawCell 0; have d1 := h.p1.rawCell 1; have d2 := h.p1.rawCell 2; have d3 := h.p1.rawCell 3; have d4 := h.p1.rawCell 4; have d5 := h.p1.rawCell 5; have d6 := h.p1.rawCell 6; have i0 := h.p2.rawCell 0; have i1 := h.p2.rawCell 1; simp at c0 d0 c1 d1 c2 d2 c3 d3 c4 d4 c5 d5 c6 d6 i0 i1; replace H := Lib.hid h; clear h)
    | (go_at_call 35; (with_reducible refine (key_encode' x1 k1 f1 HX1.out HKE1.out H.out).mono ?_); rintro e_ wn ⟨rfl, h⟩; have c0 := h.rawCell 0; have c1 := h.rawCell 1; have c2 := h.rawCell 2; have c3 := h.rawCell 3; have c4 := h.rawCell 4; have c5 := h.rawCell 5; have c6 := h.rawCell 6; have d0 := h.p1.rawCell 0; have d1 := h.p1.rawCell 1; have d2 := h.p1.rawCell 2; have d3 := h.p1.rawCell 3; have d4 := h.p1.rawCell 4; have d5 := h.p1.rawCell 5; have d6 := h.p1.rawCell 6; have i0 := h.p2.rawCell 0; have i1 := h.p2.rawCell 1; simp at c0 d0 c1 d1 c2 d2 c3 d3 c4 d4 c5 d5 c6 d6 i0 i1; replace H := Lib.hid h; clear h)
    | (go_at_call 36; (with_reducible refine (key_decode' k0 x0 0 HKL.out HKD.out H.out).mono ?_); rintro e_ wn ⟨rfl, h⟩; have c0 := h.rawCell 0; have c1 := h.rawCell 1; have c2 := h.rawCell 2; have c3 := h.rawCell 3; have c4 := h.rawCell 4; have c5 := h.rawCell 5; have c6 := h.rawCell 6; have d0 := h.p1.rawCell 0; have d1 := h.p1.rawCell 1; have d2 := h.p1.rawCell 2; have d3 := h.p1.rawCell 3; have d4 := h.p1.rawCell 4; have d5 := h.p1.rawCell 5; have d6 := h.p1.rawCell 6; have i0 := h.p2.rawCell 0; have i1 := h.p2.rawCell 1; simp at c0 d0 c1 d1 c2 d2 c3 d3 c4 d4 c5 d5 c6 d6 i0 i1; replace H := Lib.hid h; clear h)
    | (go_at_call 15; (with_reducible refine (val_encode_okS p1 e1 t1 s1 u1 st1 l1 q1 cap1 tl1 HT1.out S1 HS1.out HE1.out HRR1.out HF1.out HK1.out H.out).mono ?_); rintro e_ wn ⟨rfl, h⟩; have c0 := h.rawCell 0; have c1 := h.rawCell 1; have c2 := h.rawCell 2; have c3 := h.rawCell 3; have c4 := h.rawCell 4; have c5 := h.rawCell 5; have c6 := h.rawCell 6; have d0 := h.p1.rawCell 0; have d1 := h.p1.rawCell 1; have d2 := h.p1.rawCell 2; have d3 := h.p1.rawCell 3; have d4 := h.p1.rawCell 4; have d5 := h.p1.rawCell 5; have d6 := h.p1.rawCell 6; have i0 := h.p2.rawCell 0; have i1 := h.p2.rawCell 1; simp at c0 d0 c1 d1 c2 d2 c3 d3 c4 d4 c5 d5 c6 d6 i0 i1; replace H := Lib.hid h; clear h)
    | (go_at_call 15; (with_reducible refine (val_encode_badS p2 e2 t2 s2 u2 st2 l2 q2 cap2 tl2 HT2.out _ HE2.out HE02.out HF2.out HK2.out H.out).mono ?_); rintro e_ wn ⟨rfl, h⟩; have c0 := h.rawCell 0; have c1 := h.rawCell 1; have c2 := h.rawCell 2; have c3 := h.rawCell 3; have c4 := h.rawCell 4; have c5 := h.rawCell 5; have c6 := h.rawCell 6; have d0 := h.p1.rawCell 0; have d1 := h.p1.rawCell 1; have d2 := h.p1.rawCell 2; have d3 := h.p1.rawCell 3; have d4 := h.p1.rawCell 4; have d5 := h.p1.rawCell 5; have d6 := h.p1.rawCell 6; have i0 := h.p2.rawCell 0; have i1 := h.p2.rawCell 1; simp at c0 d0 c1 d1 c2 d2 c3 d3 c4 d4 c5 d5 c6 d6 i0 i1; replace H := Lib.hid h; clear h)
    | (go_at_call 18; (with_reducible refine (val_decode_okV S1 HSL.out p1 e1 t1 s1 u1 st1 tl1 HVD.out H.out).mono ?_); rintro e_ wn ⟨qt, capt, lr, rfl, hlr, h⟩; obtain ⟨vb, hvb⟩ : ∃ b, wn.heap.size = b := ⟨_, rfl⟩; have h := h.allocRaw #[.int .i64 p1, .int .i64 e1, .int .i64 t1, .int .i64 s1, .slice qt lr.length capt, .int .i64 u1, .int .i64 st1] 24; rw [hvb] at h; have HLR := Lib.hid hlr; clear hlr; have HLT3 := Lib.hid (lenT_of (fewT_map HF1.out (HLR.out.trans HT1.out.symm))); have HK3 := Lib.hid (Know.has_right (b := Know.tops (.slice qt lr.length capt) lr) (Know.has_refl _) : (K.and (Know.tops (.slice qt lr.length capt) lr)).has _); have HK4 := Lib.hid (Know.has_left HK1.out : (K.and (Know.tops (.slice qt lr.length capt) lr)).has _); have v0 := h.rawCell 0; have v1 := h.rawCell 1; have v2 := h.rawCell 2; have v3 := h.rawCell 3; have v4 := h.rawCell 4; have v5 := h.rawCell 5; have v6 := h.rawCell 6; have c0 := h.p1.rawCell 0; have c1 := h.p1.rawCell 1; have c2 := h.p1.rawCell 2; have c3 := h.p1.rawCell 3; have c4 := h.p1.rawCell 4; have c5 := h.p1.rawCell 5; have c6 := h.p1.rawCell 6; have d0 := h.p2.rawCell 0; have d1 := h.p2.rawCell 1; have d2 := h.p2.rawCell 2; have d3 := h.p2.rawCell 3; have d4 := h.p2.rawCell 4; have d5 := h.p2.rawCell 5; have d6 := h.p2.rawCell 6; have i0 := h.p3.rawCell 0; have i1 := h.p3.rawCell 1; simp at v0 c0 d0 v1 c1 d1 v2 c2 d2 v3 c3 d3 v4 c4 d4 v5 c5 d5 v6 c6 d6 i0 i1; replace H := Lib.hid h; clear h)
    | (go_at_call 20; (with_reducible refine (ref14_same p1 e1 t1 s1 u1 st1 p1 e1 t1 s1 u1 st1 lr l1 qt q1 capt cap1 tl1 tl1 HLR.out HT1.out true (decide_eq_true rfl) HLT3.out HLT1.out HK3.out HK4.out H.out).mono ?_); rintro e_ wn ⟨rfl, h⟩; have v0 := h.rawCell 0; have v1 := h.rawCell 1; have v2 := h.rawCell 2; have v3 := h.rawCell 3; have v4 := h.rawCell 4; have v5 := h.rawCell 5; have v6 := h.rawCell 6; have c0 := h.p1.rawCell 0; have c1 := h.p1.rawCell 1; have c2 := h.p1.rawCell 2; have c3 := h.p1.rawCell 3; have c4 := h.p1.rawCell 4; have c5 := h.p1.rawCell 5; have c6 := h.p1.rawCell 6; have d0 := h.p2.rawCell 0; have d1 := h.p2.rawCell 1; have d2 := h.p2.rawCell 2; have d3 := h.p2.rawCell 3; have d4 := h.p2.rawCell 4; have d5 := h.p2.rawCell 5; have d6 := h.p2.rawCell 6; have i0 := h.p3.rawCell 0; have i1 := h.p3.rawCell 1; simp at v0 c0 d0 v1 c1 d1 v2 c2 d2 v3 c3 d3 v4 c4 d4 v5 c5 d5 v6 c6 d6 i0 i1; replace H := Lib.hid h; clear h))
  go_ret
  exact ⟨rfl, H.out.below⟩

set_option maxHeartbeats 4000000 in
set_option maxRecDepth 100000 in
theorem we_ob_bo (x0 x1 : Bs) (hx0 : (x0.length : Int) ≤ 500) (hx1 : (x1.length : Int) ≤ 500) (p1 e1 t1 s1 u1 st1 : Int) (l1 : List (TopS × Value)) (q1 : Option Addr) (cap1 : Nat) (tl1 : List TopS) (ht1 : l1.map (·.1) = tl1) (hfi1 : FewI l1) (p2 e2 t2 s2 u2 st2 : Int) (l2 : List (TopS × Value)) (q2 : Option Addr) (cap2 : Nat) (tl2 : List TopS) (ht2 : l2.map (·.1) = tl2) (hfi2 : FewI l2) (hw1 : few (l1.map (·.1)) = 1) (hw2 : few (l2.map (·.1)) = 1) (k0 k1 : Bs) (f1 : Int) (hke0 : keyEnc x0 = (k0, 0)) (hke1 : keyEnc x1 = (k1, f1)) (hf1 : f1 ≠ 0) (hkd : keyRd k0 = (x0, 0)) (hkl : k0.length ≤ 40100) (E1 : Int) (he1 : ValS.err ⟨p1, e1, t1, s1, tl1, u1, st1⟩ = E1) (h01 : E1 ≠ 0) (S2 : Bs) (hS2 : ValS.enc ⟨p2, e2, t2, s2, tl2, u2, st2⟩ = S2) (he2 : ValS.err ⟨p2, e2, t2, s2, tl2, u2, st2⟩ = 0) (hR2 : ValS.R ⟨p2, e2, t2, s2, tl2, u2, st2⟩) {W0 w : World} {K : Know} {L : List Res} (hk1 : K.has (Know.tops (.slice q1 l1.length cap1) l1)) (hk2 : K.has (Know.tops (.slice q2 l2.length cap2) l2)) (h : St W0 w K L) :
    Calls Try.prog 6 #[.agg #[.string (bb x0), .string (bb x1)], .agg #[.int .i64 p1, .int .i64 e1, .int .i64 t1, .int .i64 s1, .slice q1 l1.length cap1, .int .i64 u1, .int .i64 st1], .agg #[.int .i64 p2, .int .i64 e2, .int .i64 t2, .int .i64 s2, .slice q2 l2.length cap2, .int .i64 u2, .int .i64 st2]] w fun en w' => en = .returned (.bool true) ∧ Below W0.heap.size W0 w' := by
  have h := ((h.allocRaw #[.string (bb x0), .string (bb x1)] 60).allocRaw #[.int .i64 p1, .int .i64 e1, .int .i64 t1, .int .i64 s1, .slice q1 l1.length cap1, .int .i64 u1, .int .i64 st1] 24).allocRaw #[.int .i64 p2, .int .i64 e2, .int .i64 t2, .int .i64 s2, .slice q2 l2.length cap2, .int .i64 u2, .int .i64 st2] 24
  rw [World.size_alloc, World.size_alloc] at h
  have H := Lib.hid h
  have tok : True := trivial
  have HT1 := Lib.hid ht1
  have HK1 := Lib.hid hk1
  have HNL1 := Lib.hid hfi1.1
  have HNB1 := Lib.hid (show ∀ x ∈ l1, x.1.name.length ≤ 140737488351232 ∧ x.1.parts.length ≤ 17592186043904 from fun x hx => ⟨(hfi1.2 x hx).1, (hfi1.2 x hx).2.1⟩)
  have HT2 := Lib.hid ht2
  have HK2 := Lib.hid hk2
  have HNL2 := Lib.hid hfi2.1
  have HNB2 := Lib.hid (show ∀ x ∈ l2, x.1.name.length ≤ 140737488351232 ∧ x.1.parts.length ≤ 17592186043904 from fun x hx => ⟨(hfi2.2 x hx).1, (hfi2.2 x hx).2.1⟩)
  have HFW1 := Lib.hid hw1
  have HFW2 := Lib.hid hw2
  have HF1 := Lib.hid (few_T (few_one hw1))
  have HF2 := Lib.hid (few_T (few_one hw2))
  have HLT1 := Lib.hid (lenT_of HF1.out)
  have HLT2 := Lib.hid (lenT_of HF2.out)
  have HX0 := Lib.hid (show x0.length ≤ 40000 by omega)
  have HX1 := Lib.hid (show x1.length ≤ 40000 by omega)
  have HKE0 := Lib.hid hke0
  have HKE1 := Lib.hid hke1
  have HKD := Lib.hid hkd
  have HKL := Lib.hid hkl
  have gf11 : (f1 == 0) = false := by rw [beq_eq_false_iff_ne]; assumption
  have gf12 : (f1 != 0) = true := by simp [bne, gf11]
  have gx0 : decide (500 < (x0.length : Int)) = false := decide_eq_false (by omega)
  have gx1 : decide (500 < (x1.length : Int)) = false := decide_eq_false (by omega)
  have HE1 := Lib.hid he1
  have HE01 := Lib.hid h01
  have ge11 : (E1 == 0) = false := by rw [beq_eq_false_iff_ne]; assumption
  have ge12 : (E1 != 0) = true := by simp [bne, ge11]
  have HS2 := Lib.hid hS2
  have HE2 := Lib.hid he2
  have HRR2 := Lib.hid hR2
  clear h hk1 hk2 ht1 ht2 hfi1 hfi2 hw1 hw2 hke0 hke1 hkd hkl hf1 he1 h01 hS2 he2 hR2
  go_enter Try.func6, Try.ntmps6
  go_wp2_with (first
    | (go_at_call 35; have _t := tok; clear _t; refine (key_encode' [97] [0, 0, 0, 1, 97] 0 (by decide) (by decide +kernel) H.out).mono ?_; rintro e_ wn ⟨rfl, h⟩; have c0 := h.rawCell 0; have c1 := h.rawCell 1; have c2 := h.rawCell 2; have c3 := h.rawCell 3; have c4 := h.rawCell 4; have c5 := h.rawCell 5; have c6 := h.rawCell 6; have d0 := h.p1.rawCell 0; have d1 := h.p1.rawCell 1; have d2 := h.p1.rawCell 2; have d3 := h.p1.rawCell 3; have d4 := h.p1.rawCell 4; have d5 := h.p1.rawCell 5; have d6 := h.p1.rawCell 6; have i0 := h.p2.rawCell 0; have i1 := h.p2.rawCell 1; simp at c0 d0 c1 d1 c2 d2 c3 d3 c4 d4 c5 d5 c6 d6 i0 i1; replace H := Lib.hid h; clear h; clear tok)
    | (go_at_call 14; (with_reducible refine (law14_few l1 q1 cap1 HNL1.out HNB1.out 1 HFW1.out HK1.out H.out).mono ?_); rintro e_ wn ⟨rfl, h⟩; have c0 := h.rawCell 0; have c1 := h.rawCell 1; have c2 := h.rawCell 2; have c3 := h.rawCell 3; have c4 := h.rawCell 4; have c5 := h.rawCell 5; have c6 := h.rawCell 6; have d0 := h.p1.rawCell 0; have d1 := h.p1.rawCell 1; have d2 := h.p1.rawCell 2; have d3 := h.p1.rawCell 3; have d4 := h.p1.rawCell 4; have d5 := h.p1.rawCell 5; have d6 := h.p1.rawCell 6; have i0 := h.p2.rawCell 0; have i1 := h.p2.rawCell 1; simp at c0 d0 c1 d1 c2 d2 c3 d3 c4 d4 c5 d5 c6 d6 i0 i1; replace H := Lib.hid h; clear h)
    | (go_at_call 14; (with_reducible refine (law14_few l2 q2 cap2 HNL2.out HNB2.out 1 HFW2.out HK2.out H.out).mono ?_); rintro e_ wn ⟨rfl, h⟩; have c0 := h.rawCell 0; have c1 := h.rawCell 1; have c2 := h.rawCell 2; have c3 := h.rawCell 3; have c4 := h.rawCell 4; have c5 := h.rawCell 5; have c6 := h.rawCell 6; have d0 := h.p1.rawCell 0; have d1 := h.p1.rawCell 1; have d2 := h.p1.rawCell 2; have d3 := h.p1.rawCell 3; have d4 := h.p1.rawCell 4; have d5 := h.p1.rawCell 5; have d6 := h.p1.rawCell 6; have i0 := h.p2.rawCell 0; have i1 := h.p2.rawCell 1; simp at c0 d0 c1 d1 c2 d2 c3 d3 c4 d4 c5 d5 c6 d6 i0 i1; replace H := Lib.hid h; clear h)
    | (go_at_call 35; (with_reducible refine (key_encode' x0 k0 0 HX0.out HKE0.out H.out).mono ?_); rintro e_ wn ⟨rfl, h⟩; have c0 := h.rawCell 0; have c1 := h.rawCell 1; have c2 := h.rawCell 2; have c3 := h.rawCell 3; have c4 := h.rawCell 4; have c5 := h.rawCell 5; have c6 := h.rawCell 6; have d0 := h.p1.rawCell 0; have d1 := h.p1.rawCell 1; have d2 := h.p1.rawCell 2; have d3 := h.p1.rawCell 3; have d4 := h.p1.rawCell 4; have d5 := h.p1.rawCell 5; have d6 := h.p1.rawCell 6; have i0 := h.p2.rawCell 0; have i1 := h.p2.rawCell 1; simp at c0 d0 c1 d1 c2 d2 c3 d3 c4 d4 c5 d5 c6 d6 i0 i1; replace H := Lib.hid h; clear h)
    | (go_at_call 35; (with_reducible refine (key_encode' x1 k1 f1 HX1.out HKE1.out H.out).mono ?_); rintro e_ wn ⟨rfl, h⟩; have c0 := h.rawCell 0; have c1 := h.rawCell 1; have c2 := h.rawCell 2; have c3 := h.rawCell 3; have c4 := h.rawCell 4; have c5 := h.rawCell 5; have c6 := h.rawCell 6; have d0 := h.p1.rawCell 0; have d1 := h.p1.rawCell 1; have d2 := h.p1.rawCell 2; have d3 := h.p1.rawCell 3; have d4 := h.p1.rawCell 4; have d5 := h.p1.rawCell 5; have d6 := h.p1.rawCell 6; have i0 := h.p2.rawCell 0; have i1 := h.p2.rawCell 1; simp at c0 d0 c1 d1 c2 d2 c3 d3 c4 d4 c5 d5 c6 d6 i0 i1; replace H := Lib.hid h; clear h)
    | (go_at_call 36; (with_reducible refine (key_decode' k0 x0 0 HKL.out HKD.out H.out).mono ?_); rintro e_ wn ⟨rfl, h⟩; have c0 := h.rawCell 0; have c1 := h.rawCell 1; have c2 := h.rawCell 2; have c3 := h.rawCell 3; have c4 := h.rawCell 4; have c5 := h.rawCell 5; have c6 := h.rawCell 6; have d0 := h.p1.rawCell 0; have d1 := h.p1.rawCell 1; have d2 := h.p1.rawCell 2; have d3 := h.p1.rawCell 3; have d4 := h.p1.rawCell 4; have d5 := h.p1.rawCell 5; have d6 := h.p1.rawCell 6; have i0 := h.p2.rawCell 0; have i1 := h.p2.rawCell 1; simp at c0 d0 c1 d1 c2 d2 c3 d3 c4 d4 c5 d5 c6 d6 i0 i1; replace H := Lib.hid h; clear h)
    | (go_at_call 15; (with_reducible refine (val_encode_badS p1 e1 t1 s1 u1 st1 l1 q1 cap1 tl1 HT1.out _ HE1.out HE01.out HF1.out HK1.out H.out).mono ?_); rintro e_ wn ⟨rfl, h⟩; have c0 := h.rawCell 0; have c1 := h.rawCell 1; have c2 := h.rawCell 2; have c3 := h.rawCell 3; have c4 := h.rawCell 4; have c5 := h.rawCell 5; have c6 := h.rawCell 6; have d0 := h.p1.rawCell 0; have d1 := h.p1.rawCell 1; have d2 := h.p1.rawCell 2; have d3 := h.p1.rawCell 3; have d4 := h.p1.rawCell 4; have d5 := h.p1.rawCell 5; have d6 := h.p1.rawCell 6; have i0 := h.p2.rawCell 0; have i1 := h.p2.rawCell 1; simp at c0 d0 c1 d1 c2 d2 c3 d3 c4 d4 c5 d5 c6 d6 i0 i1; replace H := Lib.hid h; clear h)
    | (go_at_call 15; (with_reducible refine (val_encode_okS p2 e2 t2 s2 u2 st2 l2 q2 cap2 tl2 HT2.out S2 HS2.out HE2.out HRR2.out HF2.out HK2.out H.out).mono ?_); rintro e_ wn ⟨rfl, h⟩; have c0 := h.rawCell 0; have c1 := h.rawCell 1; have c2 := h.rawCell 2; have c3 := h.rawCell 3; have c4 := h.rawCell 4; have c5 := h.rawCell 5; have c6 := h.rawCell 6; have d0 := h.p1.rawCell 0; have d1 := h.p1.rawCell 1; have d2 := h.p1.rawCell 2; have d3 := h.p1.rawCell 3; have d4 := h.p1.rawCell 4; have d5 := h.p1.rawCell 5; have d6 := h.p1.rawCell 6; have i0 := h.p2.rawCell 0; have i1 := h.p2.rawCell 1; simp at c0 d0 c1 d1 c2 d2 c3 d3 c4 d4 c5 d5 c6 d6 i0 i1; replace H := Lib.hid h; clear h))
  go_ret
  exact ⟨rfl, H.out.below⟩

set_option maxHeartbeats 4000000 in
set_option maxRecDepth 100000 in
theorem we_ob_bb (x0 x1 : Bs) (hx0 : (x0.length : Int) ≤ 500) (hx1 : (x1.length : Int) ≤ 500) (p1 e1 t1 s1 u1 st1 : Int) (l1 : List (TopS × Value)) (q1 : Option Addr) (cap1 : Nat) (tl1 : List TopS) (ht1 : l1.map (·.1) = tl1) (hfi1 : FewI l1) (p2 e2 t2 s2 u2 st2 : Int) (l2 : List (TopS × Value)) (q2 : Option Addr) (cap2 : Nat) (tl2 : List TopS) (ht2 : l2.map (·.1) = tl2) (hfi2 : FewI l2) (hw1 : few (l1.map (·.1)) = 1) (hw2 : few (l2.map (·.1)) = 1) (k0 k1 : Bs) (f1 : Int) (hke0 : keyEnc x0 = (k0, 0)) (hke1 : keyEnc x1 = (k1, f1)) (hf1 : f1 ≠ 0) (hkd : keyRd k0 = (x0, 0)) (hkl : k0.length ≤ 40100) (E1 : Int) (he1 : ValS.err ⟨p1, e1, t1, s1, tl1, u1, st1⟩ = E1) (h01 : E1 ≠ 0) (E2 : Int) (he2 : ValS.err ⟨p2, e2, t2, s2, tl2, u2, st2⟩ = E2) (h02 : E2 ≠ 0) {W0 w : World} {K : Know} {L : List Res} (hk1 : K.has (Know.tops (.slice q1 l1.length cap1) l1)) (hk2 : K.has (Know.tops (.slice q2 l2.length cap2) l2)) (h : St W0 w K L) :
    Calls Try.prog 6 #[.agg #[.string (bb x0), .string (bb x1)], .agg #[.int .i64 p1, .int .i64 e1, .int .i64 t1, .int .i64 s1, .slice q1 l1.length cap1, .int .i64 u1, .int .i64 st1], .agg #[.int .i64 p2, .int .i64 e2, .int .i64 t2, .int .i64 s2, .slice q2 l2.length cap2, .int .i64 u2, .int .i64 st2]] w fun en w' => en = .returned (.bool true) ∧ Below W0.heap.size W0 w' := by
  have h := ((h.allocRaw #[.string (bb x0), .string (bb x1)] 60).allocRaw #[.int .i64 p1, .int .i64 e1, .int .i64 t1, .int .i64 s1, .slice q1 l1.length cap1, .int .i64 u1, .int .i64 st1] 24).allocRaw #[.int .i64 p2, .int .i64 e2, .int .i64 t2, .int .i64 s2, .slice q2 l2.length cap2, .int .i64 u2, .int .i64 st2] 24
  rw [World.size_alloc, World.size_alloc] at h
  have H := Lib.hid h
  have tok : True := trivial
  have HT1 := Lib.hid ht1
  have HK1 := Lib.hid hk1
  have HNL1 := Lib.hid hfi1.1
  have HNB1 := Lib.hid (show ∀ x ∈ l1, x.1.name.length ≤ 140737488351232 ∧ x.1.parts.length ≤ 17592186043904 from fun x hx => ⟨(hfi1.2 x hx).1, (hfi1.2 x hx).2.1⟩)
  have HT2 := Lib.hid ht2
  have HK2 := Lib.hid hk2
  have HNL2 := Lib.hid hfi2.1
  have HNB2 := Lib.hid (show ∀ x ∈ l2, x.1.name.length ≤ 140737488351232 ∧ x.1.parts.length ≤ 17592186043904 from fun x hx => ⟨(hfi2.2 x hx).1, (hfi2.2 x hx).2.1⟩)
  have HFW1 := Lib.hid hw1
  have HFW2 := Lib.hid hw2
  have HF1 := Lib.hid (few_T (few_one hw1))
  have HF2 := Lib.hid (few_T (few_one hw2))
  have HLT1 := Lib.hid (lenT_of HF1.out)
  have HLT2 := Lib.hid (lenT_of HF2.out)
  have HX0 := Lib.hid (show x0.length ≤ 40000 by omega)
  have HX1 := Lib.hid (show x1.length ≤ 40000 by omega)
  have HKE0 := Lib.hid hke0
  have HKE1 := Lib.hid hke1
  have HKD := Lib.hid hkd
  have HKL := Lib.hid hkl
  have gf11 : (f1 == 0) = false := by rw [beq_eq_false_iff_ne]; assumption
  have gf12 : (f1 != 0) = true := by simp [bne, gf11]
  have gx0 : decide (500 < (x0.length : Int)) = false := decide_eq_false (by omega)
  have gx1 : decide (500 < (x1.length : Int)) = false := decide_eq_false (by omega)
  have HE1 := Lib.hid he1
  have HE01 := Lib.hid h01
  have ge11 : (E1 == 0) = false := by rw [beq_eq_false_iff_ne]; assumption
  have ge12 : (E1 != 0) = true := by simp [bne, ge11]
  have HE2 := Lib.hid he2
  have HE02 := Lib.hid h02
  have ge21 : (E2 == 0) = false := by rw [beq_eq_false_iff_ne]; assumption
  have ge22 : (E2 != 0) = true := by simp [bne, ge21]
  clear h hk1 hk2 ht1 ht2 hfi1 hfi2 hw1 hw2 hke0 hke1 hkd hkl hf1 he1 h01 he2 h02
  go_enter Try.func6, Try.ntmps6
  go_wp2_with (first
    | (go_at_call 35; have _t := tok; clear _t; refine (key_encode' [97] [0, 0, 0, 1, 97] 0 (by decide) (by decide +kernel) H.out).mono ?_; rintro e_ wn ⟨rfl, h⟩; have c0 := h.rawCell 0; have c1 := h.rawCell 1; have c2 := h.rawCell 2; have c3 := h.rawCell 3; have c4 := h.rawCell 4; have c5 := h.rawCell 5; have c6 := h.rawCell 6; have d0 := h.p1.rawCell 0; have d1 := h.p1.rawCell 1; have d2 := h.p1.rawCell 2; have d3 := h.p1.rawCell 3; have d4 := h.p1.rawCell 4; have d5 := h.p1.rawCell 5; have d6 := h.p1.rawCell 6; have i0 := h.p2.rawCell 0; have i1 := h.p2.rawCell 1; simp at c0 d0 c1 d1 c2 d2 c3 d3 c4 d4 c5 d5 c6 d6 i0 i1; replace H := Lib.hid h; clear h; clear tok)
    | (go_at_call 14; (with_reducible refine (law14_few l1 q1 cap1 HNL1.out HNB1.out 1 HFW1.out HK1.out H.out).mono ?_); rintro e_ wn ⟨rfl, h⟩; have c0 := h.rawCell 0; have c1 := h.rawCell 1; have c2 := h.rawCell 2; have c3 := h.rawCell 3; have c4 := h.rawCell 4; have c5 := h.rawCell 5; have c6 := h.rawCell 6; have d0 := h.p1.rawCell 0; have d1 := h.p1.rawCell 1; have d2 := h.p1.rawCell 2; have d3 := h.p1.rawCell 3; have d4 := h.p1.rawCell 4; have d5 := h.p1.rawCell 5; have d6 := h.p1.rawCell 6; have i0 := h.p2.rawCell 0; have i1 := h.p2.rawCell 1; simp at c0 d0 c1 d1 c2 d2 c3 d3 c4 d4 c5 d5 c6 d6 i0 i1; replace H := Lib.hid h; clear h)
    | (go_at_call 14; (with_reducible refine (law14_few l2 q2 cap2 HNL2.out HNB2.out 1 HFW2.out HK2.out H.out).mono ?_); rintro e_ wn ⟨rfl, h⟩; have c0 := h.rawCell 0; have c1 := h.rawCell 1; have c2 := h.rawCell 2; have c3 := h.rawCell 3; have c4 := h.rawCell 4; have c5 := h.rawCell 5; have c6 := h.rawCell 6; have d0 := h.p1.rawCell 0; have d1 := h.p1.rawCell 1; have d2 := h.p1.rawCell 2; have d3 := h.p1.rawCell 3; have d4 := h.p1.rawCell 4; have d5 := h.p1.rawCell 5; have d6 := h.p1.rawCell 6; have i0 := h.p2.rawCell 0; have i1 := h.p2.rawCell 1; simp at c0 d0 c1 d1 c2 d2 c3 d3 c4 d4 c5 d5 c6 d6 i0 i1; replace H := Lib.hid h; clear h)
    | (go_at_call 35; (with_reducible refine (key_encode' x0 k0 0 HX0.out HKE0.out H.out).mono ?_); rintro e_ wn ⟨rfl, h⟩; have c0 := h.rawCell 0; have c1 := h.rawCell 1; have c2 := h.rawCell 2; have c3 := h.rawCell 3; have c4 := h.rawCell 4; have c5 := h.rawCell 5; have c6 := h.rawCell 6; have d0 := h.p1.rawCell 0; have d1 := h.p1.rawCell 1; have d2 := h.p1.rawCell 2; have d3 := h.p1.rawCell 3; have d4 := h.p1.rawCell 4; have d5 := h.p1.rawCell 5; have d6 := h.p1.rawCell 6; have i0 := h.p2.rawCell 0; have i1 := h.p2.rawCell 1; simp at c0 d0 c1 d1 c2 d2 c3 d3 c4 d4 c5 d5 c6 d6 i0 i1; replace H := Lib.hid h; clear h)
    | (go_at_call 35; (with_reducible refine (key_encode' x1 k1 f1 HX1.out HKE1.out H.out).mono ?_); rintro e_ wn ⟨rfl, h⟩; have c0 := h.rawCell 0; have c1 := h.rawCell 1; have c2 := h.rawCell 2; have c3 := h.rawCell 3; have c4 := h.rawCell 4; have c5 := h.rawCell 5; have c6 := h.rawCell 6; have d0 := h.p1.rawCell 0; have d1 := h.p1.rawCell 1; have d2 := h.p1.rawCell 2; have d3 := h.p1.rawCell 3; have d4 := h.p1.rawCell 4; have d5 := h.p1.rawCell 5; have d6 := h.p1.rawCell 6; have i0 := h.p2.rawCell 0; have i1 := h.p2.rawCell 1; simp at c0 d0 c1 d1 c2 d2 c3 d3 c4 d4 c5 d5 c6 d6 i0 i1; replace H := Lib.hid h; clear h)
    | (go_at_call 36; (with_reducible refine (key_decode' k0 x0 0 HKL.out HKD.out H.out).mono ?_); rintro e_ wn ⟨rfl, h⟩; have c0 := h.rawCell 0; have c1 := h.rawCell 1; have c2 := h.rawCell 2; have c3 := h.rawCell 3; have c4 := h.rawCell 4; have c5 := h.rawCell 5; have c6 := h.rawCell 6; have d0 := h.p1.rawCell 0; have d1 := h.p1.rawCell 1; have d2 := h.p1.rawCell 2; have d3 := h.p1.rawCell 3; have d4 := h.p1.rawCell 4; have d5 := h.p1.rawCell 5; have d6 := h.p1.rawCell 6; have i0 := h.p2.rawCell 0; have i1 := h.p2.rawCell 1; simp at c0 d0 c1 d1 c2 d2 c3 d3 c4 d4 c5 d5 c6 d6 i0 i1; replace H := Lib.hid h; clear h)
    | (go_at_call 15; (with_reducible refine (val_encode_badS p1 e1 t1 s1 u1 st1 l1 q1 cap1 tl1 HT1.out _ HE1.out HE01.out HF1.out HK1.out H.out).mono ?_); rintro e_ wn ⟨rfl, h⟩; have c0 := h.rawCell 0; have c1 := h.rawCell 1; have c2 := h.rawCell 2; have c3 := h.rawCell 3; have c4 := h.rawCell 4; have c5 := h.rawCell 5; have c6 := h.rawCell 6; have d0 := h.p1.rawCell 0; have d1 := h.p1.rawCell 1; have d2 := h.p1.rawCell 2; have d3 := h.p1.rawCell 3; have d4 := h.p1.rawCell 4; have d5 := h.p1.rawCell 5; have d6 := h.p1.rawCell 6; have i0 := h.p2.rawCell 0; have i1 := h.p2.rawCell 1; simp at c0 d0 c1 d1 c2 d2 c3 d3 c4 d4 c5 d5 c6 d6 i0 i1; replace H := Lib.hid h; clear h)
    | (go_at_call 15; (with_reducible refine (val_encode_badS p2 e2 t2 s2 u2 st2 l2 q2 cap2 tl2 HT2.out _ HE2.out HE02.out HF2.out HK2.out H.out).mono ?_); rintro e_ wn ⟨rfl, h⟩; have c0 := h.rawCell 0; have c1 := h.rawCell 1; have c2 := h.rawCell 2; have c3 := h.rawCell 3; have c4 := h.rawCell 4; have c5 := h.rawCell 5; have c6 := h.rawCell 6; have d0 := h.p1.rawCell 0; have d1 := h.p1.rawCell 1; have d2 := h.p1.rawCell 2; have d3 := h.p1.rawCell 3; have d4 := h.p1.rawCell 4; have d5 := h.p1.rawCell 5; have d6 := h.p1.rawCell 6; have i0 := h.p2.rawCell 0; have i1 := h.p2.rawCell 1; simp at c0 d0 c1 d1 c2 d2 c3 d3 c4 d4 c5 d5 c6 d6 i0 i1; replace H := Lib.hid h; clear h))
  go_ret
  exact ⟨rfl, H.out.below⟩

end Go.Proofs.Ytombolmicfjjpaa
