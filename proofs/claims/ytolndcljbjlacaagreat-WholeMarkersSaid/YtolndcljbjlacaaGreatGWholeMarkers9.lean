/- A text. -/
import Derived.Test.YtolndcljbjlacaaGreatGWholeMarkers8
import Derived.RegionTactic
import Derived.Deep.RegionHeld3
import Derived.Deep.DeepCutAuto
import Derived.WalkMore
import Derived.Test.YtolndcljbjlacaaGreatArgs
import Derived.SizedLaws
import Derived.Deep.Slices
import Derived.Test.YtolndcljbjlacaaGreatL06F
import Derived.Test.YtolndcljbjlacaaGreatGWholeMarkers7
import Derived.Test.YtolndcljbjlacaaGreatRec8
import Derived.Lib.SmallJoins
import Derived.Test.YtolndcljbjlacaaGreatRecs
import Derived.Test.YtolndcljbjlacaaGreatGWholeMarkers4
import Derived.Test.YtolndcljbjlacaaGreatGWholeMarkers1
/- A text. -/
namespace Go.Proofs.YtolndcljbjlacaaGreat
open Go.RowKit

set_option maxHeartbeats 60000000 in
set_option maxRecDepth 100000 in
theorem wm_main (l : List BatR) (ends : List EndS) (q q5 : Option Addr) (cap cap5 : Nat) (hf : ∀ x ∈ l, x.Fit) (hre : ∀ x ∈ ends, x.R) (hl : l.length ≤ 6) (he : ends.length ≤ 6) {W0 w : World} {K : Know} (hk : K.has (Know.bats (.slice q l.length cap) l)) (hk5 : K.has (Know.flat REnd (.slice q5 ends.length cap5) 5 ends)) (h : St W0 w K []) :
  Calls Tryz.prog 3 #[.slice q l.length cap, .slice q5 ends.length cap5] w fun en w' => en = .returned (.bool true) ∧ Below W0.heap.size W0 w' := by
 have H := Lib.hid h
 have HK := Lib.hid hk
 have HK5 := Lib.hid hk5
 have HFT := Lib.hid hf
 have HRE := Lib.hid hre
 have HL6 := Lib.hid hl
 have HE6 := Lib.hid he
 have d1 : decide ((6 : Int) < (l.length : Int)) = false := decide_eq_false (by omega)
 have d2 : decide ((6 : Int) < (ends.length : Int)) = false := decide_eq_false (by omega)
 clear h hk hk5 hf hre hl he
 go_enter Tryz.func3, Tryz.ntmps3
 go_wp2_with (go_at_call 4; (with_reducible refine (top_none H.out).mono ?_); rintro e_ wn ⟨s0, rfl, h⟩; have h := h.alloc (.cells #[.int .i64 0, .int .i64 0, .bool false, .bool false, .bool false, .int .i64 0, .int .i64 0, .int .i64 0, .int .i64 (-1), .int .i64 (-1), .int .i64 (-1), .slice none 0 0] 26); have h := h.rowLit [] 26 12 0 rfl (by decide); simp only [World.size_alloc] at h; replace H := Lib.hid h; clear h)
 clear d1 d2
 go_loopw [8, 9, 10, 11, 12, 13, 14] (fun sv wv iv _ _ _ _ wr => ∃ (i : Nat) (W : List BatR) (K2 : Know), i ≤ 6 ∧ iv = .int .i64 i ∧ sv = .string (bb (encB W)) ∧ Hid (∀ x ∈ W, Good1 x) ∧ Hid (∀ x ∈ W, K2.has (Know.recs (.slice x.q x.l.length x.cap) x.l)) ∧ Hid (K2.has K) ∧ Hid (W.filterMap tellB = ends.take i) ∧ Hid (W.length ≤ 2 * i) ∧ St W0 wr K2 [.row wv 26 12 W.length (W.flatMap batcells)]) (fun _ _ iv _ _ _ _ _ => 6 - (intOf iv).toNat)
 case atStart => exact ⟨0, [], K, by decide, rfl, rfl, Lib.hid (fun x hx => by cases hx), Lib.hid (fun x hx => by cases hx), Lib.hid (Know.has_refl _), Lib.hid rfl, Lib.hid (Nat.le_refl _), H.out⟩
 case round =>
  obtain ⟨i, W, K2, hi6, rfl, rfl, HG, HWK, HKK, HT, HWL2, hst⟩ := hrel
  clear H
  have H := Lib.hid hst
  clear hst
  have HWL := Lib.hid (show W.length ≤ 12 by have := HWL2.out; omega)
  have HKE := Lib.hid (Know.has_trans HKK.out HK5.out)
  obtain ⟨A0, hA0⟩ : ∃ A0, encB W = A0 := ⟨_, rfl⟩
  have hal : A0.length ≤ 14000 * 12 := by
    have h1 := encB_le14 W HG.out
    have h2 := HWL.out
    rw [hA0] at h1
    omega
  rw [hA0]
  have hii6 : (i : Int) ≤ 6 := by omega
  by_cases hA : i < l.length
  · have hi6 : i < 6 := by have := HL6.out; omega
    have hAi : (i : Int) < (l.length : Int) := by omega
    have HKB := Lib.hid (Know.has_trans HKK.out HK.out)
    obtain ⟨xb, off, hqq⟩ := bats_at HKB.out H.out (by omega)
    subst hqq
    obtain ⟨x, hx⟩ : ∃ x, l[i] = x := ⟨_, rfl⟩
    have hmem : x ∈ l := hx ▸ List.getElem_mem hA
    have hfit := HFT.out x hmem
    have hcell := fun (w' : World) (h' : St W0 w' K2 [.row u9 26 12 W.length (W.flatMap batcells)]) => bats_cell HKB.out h' i hA x hx
    have hxk := bats_recs HKB.out hmem
    obtain ⟨⟨base, leader, app, txn, ctl, last, first, maxt, prod, epoch, sq, rcs⟩, xl, xq, xcap⟩ := x
    have HRC := Lib.hid (show xl.map (·.1) = rcs from hfit.2.2)
    have HXK := Lib.hid (show K2.has (Know.recs (.slice xq xl.length xcap) xl) from hxk)
    have HFW := Lib.hid (show FitW xl from hfit.2.1)
    have hR : BatS.R (⟨base, leader, app, txn, ctl, last, first, maxt, prod, epoch, sq, rcs⟩ : BatS) := hfit.1
    have HRB1 := Lib.hid (show Rn base from hR.1)
    have HMX1 := Lib.hid (show first ≤ 9223372036854775807 by have h9 : first < 9223372036854775808 := hR.2.2.2.1.2; omega)
    have HCC := Lib.hid (show ∀ (w' : World), St W0 w' K2 [.row u9 26 12 W.length (W.flatMap batcells)] → (w'.cell? ⟨xb, off + i * 12, none⟩ = some (.int .i64 base) ∧ w'.cell? ⟨xb, off + i * 12 + 1, none⟩ = some (.int .i64 leader) ∧ w'.cell? ⟨xb, off + i * 12 + 2, none⟩ = some (.bool app) ∧ w'.cell? ⟨xb, off + i * 12 + 3, none⟩ = some (.bool txn) ∧ w'.cell? ⟨xb, off + i * 12 + 4, none⟩ = some (.bool ctl) ∧ w'.cell? ⟨xb, off + i * 12 + 5, none⟩ = some (.int .i64 last) ∧ w'.cell? ⟨xb, off + i * 12 + 6, none⟩ = some (.int .i64 first) ∧ w'.cell? ⟨xb, off + i * 12 + 7, none⟩ = some (.int .i64 maxt) ∧ w'.cell? ⟨xb, off + i * 12 + 8, none⟩ = some (.int .i64 prod) ∧ w'.cell? ⟨xb, off + i * 12 + 9, none⟩ = some (.int .i64 epoch) ∧ w'.cell? ⟨xb, off + i * 12 + 10, none⟩ = some (.int .i64 sq) ∧ w'.cell? ⟨xb, off + i * 12 + 11, none⟩ = some (.slice xq xl.length xcap)) from hcell)
    clear hx hmem hcell hxk hR
    cases hs : smallB (xl.map (·.1)) with
    | false =>
      as_aux_lemma =>
      have HSX := Lib.hid hs
      clear hs hfit hA0
      obtain ⟨c0, c1, c2, c3, c4, c5, c6, c7, c8, c9, c10, c11⟩ := HCC.out _ H.out
      go_wp2_with (first
        | (go_at_call 5; clear c0 c1 c2 c3 c4 c5 c6 c7 c8 c9 c10 c11; (with_reducible refine (l11_small base leader app txn ctl last first maxt prod epoch sq xl _ _ false HSX.out HFW.out HXK.out H.out).mono ?_); rintro e_ wn ⟨rfl, h⟩; obtain ⟨c0, c1, c2, c3, c4, c5, c6, c7, c8, c9, c10, c11⟩ := HCC.out _ h; replace H := Lib.hid h; clear h))
      go_ret
      exact ⟨rfl, H.out.below⟩
    | true =>
      have HSX := Lib.hid hs
      have HFB := Lib.hid (FitW.fit HFW.out hs)
      have HLL1 := Lib.hid (show xl.length ≤ 1000000 by have := smallB_len hs; omega)
      obtain ⟨ex, hex⟩ : ∃ ex, batErr (⟨base, leader, app, txn, ctl, last, first, maxt, prod, epoch, sq, rcs⟩ : BatS) = ex := ⟨_, rfl⟩
      by_cases hex0 : ex = 0
      · subst hex0
        cases ctl with
        | true =>
          as_aux_lemma =>
          have HEX := Lib.hid (show batErr (⟨base, leader, app, txn, true, last, first, maxt, prod, epoch, sq, xl.map (·.1)⟩ : BatS) = 0 by rw [HRC.out]; exact hex)
          clear hs hfit hA0 hex
          obtain ⟨c0, c1, c2, c3, c4, c5, c6, c7, c8, c9, c10, c11⟩ := HCC.out _ H.out
          go_wp2_with (first
            | (go_at_call 5; clear c0 c1 c2 c3 c4 c5 c6 c7 c8 c9 c10 c11; (with_reducible refine (l11_small base leader app txn true last first maxt prod epoch sq xl _ _ true HSX.out HFW.out HXK.out H.out).mono ?_); rintro e_ wn ⟨rfl, h⟩; obtain ⟨c0, c1, c2, c3, c4, c5, c6, c7, c8, c9, c10, c11⟩ := HCC.out _ h; replace H := Lib.hid h; clear h)
            | (go_at_call 6; clear c0 c1 c2 c3 c4 c5 c6 c7 c8 c9 c10 c11; (with_reducible refine (ref11_check base leader app txn true last first maxt prod epoch sq xl _ _ 0 HEX.out HMX1.out HRB1.out HFB.out HLL1.out HXK.out H.out).mono ?_); rintro e_ wn ⟨rfl, h⟩; obtain ⟨c0, c1, c2, c3, c4, c5, c6, c7, c8, c9, c10, c11⟩ := HCC.out _ h; replace H := Lib.hid h; clear h))
          go_ret
          exact ⟨rfl, H.out.below⟩
        | false =>
          have HEX := Lib.hid (show batErr (⟨base, leader, app, txn, false, last, first, maxt, prod, epoch, sq, xl.map (·.1)⟩ : BatS) = 0 by rw [HRC.out]; exact hex)
          have hgx : Good1 (⟨(⟨base, leader, app, txn, false, last, first, maxt, prod, epoch, sq, rcs⟩ : BatS), xl, xq, xcap⟩ : BatR) := good_plain _ hfit hs hex rfl
          have HGX := Lib.hid hgx
          have HTX := Lib.hid (tell_plain (⟨(⟨base, leader, app, txn, false, last, first, maxt, prod, epoch, sq, rcs⟩ : BatS), xl, xq, xcap⟩ : BatR) rfl)
          have HSO1 := Lib.hid (show SmallOk (⟨base, leader, app, txn, false, last, first, maxt, prod, epoch, sq, rcs⟩ : BatS) from hgx.so)
          obtain ⟨s1, hs1⟩ : ∃ s1, BatS.enc (⟨base, leader, app, txn, false, last, first, maxt, prod, epoch, sq, rcs⟩ : BatS) = s1 := ⟨_, rfl⟩
          have HS1 := Lib.hid hs1
          have hsl1 : s1.length ≤ 14000 := by rw [← hs1]; exact hgx.len
          obtain ⟨A1, hA1⟩ : ∃ A1, A0 ++ s1 = A1 := ⟨_, rfl⟩
          have hcat1 : bb A0 ++ bb s1 = bb A1 := by rw [← hA1]; exact bb_append _ _
          have hg1 : ¬ (9223372036854775807 < A0.length + s1.length) := by omega
          have HSA := Lib.hid (show encB (W ++ [(⟨(⟨base, leader, app, txn, false, last, first, maxt, prod, epoch, sq, rcs⟩ : BatS), xl, xq, xcap⟩ : BatR)]) = A1 by
            rw [encB_append, encB_one, hA0, ← hA1]
            show A0 ++ BatS.enc (⟨base, leader, app, txn, false, last, first, maxt, prod, epoch, sq, rcs⟩ : BatS) = _
            rw [hs1])
          have HAL := Lib.hid (show A1.length ≤ 182000 by rw [← hA1, List.length_append]; omega)
          clear hs hfit hex hgx hs1 hA1 hA0 hal hsl1
          by_cases hB : i < ends.length
          · have hBi : (i : Int) < (ends.length : Int) := by omega
            obtain ⟨eb, eoff, hq5⟩ := ends_at HKE.out H.out (by omega)
            subst hq5
            obtain ⟨⟨n1, n2, n3, n4, n5⟩, hy⟩ : ∃ y, ends[i] = y := ⟨_, rfl⟩
            have HEC := Lib.hid (show ∀ (w' : World) (K' : Know) (L' : List Res), K'.has (Know.flat REnd (.slice (some ⟨eb, eoff, none⟩) ends.length cap5) 5 ends) → St W0 w' K' L' → (w'.cell? ⟨eb, eoff + i * 5, none⟩ = some (.int .i64 n1) ∧ w'.cell? ⟨eb, eoff + i * 5 + 1, none⟩ = some (.int .i64 n2) ∧ w'.cell? ⟨eb, eoff + i * 5 + 2, none⟩ = some (.int .i64 n3) ∧ w'.cell? ⟨eb, eoff + i * 5 + 3, none⟩ = some (.int .i64 n4) ∧ w'.cell? ⟨eb, eoff + i * 5 + 4, none⟩ = some (.int .i64 n5)) from fun w' K' L' hk' h' => ends_cell hk' h' i hB n1 n2 n3 n4 n5 hy)
            obtain ⟨r1, r2, r3, r4, r5⟩ : Rn n1 ∧ Rn n2 ∧ Rn n3 ∧ Rn n4 ∧ Rn n5 := HRE.out ⟨n1, n2, n3, n4, n5⟩ (hy ▸ List.getElem_mem hB)
            have HN3 := Lib.hid r3
            have HN5 := Lib.hid r5
            have htk : ends.take (i + 1) = ends.take i ++ [⟨n1, n2, n3, n4, n5⟩] := by rw [List.take_succ_eq_append_getElem hB, hy]
            have HEN := Lib.hid (show ends.take i ++ [⟨n1, n2, n3, n4, n5⟩] = ends.take (i + 1) from htk.symm)
            clear hy htk
            by_cases hrec : recErr n3 n5 = 0
            · obtain ⟨ks, vs, hks, hvs⟩ : ∃ ks vs, ctlKey n3 = (ks, 0) ∧ ctlVal n5 = (vs, 0) := by
                unfold recErr at hrec
                rcases ctlKey_form n3 with ⟨ks, hk⟩ | ⟨e1, h1, hk⟩
                · rcases ctlVal_form n5 with ⟨vs, hv⟩ | ⟨e2, h2, hv⟩
                  · exact ⟨ks, vs, hk, hv⟩
                  · rw [hk, hv] at hrec; exact absurd hrec h2
                · rw [hk, if_pos h1] at hrec; exact absurd hrec h1
              have HKS := Lib.hid hks
              have HVS := Lib.hid hvs
              have HMX := Lib.hid (show n4 ≤ 9223372036854775807 by have := r4.2; omega)
              have HFR := Lib.hid (show (⟨0, 0, ⟨false, ks⟩, ⟨false, vs⟩, []⟩ : RecS).R ∧ HFit (⟨0, 0, ⟨false, ks⟩, ⟨false, vs⟩, []⟩ : RecS).hdrs ∧ (⟨0, 0, ⟨false, ks⟩, ⟨false, vs⟩, []⟩ : RecS).sum ≤ 1000000 from ⟨mark_R ks vs, (fun x hx => by cases hx), by
                have hk : ks.length = 4 := by unfold ctlKey at hks; split at hks <;> cases hks; exact verB_len _ _
                have hv : vs.length = 6 := by unfold ctlVal at hvs; split at hvs <;> cases hvs; exact verB_len _ _
                unfold RecS.sum
                simp [hsum, hk, hv]⟩)
              obtain ⟨er, her⟩ : ∃ er, batErr (⟨(i : Int), 0, false, true, true, 0, n4, n4, n1, n2, -1, [(⟨0, 0, ⟨false, ks⟩, ⟨false, vs⟩, []⟩ : RecS)]⟩ : BatS) = er := ⟨_, rfl⟩
              by_cases her0 : er = 0
              · skip
                subst her0
                have HER := Lib.hid her
                have hRY : BatS.R (⟨(i : Int), 0, false, true, true, 0, n4, n4, n1, n2, -1, [(⟨0, 0, ⟨false, ks⟩, ⟨false, vs⟩, []⟩ : RecS)]⟩ : BatS) := (show Rn (i : Int) ∧ Rn 0 ∧ Rn 0 ∧ Rn n4 ∧ Rn n4 ∧ Rn n1 ∧ Rn n2 ∧ Rn (-1) from ⟨(by unfold Rn; omega), (by unfold Rn; decide), (by unfold Rn; decide), r4, r4, r1, r2, (by unfold Rn; decide)⟩)
                have HSO2 := Lib.hid (smallOk_mark (i : Int) 0 n1 n2 n3 n4 n5 ks vs hks hvs hRY her)
                obtain ⟨s2, hs2⟩ : ∃ s2, BatS.enc (⟨(i : Int), 0, false, true, true, 0, n4, n4, n1, n2, -1, [(⟨0, 0, ⟨false, ks⟩, ⟨false, vs⟩, []⟩ : RecS)]⟩ : BatS) = s2 := ⟨_, rfl⟩
                have HS2 := Lib.hid hs2
                obtain ⟨A2, hA2⟩ : ∃ A2, A1 ++ s2 = A2 := ⟨_, rfl⟩
                have hcat2 : bb A1 ++ bb s2 = bb A2 := by rw [← hA2]; exact bb_append _ _
                have hg2 : ¬ (9223372036854775807 < A1.length + s2.length) := by
                  have h1 := mark_len (i : Int) 0 n1 n2 n3 n4 n5 ks vs hks hvs
                  rw [hs2] at h1
                  have h2 := HAL.out
                  omega
                have HGY := Lib.hid (fun q2 => good_mark (i : Int) 0 n1 n2 n3 n4 n5 ks vs q2 hks hvs hRY her)
                have HTY := Lib.hid (fun q2 => tell_mark (i : Int) 0 n1 n2 n3 n4 n5 ks vs q2 hks hvs her)
                have HSTR := Lib.hid (show ∀ q2 : Option Addr, encB (W ++ [(⟨(⟨base, leader, app, txn, false, last, first, maxt, prod, epoch, sq, rcs⟩ : BatS), xl, xq, xcap⟩ : BatR)] ++ [(⟨(⟨(i : Int), 0, false, true, true, 0, n4, n4, n1, n2, -1, [(⟨0, 0, ⟨false, ks⟩, ⟨false, vs⟩, []⟩ : RecS)]⟩ : BatS), [((⟨0, 0, ⟨false, ks⟩, ⟨false, vs⟩, []⟩ : RecS), .slice none 0 0)], q2, 1⟩ : BatR)]) = A2 from fun q2 => by
                  rw [encB_append, encB_one, ← hA2]
                  show encB (W ++ [(⟨(⟨base, leader, app, txn, false, last, first, maxt, prod, epoch, sq, rcs⟩ : BatS), xl, xq, xcap⟩ : BatR)]) ++ BatS.enc (⟨(i : Int), 0, false, true, true, 0, n4, n4, n1, n2, -1, [(⟨0, 0, ⟨false, ks⟩, ⟨false, vs⟩, []⟩ : RecS)]⟩ : BatS) = _
                  rw [hs2, HSA.out])
                clear hrec hks hvs her hRY hs2 hA2 r1 r2 r3 r4 r5
                have tkA : True := trivial
                have tkB : True := trivial
                obtain ⟨c0, c1, c2, c3, c4, c5, c6, c7, c8, c9, c10, c11⟩ := HCC.out _ H.out
                go_wp2_with (first
                  | (go_at_call 5; clear c0 c1 c2 c3 c4 c5 c6 c7 c8 c9 c10 c11; (with_reducible refine (l11_small base leader app txn false last first maxt prod epoch sq xl _ _ true HSX.out HFW.out HXK.out H.out).mono ?_); rintro e_ wn ⟨rfl, h⟩; obtain ⟨c0, c1, c2, c3, c4, c5, c6, c7, c8, c9, c10, c11⟩ := HCC.out _ h; replace H := Lib.hid h; clear h)
                  | (go_at_call 6; clear c0 c1 c2 c3 c4 c5 c6 c7 c8 c9 c10 c11; (with_reducible refine (ref11_check base leader app txn false last first maxt prod epoch sq xl _ _ 0 HEX.out HMX1.out HRB1.out HFB.out HLL1.out HXK.out H.out).mono ?_); rintro e_ wn ⟨rfl, h⟩; obtain ⟨c0, c1, c2, c3, c4, c5, c6, c7, c8, c9, c10, c11⟩ := HCC.out _ h; replace H := Lib.hid h; clear h)
                  | (go_at_call 7; clear c0 c1 c2 c3 c4 c5 c6 c7 c8 c9 c10 c11; (with_reducible refine (ref11_encodeX base leader app txn false last first maxt prod epoch sq rcs xl HRC.out _ _ s1 HS1.out HSO1.out HXK.out H.out).mono ?_); rintro e_ wn ⟨rfl, h⟩; obtain ⟨c0, c1, c2, c3, c4, c5, c6, c7, c8, c9, c10, c11⟩ := HCC.out _ h; replace H := Lib.hid h; clear h)
                  | (at_builtin; have _t := tkA; clear _t; refine wpl_app1_st rfl _ _ 22 rfl 26 Tryz.underlying22 elem_bat _ _ _ rfl H.out [.int .i64 base, .int .i64 leader, .bool app, .bool txn, .bool false, .int .i64 last, .int .i64 first, .int .i64 maxt, .int .i64 prod, .int .i64 epoch, .int .i64 sq, .slice xq xl.length xcap] 26 rfl rfl (by simp [Value.oneCell']) (by have := HWL.out; unfold maxLen; omega) (by have := HWL.out; omega) ?_; intro v1 w1 h; clear c0 c1 c2 c3 c4 c5 c6 c7 c8 c9 c10 c11; clear tkA; obtain ⟨e0, e1, e2, e3, e4⟩ := HEC.out _ _ _ HKE.out h; replace H := Lib.hid h; clear h; simp only [Act.put, sA, sB, sC])
                  | (go_at_call 8; clear e0 e1 e2 e3 e4; (with_reducible refine (mrk_batch_ok (i : Int) 0 n1 n2 n3 n4 n5 HN3.out HN5.out HMX.out ks vs HKS.out HVS.out HFR.out HER.out H.out).mono ?_); rintro e_ wn ⟨q2, rfl, h⟩; obtain ⟨bk, hbk⟩ : ∃ b, wn.heap.size = b := ⟨_, rfl⟩; have h := h.allocRaw #[.int .i64 (i : Int), .int .i64 0, .bool false, .bool true, .bool true, .int .i64 0, .int .i64 n4, .int .i64 n4, .int .i64 n1, .int .i64 n2, .int .i64 (-1), .slice q2 1 1] 26; rw [hbk] at h; obtain ⟨e0, e1, e2, e3, e4⟩ := HEC.out _ _ _ (Know.has_left HKE.out) h; replace H := Lib.hid h; clear h)
                  | (go_at_call 9; clear e0 e1 e2 e3 e4; (with_reducible refine (mrk_encode_ok (i : Int) 0 n1 n2 n3 n4 n5 HN3.out HN5.out HMX.out ks vs HKS.out HVS.out HFR.out HER.out HSO2.out s2 HS2.out H.out).mono ?_); rintro e_ wn ⟨rfl, h⟩; obtain ⟨z0, z1, z2, z3, z4, z5, z6, z7, z8, z9, z10, z11, v0, v1, v2, v3, v4, v5, v6, v7, v8, v9, v10, v11⟩ := raw12 (b := bk) (h); replace H := Lib.hid h; clear h)
                  | (at_builtin; have _t := tkB; clear _t; refine wpl_app1_st rfl _ _ 22 rfl 26 Tryz.underlying22 elem_bat _ _ _ rfl H.out.p1 [.int .i64 (i : Int), .int .i64 0, .bool false, .bool true, .bool true, .int .i64 0, .int .i64 n4, .int .i64 n4, .int .i64 n1, .int .i64 n2, .int .i64 (-1), .slice q2 1 1] 26 rfl rfl (by simp [Value.oneCell']) (by have := HWL.out; unfold maxLen; omega) (by have := HWL.out; omega) ?_; intro v2 w2 h; clear tkB; replace H := Lib.hid h; clear h; simp only [Act.put, sA, sB, sC]))
                go_roundw
                case rel => exact ⟨i + 1, W ++ [(⟨(⟨base, leader, app, txn, false, last, first, maxt, prod, epoch, sq, rcs⟩ : BatS), xl, xq, xcap⟩ : BatR)] ++ [(⟨(⟨(i : Int), 0, false, true, true, 0, n4, n4, n1, n2, -1, [(⟨0, 0, ⟨false, ks⟩, ⟨false, vs⟩, []⟩ : RecS)]⟩ : BatS), [((⟨0, 0, ⟨false, ks⟩, ⟨false, vs⟩, []⟩ : RecS), .slice none 0 0)], q2, 1⟩ : BatR)], (K2.and (Know.recs (.slice q2 1 1) [((⟨0, 0, ⟨false, ks⟩, ⟨false, vs⟩, []⟩ : RecS), .slice none 0 0)])), by omega, by go_num, by rw [HSTR.out q2], Lib.hid (by intro x hx; rcases List.mem_append.1 hx with hx | hx; (rcases List.mem_append.1 hx with hx | hx; exact HG.out x hx; (rw [List.mem_singleton.1 hx]; exact HGX.out)); (rw [List.mem_singleton.1 hx]; exact HGY.out q2)), Lib.hid (by intro x hx; rcases List.mem_append.1 hx with hx | hx; (rcases List.mem_append.1 hx with hx | hx; exact Know.has_left (HWK.out x hx); (rw [List.mem_singleton.1 hx]; exact Know.has_left HXK.out)); (rw [List.mem_singleton.1 hx]; exact Know.has_right (Know.has_refl _))), Lib.hid (by exact Know.has_left HKK.out), Lib.hid (by simp only [List.filterMap_append, List.filterMap_cons, List.filterMap_nil, HTX.out, HTY.out q2, HT.out, List.append_nil]; exact HEN.out), Lib.hid (by simp only [List.length_append, List.length_cons, List.length_nil]; have := HWL2.out; omega), by rw [show (W ++ [(⟨(⟨base, leader, app, txn, false, last, first, maxt, prod, epoch, sq, rcs⟩ : BatS), xl, xq, xcap⟩ : BatR)] ++ [(⟨(⟨(i : Int), 0, false, true, true, 0, n4, n4, n1, n2, -1, [(⟨0, 0, ⟨false, ks⟩, ⟨false, vs⟩, []⟩ : RecS)]⟩ : BatS), [((⟨0, 0, ⟨false, ks⟩, ⟨false, vs⟩, []⟩ : RecS), .slice none 0 0)], q2, 1⟩ : BatR)]).length = W.length + 1 + 1 by simp only [List.length_append, List.length_cons, List.length_nil], show (W ++ [(⟨(⟨base, leader, app, txn, false, last, first, maxt, prod, epoch, sq, rcs⟩ : BatS), xl, xq, xcap⟩ : BatR)] ++ [(⟨(⟨(i : Int), 0, false, true, true, 0, n4, n4, n1, n2, -1, [(⟨0, 0, ⟨false, ks⟩, ⟨false, vs⟩, []⟩ : RecS)]⟩ : BatS), [((⟨0, 0, ⟨false, ks⟩, ⟨false, vs⟩, []⟩ : RecS), .slice none 0 0)], q2, 1⟩ : BatR)]).flatMap batcells = W.flatMap batcells ++ batcells (⟨(⟨base, leader, app, txn, false, last, first, maxt, prod, epoch, sq, rcs⟩ : BatS), xl, xq, xcap⟩ : BatR) ++ batcells (⟨(⟨(i : Int), 0, false, true, true, 0, n4, n4, n1, n2, -1, [(⟨0, 0, ⟨false, ks⟩, ⟨false, vs⟩, []⟩ : RecS)]⟩ : BatS), [((⟨0, 0, ⟨false, ks⟩, ⟨false, vs⟩, []⟩ : RecS), .slice none 0 0)], q2, 1⟩ : BatR) by simp only [List.flatMap_append, List.flatMap_cons, List.flatMap_nil, List.append_nil]]; exact H.out.p1.drop⟩
                case measure => first | (simp [intOf]; done) | (simp [intOf]; omega)
              · skip
                have HER := Lib.hid her
                have H0 := Lib.hid her0
                have gz : (er == 0) = false := by rw [beq_eq_false_iff_ne]; exact her0
                have gz3 : (er != 0) = true := by simp [bne, gz]
                have gee : (er == er) = true := beq_self_eq_true _
                have gee2 : (er != er) = false := by simp [bne, gee]
                clear hrec hks hvs her her0 r1 r2 r3 r4 r5
                have tkA : True := trivial
                obtain ⟨c0, c1, c2, c3, c4, c5, c6, c7, c8, c9, c10, c11⟩ := HCC.out _ H.out
                go_wp2_with (first
                  | (go_at_call 5; clear c0 c1 c2 c3 c4 c5 c6 c7 c8 c9 c10 c11; (with_reducible refine (l11_small base leader app txn false last first maxt prod epoch sq xl _ _ true HSX.out HFW.out HXK.out H.out).mono ?_); rintro e_ wn ⟨rfl, h⟩; obtain ⟨c0, c1, c2, c3, c4, c5, c6, c7, c8, c9, c10, c11⟩ := HCC.out _ h; replace H := Lib.hid h; clear h)
                  | (go_at_call 6; clear c0 c1 c2 c3 c4 c5 c6 c7 c8 c9 c10 c11; (with_reducible refine (ref11_check base leader app txn false last first maxt prod epoch sq xl _ _ 0 HEX.out HMX1.out HRB1.out HFB.out HLL1.out HXK.out H.out).mono ?_); rintro e_ wn ⟨rfl, h⟩; obtain ⟨c0, c1, c2, c3, c4, c5, c6, c7, c8, c9, c10, c11⟩ := HCC.out _ h; replace H := Lib.hid h; clear h)
                  | (go_at_call 7; clear c0 c1 c2 c3 c4 c5 c6 c7 c8 c9 c10 c11; (with_reducible refine (ref11_encodeX base leader app txn false last first maxt prod epoch sq rcs xl HRC.out _ _ s1 HS1.out HSO1.out HXK.out H.out).mono ?_); rintro e_ wn ⟨rfl, h⟩; obtain ⟨c0, c1, c2, c3, c4, c5, c6, c7, c8, c9, c10, c11⟩ := HCC.out _ h; replace H := Lib.hid h; clear h)
                  | (at_builtin; have _t := tkA; clear _t; refine wpl_app1_st rfl _ _ 22 rfl 26 Tryz.underlying22 elem_bat _ _ _ rfl H.out [.int .i64 base, .int .i64 leader, .bool app, .bool txn, .bool false, .int .i64 last, .int .i64 first, .int .i64 maxt, .int .i64 prod, .int .i64 epoch, .int .i64 sq, .slice xq xl.length xcap] 26 rfl rfl (by simp [Value.oneCell']) (by have := HWL.out; unfold maxLen; omega) (by have := HWL.out; omega) ?_; intro v1 w1 h; clear c0 c1 c2 c3 c4 c5 c6 c7 c8 c9 c10 c11; clear tkA; obtain ⟨e0, e1, e2, e3, e4⟩ := HEC.out _ _ _ HKE.out h; replace H := Lib.hid h; clear h; simp only [Act.put, sA, sB, sC])
                  | (go_at_call 8; clear e0 e1 e2 e3 e4; (with_reducible refine (mrk_batch_bad (i : Int) 0 n1 n2 n3 n4 n5 HN3.out HN5.out HMX.out ks vs HKS.out HVS.out HFR.out er H0.out HER.out H.out).mono ?_); rintro e_ wn ⟨rfl, h⟩; obtain ⟨bk, hbk⟩ : ∃ b, wn.heap.size = b := ⟨_, rfl⟩; have h := h.allocRaw #[.int .i64 0, .int .i64 0, .bool false, .bool false, .bool false, .int .i64 0, .int .i64 0, .int .i64 0, .int .i64 0, .int .i64 0, .int .i64 0, .slice none 0 0] 26; rw [hbk] at h; obtain ⟨e0, e1, e2, e3, e4⟩ := HEC.out _ _ _ HKE.out h; replace H := Lib.hid h; clear h)
                  | (go_at_call 9; clear e0 e1 e2 e3 e4; (with_reducible refine (mrk_encode_bad (i : Int) 0 n1 n2 n3 n4 n5 HN3.out HN5.out HMX.out ks vs HKS.out HVS.out HFR.out er H0.out HER.out H.out).mono ?_); rintro e_ wn ⟨rfl, h⟩; replace H := Lib.hid h; clear h))
                go_ret
                exact ⟨rfl, H.out.below⟩
            · skip
              obtain ⟨er, her⟩ : ∃ er, recErr n3 n5 = er := ⟨_, rfl⟩
              rw [her] at hrec
              have HER := Lib.hid her
              have H0 := Lib.hid hrec
              have gz : (er == 0) = false := by rw [beq_eq_false_iff_ne]; exact hrec
              have gz3 : (er != 0) = true := by simp [bne, gz]
              have gee : (er == er) = true := beq_self_eq_true _
              have gee2 : (er != er) = false := by simp [bne, gee]
              clear hrec her r1 r2 r3 r4 r5
              have tkA : True := trivial
              obtain ⟨c0, c1, c2, c3, c4, c5, c6, c7, c8, c9, c10, c11⟩ := HCC.out _ H.out
              go_wp2_with (first
                | (go_at_call 5; clear c0 c1 c2 c3 c4 c5 c6 c7 c8 c9 c10 c11; (with_reducible refine (l11_small base leader app txn false last first maxt prod epoch sq xl _ _ true HSX.out HFW.out HXK.out H.out).mono ?_); rintro e_ wn ⟨rfl, h⟩; obtain ⟨c0, c1, c2, c3, c4, c5, c6, c7, c8, c9, c10, c11⟩ := HCC.out _ h; replace H := Lib.hid h; clear h)
                | (go_at_call 6; clear c0 c1 c2 c3 c4 c5 c6 c7 c8 c9 c10 c11; (with_reducible refine (ref11_check base leader app txn false last first maxt prod epoch sq xl _ _ 0 HEX.out HMX1.out HRB1.out HFB.out HLL1.out HXK.out H.out).mono ?_); rintro e_ wn ⟨rfl, h⟩; obtain ⟨c0, c1, c2, c3, c4, c5, c6, c7, c8, c9, c10, c11⟩ := HCC.out _ h; replace H := Lib.hid h; clear h)
                | (go_at_call 7; clear c0 c1 c2 c3 c4 c5 c6 c7 c8 c9 c10 c11; (with_reducible refine (ref11_encodeX base leader app txn false last first maxt prod epoch sq rcs xl HRC.out _ _ s1 HS1.out HSO1.out HXK.out H.out).mono ?_); rintro e_ wn ⟨rfl, h⟩; obtain ⟨c0, c1, c2, c3, c4, c5, c6, c7, c8, c9, c10, c11⟩ := HCC.out _ h; replace H := Lib.hid h; clear h)
                | (at_builtin; have _t := tkA; clear _t; refine wpl_app1_st rfl _ _ 22 rfl 26 Tryz.underlying22 elem_bat _ _ _ rfl H.out [.int .i64 base, .int .i64 leader, .bool app, .bool txn, .bool false, .int .i64 last, .int .i64 first, .int .i64 maxt, .int .i64 prod, .int .i64 epoch, .int .i64 sq, .slice xq xl.length xcap] 26 rfl rfl (by simp [Value.oneCell']) (by have := HWL.out; unfold maxLen; omega) (by have := HWL.out; omega) ?_; intro v1 w1 h; clear c0 c1 c2 c3 c4 c5 c6 c7 c8 c9 c10 c11; clear tkA; obtain ⟨e0, e1, e2, e3, e4⟩ := HEC.out _ _ _ HKE.out h; replace H := Lib.hid h; clear h; simp only [Act.put, sA, sB, sC])
                | (go_at_call 8; clear e0 e1 e2 e3 e4; (with_reducible refine (mrk_batch_rec (i : Int) 0 n1 n2 n3 n4 n5 HN3.out HN5.out er HER.out H0.out H.out).mono ?_); rintro e_ wn ⟨rfl, h⟩; obtain ⟨bk, hbk⟩ : ∃ b, wn.heap.size = b := ⟨_, rfl⟩; have h := h.allocRaw #[.int .i64 0, .int .i64 0, .bool false, .bool false, .bool false, .int .i64 0, .int .i64 0, .int .i64 0, .int .i64 0, .int .i64 0, .int .i64 0, .slice none 0 0] 26; rw [hbk] at h; obtain ⟨e0, e1, e2, e3, e4⟩ := HEC.out _ _ _ HKE.out h; replace H := Lib.hid h; clear h)
                | (go_at_call 9; clear e0 e1 e2 e3 e4; (with_reducible refine (mrk_encode_rec (i : Int) 0 n1 n2 n3 n4 n5 HN3.out HN5.out er HER.out H0.out H.out).mono ?_); rintro e_ wn ⟨rfl, h⟩; replace H := Lib.hid h; clear h))
              go_ret
              exact ⟨rfl, H.out.below⟩
          · skip
            have hBi : ¬ (i : Int) < (ends.length : Int) := by omega
            have HSTR := Lib.hid (show encB (W ++ [(⟨(⟨base, leader, app, txn, false, last, first, maxt, prod, epoch, sq, rcs⟩ : BatS), xl, xq, xcap⟩ : BatR)]) = A1 from HSA.out)
            have HEN := Lib.hid (show ends.take i = ends.take (i + 1) by rw [List.take_of_length_le (by omega), List.take_of_length_le (by omega)])
            have tkA : True := trivial
            obtain ⟨c0, c1, c2, c3, c4, c5, c6, c7, c8, c9, c10, c11⟩ := HCC.out _ H.out
            go_wp2_with (first
              | (go_at_call 5; clear c0 c1 c2 c3 c4 c5 c6 c7 c8 c9 c10 c11; (with_reducible refine (l11_small base leader app txn false last first maxt prod epoch sq xl _ _ true HSX.out HFW.out HXK.out H.out).mono ?_); rintro e_ wn ⟨rfl, h⟩; obtain ⟨c0, c1, c2, c3, c4, c5, c6, c7, c8, c9, c10, c11⟩ := HCC.out _ h; replace H := Lib.hid h; clear h)
              | (go_at_call 6; clear c0 c1 c2 c3 c4 c5 c6 c7 c8 c9 c10 c11; (with_reducible refine (ref11_check base leader app txn false last first maxt prod epoch sq xl _ _ 0 HEX.out HMX1.out HRB1.out HFB.out HLL1.out HXK.out H.out).mono ?_); rintro e_ wn ⟨rfl, h⟩; obtain ⟨c0, c1, c2, c3, c4, c5, c6, c7, c8, c9, c10, c11⟩ := HCC.out _ h; replace H := Lib.hid h; clear h)
              | (go_at_call 7; clear c0 c1 c2 c3 c4 c5 c6 c7 c8 c9 c10 c11; (with_reducible refine (ref11_encodeX base leader app txn false last first maxt prod epoch sq rcs xl HRC.out _ _ s1 HS1.out HSO1.out HXK.out H.out).mono ?_); rintro e_ wn ⟨rfl, h⟩; obtain ⟨c0, c1, c2, c3, c4, c5, c6, c7, c8, c9, c10, c11⟩ := HCC.out _ h; replace H := Lib.hid h; clear h)
              | (at_builtin; have _t := tkA; clear _t; refine wpl_app1_st rfl _ _ 22 rfl 26 Tryz.underlying22 elem_bat _ _ _ rfl H.out [.int .i64 base, .int .i64 leader, .bool app, .bool txn, .bool false, .int .i64 last, .int .i64 first, .int .i64 maxt, .int .i64 prod, .int .i64 epoch, .int .i64 sq, .slice xq xl.length xcap] 26 rfl rfl (by simp [Value.oneCell']) (by have := HWL.out; unfold maxLen; omega) (by have := HWL.out; omega) ?_; intro v1 w1 h; clear c0 c1 c2 c3 c4 c5 c6 c7 c8 c9 c10 c11; clear tkA; replace H := Lib.hid h; clear h; simp only [Act.put, sA, sB, sC]))
            go_roundw
            case rel => exact ⟨i + 1, W ++ [(⟨(⟨base, leader, app, txn, false, last, first, maxt, prod, epoch, sq, rcs⟩ : BatS), xl, xq, xcap⟩ : BatR)], K2, by omega, by go_num, by rw [HSTR.out], Lib.hid (by intro x hx; rcases List.mem_append.1 hx with hx | hx; exact HG.out x hx; (rw [List.mem_singleton.1 hx]; exact HGX.out)), Lib.hid (by intro x hx; rcases List.mem_append.1 hx with hx | hx; exact HWK.out x hx; (rw [List.mem_singleton.1 hx]; exact HXK.out)), Lib.hid (by exact HKK.out), Lib.hid (by simp only [List.filterMap_append, List.filterMap_cons, List.filterMap_nil, HTX.out, HT.out, List.append_nil]; exact HEN.out), Lib.hid (by simp only [List.length_append, List.length_cons, List.length_nil]; have := HWL2.out; omega), by rw [show (W ++ [(⟨(⟨base, leader, app, txn, false, last, first, maxt, prod, epoch, sq, rcs⟩ : BatS), xl, xq, xcap⟩ : BatR)]).length = W.length + 1 by simp only [List.length_append, List.length_cons, List.length_nil], show (W ++ [(⟨(⟨base, leader, app, txn, false, last, first, maxt, prod, epoch, sq, rcs⟩ : BatS), xl, xq, xcap⟩ : BatR)]).flatMap batcells = W.flatMap batcells ++ batcells (⟨(⟨base, leader, app, txn, false, last, first, maxt, prod, epoch, sq, rcs⟩ : BatS), xl, xq, xcap⟩ : BatR) by simp only [List.flatMap_append, List.flatMap_cons, List.flatMap_nil, List.append_nil]]; exact H.out⟩
            case measure => first | (simp [intOf]; done) | (simp [intOf]; omega)
      · as_aux_lemma =>
        have HEX := Lib.hid (show batErr (⟨base, leader, app, txn, ctl, last, first, maxt, prod, epoch, sq, xl.map (·.1)⟩ : BatS) = ex by rw [HRC.out]; exact hex)
        have gx1 : (ex == 0) = false := by rw [beq_eq_false_iff_ne]; exact hex0
        have gx2 : (ex != 0) = true := by simp [bne, gx1]
        clear hs hfit hA0 hex hex0
        obtain ⟨c0, c1, c2, c3, c4, c5, c6, c7, c8, c9, c10, c11⟩ := HCC.out _ H.out
        go_wp2_with (first
          | (go_at_call 5; clear c0 c1 c2 c3 c4 c5 c6 c7 c8 c9 c10 c11; (with_reducible refine (l11_small base leader app txn ctl last first maxt prod epoch sq xl _ _ true HSX.out HFW.out HXK.out H.out).mono ?_); rintro e_ wn ⟨rfl, h⟩; obtain ⟨c0, c1, c2, c3, c4, c5, c6, c7, c8, c9, c10, c11⟩ := HCC.out _ h; replace H := Lib.hid h; clear h)
          | (go_at_call 6; clear c0 c1 c2 c3 c4 c5 c6 c7 c8 c9 c10 c11; (with_reducible refine (ref11_check base leader app txn ctl last first maxt prod epoch sq xl _ _ ex HEX.out HMX1.out HRB1.out HFB.out HLL1.out HXK.out H.out).mono ?_); rintro e_ wn ⟨rfl, h⟩; obtain ⟨c0, c1, c2, c3, c4, c5, c6, c7, c8, c9, c10, c11⟩ := HCC.out _ h; replace H := Lib.hid h; clear h))
        go_ret
        exact ⟨rfl, H.out.below⟩
  · have hAi : ¬ (i : Int) < (l.length : Int) := by omega
    by_cases hB0 : i < ends.length
    · have hi6 : i < 6 := by have := HE6.out; omega
      have HSA := Lib.hid hA0
      have HAL := Lib.hid (show A0.length ≤ 182000 by omega)
      clear hA0 hal
      by_cases hB : i < ends.length
      · have hBi : (i : Int) < (ends.length : Int) := by omega
        obtain ⟨eb, eoff, hq5⟩ := ends_at HKE.out H.out (by omega)
        subst hq5
        obtain ⟨⟨n1, n2, n3, n4, n5⟩, hy⟩ : ∃ y, ends[i] = y := ⟨_, rfl⟩
        have HEC := Lib.hid (show ∀ (w' : World) (K' : Know) (L' : List Res), K'.has (Know.flat REnd (.slice (some ⟨eb, eoff, none⟩) ends.length cap5) 5 ends) → St W0 w' K' L' → (w'.cell? ⟨eb, eoff + i * 5, none⟩ = some (.int .i64 n1) ∧ w'.cell? ⟨eb, eoff + i * 5 + 1, none⟩ = some (.int .i64 n2) ∧ w'.cell? ⟨eb, eoff + i * 5 + 2, none⟩ = some (.int .i64 n3) ∧ w'.cell? ⟨eb, eoff + i * 5 + 3, none⟩ = some (.int .i64 n4) ∧ w'.cell? ⟨eb, eoff + i * 5 + 4, none⟩ = some (.int .i64 n5)) from fun w' K' L' hk' h' => ends_cell hk' h' i hB n1 n2 n3 n4 n5 hy)
        obtain ⟨r1, r2, r3, r4, r5⟩ : Rn n1 ∧ Rn n2 ∧ Rn n3 ∧ Rn n4 ∧ Rn n5 := HRE.out ⟨n1, n2, n3, n4, n5⟩ (hy ▸ List.getElem_mem hB)
        have HN3 := Lib.hid r3
        have HN5 := Lib.hid r5
        have htk : ends.take (i + 1) = ends.take i ++ [⟨n1, n2, n3, n4, n5⟩] := by rw [List.take_succ_eq_append_getElem hB, hy]
        have HEN := Lib.hid (show ends.take i ++ [⟨n1, n2, n3, n4, n5⟩] = ends.take (i + 1) from htk.symm)
        clear hy htk
        by_cases hrec : recErr n3 n5 = 0
        · obtain ⟨ks, vs, hks, hvs⟩ : ∃ ks vs, ctlKey n3 = (ks, 0) ∧ ctlVal n5 = (vs, 0) := by
            unfold recErr at hrec
            rcases ctlKey_form n3 with ⟨ks, hk⟩ | ⟨e1, h1, hk⟩
            · rcases ctlVal_form n5 with ⟨vs, hv⟩ | ⟨e2, h2, hv⟩
              · exact ⟨ks, vs, hk, hv⟩
              · rw [hk, hv] at hrec; exact absurd hrec h2
            · rw [hk, if_pos h1] at hrec; exact absurd hrec h1
          have HKS := Lib.hid hks
          have HVS := Lib.hid hvs
          have HMX := Lib.hid (show n4 ≤ 9223372036854775807 by have := r4.2; omega)
          have HFR := Lib.hid (show (⟨0, 0, ⟨false, ks⟩, ⟨false, vs⟩, []⟩ : RecS).R ∧ HFit (⟨0, 0, ⟨false, ks⟩, ⟨false, vs⟩, []⟩ : RecS).hdrs ∧ (⟨0, 0, ⟨false, ks⟩, ⟨false, vs⟩, []⟩ : RecS).sum ≤ 1000000 from ⟨mark_R ks vs, (fun x hx => by cases hx), by
            have hk : ks.length = 4 := by unfold ctlKey at hks; split at hks <;> cases hks; exact verB_len _ _
            have hv : vs.length = 6 := by unfold ctlVal at hvs; split at hvs <;> cases hvs; exact verB_len _ _
            unfold RecS.sum
            simp [hsum, hk, hv]⟩)
          obtain ⟨er, her⟩ : ∃ er, batErr (⟨(i : Int), 0, false, true, true, 0, n4, n4, n1, n2, -1, [(⟨0, 0, ⟨false, ks⟩, ⟨false, vs⟩, []⟩ : RecS)]⟩ : BatS) = er := ⟨_, rfl⟩
          by_cases her0 : er = 0
          · skip
            subst her0
            have HER := Lib.hid her
            have hRY : BatS.R (⟨(i : Int), 0, false, true, true, 0, n4, n4, n1, n2, -1, [(⟨0, 0, ⟨false, ks⟩, ⟨false, vs⟩, []⟩ : RecS)]⟩ : BatS) := (show Rn (i : Int) ∧ Rn 0 ∧ Rn 0 ∧ Rn n4 ∧ Rn n4 ∧ Rn n1 ∧ Rn n2 ∧ Rn (-1) from ⟨(by unfold Rn; omega), (by unfold Rn; decide), (by unfold Rn; decide), r4, r4, r1, r2, (by unfold Rn; decide)⟩)
            have HSO2 := Lib.hid (smallOk_mark (i : Int) 0 n1 n2 n3 n4 n5 ks vs hks hvs hRY her)
            obtain ⟨s2, hs2⟩ : ∃ s2, BatS.enc (⟨(i : Int), 0, false, true, true, 0, n4, n4, n1, n2, -1, [(⟨0, 0, ⟨false, ks⟩, ⟨false, vs⟩, []⟩ : RecS)]⟩ : BatS) = s2 := ⟨_, rfl⟩
            have HS2 := Lib.hid hs2
            obtain ⟨A2, hA2⟩ : ∃ A2, A0 ++ s2 = A2 := ⟨_, rfl⟩
            have hcat2 : bb A0 ++ bb s2 = bb A2 := by rw [← hA2]; exact bb_append _ _
            have hg2 : ¬ (9223372036854775807 < A0.length + s2.length) := by
              have h1 := mark_len (i : Int) 0 n1 n2 n3 n4 n5 ks vs hks hvs
              rw [hs2] at h1
              have h2 := HAL.out
              omega
            have HGY := Lib.hid (fun q2 => good_mark (i : Int) 0 n1 n2 n3 n4 n5 ks vs q2 hks hvs hRY her)
            have HTY := Lib.hid (fun q2 => tell_mark (i : Int) 0 n1 n2 n3 n4 n5 ks vs q2 hks hvs her)
            have HSTR := Lib.hid (show ∀ q2 : Option Addr, encB (W ++ [(⟨(⟨(i : Int), 0, false, true, true, 0, n4, n4, n1, n2, -1, [(⟨0, 0, ⟨false, ks⟩, ⟨false, vs⟩, []⟩ : RecS)]⟩ : BatS), [((⟨0, 0, ⟨false, ks⟩, ⟨false, vs⟩, []⟩ : RecS), .slice none 0 0)], q2, 1⟩ : BatR)]) = A2 from fun q2 => by
              rw [encB_append, encB_one, ← hA2]
              show encB (W) ++ BatS.enc (⟨(i : Int), 0, false, true, true, 0, n4, n4, n1, n2, -1, [(⟨0, 0, ⟨false, ks⟩, ⟨false, vs⟩, []⟩ : RecS)]⟩ : BatS) = _
              rw [hs2, HSA.out])
            clear hrec hks hvs her hRY hs2 hA2 r1 r2 r3 r4 r5
            have tkB : True := trivial
            obtain ⟨e0, e1, e2, e3, e4⟩ := HEC.out _ _ _ HKE.out H.out
            go_wp2_with (first
              | (go_at_call 8; clear e0 e1 e2 e3 e4; (with_reducible refine (mrk_batch_ok (i : Int) 0 n1 n2 n3 n4 n5 HN3.out HN5.out HMX.out ks vs HKS.out HVS.out HFR.out HER.out H.out).mono ?_); rintro e_ wn ⟨q2, rfl, h⟩; obtain ⟨bk, hbk⟩ : ∃ b, wn.heap.size = b := ⟨_, rfl⟩; have h := h.allocRaw #[.int .i64 (i : Int), .int .i64 0, .bool false, .bool true, .bool true, .int .i64 0, .int .i64 n4, .int .i64 n4, .int .i64 n1, .int .i64 n2, .int .i64 (-1), .slice q2 1 1] 26; rw [hbk] at h; obtain ⟨e0, e1, e2, e3, e4⟩ := HEC.out _ _ _ (Know.has_left HKE.out) h; replace H := Lib.hid h; clear h)
              | (go_at_call 9; clear e0 e1 e2 e3 e4; (with_reducible refine (mrk_encode_ok (i : Int) 0 n1 n2 n3 n4 n5 HN3.out HN5.out HMX.out ks vs HKS.out HVS.out HFR.out HER.out HSO2.out s2 HS2.out H.out).mono ?_); rintro e_ wn ⟨rfl, h⟩; obtain ⟨z0, z1, z2, z3, z4, z5, z6, z7, z8, z9, z10, z11, v0, v1, v2, v3, v4, v5, v6, v7, v8, v9, v10, v11⟩ := raw12 (b := bk) (h); replace H := Lib.hid h; clear h)
              | (at_builtin; have _t := tkB; clear _t; refine wpl_app1_st rfl _ _ 22 rfl 26 Tryz.underlying22 elem_bat _ _ _ rfl H.out.p1 [.int .i64 (i : Int), .int .i64 0, .bool false, .bool true, .bool true, .int .i64 0, .int .i64 n4, .int .i64 n4, .int .i64 n1, .int .i64 n2, .int .i64 (-1), .slice q2 1 1] 26 rfl rfl (by simp [Value.oneCell']) (by have := HWL.out; unfold maxLen; omega) (by have := HWL.out; omega) ?_; intro v2 w2 h; clear tkB; replace H := Lib.hid h; clear h; simp only [Act.put, sA, sB, sC]))
            go_roundw
            case rel => exact ⟨i + 1, W ++ [(⟨(⟨(i : Int), 0, false, true, true, 0, n4, n4, n1, n2, -1, [(⟨0, 0, ⟨false, ks⟩, ⟨false, vs⟩, []⟩ : RecS)]⟩ : BatS), [((⟨0, 0, ⟨false, ks⟩, ⟨false, vs⟩, []⟩ : RecS), .slice none 0 0)], q2, 1⟩ : BatR)], (K2.and (Know.recs (.slice q2 1 1) [((⟨0, 0, ⟨false, ks⟩, ⟨false, vs⟩, []⟩ : RecS), .slice none 0 0)])), by omega, by go_num, by rw [HSTR.out q2], Lib.hid (by intro x hx; rcases List.mem_append.1 hx with hx | hx; exact HG.out x hx; (rw [List.mem_singleton.1 hx]; exact HGY.out q2)), Lib.hid (by intro x hx; rcases List.mem_append.1 hx with hx | hx; exact Know.has_left (HWK.out x hx); (rw [List.mem_singleton.1 hx]; exact Know.has_right (Know.has_refl _))), Lib.hid (by exact Know.has_left HKK.out), Lib.hid (by simp only [List.filterMap_append, List.filterMap_cons, List.filterMap_nil, HTY.out q2, HT.out]; exact HEN.out), Lib.hid (by simp only [List.length_append, List.length_cons, List.length_nil]; have := HWL2.out; omega), by rw [show (W ++ [(⟨(⟨(i : Int), 0, false, true, true, 0, n4, n4, n1, n2, -1, [(⟨0, 0, ⟨false, ks⟩, ⟨false, vs⟩, []⟩ : RecS)]⟩ : BatS), [((⟨0, 0, ⟨false, ks⟩, ⟨false, vs⟩, []⟩ : RecS), .slice none 0 0)], q2, 1⟩ : BatR)]).length = W.length + 1 by simp only [List.length_append, List.length_cons, List.length_nil], show (W ++ [(⟨(⟨(i : Int), 0, false, true, true, 0, n4, n4, n1, n2, -1, [(⟨0, 0, ⟨false, ks⟩, ⟨false, vs⟩, []⟩ : RecS)]⟩ : BatS), [((⟨0, 0, ⟨false, ks⟩, ⟨false, vs⟩, []⟩ : RecS), .slice none 0 0)], q2, 1⟩ : BatR)]).flatMap batcells = W.flatMap batcells ++ batcells (⟨(⟨(i : Int), 0, false, true, true, 0, n4, n4, n1, n2, -1, [(⟨0, 0, ⟨false, ks⟩, ⟨false, vs⟩, []⟩ : RecS)]⟩ : BatS), [((⟨0, 0, ⟨false, ks⟩, ⟨false, vs⟩, []⟩ : RecS), .slice none 0 0)], q2, 1⟩ : BatR) by simp only [List.flatMap_append, List.flatMap_cons, List.flatMap_nil, List.append_nil]]; exact H.out.p1.drop⟩
            case measure => first | (simp [intOf]; done) | (simp [intOf]; omega)
          · as_aux_lemma =>
            have HER := Lib.hid her
            have H0 := Lib.hid her0
            have gz : (er == 0) = false := by rw [beq_eq_false_iff_ne]; exact her0
            have gz3 : (er != 0) = true := by simp [bne, gz]
            have gee : (er == er) = true := beq_self_eq_true _
            have gee2 : (er != er) = false := by simp [bne, gee]
            clear hrec hks hvs her her0 r1 r2 r3 r4 r5
            obtain ⟨e0, e1, e2, e3, e4⟩ := HEC.out _ _ _ HKE.out H.out
            go_wp2_with (first
              | (go_at_call 8; clear e0 e1 e2 e3 e4; (with_reducible refine (mrk_batch_bad (i : Int) 0 n1 n2 n3 n4 n5 HN3.out HN5.out HMX.out ks vs HKS.out HVS.out HFR.out er H0.out HER.out H.out).mono ?_); rintro e_ wn ⟨rfl, h⟩; obtain ⟨bk, hbk⟩ : ∃ b, wn.heap.size = b := ⟨_, rfl⟩; have h := h.allocRaw #[.int .i64 0, .int .i64 0, .bool false, .bool false, .bool false, .int .i64 0, .int .i64 0, .int .i64 0, .int .i64 0, .int .i64 0, .int .i64 0, .slice none 0 0] 26; rw [hbk] at h; obtain ⟨e0, e1, e2, e3, e4⟩ := HEC.out _ _ _ HKE.out h; replace H := Lib.hid h; clear h)
              | (go_at_call 9; clear e0 e1 e2 e3 e4; (with_reducible refine (mrk_encode_bad (i : Int) 0 n1 n2 n3 n4 n5 HN3.out HN5.out HMX.out ks vs HKS.out HVS.out HFR.out er H0.out HER.out H.out).mono ?_); rintro e_ wn ⟨rfl, h⟩; replace H := Lib.hid h; clear h))
            go_ret
            exact ⟨rfl, H.out.below⟩
        · as_aux_lemma =>
          obtain ⟨er, her⟩ : ∃ er, recErr n3 n5 = er := ⟨_, rfl⟩
          rw [her] at hrec
          have HER := Lib.hid her
          have H0 := Lib.hid hrec
          have gz : (er == 0) = false := by rw [beq_eq_false_iff_ne]; exact hrec
          have gz3 : (er != 0) = true := by simp [bne, gz]
          have gee : (er == er) = true := beq_self_eq_true _
          have gee2 : (er != er) = false := by simp [bne, gee]
          clear hrec her r1 r2 r3 r4 r5
          obtain ⟨e0, e1, e2, e3, e4⟩ := HEC.out _ _ _ HKE.out H.out
          go_wp2_with (first
            | (go_at_call 8; clear e0 e1 e2 e3 e4; (with_reducible refine (mrk_batch_rec (i : Int) 0 n1 n2 n3 n4 n5 HN3.out HN5.out er HER.out H0.out H.out).mono ?_); rintro e_ wn ⟨rfl, h⟩; obtain ⟨bk, hbk⟩ : ∃ b, wn.heap.size = b := ⟨_, rfl⟩; have h := h.allocRaw #[.int .i64 0, .int .i64 0, .bool false, .bool false, .bool false, .int .i64 0, .int .i64 0, .int .i64 0, .int .i64 0, .int .i64 0, .int .i64 0, .slice none 0 0] 26; rw [hbk] at h; obtain ⟨e0, e1, e2, e3, e4⟩ := HEC.out _ _ _ HKE.out h; replace H := Lib.hid h; clear h)
            | (go_at_call 9; clear e0 e1 e2 e3 e4; (with_reducible refine (mrk_encode_rec (i : Int) 0 n1 n2 n3 n4 n5 HN3.out HN5.out er HER.out H0.out H.out).mono ?_); rintro e_ wn ⟨rfl, h⟩; replace H := Lib.hid h; clear h))
          go_ret
          exact ⟨rfl, H.out.below⟩
      · exact absurd hB0 hB
    · skip
      have hBi : ¬ (i : Int) < (ends.length : Int) := by omega
      have hie : ends.length ≤ i := by omega
      have HTE := Lib.hid (show W.filterMap tellB = ends by rw [HT.out]; exact List.take_of_length_le hie)
      obtain ⟨qw, capw, hwv⟩ := H.out.rowAny
      subst hwv
      have h4 := H.out.freezeBatsW HWK.out
      obtain ⟨K4, hK4⟩ : ∃ K4, K2.and (Know.bats (.slice qw W.length capw) W) = K4 := ⟨_, rfl⟩
      have HKB := Lib.hid (show K4.has (Know.bats (.slice qw W.length capw) W) from hK4 ▸ Know.has_right (Know.has_refl _))
      have HK4E := Lib.hid (show K4.has (Know.flat REnd (.slice q5 ends.length cap5) 5 ends) from hK4 ▸ Know.has_left HKE.out)
      rw [hK4] at h4
      have HAW := Lib.hid hA0
      have HA0L := Lib.hid (show A0.length ≤ 1000000 by omega)
      have HA0M := Lib.hid (show A0.length ≤ 140737488355328 by omega)
      have hwi : (W.length : Int) ≤ 100 := by have := HWL.out; omega
      have hei : (ends.length : Int) ≤ 6 := by have := HE6.out; omega
      clear H hA0 hal hK4 hie
      have H := Lib.hid h4
      clear h4
      go_wp2_with (go_at_call 10; (with_reducible refine (s_new A0 HA0M.out H.out).mono ?_); rintro e_ wn ⟨bi, rfl, h⟩; replace H := Lib.hid h; clear h)
      go_loopw [16, 127] (fun kv jv wr => ∃ (j : Nat) (K5 : Know), j ≤ W.length ∧ jv = .int .i64 j ∧ kv = .int .i64 (((W.take j).filterMap tellB).length : Nat) ∧ Hid (K5.has K4) ∧ St W0 wr K5 [.inp bi ⟨A0, (encB (W.take j)).length, 0⟩]) (fun _ jv _ => W.length - (intOf jv).toNat)
      case atStart => exact ⟨0, K4, Nat.zero_le _, rfl, rfl, Lib.hid (Know.has_refl _), H.out⟩
      case round =>
        obtain ⟨j, K5, hjl, rfl, rfl, HKJ, hst⟩ := hrel
        clear H
        have H := Lib.hid hst
        clear hst
        obtain ⟨k, hk⟩ : ∃ k, ((W.take j).filterMap tellB).length = k := ⟨_, rfl⟩
        obtain ⟨pos, hpos⟩ : ∃ p, (encB (W.take j)).length = p := ⟨_, rfl⟩
        rw [hk]
        rw [hpos] at H
        by_cases hlt : j < W.length
        · have hj1 : j + 1 ≤ W.length := hlt
          have hji : (j : Int) < (W.length : Int) := by omega
          have HK5B := Lib.hid (Know.has_trans HKJ.out HKB.out)
          have HK5E := Lib.hid (Know.has_trans HKJ.out HK4E.out)
          obtain ⟨xb0, off, hqq⟩ := bats_at HK5B.out H.out (by omega)
          subst hqq
          obtain ⟨x, hx⟩ : ∃ x, W[j] = x := ⟨_, rfl⟩
          have hmem : x ∈ W := hx ▸ List.getElem_mem hlt
          have hg := HG.out x hmem
          have hcell0 := bats_cell HK5B.out H.out j hlt x hx
          have HXK := Lib.hid (bats_recs HK5B.out hmem)
          have hrd0 : reBat (A0.drop pos) = .ok (x.b, x.b.enc.length) := by
            rw [← hpos, ← HAW.out]
            have := encB_next W j hlt (hx ▸ hg.so)
            rw [hx] at this
            exact this
          obtain ⟨nn, hnn⟩ : ∃ n, x.b.enc.length = n := ⟨_, rfl⟩
          have hpn : (encB (W.take (j + 1))).length = pos + nn := by rw [encB_take W j hlt, hx, List.length_append, hpos, hnn]
          have HPN := Lib.hid hpn
          have HPL := Lib.hid (show pos ≤ A0.length by rw [← hpos, ← HAW.out, encB_split W j, List.length_append]; exact Nat.le_add_right _ _)
          rw [hnn] at hrd0
          have hft := filt_take tellB W j hlt x hx
          cases htl : tellB x with
          | none =>
            have hctl : x.b.ctl = false := by
              cases hc : x.b.ctl with
              | false => rfl
              | true => unfold tellB at htl; rw [if_pos hc] at htl; cases htl
            have hkn : ((W.take (j + 1)).filterMap tellB).length = k := by rw [hft, htl]; simp [hk]
            have HKN := Lib.hid hkn
            have hend0 := endOf_plain x.b hctl
            obtain ⟨⟨base, leader, app, txn, ctl, last, first, maxt, prod, epoch, sq, rcs⟩, xl, xq, xcap⟩ := x
            obtain rfl : ctl = false := hctl
            have hcell : wr.cell? ⟨xb0, off + j * 12, none⟩ = some (.int .i64 base) ∧ wr.cell? ⟨xb0, off + j * 12 + 1, none⟩ = some (.int .i64 leader) ∧ wr.cell? ⟨xb0, off + j * 12 + 2, none⟩ = some (.bool app) ∧ wr.cell? ⟨xb0, off + j * 12 + 3, none⟩ = some (.bool txn) ∧ wr.cell? ⟨xb0, off + j * 12 + 4, none⟩ = some (.bool false) ∧ wr.cell? ⟨xb0, off + j * 12 + 5, none⟩ = some (.int .i64 last) ∧ wr.cell? ⟨xb0, off + j * 12 + 6, none⟩ = some (.int .i64 first) ∧ wr.cell? ⟨xb0, off + j * 12 + 7, none⟩ = some (.int .i64 maxt) ∧ wr.cell? ⟨xb0, off + j * 12 + 8, none⟩ = some (.int .i64 prod) ∧ wr.cell? ⟨xb0, off + j * 12 + 9, none⟩ = some (.int .i64 epoch) ∧ wr.cell? ⟨xb0, off + j * 12 + 10, none⟩ = some (.int .i64 sq) ∧ wr.cell? ⟨xb0, off + j * 12 + 11, none⟩ = some (.slice xq xl.length xcap) := hcell0
            have hrd : reBat (A0.drop pos) = .ok ((⟨base, leader, app, txn, false, last, first, maxt, prod, epoch, sq, rcs⟩ : BatS), nn) := hrd0
            obtain ⟨n1, hn1⟩ : ∃ n : Int, n = 0 := ⟨_, rfl⟩
            have hend : endOf (⟨base, leader, app, txn, false, last, first, maxt, prod, epoch, sq, rcs⟩ : BatS) = (n1, n1, n1, n1, n1, false) := by rw [hn1]; exact hend0
            clear hcell0 hrd0 hx hmem hnn hpn hft htl hend0 hpos hk hn1
            have HXL := Lib.hid (show xl.map (·.1) = rcs from hg.recs)
            have HRD := Lib.hid hrd
            have HEF := Lib.hid (show ∀ l : List (RecS × Value), l.map (·.1) = rcs → endOf ⟨base, leader, app, txn, false, last, first, maxt, prod, epoch, sq, l.map (·.1)⟩ = (n1, n1, n1, n1, n1, false) from fun l hl => by rw [hl]; exact hend)
            have hso : SmallOk (⟨base, leader, app, txn, false, last, first, maxt, prod, epoch, sq, rcs⟩ : BatS) := hg.so
            have hrr : BatS.R (⟨base, leader, app, txn, false, last, first, maxt, prod, epoch, sq, rcs⟩ : BatS) := hso.rng
            have HMX := Lib.hid (show first ≤ 9223372036854775807 by have h9 : first < 9223372036854775808 := hrr.2.2.2.1.2; omega)
            have HFB := Lib.hid (show ∀ l : List (RecS × Value), l.map (·.1) = rcs → FitB l from fun l hl => fitB_of hso hl)
            have HLN := Lib.hid (show ∀ l : List (RecS × Value), l.map (·.1) = rcs → l.length ≤ 1000000 from fun l hl => len_of_recs hso hl)
            have HHD := Lib.hid (show ∀ l : List (RecS × Value), l.map (·.1) = rcs → ∀ y ∈ l, y.1.hdrs.length ≤ 9223372036854775807 from fun l hl => fit_of_recs hso hl)
            obtain ⟨c0, c1, c2, c3, c4, c5, c6, c7, c8, c9, c10, c11⟩ := hcell
            clear hg hso hrr hrd hend
            go_wp2_with (first
          | (go_at_call 11; clear c0 c1 c2 c3 c4 c5 c6 c7 c8 c9 c10 c11; have h9 := (H.out.allocRaw #[.int .i64 base, .int .i64 leader, .bool app, .bool txn, .bool false, .int .i64 last, .int .i64 first, .int .i64 maxt, .int .i64 prod, .int .i64 epoch, .int .i64 sq, .slice xq xl.length xcap] 26).p1; (with_reducible refine (bat_readX base leader app txn false last first maxt prod epoch sq rcs bi A0 pos HA0L.out HPL.out nn HRD.out h9).mono ?_); clear h9; rintro e_ wn ⟨q1, l1, cap1, rfl, hl1, h⟩; have HL1 := Lib.hid hl1; clear hl1; have h := h.p1; obtain ⟨xb, hxb⟩ : ∃ b, wn.heap.size = b := ⟨_, rfl⟩; have h := h.allocRaw #[.int .i64 base, .int .i64 leader, .bool app, .bool txn, .bool false, .int .i64 last, .int .i64 first, .int .i64 maxt, .int .i64 prod, .int .i64 epoch, .int .i64 sq, .slice q1 l1.length cap1] 26; rw [hxb] at h; have x0 := h.rawCell 0; have x1 := h.rawCell 1; have x2 := h.rawCell 2; have x3 := h.rawCell 3; have x4 := h.rawCell 4; have x5 := h.rawCell 5; have x6 := h.rawCell 6; have x7 := h.rawCell 7; have x8 := h.rawCell 8; have x9 := h.rawCell 9; have x10 := h.rawCell 10; have x11 := h.rawCell 11; simp at x0 x1 x2 x3 x4 x5 x6 x7 x8 x9 x10 x11; have d0 := h.p1.rawCell 0; have d1 := h.p1.rawCell 1; have d2 := h.p1.rawCell 2; have d3 := h.p1.rawCell 3; have d4 := h.p1.rawCell 4; have d5 := h.p1.rawCell 5; have d6 := h.p1.rawCell 6; have d7 := h.p1.rawCell 7; have d8 := h.p1.rawCell 8; have d9 := h.p1.rawCell 9; have d10 := h.p1.rawCell 10; have d11 := h.p1.rawCell 11; simp at d0 d1 d2 d3 d4 d5 d6 d7 d8 d9 d10 d11; replace H := Lib.hid h; clear h)
          | (go_at_call 12; clear x0 x1 x2 x3 x4 x5 x6 x7 x8 x9 x10 x11; clear d0 d1 d2 d3 d4 d5 d6 d7 d8 d9 d10 d11; (with_reducible refine (mrk_read base leader app txn false last first maxt prod epoch sq l1 q1 cap1 n1 n1 n1 n1 n1 false (HEF.out l1 HL1.out) HMX.out (HFB.out l1 HL1.out) (HLN.out l1 HL1.out) (Know.has_right (Know.has_refl _)) H.out).mono ?_); rintro e_ wn ⟨rfl, h⟩; obtain ⟨yb, hyb⟩ : ∃ b, wn.heap.size = b := ⟨_, rfl⟩; have h := h.allocRaw #[.int .i64 n1, .int .i64 n1, .int .i64 n1, .int .i64 n1, .int .i64 n1] 35; rw [hyb] at h; have y0 := h.rawCell 0; have y1 := h.rawCell 1; have y2 := h.rawCell 2; have y3 := h.rawCell 3; have y4 := h.rawCell 4; simp at y0 y1 y2 y3 y4; have x0 := h.p1.rawCell 0; have x1 := h.p1.rawCell 1; have x2 := h.p1.rawCell 2; have x3 := h.p1.rawCell 3; have x4 := h.p1.rawCell 4; have x5 := h.p1.rawCell 5; have x6 := h.p1.rawCell 6; have x7 := h.p1.rawCell 7; have x8 := h.p1.rawCell 8; have x9 := h.p1.rawCell 9; have x10 := h.p1.rawCell 10; have x11 := h.p1.rawCell 11; simp at x0 x1 x2 x3 x4 x5 x6 x7 x8 x9 x10 x11; have d0 := h.p2.rawCell 0; have d1 := h.p2.rawCell 1; have d2 := h.p2.rawCell 2; have d3 := h.p2.rawCell 3; have d4 := h.p2.rawCell 4; have d5 := h.p2.rawCell 5; have d6 := h.p2.rawCell 6; have d7 := h.p2.rawCell 7; have d8 := h.p2.rawCell 8; have d9 := h.p2.rawCell 9; have d10 := h.p2.rawCell 10; have d11 := h.p2.rawCell 11; simp at d0 d1 d2 d3 d4 d5 d6 d7 d8 d9 d10 d11; replace H := Lib.hid h; clear h)
          | (go_at_call 13; clear x0 x1 x2 x3 x4 x5 x6 x7 x8 x9 x10 x11; clear d0 d1 d2 d3 d4 d5 d6 d7 d8 d9 d10 d11; clear y0 y1 y2 y3 y4; (with_reducible refine (ref11_sameX base leader app txn false last first maxt prod epoch sq l1 xl q1 xq cap1 xcap (HLN.out l1 HL1.out) (HL1.out.trans HXL.out.symm) (HHD.out l1 HL1.out) (HHD.out xl HXL.out) (Know.has_right (Know.has_refl _)) (Know.has_left HXK.out) H.out).mono ?_); rintro e_ wn ⟨rfl, h⟩; have d4 := h.p2.rawCell 4; simp at d4; have y0 := h.rawCell 0; have y1 := h.rawCell 1; have y2 := h.rawCell 2; have y3 := h.rawCell 3; have y4 := h.rawCell 4; simp at y0 y1 y2 y3 y4; replace H := Lib.hid h; clear h))
            go_roundw
            case rel =>
              refine ⟨j + 1, (K5.and (Know.recs (.slice q1 l1.length cap1) l1)), hj1, by go_num, ?_, ?_, ?_⟩
              · rw [HKN.out]
              · exact Lib.hid (Know.has_trans (Know.has_left (Know.has_refl _)) HKJ.out)
              · rw [HPN.out]; exact H.out.drop.drop.drop
            case measure => first | (simp [intOf]; done) | (simp [intOf]; omega)
          | some y =>
            obtain ⟨n1, n2, n3, n4, n5⟩ := y
            have hctl : x.b.ctl = true := by
              cases hc : x.b.ctl with
              | true => rfl
              | false => rw [tell_plain x hc] at htl; cases htl
            have hkn : ((W.take (j + 1)).filterMap tellB).length = k + 1 := by rw [hft, htl, List.length_append, hk]; rfl
            have HKN := Lib.hid hkn
            have hget0 := filt_get tellB W j hlt x hx _ htl ends HTE.out
            have hget : ∃ h : k < ends.length, ends[k] = (⟨n1, n2, n3, n4, n5⟩ : EndS) := by
              obtain ⟨h1, h2⟩ := hget0
              exact ⟨by rw [← hk]; exact h1, by simp only [← hk]; exact h2⟩
            have htold := hg.told hctl
            have hend0 : endOf x.b = (n1, n2, n3, n4, n5, true) := by
              unfold tellB at htl
              rw [if_pos hctl] at htl
              simp only [Option.some.injEq, EndS.mk.injEq] at htl
              obtain ⟨a1, a2, a3, a4, a5⟩ := htl
              rw [← a1, ← a2, ← a3, ← a4, ← a5, ← htold]
            obtain ⟨⟨base, leader, app, txn, ctl, last, first, maxt, prod, epoch, sq, rcs⟩, xl, xq, xcap⟩ := x
            obtain rfl : ctl = true := hctl
            have hcell : wr.cell? ⟨xb0, off + j * 12, none⟩ = some (.int .i64 base) ∧ wr.cell? ⟨xb0, off + j * 12 + 1, none⟩ = some (.int .i64 leader) ∧ wr.cell? ⟨xb0, off + j * 12 + 2, none⟩ = some (.bool app) ∧ wr.cell? ⟨xb0, off + j * 12 + 3, none⟩ = some (.bool txn) ∧ wr.cell? ⟨xb0, off + j * 12 + 4, none⟩ = some (.bool true) ∧ wr.cell? ⟨xb0, off + j * 12 + 5, none⟩ = some (.int .i64 last) ∧ wr.cell? ⟨xb0, off + j * 12 + 6, none⟩ = some (.int .i64 first) ∧ wr.cell? ⟨xb0, off + j * 12 + 7, none⟩ = some (.int .i64 maxt) ∧ wr.cell? ⟨xb0, off + j * 12 + 8, none⟩ = some (.int .i64 prod) ∧ wr.cell? ⟨xb0, off + j * 12 + 9, none⟩ = some (.int .i64 epoch) ∧ wr.cell? ⟨xb0, off + j * 12 + 10, none⟩ = some (.int .i64 sq) ∧ wr.cell? ⟨xb0, off + j * 12 + 11, none⟩ = some (.slice xq xl.length xcap) := hcell0
            have hrd : reBat (A0.drop pos) = .ok ((⟨base, leader, app, txn, true, last, first, maxt, prod, epoch, sq, rcs⟩ : BatS), nn) := hrd0
            have hend : endOf (⟨base, leader, app, txn, true, last, first, maxt, prod, epoch, sq, rcs⟩ : BatS) = (n1, n2, n3, n4, n5, true) := hend0
            clear hcell0 hrd0 hx hmem hnn hpn hft htl hend0 hpos hk hget0 htold
            have HXL := Lib.hid (show xl.map (·.1) = rcs from hg.recs)
            have HRD := Lib.hid hrd
            have HEF := Lib.hid (show ∀ l : List (RecS × Value), l.map (·.1) = rcs → endOf ⟨base, leader, app, txn, true, last, first, maxt, prod, epoch, sq, l.map (·.1)⟩ = (n1, n2, n3, n4, n5, true) from fun l hl => by rw [hl]; exact hend)
            have hso : SmallOk (⟨base, leader, app, txn, true, last, first, maxt, prod, epoch, sq, rcs⟩ : BatS) := hg.so
            have hrr : BatS.R (⟨base, leader, app, txn, true, last, first, maxt, prod, epoch, sq, rcs⟩ : BatS) := hso.rng
            have HMX := Lib.hid (show first ≤ 9223372036854775807 by have h9 : first < 9223372036854775808 := hrr.2.2.2.1.2; omega)
            have HFB := Lib.hid (show ∀ l : List (RecS × Value), l.map (·.1) = rcs → FitB l from fun l hl => fitB_of hso hl)
            have HLN := Lib.hid (show ∀ l : List (RecS × Value), l.map (·.1) = rcs → l.length ≤ 1000000 from fun l hl => len_of_recs hso hl)
            have HHD := Lib.hid (show ∀ l : List (RecS × Value), l.map (·.1) = rcs → ∀ y ∈ l, y.1.hdrs.length ≤ 9223372036854775807 from fun l hl => fit_of_recs hso hl)
            obtain ⟨c0, c1, c2, c3, c4, c5, c6, c7, c8, c9, c10, c11⟩ := hcell
            clear hg hso hrr hrd hend
            obtain ⟨hkl, hek⟩ := hget
            have hkli : (k : Int) < (ends.length : Int) := by omega
            have hklf : ¬ ((ends.length : Int) ≤ (k : Int)) := by omega
            have hkl2 : decide ((ends.length : Int) ≤ (k : Int)) = false := decide_eq_false hklf
            have hkl3 : decide (ends.length ≤ k) = false := decide_eq_false (by omega)
            have hkl4 : ¬ (ends.length ≤ k) := by omega
            obtain ⟨eb, eoff, hq5⟩ := ends_at HK5E.out H.out (by omega)
            subst hq5
            have HEC := Lib.hid (show ∀ (w' : World) (K' : Know) (L' : List Res), K'.has (Know.flat REnd (.slice (some ⟨eb, eoff, none⟩) ends.length cap5) 5 ends) → St W0 w' K' L' → (w'.cell? ⟨eb, eoff + k * 5, none⟩ = some (.int .i64 n1) ∧ w'.cell? ⟨eb, eoff + k * 5 + 1, none⟩ = some (.int .i64 n2) ∧ w'.cell? ⟨eb, eoff + k * 5 + 2, none⟩ = some (.int .i64 n3) ∧ w'.cell? ⟨eb, eoff + k * 5 + 3, none⟩ = some (.int .i64 n4) ∧ w'.cell? ⟨eb, eoff + k * 5 + 4, none⟩ = some (.int .i64 n5)) from fun w' K' L' hk' h' => ends_cell hk' h' k hkl n1 n2 n3 n4 n5 hek)
            have f1 : (n1 == n1) = true := beq_self_eq_true _
            have f2 : (n2 == n2) = true := beq_self_eq_true _
            have f3 : (n3 == n3) = true := beq_self_eq_true _
            have f4 : (n4 == n4) = true := beq_self_eq_true _
            have f5 : (n5 == n5) = true := beq_self_eq_true _
            clear hkl hek
            go_upto_region 33 with (first
          | (go_at_call 11; clear c0 c1 c2 c3 c4 c5 c6 c7 c8 c9 c10 c11; have h9 := (H.out.allocRaw #[.int .i64 base, .int .i64 leader, .bool app, .bool txn, .bool true, .int .i64 last, .int .i64 first, .int .i64 maxt, .int .i64 prod, .int .i64 epoch, .int .i64 sq, .slice xq xl.length xcap] 26).p1; (with_reducible refine (bat_readX base leader app txn true last first maxt prod epoch sq rcs bi A0 pos HA0L.out HPL.out nn HRD.out h9).mono ?_); clear h9; rintro e_ wn ⟨q1, l1, cap1, rfl, hl1, h⟩; have HL1 := Lib.hid hl1; clear hl1; have h := h.p1; obtain ⟨xb, hxb⟩ : ∃ b, wn.heap.size = b := ⟨_, rfl⟩; have h := h.allocRaw #[.int .i64 base, .int .i64 leader, .bool app, .bool txn, .bool true, .int .i64 last, .int .i64 first, .int .i64 maxt, .int .i64 prod, .int .i64 epoch, .int .i64 sq, .slice q1 l1.length cap1] 26; rw [hxb] at h; have x0 := h.rawCell 0; have x1 := h.rawCell 1; have x2 := h.rawCell 2; have x3 := h.rawCell 3; have x4 := h.rawCell 4; have x5 := h.rawCell 5; have x6 := h.rawCell 6; have x7 := h.rawCell 7; have x8 := h.rawCell 8; have x9 := h.rawCell 9; have x10 := h.rawCell 10; have x11 := h.rawCell 11; simp at x0 x1 x2 x3 x4 x5 x6 x7 x8 x9 x10 x11; have d0 := h.p1.rawCell 0; have d1 := h.p1.rawCell 1; have d2 := h.p1.rawCell 2; have d3 := h.p1.rawCell 3; have d4 := h.p1.rawCell 4; have d5 := h.p1.rawCell 5; have d6 := h.p1.rawCell 6; have d7 := h.p1.rawCell 7; have d8 := h.p1.rawCell 8; have d9 := h.p1.rawCell 9; have d10 := h.p1.rawCell 10; have d11 := h.p1.rawCell 11; simp at d0 d1 d2 d3 d4 d5 d6 d7 d8 d9 d10 d11; replace H := Lib.hid h; clear h)
          | (go_at_call 12; clear x0 x1 x2 x3 x4 x5 x6 x7 x8 x9 x10 x11; clear d0 d1 d2 d3 d4 d5 d6 d7 d8 d9 d10 d11; (with_reducible refine (mrk_read base leader app txn true last first maxt prod epoch sq l1 q1 cap1 n1 n2 n3 n4 n5 true (HEF.out l1 HL1.out) HMX.out (HFB.out l1 HL1.out) (HLN.out l1 HL1.out) (Know.has_right (Know.has_refl _)) H.out).mono ?_); rintro e_ wn ⟨rfl, h⟩; obtain ⟨yb, hyb⟩ : ∃ b, wn.heap.size = b := ⟨_, rfl⟩; have h := h.allocRaw #[.int .i64 n1, .int .i64 n2, .int .i64 n3, .int .i64 n4, .int .i64 n5] 35; rw [hyb] at h; have y0 := h.rawCell 0; have y1 := h.rawCell 1; have y2 := h.rawCell 2; have y3 := h.rawCell 3; have y4 := h.rawCell 4; simp at y0 y1 y2 y3 y4; have x0 := h.p1.rawCell 0; have x1 := h.p1.rawCell 1; have x2 := h.p1.rawCell 2; have x3 := h.p1.rawCell 3; have x4 := h.p1.rawCell 4; have x5 := h.p1.rawCell 5; have x6 := h.p1.rawCell 6; have x7 := h.p1.rawCell 7; have x8 := h.p1.rawCell 8; have x9 := h.p1.rawCell 9; have x10 := h.p1.rawCell 10; have x11 := h.p1.rawCell 11; simp at x0 x1 x2 x3 x4 x5 x6 x7 x8 x9 x10 x11; have d0 := h.p2.rawCell 0; have d1 := h.p2.rawCell 1; have d2 := h.p2.rawCell 2; have d3 := h.p2.rawCell 3; have d4 := h.p2.rawCell 4; have d5 := h.p2.rawCell 5; have d6 := h.p2.rawCell 6; have d7 := h.p2.rawCell 7; have d8 := h.p2.rawCell 8; have d9 := h.p2.rawCell 9; have d10 := h.p2.rawCell 10; have d11 := h.p2.rawCell 11; simp at d0 d1 d2 d3 d4 d5 d6 d7 d8 d9 d10 d11; replace H := Lib.hid h; clear h)
          | (go_at_call 13; clear x0 x1 x2 x3 x4 x5 x6 x7 x8 x9 x10 x11; clear d0 d1 d2 d3 d4 d5 d6 d7 d8 d9 d10 d11; clear y0 y1 y2 y3 y4; (with_reducible refine (ref11_sameX base leader app txn true last first maxt prod epoch sq l1 xl q1 xq cap1 xcap (HLN.out l1 HL1.out) (HL1.out.trans HXL.out.symm) (HHD.out l1 HL1.out) (HHD.out xl HXL.out) (Know.has_right (Know.has_refl _)) (Know.has_left HXK.out) H.out).mono ?_); rintro e_ wn ⟨rfl, h⟩; have d4 := h.p2.rawCell 4; simp at d4; have y0 := h.rawCell 0; have y1 := h.rawCell 1; have y2 := h.rawCell 2; have y3 := h.rawCell 3; have y4 := h.rawCell 4; simp at y0 y1 y2 y3 y4; replace H := Lib.hid h; clear h))
            have hs := H.out.drew
            obtain ⟨e0, e1, e2, e3, e4⟩ := HEC.out _ _ _ (Know.has_left HK5E.out) hs
            refine wp_region_held_drew (S := fun w' => w'.cell? ⟨yb, 0, none⟩ = some (.int .i64 n1) ∧ w'.cell? ⟨yb, 1, none⟩ = some (.int .i64 n2) ∧ w'.cell? ⟨yb, 2, none⟩ = some (.int .i64 n3) ∧ w'.cell? ⟨yb, 3, none⟩ = some (.int .i64 n4) ∧ w'.cell? ⟨yb, 4, none⟩ = some (.int .i64 n5) ∧ w'.cell? ⟨eb, eoff + k * 5, none⟩ = some (.int .i64 n1) ∧ w'.cell? ⟨eb, eoff + k * 5 + 1, none⟩ = some (.int .i64 n2) ∧ w'.cell? ⟨eb, eoff + k * 5 + 2, none⟩ = some (.int .i64 n3) ∧ w'.cell? ⟨eb, eoff + k * 5 + 3, none⟩ = some (.int .i64 n4) ∧ w'.cell? ⟨eb, eoff + k * 5 + 4, none⟩ = some (.int .i64 n5)) (by kernel_rfl) ⟨hs.rawCell 0, hs.rawCell 1, hs.rawCell 2, hs.rawCell 3, hs.rawCell 4, e0, e1, e2, e3, e4⟩ (fun hHeld => ?_)
            clear e0 e1 e2 e3 e4 y0 y1 y2 y3 y4
            refine tQ 0 ⟨some 149, .move (.tmp 16), 3, "top06.go:57", #[], none⟩ ?_; simp only [Act.put, sA, sB, sC]
            refine tQ 1 ⟨some 150, .move (.tmp 1), 23, "top06.go:57", #[], none⟩ ?_; simp only [Act.put, sA, sB, sC]
            refine tQ 2 ⟨some 151, .call { callee := .builtin .len, args := #[.tmp 150], argTypes := #[23] }, 3, "top06.go:57", #[.mk 1 .data], none⟩ ?_; simp only [Act.put, sA, sB, sC]
            refine tQ 3 ⟨some 152, .binOp .geq 3 (.tmp 149) (.tmp 151) 3, 4, "top06.go:57", #[.mk 0 .data, .mk 2 .data], none⟩ ?_; simp only [Act.put, sA, sB, sC]
            refine tQ 4 ⟨some 153, .move (.tmp 152), 4, "top06.go:57", #[.mk 3 .data], none⟩ ?_; simp only [Act.put, sA, sB, sC]
            refine tQ 5 ⟨some 154, .load 35 (.tmp 20), 35, "top06.go:57", #[.mk 4 .guard], some (4, false)⟩ ?_; simp only [Act.put, sA, sB, sC]
            refine tQ 6 ⟨some 155, .move (.tmp 1), 23, "top06.go:57", #[.mk 4 .guard], some (4, false)⟩ ?_; simp only [Act.put, sA, sB, sC]
            refine tQ 7 ⟨some 156, .move (.tmp 16), 3, "top06.go:57", #[.mk 4 .guard], some (4, false)⟩ ?_; simp only [Act.put, sA, sB, sC]
            refine tQ 8 ⟨some 157, .indexAddr 23 (.tmp 155) (.tmp 156), 0, "top06.go:57", #[.mk 6 .data, .mk 7 .data, .mk 4 .guard], some (4, false)⟩ ?_; simp only [Act.put, sA, sB, sC]
            refine tQ 9 ⟨some 158, .load 35 (.tmp 157), 35, "top06.go:57", #[.mk 8 .data, .mk 4 .guard], some (4, false)⟩ ?_; simp only [Act.put, sA, sB, sC]
            refine tQ 10 ⟨some 159, .binOp .neq 35 (.tmp 154) (.tmp 158) 35, 4, "top06.go:57", #[.mk 5 .data, .mk 9 .data, .mk 4 .guard], some (4, false)⟩ ?_; simp only [Act.put, sA, sB, sC]
            refine tQ 11 ⟨some 160, .pick (.tmp 153) (.const (Value.bool true)) (.tmp 159), 4, "top06.go:57", #[.mk 4 .data, .mk 10 .data], none⟩ ?_; simp only [Act.put, sA, sB, sC]
            refine wpAnyH_done (by kernel_rfl) ?_ _
            clear hHeld
            have H := Lib.hid hs
            clear hs
            go_wp2_with fail
            go_roundw
            case rel =>
              refine ⟨j + 1, (K5.and (Know.recs (.slice q1 l1.length cap1) l1)), hj1, by go_num, ?_, ?_, ?_⟩
              · rw [HKN.out]; go_num
              · exact Lib.hid (Know.has_trans (Know.has_left (Know.has_refl _)) HKJ.out)
              · rw [HPN.out]; exact H.out.drop.drop.drop
            case measure => first | (simp [intOf]; done) | (simp [intOf]; omega)
        · obtain rfl : j = W.length := by omega
          have hke : k = ends.length := by rw [← hk, List.take_length, HTE.out]
          have hpe : pos = A0.length := by rw [← hpos, List.take_length, HAW.out]
          have HPE := Lib.hid hpe
          have hkb : ((k : Int) == (ends.length : Int)) = true := by rw [hke]; exact beq_self_eq_true _
          clear hk hpos hke hpe
          go_wp2_with (go_at_call 14; (with_reducible refine (s_closeW bi A0 pos HPE.out H.out).mono ?_); rintro e_ wn ⟨rfl, h⟩; replace H := Lib.hid h; clear h)
          go_ret
          exact ⟨rfl, H.out.below⟩
theorem cells_int : Tryz.prog.cellsOf 3 = 1 := by kernel_rfl
theorem cells_str : Tryz.prog.cellsOf 9 = 1 := by kernel_rfl
theorem len2 {α : Type} {l : List α} (h : l.length = 2) : ∃ a b, l = [a, b] := by
 match l, h with
 | [a, b], _ => exact ⟨a, b, rfl⟩
theorem len3 {α : Type} {l : List α} (h : l.length = 3) : ∃ a b c, l = [a, b, c] := by
 match l, h with
 | [a, b, c], _ => exact ⟨a, b, c, rfl⟩
open Go.ChangeShapes Go.WideShapes Go.ChangeAt Go.Deep

def Light {H : Type} (t : TypeId) (d : DataW H) : Prop := ∀ k ∈ d.weights Tryz.prog t, k ≤ reachBytes
theorem reach_eq : reachBytes = 140737488351232 := rfl

section
variable {H : Type} {enc : TypeId × Value → H} {w : World} {spare : Nat → Bool} {held : Bool}

theorem light_arg {ts : List TypeId} {ds : List (DataW H)} (h : (DataW.weightsEach Tryz.prog ts ds).all (· ≤ reachBytes) = true) {j : Nat} {t : TypeId} {d : DataW H} (ht : ts[j]? = some t) (hd : ds[j]? = some d) : Light t d := by
 intro k hk
 have := List.all_eq_true.1 h k (DataW.weights_mem_each ht hd k hk)
 simpa using this

theorem opens_field {t : TypeId} {fs : Array Field} {n N : Nat} {cs : List Value} {y : DataW H × List MemPlace} (ht : Tryz.prog.underlying t = some (.struct fs)) (h : DataW.trod enc Tryz.prog w 0 spare held n t cs = some y) (hl : Light t y.1) (hN : ∀ x ∈ y.2, x.block < N) :
  cs.length = Tryz.prog.cellsOf t ∧ ∃ m, ∀ (i : Nat) (f : Field), fs[i]? = some f → ∃ z, DataW.trod enc Tryz.prog w 0 spare held m f.type ((cs.drop f.offset).take (Tryz.prog.cellsOf f.type)) = some z ∧ Light f.type z.1 ∧ ∀ x ∈ z.2, x.block < N := by
 obtain ⟨xs, m, _, rfl, hc, hxl, hg⟩ := DataW.trod_struct ht h
 refine ⟨hc, m, fun i f hf => ?_⟩
 have hi : i < fs.size := (Array.getElem?_eq_some_iff.1 hf).1
 have hx : xs[i]? = some (xs[i]'(by omega)) := List.getElem?_eq_getElem (by omega)
 refine ⟨_, (hg i f hf).trans hx, ?_, fun x hxx => hN x (List.mem_flatMap.2 ⟨_, List.getElem_mem _, hxx⟩)⟩
 intro k hk
 refine hl k ?_
 simp only [DataW.weights, ht]
 exact DataW.weights_mem_each (j := i) (by rw [List.getElem?_map, Array.getElem?_toList, hf]; rfl) (by rw [List.getElem?_map, hx]; rfl) k hk

theorem opens_str {t : TypeId} {n : Nat} {cs : List Value} {y : DataW H × List MemPlace} (ht : Tryz.prog.underlying t = some .string) (h : DataW.trod enc Tryz.prog w 0 spare held n t cs = some y) (hl : Light t y.1) : ∃ s : Bs, cs = [.string (bb s)] ∧ s.length ≤ 140737488351232 := by
 obtain ⟨s, e, e2, q⟩ := DataW.trod_string ht h
 refine ⟨s.data.toList, e, ?_⟩
 subst e2
 have := hl s.data.toList.length (by simp [DataW.weights])
 rw [reach_eq] at this
 exact this
theorem opens_i64 {t : TypeId} {n : Nat} {cs : List Value} {y : DataW H × List MemPlace} (ht : Tryz.prog.underlying t = some (.int .i64)) (h : DataW.trod enc Tryz.prog w 0 spare held n t cs = some y) : ∃ x : Int, cs = [.int .i64 x] ∧ -9223372036854775808 ≤ x ∧ x < 9223372036854775808 := by
 obtain ⟨x, e, _, q⟩ := DataW.trod_int ht h
 exact ⟨x, e, wf_i64 q⟩
theorem opens_bool {t : TypeId} {n : Nat} {cs : List Value} {y : DataW H × List MemPlace} (ht : Tryz.prog.underlying t = some .bool) (h : DataW.trod enc Tryz.prog w 0 spare held n t cs = some y) : ∃ x : Bool, cs = [.bool x] := by
 obtain ⟨x, e, _⟩ := DataW.trod_bool ht h
 exact ⟨x, e⟩

theorem weightsAll_mem' {P : Program} {e : TypeId} : ∀ {l : List (DataW H)} {d : DataW H}, d ∈ l → ∀ k ∈ d.weights P e, k ∈ DataW.weightsAll P e l
  | a :: l, d, hd, k, hk => by
    simp only [DataW.weightsAll, List.mem_append]
    rcases List.mem_cons.1 hd with rfl | hd
    · exact .inl hk
    · exact .inr (weightsAll_mem' hd k hk)

theorem opens_rows {α : Type} {R : World → List Value → α → Prop} {t e : TypeId} {sz N : Nat} (ht : Tryz.prog.underlying t = some (.slice e)) (hC : Tryz.prog.cellsOf e = sz) (hsz : 0 < sz)
    (hR : ∀ n cs y, DataW.trod enc Tryz.prog w 0 spare held n e cs = some y → Light e y.1 → (∀ x ∈ y.2, x.block < N) → ∃ x, R w cs x)
    {fuel : Nat} {cs : List Value} {x : DataW H × List MemPlace} (h : DataW.trod enc Tryz.prog w 0 spare held fuel t cs = some x) (hl : Light t x.1) (hlt : ∀ y ∈ x.2, y.block < N) (hN : N ≤ w.heap.size) :
    ∃ v l, cs = [v] ∧ RowsOf R (· < N) w v sz l ∧ l.length * Tryz.prog.bytesOf e ≤ 140737488351232 ∧ l.length ≤ maxLen := by
  rcases open_slice ht h with ⟨rfl, rfl⟩ | ⟨a, len, cap, m, n, D, Pl, rfl, hb, hlc, hm, hmm, hx, hi⟩
  · exact ⟨_, [], rfl, ⟨none, 0, rfl, fun h => absurd h (by simp)⟩, by simp, by simp⟩
  · have hlm : len ≤ m := by rw [hmm]; split <;> omega
    have hp2 : x.2 = MemPlace.row a (m * Tryz.prog.cellsOf e) ++ (List.range m).flatMap Pl := by rw [hx]
    have hx1 : x.1 = .slice ((List.range len).map D) ((List.range (m - len)).map fun j => D (len + j)) := by rw [hx]
    have hsum : len * Tryz.prog.bytesOf e ≤ 140737488351232 := by
      have := hl (((List.range len).map D).length * Tryz.prog.bytesOf e + ((List.range (m - len)).map fun j => D (len + j)).length * Tryz.prog.bytesOf e) (by rw [hx1]; simp [DataW.weights, ht, Nat.add_mul])
      rw [reach_eq] at this
      simp only [List.length_map, List.length_range] at this
      omega
    have hle : ∀ i, i < len → Light e (D i) := by
      intro i hil k hk
      refine hl k ?_
      rw [hx1]
      simp only [DataW.weights, ht, List.mem_cons, List.mem_append]
      exact .inr (.inl (weightsAll_mem' (List.mem_map.2 ⟨i, List.mem_range.2 hil, rfl⟩) k hk))
    have key : ∀ i, i < len → ∃ y : α, ∃ cs', cs'.length = sz ∧ R w cs' y ∧ (∀ f u, cs'[f]? = some u → w.cell? ((a.add (i * sz)).add f) = some u) := by
      intro i hil
      obtain ⟨cs', hc, htr⟩ := hi i (by omega)
      obtain ⟨_, hcl, hat⟩ := World.cells?_some hc
      obtain ⟨y, hy⟩ := hR n cs' _ htr (hle i hil) (fun z hz => hlt z (by rw [hp2, List.mem_append]; exact .inr (List.mem_flatMap.2 ⟨i, by simp; omega, hz⟩)))
      rw [hC] at hcl hat
      refine ⟨y, cs', hcl, hy, fun f u hu => ?_⟩
      have hf : f < sz := by rw [← hcl]; exact (List.getElem?_eq_some_iff.1 hu).1
      rw [hat f hf, hu]
    obtain ⟨l, hll, hq⟩ := list_of len _ key
    refine ⟨_, l, rfl, ⟨some a, cap, by rw [hll], fun h0 => ?_⟩, by rw [hll]; exact hsum, by omega⟩
    obtain ⟨cs0, h1, h2, h3⟩ := hq 0 h0
    have hc0 : w.cell? a = some (cs0[0]'(by omega)) := by
      have := h3 0 _ (List.getElem?_eq_getElem (by omega))
      simpa [Addr.add] using this
    have hsp : a.spot = none := by
      cases hs : a.spot with
      | none => rfl
      | some s =>
        unfold World.cell? at hc0
        split at hc0 <;> simp_all
    obtain ⟨ab, ao, asp⟩ := a
    simp only at hsp
    subst hsp
    have hlt0 : ab < N := hlt (.cell ab ao) (by
      rw [hp2, List.mem_append]
      left
      simp only [MemPlace.row, List.mem_map, List.mem_range]
      exact ⟨0, by rw [hC]; exact Nat.mul_pos (by omega) hsz, by simp⟩)
    refine ⟨ab, ao, rfl, hlt0, Nat.lt_of_lt_of_le hlt0 hN, fun i hi => ?_⟩
    obtain ⟨cs', g1, g2, g3⟩ := hq i hi
    refine ⟨cs', g1, g2, fun f u hu => ?_⟩
    have := g3 f u hu
    have e1 : ∀ (o q : Nat), (⟨ab, o, none⟩ : Addr).add q = ⟨ab, o + q, none⟩ := by intro o q; unfold Addr.add; split <;> simp_all
    rw [e1, e1, Nat.add_assoc] at this
    exact this
end

theorem RowsOf.part {α : Type} {R : World → List Value → α → Prop} {Q : α → Prop} {D : Nat → Prop} {w : World} {v : Value} {sz : Nat} {l : List α} (h : RowsOf (fun w cs x => R w cs x ∧ Q x) D w v sz l) : RowsOf R D w v sz l ∧ ∀ x ∈ l, Q x := by
 refine ⟨h.mono (fun _ _ h => h) (fun _ _ h => h.1), fun x hx => ?_⟩
 obtain ⟨i, hi, rfl⟩ := List.mem_iff_getElem.1 hx
 obtain ⟨p, cap, rfl, h⟩ := h
 obtain ⟨b, off, rfl, _, _, hc⟩ := h (by omega)
 obtain ⟨cs, _, h2, _⟩ := hc i hi
 exact h2.2

end Go.Proofs.YtolndcljbjlacaaGreat
namespace Go.Proofs.YtolndcljbjlacaaGreat
open Go.RowKit

open Go.ChangeShapes Go.WideShapes Go.ChangeAt Go.Deep

theorem cells_hdr : Tryz.prog.cellsOf 53 = 3 := by kernel_rfl
theorem cells_blob : Tryz.prog.cellsOf 48 = 2 := by kernel_rfl
theorem cells_bool : Tryz.prog.cellsOf 4 = 1 := by kernel_rfl
section
variable {H : Type} {enc : TypeId × Value → H} {w : World} {spare : Nat → Bool} {held : Bool}
end

end Go.Proofs.YtolndcljbjlacaaGreat
namespace Go.Proofs.YtolndcljbjlacaaGreat
open Go.RowKit
open Go.ChangeShapes Go.WideShapes Go.ChangeAt Go.Deep

section
variable {H : Type} {enc : TypeId × Value → H} {w : World} {spare : Nat → Bool} {held : Bool}
set_option maxRecDepth 100000 in
theorem blob_opens {N : Nat} : ∀ n cs y, DataW.trod enc Tryz.prog w 0 spare held n 48 cs = some y → Light 48 y.1 → (∀ x ∈ y.2, x.block < N) → ∃ x : BlobS, cs = [.bool x.null, .string (bb x.data)] ∧ x.data.length ≤ 140737488351232 := by
 intro n cs y h hl hN
 obtain ⟨hc, m, hf⟩ := opens_field Tryz.underlying48 h hl hN
 rw [cells_blob] at hc
 obtain ⟨a, b, rfl⟩ := len2 hc
 obtain ⟨z0, g0, l0, _⟩ := hf 0 _ rfl
 obtain ⟨z1, g1, l1, _⟩ := hf 1 _ rfl
 have g0 : DataW.trod enc Tryz.prog w 0 spare held m 4 (List.take (Tryz.prog.cellsOf 4) (List.drop 0 [a, b])) = some z0 := g0
 have g1 : DataW.trod enc Tryz.prog w 0 spare held m 9 (List.take (Tryz.prog.cellsOf 9) (List.drop 1 [a, b])) = some z1 := g1
 rw [cells_bool] at g0
 rw [cells_str] at g1
 obtain ⟨x, e0⟩ := opens_bool Tryz.underlying4 g0
 obtain ⟨s, e1, hs⟩ := opens_str Tryz.underlying9 g1 l1
 simp at e0 e1
 subst e0 e1
 exact ⟨⟨x, s⟩, rfl, hs⟩
set_option maxRecDepth 100000 in
theorem rhdr_opens {N : Nat} : ∀ n cs y, DataW.trod enc Tryz.prog w 0 spare held n 53 cs = some y → Light 53 y.1 → (∀ x ∈ y.2, x.block < N) → ∃ x : HdrS, RHdr cs x ∧ (x.key.length ≤ 140737488351232 ∧ x.val.data.length ≤ 140737488351232) := by
 intro n cs y h hl hN
 obtain ⟨hc, m, hf⟩ := opens_field Tryz.underlying53 h hl hN
 rw [cells_hdr] at hc
 obtain ⟨a, b, c, rfl⟩ := len3 hc
 obtain ⟨z0, g0, l0, n0⟩ := hf 0 _ rfl
 obtain ⟨z1, g1, l1, n1⟩ := hf 1 _ rfl
 have g0 : DataW.trod enc Tryz.prog w 0 spare held m 9 (List.take (Tryz.prog.cellsOf 9) (List.drop 0 [a, b, c])) = some z0 := g0
 have g1 : DataW.trod enc Tryz.prog w 0 spare held m 48 (List.take (Tryz.prog.cellsOf 48) (List.drop 1 [a, b, c])) = some z1 := g1
 rw [cells_str] at g0
 rw [cells_blob] at g1
 obtain ⟨s, e0, hs⟩ := opens_str Tryz.underlying9 g0 l0
 obtain ⟨x, e1, hx⟩ := blob_opens _ _ _ g1 l1 n1
 simp at e0 e1
 obtain ⟨e1, e2⟩ := e1
 subst e0 e1 e2
 exact ⟨⟨s, x⟩, rfl, hs, hx⟩
end

end Go.Proofs.YtolndcljbjlacaaGreat
namespace Go.Proofs.YtolndcljbjlacaaGreat
open Go.RowKit

end Go.Proofs.YtolndcljbjlacaaGreat
namespace Go.Proofs.YtolndcljbjlacaaGreat
open Go.Joins Go.RowKit
open Go.ChangeShapes Go.WideShapes Go.ChangeAt Go.Deep

theorem cells_rec : Tryz.prog.cellsOf 51 = 7 := by kernel_rfl
theorem cells_hdrs : Tryz.prog.cellsOf 49 = 1 := by kernel_rfl
section
variable {H : Type} {enc : TypeId × Value → H} {w : World} {spare : Nat → Bool} {held : Bool}
end
end Go.Proofs.YtolndcljbjlacaaGreat
namespace Go.Proofs.YtolndcljbjlacaaGreat
open Go.RowKit

def GoodR (l : List (RecS × Value)) : Prop := ∀ x ∈ l, smallR x.1 = 1 ∧ recOk x.1 = 0
theorem GoodR.nil : GoodR [] := fun _ h => by cases h
def FitR (l : List (RecS × Value)) : Prop := ∀ x ∈ l, x.1.R ∧ x.1.hdrs.length ≤ 9223372036854775807 ∧ HFit x.1.hdrs ∧ x.1.key.data.length ≤ 140737488351232 ∧ x.1.val.data.length ≤ 140737488351232
end Go.Proofs.YtolndcljbjlacaaGreat
namespace Go.Proofs.YtolndcljbjlacaaGreat
open Go.Joins Go.RowKit
open Go.ChangeShapes Go.WideShapes Go.ChangeAt Go.Deep

def QRec (W : World) (x : RecS × Value) : Prop := RowsOf (fun _ cs x => RHdr cs x) (· < W.heap.size) W x.2 3 x.1.hdrs ∧ x.1.R ∧ x.1.hdrs.length ≤ 9223372036854775807 ∧ HFit x.1.hdrs ∧ x.1.key.data.length ≤ 140737488351232 ∧ x.1.val.data.length ≤ 140737488351232
theorem QRec.fit {W : World} {l : List (RecS × Value)} (h : ∀ x ∈ l, QRec W x) : FitR l := fun x hx => (h x hx).2
theorem QRec.start {W : World} {v : Value} {l : List (RecS × Value)} (hr : RowsOf (fun _ cs x => RRec cs x) (· < W.heap.size) W v 7 l) (h : ∀ x ∈ l, QRec W x) : St W W (Know.recs v l) [] := St.start ⟨hr, fun x hx => (h x hx).1⟩
section
variable {H : Type} {enc : TypeId × Value → H} {w : World} {spare : Nat → Bool} {held : Bool}
set_option maxHeartbeats 1000000 in
set_option maxRecDepth 100000 in
theorem rrec_opens : ∀ n cs y, DataW.trod enc Tryz.prog w 0 spare held n 51 cs = some y → Light 51 y.1 → (∀ x ∈ y.2, x.block < w.heap.size) → ∃ x : RecS × Value, RRec cs x ∧ QRec w x := by
 intro n cs y hf hl hN
 have hNw : w.heap.size ≤ w.heap.size := Nat.le_refl _
 obtain ⟨hc, m, hg⟩ := opens_field Tryz.underlying51 hf hl hN
 rw [cells_rec] at hc
 match cs, hc with
 | [c0, c1, c2, c3, c4, c5, c6], _ =>
  obtain ⟨z0, g0, l0, n0⟩ := hg 0 _ rfl
  have g0 : DataW.trod enc Tryz.prog w 0 spare held m 3 (List.take (Tryz.prog.cellsOf 3) (List.drop 0 [c0, c1, c2, c3, c4, c5, c6])) = some z0 := g0
  rw [cells_int] at g0
  obtain ⟨z1, g1, l1, n1⟩ := hg 1 _ rfl
  have g1 : DataW.trod enc Tryz.prog w 0 spare held m 3 (List.take (Tryz.prog.cellsOf 3) (List.drop 1 [c0, c1, c2, c3, c4, c5, c6])) = some z1 := g1
  rw [cells_int] at g1
  obtain ⟨z2, g2, l2, n2⟩ := hg 2 _ rfl
  have g2 : DataW.trod enc Tryz.prog w 0 spare held m 48 (List.take (Tryz.prog.cellsOf 48) (List.drop 2 [c0, c1, c2, c3, c4, c5, c6])) = some z2 := g2
  rw [cells_blob] at g2
  obtain ⟨z3, g3, l3, n3⟩ := hg 3 _ rfl
  have g3 : DataW.trod enc Tryz.prog w 0 spare held m 48 (List.take (Tryz.prog.cellsOf 48) (List.drop 4 [c0, c1, c2, c3, c4, c5, c6])) = some z3 := g3
  rw [cells_blob] at g3
  obtain ⟨z4, g4, l4, n4⟩ := hg 4 _ rfl
  have g4 : DataW.trod enc Tryz.prog w 0 spare held m 49 (List.take (Tryz.prog.cellsOf 49) (List.drop 6 [c0, c1, c2, c3, c4, c5, c6])) = some z4 := g4
  rw [cells_hdrs] at g4
  obtain ⟨x0, e0, r0⟩ := opens_i64 Tryz.underlying3 g0
  obtain ⟨x1, e1, r1⟩ := opens_i64 Tryz.underlying3 g1
  obtain ⟨x2, e2, s2⟩ := blob_opens _ _ _ g2 l2 n2
  obtain ⟨x3, e3, s3⟩ := blob_opens _ _ _ g3 l3 n3
  obtain ⟨v6, x4, e4, hr, _, hm⟩ := opens_rows (R := fun w cs x => (fun _ cs x => RHdr cs x) w cs x ∧ (fun x : HdrS => x.key.length ≤ 140737488351232 ∧ x.val.data.length ≤ 140737488351232) x) (N := w.heap.size) Tryz.underlying49 cells_hdr (by decide) rhdr_opens g4 l4 n4 hNw
  obtain ⟨hr1, hq⟩ := hr.part
  simp at e0 e1 e2 e3 e4
  obtain ⟨e2a, e2b⟩ := e2
  obtain ⟨e3a, e3b⟩ := e3
  subst e0 e1 e2a e2b e3a e3b e4
  have hm2 : x4.length ≤ 9223372036854775807 := hm
  exact ⟨(⟨x0, x1, x2, x3, x4⟩, _), rfl, hr1, ⟨r0, r1⟩, hm2, hq, s2, s3⟩
end
end Go.Proofs.YtolndcljbjlacaaGreat
namespace Go.Proofs.YtolndcljbjlacaaGreat
open Go.Joins Go.RowKit
open Go.ChangeShapes Go.WideShapes Go.ChangeAt Go.Deep

theorem cells_bat : Tryz.prog.cellsOf 26 = 12 := by kernel_rfl
theorem cells_recs : Tryz.prog.cellsOf 24 = 1 := by kernel_rfl
section
variable {H : Type} {enc : TypeId × Value → H} {w : World} {spare : Nat → Bool} {held : Bool}
set_option maxHeartbeats 2000000 in
set_option maxRecDepth 100000 in
theorem bat_opens : ∀ n cs y, DataW.trod enc Tryz.prog w 0 spare held n 26 cs = some y → Light 26 y.1 → (∀ x ∈ y.2, x.block < w.heap.size) →
    ∃ (base leader : Int) (app txn ctl : Bool) (last first maxt prod epoch sq : Int) (l : List (RecS × Value)) (rv : Value), cs = [.int .i64 base, .int .i64 leader, .bool app, .bool txn, .bool ctl, .int .i64 last, .int .i64 first, .int .i64 maxt, .int .i64 prod, .int .i64 epoch, .int .i64 sq, rv] ∧
      BatS.R ⟨base, leader, app, txn, ctl, last, first, maxt, prod, epoch, sq, l.map (·.1)⟩ ∧ RowsOf (fun _ cs x => RRec cs x) (· < w.heap.size) w rv 7 l ∧ (∀ x ∈ l, QRec w x) := by
  intro n cs y hf hl hN
  obtain ⟨hc, m, hg⟩ := opens_field Tryz.underlying26 hf hl hN
  rw [cells_bat] at hc
  match cs, hc with
  | [c0, c1, c2, c3, c4, c5, c6, c7, c8, c9, c10, c11], _ =>
    obtain ⟨z0, g0, l0, n0⟩ := hg 0 _ rfl
    have g0 : DataW.trod enc Tryz.prog w 0 spare held m 3 (List.take (Tryz.prog.cellsOf 3) (List.drop 0 [c0, c1, c2, c3, c4, c5, c6, c7, c8, c9, c10, c11])) = some z0 := g0
    rw [cells_int] at g0
    obtain ⟨z1, g1, l1, n1⟩ := hg 1 _ rfl
    have g1 : DataW.trod enc Tryz.prog w 0 spare held m 3 (List.take (Tryz.prog.cellsOf 3) (List.drop 1 [c0, c1, c2, c3, c4, c5, c6, c7, c8, c9, c10, c11])) = some z1 := g1
    rw [cells_int] at g1
    obtain ⟨z2, g2, l2, n2⟩ := hg 2 _ rfl
    have g2 : DataW.trod enc Tryz.prog w 0 spare held m 4 (List.take (Tryz.prog.cellsOf 4) (List.drop 2 [c0, c1, c2, c3, c4, c5, c6, c7, c8, c9, c10, c11])) = some z2 := g2
    rw [cells_bool] at g2
    obtain ⟨z3, g3, l3, n3⟩ := hg 3 _ rfl
    have g3 : DataW.trod enc Tryz.prog w 0 spare held m 4 (List.take (Tryz.prog.cellsOf 4) (List.drop 3 [c0, c1, c2, c3, c4, c5, c6, c7, c8, c9, c10, c11])) = some z3 := g3
    rw [cells_bool] at g3
    obtain ⟨z4, g4, l4, n4⟩ := hg 4 _ rfl
    have g4 : DataW.trod enc Tryz.prog w 0 spare held m 4 (List.take (Tryz.prog.cellsOf 4) (List.drop 4 [c0, c1, c2, c3, c4, c5, c6, c7, c8, c9, c10, c11])) = some z4 := g4
    rw [cells_bool] at g4
    obtain ⟨z5, g5, l5, n5⟩ := hg 5 _ rfl
    have g5 : DataW.trod enc Tryz.prog w 0 spare held m 3 (List.take (Tryz.prog.cellsOf 3) (List.drop 5 [c0, c1, c2, c3, c4, c5, c6, c7, c8, c9, c10, c11])) = some z5 := g5
    rw [cells_int] at g5
    obtain ⟨z6, g6, l6, n6⟩ := hg 6 _ rfl
    have g6 : DataW.trod enc Tryz.prog w 0 spare held m 3 (List.take (Tryz.prog.cellsOf 3) (List.drop 6 [c0, c1, c2, c3, c4, c5, c6, c7, c8, c9, c10, c11])) = some z6 := g6
    rw [cells_int] at g6
    obtain ⟨z7, g7, l7, n7⟩ := hg 7 _ rfl
    have g7 : DataW.trod enc Tryz.prog w 0 spare held m 3 (List.take (Tryz.prog.cellsOf 3) (List.drop 7 [c0, c1, c2, c3, c4, c5, c6, c7, c8, c9, c10, c11])) = some z7 := g7
    rw [cells_int] at g7
    obtain ⟨z8, g8, l8, n8⟩ := hg 8 _ rfl
    have g8 : DataW.trod enc Tryz.prog w 0 spare held m 3 (List.take (Tryz.prog.cellsOf 3) (List.drop 8 [c0, c1, c2, c3, c4, c5, c6, c7, c8, c9, c10, c11])) = some z8 := g8
    rw [cells_int] at g8
    obtain ⟨z9, g9, l9, n9⟩ := hg 9 _ rfl
    have g9 : DataW.trod enc Tryz.prog w 0 spare held m 3 (List.take (Tryz.prog.cellsOf 3) (List.drop 9 [c0, c1, c2, c3, c4, c5, c6, c7, c8, c9, c10, c11])) = some z9 := g9
    rw [cells_int] at g9
    obtain ⟨z10, g10, l10, n10⟩ := hg 10 _ rfl
    have g10 : DataW.trod enc Tryz.prog w 0 spare held m 3 (List.take (Tryz.prog.cellsOf 3) (List.drop 10 [c0, c1, c2, c3, c4, c5, c6, c7, c8, c9, c10, c11])) = some z10 := g10
    rw [cells_int] at g10
    obtain ⟨z11, g11, l11, n11⟩ := hg 11 _ rfl
    have g11 : DataW.trod enc Tryz.prog w 0 spare held m 24 (List.take (Tryz.prog.cellsOf 24) (List.drop 11 [c0, c1, c2, c3, c4, c5, c6, c7, c8, c9, c10, c11])) = some z11 := g11
    rw [cells_recs] at g11
    obtain ⟨x0, e0, r0⟩ := opens_i64 Tryz.underlying3 g0
    obtain ⟨x1, e1, r1⟩ := opens_i64 Tryz.underlying3 g1
    obtain ⟨x2, e2⟩ := opens_bool Tryz.underlying4 g2
    obtain ⟨x3, e3⟩ := opens_bool Tryz.underlying4 g3
    obtain ⟨x4, e4⟩ := opens_bool Tryz.underlying4 g4
    obtain ⟨x5, e5, r5⟩ := opens_i64 Tryz.underlying3 g5
    obtain ⟨x6, e6, r6⟩ := opens_i64 Tryz.underlying3 g6
    obtain ⟨x7, e7, r7⟩ := opens_i64 Tryz.underlying3 g7
    obtain ⟨x8, e8, r8⟩ := opens_i64 Tryz.underlying3 g8
    obtain ⟨x9, e9, r9⟩ := opens_i64 Tryz.underlying3 g9
    obtain ⟨x10, e10, r10⟩ := opens_i64 Tryz.underlying3 g10
    obtain ⟨v11, x11, e11, hrq, _, _⟩ := opens_rows (R := fun w' cs x => (fun _ cs x => RRec cs x) w' cs x ∧ QRec w x) (N := w.heap.size) Tryz.underlying24 cells_rec (by decide) rrec_opens g11 l11 n11 (Nat.le_refl _)
    obtain ⟨hr, hq⟩ := hrq.part
    simp at e0 e1 e2 e3 e4 e5 e6 e7 e8 e9 e10 e11
    subst e0 e1 e2 e3 e4 e5 e6 e7 e8 e9 e10 e11
    exact ⟨x0, x1, x2, x3, x4, x5, x6, x7, x8, x9, x10, x11, _, rfl, ⟨r0, r1, r5, r6, r7, r8, r9, r10⟩, hr, hq⟩
end
end Go.Proofs.YtolndcljbjlacaaGreat
