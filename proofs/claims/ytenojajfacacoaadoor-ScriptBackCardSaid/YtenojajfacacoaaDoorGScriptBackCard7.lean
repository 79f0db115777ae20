/- Small scripts. -/
import Derived.Test.YtenojajfacacoaaDoorGScriptBackCard6
import Derived.Test.YtenojajfacacoaaDoorRegOp
import Derived.RegionTactic
import Derived.WalkMore
import Derived.Deep.RegionHeld3
import Derived.Deep.DeepCutAuto
import Derived.Test.YtenojajfacacoaaDoorGScriptBackCard5
import Derived.Test.YtenojajfacacoaaDoorSc9
import Derived.Test.YtenojajfacacoaaDoorGScriptBackCard2
import Derived.Test.YtenojajfacacoaaDoorSep
import Derived.Test.YtenojajfacacoaaDoorGScriptBackCard1
import Derived.IntWalk
/- A script, written. -/
namespace Go.Proofs.YtenojajfacacoaaDoor
open Go.RowKit

set_option maxHeartbeats 16000000 in
set_option maxRecDepth 100000 in
theorem sc_print (c : Int) (qb q : Option Addr) (bcap cap : Nat) (ch : List Int) (l : List BtR) (S : Bs) (hS : l.flatMap btT ++ (cutT c ++ chT ch) = S) (hl : S.length ≤ 1000000) (hcm : -1 ≤ c) (hcr : Rn c) (hchr : ∀ v ∈ ch, Rn v) (hfine : ∀ x ∈ l, btFine x) {W0 w : World} {K : Know} {L : List Res} (hlib : K.has Know.lib) (hkb : K.has (Know.btrs (.slice qb l.length bcap) l)) (hkc : K.has (Know.flat RInt (.slice q ch.length cap) 1 ch)) (h : St W0 w K L) :
    Calls Tryd.prog 9 #[.agg #[.slice qb l.length bcap, .int .i64 c, .slice q ch.length cap]] w fun en w' => en = .returned (.string (bb S)) ∧ St W0 w' K L := by
  by_cases hsn : S = []
  · subst hsn
    obtain ⟨rfl, h2, rfl⟩ := script_nil hS
    obtain rfl : c = -1 := by omega
    exact pr_nil qb q bcap cap h
  obtain ⟨rb, hrb⟩ : ∃ b, w.heap.size = b := ⟨_, rfl⟩
  obtain ⟨sb, hsb⟩ : ∃ b, rb + 1 = b := ⟨_, rfl⟩
  have g1 := h.allocRaw #[.slice qb l.length bcap, .int .i64 c, .slice q ch.length cap] 25
  rw [hrb] at g1
  have g2 := g1.sbNew
  simp only [World.size_alloc, hrb, hsb] at g2
  have z0 := (g2.p1).rawCell 0; have z1 := (g2.p1).rawCell 1; have z2 := (g2.p1).rawCell 2; simp at z0 z1 z2
  have H := Lib.hid g2
  have HSN := Lib.hid hsn
  have HLIB := Lib.hid hlib
  have HKB := Lib.hid hkb
  have HKC := Lib.hid hkc
  have HBF := Lib.hid hfine
  have HSL := Lib.hid hl
  have HCM := Lib.hid hcm
  have HCR := Lib.hid hcr
  have HCHR := Lib.hid hchr
  have HS0 := Lib.hid (show [] ++ ((l.drop 0).flatMap btT ++ (cutT c ++ chT ch)) = S from hS)
  have HLB := Lib.hid (show (l.length : Int) ≤ 1000000 by
    have h9 := flat_le btT l (fun h _ => by unfold btT batL; simp)
    have h8 := congrArg List.length hS
    rw [List.length_append] at h8
    omega)
  clear h g1 g2 hsn hlib hkb hkc hfine hl hcm hcr hchr hS
  go_enter Tryd.func9, Tryd.ntmps9
  go_wp2_with fail
  clear z0 z1 z2
  go_loopw [9] (fun iv wr => ∃ (k : Nat) (E : Bs), k ≤ l.length ∧ iv = .int .i64 k ∧ Hid (E ++ ((l.drop k).flatMap btT ++ (cutT c ++ chT ch)) = S) ∧ St W0 wr K (.gen (sbG sb E) :: .raw rb #[.slice qb l.length bcap, .int .i64 c, .slice q ch.length cap] 25 :: L)) (fun iv _ => l.length - (intOf iv).toNat)
  case atStart => exact ⟨0, [], Nat.zero_le _, rfl, HS0, H.out⟩
  case round =>
    obtain ⟨k, E, hk', rfl, HE, hst⟩ := hrel
    clear H
    have H := Lib.hid hst
    clear hst
    have z0 := (H.out.p1).rawCell 0; have z1 := (H.out.p1).rawCell 1; have z2 := (H.out.p1).rawCell 2; simp at z0 z1 z2
    have hkbi : (l.length : Int) ≤ 1000000 := HLB.out
    by_cases hk : k < l.length
    · obtain ⟨bk, off, hqq⟩ := fl_at (btrs_flat HKB.out) H.out (by omega)
      subst hqq
      obtain ⟨x, hx⟩ : ∃ x, l[k] = x := ⟨_, rfl⟩
      have hmem : x ∈ l := hx ▸ List.getElem_mem hk
      have hXK := btrs_recs HKB.out hmem
      have HXK0 := Lib.hid hXK
      obtain ⟨xq, xcap, hxv⟩ := recs_form hXK H.out
      have cc := btrs_cell HKB.out H.out k hk _ hx
      rw [hxv] at cc
      obtain ⟨c0, c1, c2, c3, c4, c5, c6, c7, c8, c9, c10, c11⟩ := cc
      obtain ⟨E2, hE2⟩ : ∃ E2, E ++ btT x = E2 := ⟨_, rfl⟩
      have hE3 : E2 ++ ((l.drop (k + 1)).flatMap btT ++ (cutT c ++ chT ch)) = S := by
        rw [← HE.out, flat_cutS btT l k hk x hx, ← hE2]
        simp only [List.append_assoc]
      have hEL := ahead_le hE3 HSL.out
      have HE2 := Lib.hid hE2
      have HE3 := Lib.hid (Lib.hid hE3)
      have HEL := Lib.hid hEL
      have HXV := Lib.hid hxv
      have HXF := Lib.hid (HBF.out x hmem)
      obtain ⟨tb, htb⟩ : ∃ b, wr.heap.size = b := ⟨_, rfl⟩
      have g1 := (H.out.allocRaw #[.int .i64 x.b.base, .int .i64 x.b.leader, .bool x.b.app, .bool x.b.txn, .bool x.b.ctl, .int .i64 x.b.last, .int .i64 x.b.first, .int .i64 x.b.maxt, .int .i64 x.b.prod, .int .i64 x.b.epoch, .int .i64 x.b.seq, .slice xq x.l.length xcap] 45)
      rw [htb] at g1
      have y0 := g1.rawCell 0; have y1 := g1.rawCell 1; have y2 := g1.rawCell 2; have y3 := g1.rawCell 3; have y4 := g1.rawCell 4; have y5 := g1.rawCell 5; have y6 := g1.rawCell 6; have y7 := g1.rawCell 7; have y8 := g1.rawCell 8; have y9 := g1.rawCell 9; have y10 := g1.rawCell 10; have y11 := g1.rawCell 11; simp at y0 y1 y2 y3 y4 y5 y6 y7 y8 y9 y10 y11
      have g2 := g1.p1
      have hki : (k : Int) < (l.length : Int) := by omega
      clear H hXK hmem hx hE2 hE3 hEL g1 hxv
      have H := Lib.hid g2
      clear g2
      go_wp2_with (go_at_call 20; (with_reducible refine (sc_batch x sb E E2 xq xcap HXV.out HXF.out HE2.out HEL.out HLIB.out HXK0.out H.out).mono ?_); rintro e_ wn ⟨rfl, h⟩; replace H := Lib.hid h; clear h)
      go_roundw
      case rel => exact ⟨k + 1, E2, hk, by go_num, HE3, H.out.p1.drop⟩
      case measure => first | (simp [intOf]; done) | (simp [intOf]; omega)
    · have hq1 : k = l.length := by omega
      have HE' := Lib.hid (show E ++ (cutT c ++ chT ch) = S by have h9 := HE.out; rw [hq1, List.drop_length] at h9; exact h9)
      have hki : ¬ ((k : Int) < (l.length : Int)) := by omega
      clear hq1
      by_cases hc0 : c = -1
      · have e1 : (c == -1) = true := by rw [hc0]; rfl
        have e2 : (c != -1) = false := by rw [hc0]; rfl
        have HE2 := Lib.hid (show E ++ chT ch = S by have h9 := HE'.out; rw [hc0] at h9; simpa [cutT] using h9)
        clear hc0
        by_cases hch : ch = []
        · have hcl : ch.length = 0 := by rw [hch]; rfl
          have hcl2 : (ch.length : Int) = 0 := by omega
          have hcl3 : ¬ (0 : Int) < (ch.length : Int) := by omega
          have hcl4 : decide ((0 : Int) < (ch.length : Int)) = false := decide_eq_false hcl3
          have HES := Lib.hid (show E = S by have h9 := HE2.out; rw [hch] at h9; simpa [chT] using h9)
          have HEN := Lib.hid (show E ≠ [] by rw [HES.out]; exact HSN.out)
          clear hch hcl hcl2
          go_wp2_with (go_at_call 24; (with_reducible refine (sb_text sb E HEN.out H.out).mono ?_); rintro e_ wn ⟨rfl, h⟩; replace H := Lib.hid h; clear h)
          go_ret
          exact ⟨by rw [HES.out]; rfl, H.out.drop⟩
        · have hcl : 0 < ch.length := List.length_pos_iff.2 hch
          have hcl2 : (0 : Int) < (ch.length : Int) := by omega
          have hcl3 : decide ((0 : Int) < (ch.length : Int)) = true := decide_eq_true hcl2
          obtain ⟨t5, ht5⟩ : ∃ t, lnK ch = t := ⟨_, rfl⟩
          have h9 : E ++ (t5 ++ [10]) = S := by
            rw [← HE2.out, ← ht5]
            unfold lnK chT numsT
            rw [if_neg hch, List.flatMap_map]
            simp only [List.append_assoc]
          have h8 := congrArg List.length h9
          have h7 := HSL.out
          simp only [List.length_append, List.length_cons, List.length_nil] at h8
          have h6 : ch.length ≤ t5.length := by
            rw [← ht5]
            unfold lnK
            have h5 := flat_le (fun x : Bs => 32 :: x) (ch.map numW) (fun h _ => by simp)
            rw [List.length_map] at h5
            rw [List.length_append]
            exact Nat.le_trans h5 (Nat.le_add_left _ _)
          have HE5 := Lib.hid h9
          have HT5 := Lib.hid (show joinC 32 ([99, 104, 117, 110, 107, 115] :: ch.map numW) = t5 by rw [joinC_flat, ← ht5]; rfl)
          have HTL5 := Lib.hid (show t5.length ≤ 1000000 by omega)
          have HEL5 := Lib.hid (show E.length ≤ 1000000 by omega)
          have HCL := Lib.hid (show ch.length ≤ 1000000 by omega)
          have HC0 := Lib.hid hcl
          have HCN := Lib.hid (show 1 + ch.length = ([99, 104, 117, 110, 107, 115] :: ch.map numW : List Bs).length by rw [List.length_cons, List.length_map]; omega)
          have HCP := Lib.hid (show 0 < 1 + ch.length by omega)
          have HCW := Lib.hid (show ([99, 104, 117, 110, 107, 115] :: ch.map numW : List Bs).length ≤ 1000000 by rw [List.length_cons, List.length_map]; omega)
          clear hch hcl h9 h8 h7 h6 ht5
          skip
          obtain ⟨nb, hnb⟩ : ∃ b, wr.heap.size = b := ⟨_, rfl⟩
          have z9 := (H.out.alloc (.cells #[.string ⟨#[99, 104, 117, 110, 107, 115]⟩] 9 (0, 0))).p1.rawCell 2
          simp at z9
          go_wp2_with (first
            | (go_at_call 23; have hl0 := H.out.rowLit [.string ⟨#[99, 104, 117, 110, 107, 115]⟩] 9 1 1 rfl (by unfold maxLen; omega); rw [hnb] at hl0; (with_reducible refine (sc_numbersE q ch.length cap ch rfl HCL.out HCHR.out HC0.out HLIB.out HKC.out hl0).mono ?_); rintro e_ wn ⟨wb, wc, rfl, hwc, h⟩; have HWC := Lib.hid hwc; clear hwc; replace H := Lib.hid h; clear h)
            | (at_builtin; refine wpl_app_st rfl _ _ 36 rfl 9 Tryd.underlying36 elem_strS _ _ _ rfl H.out ⟨wb, 0, none⟩ ch.length wc ((ch.map numW).flatMap scellS) rfl (by rw [scells_len, List.length_map, Nat.mul_one]) (strs_add (Know.has_right (Know.has_refl _)) H.out) (scells_one _) (by have := HCL.out; unfold maxLen; omega) (by have := HCL.out; omega) ?_; intro v' w' h; obtain ⟨wb2, cv2, hv⟩ := h.rowSlice (by omega); subst hv; have h := h.know (Know.has_left (Know.has_refl _)); replace H := Lib.hid h; clear h)
            | (go_at_call 21; (with_reducible refine (sc_lineW sb E ([99, 104, 117, 110, 107, 115] :: ch.map numW) t5 wb2 (1 + ch.length) cv2 _ rfl HCN.out HCP.out HCW.out HT5.out HTL5.out HEL5.out H.out).mono ?_); rintro e_ wn ⟨rfl, h⟩; rw [HE5.out] at h; replace H := Lib.hid h; clear h)
            | (go_at_call 24; (with_reducible refine (sb_text sb S HSN.out H.out).mono ?_); rintro e_ wn ⟨rfl, h⟩; replace H := Lib.hid h; clear h))
          go_ret
          exact ⟨rfl, H.out.drop⟩
      · have e1 : (c == -1) = false := by rw [beq_eq_false_iff_ne]; exact hc0
        have e2 : (c != -1) = true := by simp [bne, e1]
        obtain ⟨d2, hd2⟩ : ∃ t, numW c = t := ⟨_, rfl⟩
        obtain ⟨t, ht⟩ : ∃ t, lnC c = t := ⟨_, rfl⟩
        obtain ⟨E1, hE1⟩ : ∃ E1, E ++ (t ++ [10]) = E1 := ⟨_, rfl⟩
        have h9 : E1 ++ chT ch = S := by
          have hcn : ¬ c < 0 := by have := HCM.out; omega
          rw [← HE'.out, ← hE1, ← ht]
          unfold lnC cutT
          rw [if_neg hcn]
          simp
        have h8 := ahead_le h9 HSL.out
        have h7 := congrArg List.length hE1
        simp only [List.length_append, List.length_cons, List.length_nil] at h7
        have HE2 := Lib.hid h9
        have HE1 := Lib.hid hE1
        have HD2 := Lib.hid hd2
        have HT := Lib.hid (show joinC 32 [[99, 117, 116], d2] = t by rw [joinC_flat, ← hd2, ← ht]; rfl)
        have HTL := Lib.hid (show t.length ≤ 1000000 by omega)
        have HEL := Lib.hid (show E.length ≤ 1000000 by omega)
        have HL2 := Lib.hid (show [[99, 117, 116], d2].length ≤ 1000000 by simp)
        clear hc0 hd2 ht hE1 h9 h8 h7
        by_cases hch : ch = []
        · have hcl : ch.length = 0 := by rw [hch]; rfl
          have hcl2 : (ch.length : Int) = 0 := by omega
          have hcl3 : ¬ (0 : Int) < (ch.length : Int) := by omega
          have hcl4 : decide ((0 : Int) < (ch.length : Int)) = false := decide_eq_false hcl3
          have HES := Lib.hid (show E1 = S by have h9 := HE2.out; rw [hch] at h9; simpa [chT] using h9)
          have HEN := Lib.hid (show E1 ≠ [] by rw [HES.out]; exact HSN.out)
          clear hch hcl hcl2
          go_wp2_with (first
            | (go_at_call 22; (with_reducible refine (sl_num c HCR.out d2 HD2.out HLIB.out H.out).mono ?_); rintro e_ wn ⟨rfl, h⟩; replace H := Lib.hid h; clear h)
            | (go_at_call 21; have h0 := H.out.allocRaw #[.string ⟨#[99, 117, 116]⟩, .string (bb d2)] 9; (with_reducible refine (sc_lineR sb E [[99, 117, 116], d2] t _ 2 _ rfl rfl HL2.out HT.out HTL.out HEL.out h0).mono ?_); rintro e_ wn ⟨rfl, h⟩; rw [HE1.out] at h; have z2 := h.p1.rawCell 2; simp at z2; replace H := Lib.hid h; clear h)
            | (go_at_call 24; (with_reducible refine (sb_text sb E1 HEN.out H.out).mono ?_); rintro e_ wn ⟨rfl, h⟩; replace H := Lib.hid h; clear h))
          go_ret
          exact ⟨by rw [HES.out]; rfl, H.out.drop⟩
        · have hcl : 0 < ch.length := List.length_pos_iff.2 hch
          have hcl2 : (0 : Int) < (ch.length : Int) := by omega
          have hcl3 : decide ((0 : Int) < (ch.length : Int)) = true := decide_eq_true hcl2
          obtain ⟨t5, ht5⟩ : ∃ t, lnK ch = t := ⟨_, rfl⟩
          have h9 : E1 ++ (t5 ++ [10]) = S := by
            rw [← HE2.out, ← ht5]
            unfold lnK chT numsT
            rw [if_neg hch, List.flatMap_map]
            simp only [List.append_assoc]
          have h8 := congrArg List.length h9
          have h7 := HSL.out
          simp only [List.length_append, List.length_cons, List.length_nil] at h8
          have h6 : ch.length ≤ t5.length := by
            rw [← ht5]
            unfold lnK
            have h5 := flat_le (fun x : Bs => 32 :: x) (ch.map numW) (fun h _ => by simp)
            rw [List.length_map] at h5
            rw [List.length_append]
            exact Nat.le_trans h5 (Nat.le_add_left _ _)
          have HE5 := Lib.hid h9
          have HT5 := Lib.hid (show joinC 32 ([99, 104, 117, 110, 107, 115] :: ch.map numW) = t5 by rw [joinC_flat, ← ht5]; rfl)
          have HTL5 := Lib.hid (show t5.length ≤ 1000000 by omega)
          have HEL5 := Lib.hid (show E1.length ≤ 1000000 by omega)
          have HCL := Lib.hid (show ch.length ≤ 1000000 by omega)
          have HC0 := Lib.hid hcl
          have HCN := Lib.hid (show 1 + ch.length = ([99, 104, 117, 110, 107, 115] :: ch.map numW : List Bs).length by rw [List.length_cons, List.length_map]; omega)
          have HCP := Lib.hid (show 0 < 1 + ch.length by omega)
          have HCW := Lib.hid (show ([99, 104, 117, 110, 107, 115] :: ch.map numW : List Bs).length ≤ 1000000 by rw [List.length_cons, List.length_map]; omega)
          clear hch hcl h9 h8 h7 h6 ht5
          go_upto_region 9 with (first
            | (go_at_call 22; (with_reducible refine (sl_num c HCR.out d2 HD2.out HLIB.out H.out).mono ?_); rintro e_ wn ⟨rfl, h⟩; replace H := Lib.hid h; clear h)
            | (go_at_call 21; have h0 := H.out.allocRaw #[.string ⟨#[99, 117, 116]⟩, .string (bb d2)] 9; (with_reducible refine (sc_lineR sb E [[99, 117, 116], d2] t _ 2 _ rfl rfl HL2.out HT.out HTL.out HEL.out h0).mono ?_); rintro e_ wn ⟨rfl, h⟩; rw [HE1.out] at h; have z2 := h.p1.rawCell 2; simp at z2; replace H := Lib.hid h; clear h))
          obtain ⟨nb, hnb⟩ : ∃ b, wn.heap.size = b := ⟨_, rfl⟩
          have z9 := (H.out.alloc (.cells #[.string ⟨#[99, 104, 117, 110, 107, 115]⟩] 9 (0, 0))).p1.rawCell 2
          simp at z9
          go_wp2_with (first
            | (go_at_call 23; have hl0 := H.out.rowLit [.string ⟨#[99, 104, 117, 110, 107, 115]⟩] 9 1 1 rfl (by unfold maxLen; omega); rw [hnb] at hl0; (with_reducible refine (sc_numbersE q ch.length cap ch rfl HCL.out HCHR.out HC0.out HLIB.out HKC.out hl0).mono ?_); rintro e_ wn ⟨wb, wc, rfl, hwc, h⟩; have HWC := Lib.hid hwc; clear hwc; replace H := Lib.hid h; clear h)
            | (at_builtin; refine wpl_app_st rfl _ _ 36 rfl 9 Tryd.underlying36 elem_strS _ _ _ rfl H.out ⟨wb, 0, none⟩ ch.length wc ((ch.map numW).flatMap scellS) rfl (by rw [scells_len, List.length_map, Nat.mul_one]) (strs_add (Know.has_right (Know.has_refl _)) H.out) (scells_one _) (by have := HCL.out; unfold maxLen; omega) (by have := HCL.out; omega) ?_; intro v' w' h; obtain ⟨wb2, cv2, hv⟩ := h.rowSlice (by omega); subst hv; have h := h.know (Know.has_left (Know.has_refl _)); replace H := Lib.hid h; clear h)
            | (go_at_call 21; (with_reducible refine (sc_lineW sb E1 ([99, 104, 117, 110, 107, 115] :: ch.map numW) t5 wb2 (1 + ch.length) cv2 _ rfl HCN.out HCP.out HCW.out HT5.out HTL5.out HEL5.out H.out).mono ?_); rintro e_ wn ⟨rfl, h⟩; rw [HE5.out] at h; replace H := Lib.hid h; clear h)
            | (go_at_call 24; (with_reducible refine (sb_text sb S HSN.out H.out).mono ?_); rintro e_ wn ⟨rfl, h⟩; replace H := Lib.hid h; clear h))
          go_ret
          exact ⟨rfl, H.out.drop⟩

end Go.Proofs.YtenojajfacacoaaDoor
/- What can be told (pure). -/
namespace Go.Proofs.YtenojajfacacoaaDoor
open Go.RowKit

def okR (r : RecS) : Prop := oddB r.key = false ∧ oddB r.val = false ∧ ∀ z ∈ r.hdrs, oddB z.val = false
def okX (x : BtR) : Prop := ∀ y ∈ x.l, okR y.1
theorem may_all {l : List BtR} {c : Int} (hc : -1 ≤ c) (h : ∀ x ∈ l, okX x) : mayP l c := ⟨hc, fun x hx y hy => h x hx y hy⟩
theorem may_not {l : List BtR} {c : Int} {x : BtR} (hx : x ∈ l) {y : RecS × Value} (hy : y ∈ x.l) (hn : ¬ okR y.1) : ¬ mayP l c := fun h => hn (h.2 x hx y hy)
theorem take_all {α : Type} {P : α → Prop} {l : List α} {k : Nat} (hk : k < l.length) {x : α} (hx : l[k] = x) (h : ∀ y ∈ l.take k, P y) (hp : P x) : ∀ y ∈ l.take (k + 1), P y := by
  intro y hy
  rw [List.take_succ_eq_append_getElem hk, hx] at hy
  rcases List.mem_append.1 hy with hy | hy
  · exact h y hy
  · rw [List.mem_singleton.1 hy]; exact hp
theorem take_end {α : Type} {P : α → Prop} {l : List α} {k : Nat} (hk : ¬ k < l.length) (h : ∀ y ∈ l.take k, P y) : ∀ y ∈ l, P y := by
  rw [List.take_of_length_le (by omega)] at h; exact h

end Go.Proofs.YtenojajfacacoaaDoor
/- Scripts, there and back. -/
namespace Go.Proofs.YtenojajfacacoaaDoor
open Go.RowKit

theorem small_bounds {l : List BtR} {ch : List Int} (h : smallS l ch = true) : l.length ≤ 8 ∧ ch.length ≤ 200 ∧ ∀ x ∈ l, x.l.length ≤ 12 ∧ ∀ y ∈ x.l, y.1.hdrs.length ≤ 6 := by
  unfold smallS at h
  simp only [Bool.and_eq_true, decide_eq_true_eq, List.all_eq_true] at h
  obtain ⟨h1, h2, h3⟩ := h
  refine ⟨h1, h2, fun x hx => ?_⟩
  have h4 := h3 x hx
  unfold smallB at h4
  simp only [Bool.and_eq_true, decide_eq_true_eq, List.length_map] at h4
  refine ⟨h4.1, fun y hy => ?_⟩
  have h5 := rAll_mem _ h4.2 y.1 (List.mem_map.2 ⟨y, hy, rfl⟩)
  unfold smallRec at h5
  simp only [Bool.and_eq_true, decide_eq_true_eq] at h5
  exact h5.2.1
theorem parse_back (l : List BtR) (c : Int) (ch : List Int) (text : Bs) (ht : l.flatMap btT ++ (cutT c ++ chT ch) = text) (hl : text.length ≤ 900000) (hc : -1 ≤ c) (hcr : Rn c) (hchr : ∀ v ∈ ch, Rn v) (hf : ∀ x ∈ l, btFine x) {W0 w : World} {K : Know} {L : List Res} (hlib : K.has Know.lib) (h : St W0 w K L) :
    Calls Tryd.prog 10 #[.string (bb text)] w fun en w' => ∃ (K' : Know) (l' : List BtR) (q2 q : Option Addr) (b2 cap : Nat), en = .returned (.tuple #[.agg #[.slice q2 l'.length b2, .int .i64 c, .slice q ch.length cap], .int .i64 0]) ∧ K'.has K ∧ K'.has (Know.btrs (.slice q2 l'.length b2) l') ∧ K'.has (Know.flat RInt (.slice q ch.length cap) 1 ch) ∧ l'.map BtR.val = l.map BtR.val ∧ St W0 w' K' L := by
  have hg := script_good l c ch text ht hc hcr hchr hf
  refine (parse_any text hl hlib h).mono ?_
  rintro en w' (⟨_, K', l', c', ch', vB, q, cap, rfl, h1, h2, h3, h4, h5, h6, h7, h8, h9⟩ | ⟨bad, K', h1, h2, _⟩)
  · obtain ⟨e1, e2, e3⟩ := script_one l l' c c' ch ch' text ht hc hcr hchr hf h4 h5 h6 h7 h8
    subst e2 e3
    obtain ⟨q2, b2, hv⟩ := fl_form (btrs_flat h2) h9
    subst hv
    exact ⟨K', l', q2, q, b2, cap, rfl, h1, h2, h3, e1, h9⟩
  · exact absurd (h1.symm.trans hg) (by omega)

end Go.Proofs.YtenojajfacacoaaDoor
/- Lines of scripts, told apart. -/
namespace Go.Proofs.YtenojajfacacoaaDoor
open Go.RowKit

set_option maxHeartbeats 4000000 in
set_option maxRecDepth 100000 in
theorem rd_read_cut (rd wb : Nat) (v : Value) (n : Int) (x : Bs) (hx : numRd x = some n) (hn : 0 ≤ n) (hxl : x.length ≤ 1000000) {W0 w : World} {K : Know} {L : List Res} (hlib : K.has Know.lib) (hk : K.has (Know.strs wb 0 [[99, 117, 116], x])) (h : St W0 w K (.raw rd #[v, .int .i64 (-1), .slice none 0 0] 65 :: L)) :
    Calls Tryd.prog 26 #[.pointer (some ⟨rd, 0, none⟩), .slice (some ⟨wb, 0, none⟩) 2 2] w fun en w' => en = .returned (.bool true) ∧ St W0 w' K (.raw rd #[v, .int .i64 n, .slice none 0 0] 65 :: L) := by
  have HX := Lib.hid hx
  have HN := Lib.hid hn
  have HXL := Lib.hid hxl
  have HK1 := Lib.hid (show K.has (Know.strs wb 1 [x]) from strs_drop hk 1)
  clear hx hn hxl
  have c0 : w.cell? ⟨wb, 0, none⟩ = some (.string (bb [99, 117, 116])) := strs_cell hk h 0 (by simp)
  have d0 := (h).rawCell 0; have d1 := (h).rawCell 1; have d2 := (h).rawCell 2; simp at d0 d1 d2
  have HK := Lib.hid hk
  have HLIB := Lib.hid hlib
  have H := Lib.hid h
  clear h hk hlib
  go_enter Tryd.func26, Tryd.ntmps26
  go_upto_region 1 with fail
  go_region
  all_goals (
    go_wp2_with (go_at_call 43; (with_reducible refine (rd_cut rd wb 1 1 v (.slice none 0 0) (-1) n x HX.out HN.out HXL.out HLIB.out HK1.out H.out.drew).mono ?_); rintro e_ wn ⟨rfl, h⟩; replace H := Lib.hid h; clear h)
    go_ret
    exact ⟨rfl, H.out⟩)

set_option maxHeartbeats 4000000 in
set_option maxRecDepth 100000 in
theorem rd_read_batch (rd wb : Nat) (v : Value) (n : Nat) (xs : List Value) (ws : List Bs) (s : Bs) (n0 n1 n2 n3 n4 n5 n6 n7 : Int) (va vt vc : Bool) (hw : 8 = ws.length) (hns : numsRd ws = some [n0, n1, n2, n3, n4, n5, n6, n7]) (hva : hasB s 97 = va) (hvt : hasB s 116 = vt) (hvc : hasB s 99 = vc) (hok : (letW va vt vc == s) = true) (hn : n ≤ 1000000) (hxl : ∀ y ∈ ws, y.length ≤ 1000000) {W0 w : World} {K : Know} {L : List Res} (hlib : K.has Know.lib) (hk : K.has (Know.strs wb 0 ([98, 97, 116, 99, 104] :: (ws ++ [s])))) (h : St W0 w K (.raw rd #[v, .int .i64 (-1), .slice none 0 0] 65 :: .row v 45 12 n xs :: L)) :
    Calls Tryd.prog 26 #[.pointer (some ⟨rd, 0, none⟩), .slice (some ⟨wb, 0, none⟩) 10 10] w fun en w' => ∃ v', en = .returned (.bool true) ∧ St W0 w' K (.raw rd #[v', .int .i64 (-1), .slice none 0 0] 65 :: .row v' 45 12 (n + 1) (xs ++ [.int .i64 n0, .int .i64 n1, .bool va, .bool vt, .bool vc, .int .i64 n2, .int .i64 n3, .int .i64 n4, .int .i64 n5, .int .i64 n6, .int .i64 n7, .slice none 0 0]) :: L) := by
  have HW := Lib.hid hw
  have HNS := Lib.hid hns
  have HVA := Lib.hid hva
  have HVT := Lib.hid hvt
  have HVC := Lib.hid hvc
  have HOK := Lib.hid hok
  have HN := Lib.hid hn
  have HXL := Lib.hid hxl
  have HK1 := Lib.hid (show K.has (Know.strs wb 1 (ws ++ [s])) from strs_drop hk 1)
  clear hw hns hva hvt hvc hok hn hxl
  have c0 : w.cell? ⟨wb, 0, none⟩ = some (.string (bb [98, 97, 116, 99, 104])) := strs_cell hk h 0 (by simp)
  have d0 := (h).rawCell 0; have d1 := (h).rawCell 1; have d2 := (h).rawCell 2; simp at d0 d1 d2
  have HK := Lib.hid hk
  have HLIB := Lib.hid hlib
  have H := Lib.hid h
  clear h hk hlib
  go_enter Tryd.func26, Tryd.ntmps26
  go_upto_region 1 with fail
  go_region
  all_goals (
    go_wp2_with (go_at_call 44; (with_reducible refine (rd_batch rd wb 1 9 v (.slice none 0 0) (-1) n xs ws s n0 n1 n2 n3 n4 n5 n6 n7 va vt vc true HW.out HNS.out HVA.out HVT.out HVC.out HOK.out HN.out HXL.out (by decide) HLIB.out HK1.out H.out.drew).mono ?_); rintro e_ wn ⟨v2, rfl, h⟩; replace H := Lib.hid h; clear h)
    go_ret
    exact ⟨_, rfl, H.out⟩)
set_option maxHeartbeats 4000000 in
set_option maxRecDepth 100000 in
theorem rd_read_no (rd wb : Nat) (v : Value) (c : Int) (ws : List Bs) (hc : c ≠ -1) {W0 w : World} {K : Know} {L : List Res} (hlib : K.has Know.lib) (hk : K.has (Know.strs wb 0 ([98, 97, 116, 99, 104] :: ws))) (h : St W0 w K (.raw rd #[v, .int .i64 c, .slice none 0 0] 65 :: L)) :
    Calls Tryd.prog 26 #[.pointer (some ⟨rd, 0, none⟩), .slice (some ⟨wb, 0, none⟩) 10 10] w fun en w' => en = .returned (.bool false) ∧ St W0 w' K (.raw rd #[v, .int .i64 c, .slice none 0 0] 65 :: L) := by
  have q1 : (c == -1) = false := by rw [beq_eq_false_iff_ne]; exact hc
  have q2 : (c != -1) = true := by simp [bne, q1]
  clear hc
  have c0 : w.cell? ⟨wb, 0, none⟩ = some (.string (bb [98, 97, 116, 99, 104])) := strs_cell hk h 0 (by simp)
  have d0 := (h).rawCell 0; have d1 := (h).rawCell 1; have d2 := (h).rawCell 2; simp at d0 d1 d2
  have HK := Lib.hid hk
  have HLIB := Lib.hid hlib
  have H := Lib.hid h
  clear h hk hlib
  go_enter Tryd.func26, Tryd.ntmps26
  go_upto_region 1 with fail
  go_region
  all_goals (
    go_wp2_with fail
    go_ret
    exact ⟨rfl, H.out.drew⟩)

end Go.Proofs.YtenojajfacacoaaDoor
/- Two texts, read. -/
namespace Go.Proofs.YtenojajfacacoaaDoor
open Go.RowKit

set_option maxHeartbeats 4000000 in
set_option maxRecDepth 100000 in
theorem parse_k1 {W0 w : World} {K : Know} {L : List Res} (hlib : K.has Know.lib) (h : St W0 w K L) :
    Calls Tryd.prog 10 #[.string (bb [98, 97, 116, 99, 104, 32, 48, 32, 45, 49, 32, 48, 32, 48, 32, 48, 32, 45, 49, 32, 45, 49, 32, 45, 49, 32, 45, 10, 99, 117, 116, 32, 53, 10])] w fun en w' => ∃ (v : Value) (K' : Know), en = .returned (.tuple #[.agg #[v, .int .i64 5, .slice none 0 0], .int .i64 0]) ∧ K'.has K ∧ St W0 w' K' (.row v 45 12 1 [.int .i64 0, .int .i64 (-1), .bool false, .bool false, .bool false, .int .i64 0, .int .i64 0, .int .i64 0, .int .i64 (-1), .int .i64 (-1), .int .i64 (-1), .slice none 0 0] :: L) := by
  obtain ⟨sb, hsb⟩ : ∃ b, w.heap.size = b := ⟨_, rfl⟩
  obtain ⟨rd, hrd⟩ : ∃ b, sb + 1 = b := ⟨_, rfl⟩
  have g1 := (h.allocRaw #[.slice none 0 0, .int .i64 0, .slice none 0 0] 25).allocRaw #[.slice none 0 0, .int .i64 (-1), .slice none 0 0] 65
  simp only [World.size_alloc, hsb, hrd] at g1
  have H := Lib.hid g1
  have HLIB := Lib.hid hlib
  clear h g1 hlib
  go_enter Tryd.func10, Tryd.ntmps10
  go_wp2_with fail
  go_loopw [0, 5] (fun tv nv wr => ∃ (K' : Know) (v : Value), Hid (K'.has K) ∧ ((tv = .string (bb [98, 97, 116, 99, 104, 32, 48, 32, 45, 49, 32, 48, 32, 48, 32, 48, 32, 45, 49, 32, 45, 49, 32, 45, 49, 32, 45, 10, 99, 117, 116, 32, 53, 10]) ∧ nv = .int .i64 1 ∧ St W0 wr K' (.raw rd #[v, .int .i64 (-1), .slice none 0 0] 65 :: .row v 45 12 0 [] :: .raw sb #[.slice none 0 0, .int .i64 0, .slice none 0 0] 25 :: L)) ∨ (tv = .string (bb [99, 117, 116, 32, 53, 10]) ∧ nv = .int .i64 2 ∧ St W0 wr K' (.raw rd #[v, .int .i64 (-1), .slice none 0 0] 65 :: .row v 45 12 1 [.int .i64 0, .int .i64 (-1), .bool false, .bool false, .bool false, .int .i64 0, .int .i64 0, .int .i64 0, .int .i64 (-1), .int .i64 (-1), .int .i64 (-1), .slice none 0 0] :: .raw sb #[.slice none 0 0, .int .i64 0, .slice none 0 0] 25 :: L)) ∨ (tv = .string (bb []) ∧ nv = .int .i64 3 ∧ St W0 wr K' (.raw rd #[v, .int .i64 5, .slice none 0 0] 65 :: .row v 45 12 1 [.int .i64 0, .int .i64 (-1), .bool false, .bool false, .bool false, .int .i64 0, .int .i64 0, .int .i64 0, .int .i64 (-1), .int .i64 (-1), .int .i64 (-1), .slice none 0 0] :: .raw sb #[.slice none 0 0, .int .i64 0, .slice none 0 0] 25 :: L)))) (fun _ nv _ => 4 - (intOf nv).toNat)
  case atStart => exact ⟨K, _, Lib.hid (Know.has_refl _), .inl ⟨rfl, rfl, (H.out.nilRow 45 12).p1⟩⟩
  case round =>
    obtain ⟨K', v, HKK, hd⟩ := hrel
    clear H
    have HLIB2 := Lib.hid (Know.has_trans HKK.out HLIB.out)
    rcases hd with ⟨rfl, rfl, hst⟩ | ⟨rfl, rfl, hst⟩ | ⟨rfl, rfl, hst⟩
    · have H := Lib.hid hst
      clear hst
      go_wp2_with (first
    | (go_at_call 25; (with_reducible refine (sl_cutN [98, 97, 116, 99, 104, 32, 48, 32, 45, 49, 32, 48, 32, 48, 32, 48, 32, 45, 49, 32, 45, 49, 32, 45, 49, 32, 45, 10, 99, 117, 116, 32, 53, 10] [98, 97, 116, 99, 104, 32, 48, 32, 45, 49, 32, 48, 32, 48, 32, 48, 32, 45, 49, 32, 45, 49, 32, 45, 49, 32, 45] [99, 117, 116, 32, 53, 10] true kc1 (by decide) HLIB2.out H.out).mono ?_); rintro e_ wn ⟨rfl, h⟩; replace H := Lib.hid h; clear h)
    | (go_at_call 13; (with_reducible refine (sl_splitN [98, 97, 116, 99, 104, 32, 48, 32, 45, 49, 32, 48, 32, 48, 32, 48, 32, 45, 49, 32, 45, 49, 32, 45, 49, 32, 45] [[98, 97, 116, 99, 104], [48], [45, 49], [48], [48], [48], [45, 49], [45, 49], [45, 49], [45]] 10 rfl kwA (by decide) HLIB2.out H.out).mono ?_); rintro e_ wn ⟨wb, rfl, h⟩; have h := h.strs; have HKW := Lib.hid (Know.has_right (a := K') (Know.has_refl (Know.strs wb 0 [[98, 97, 116, 99, 104], [48], [45, 49], [48], [48], [48], [45, 49], [45, 49], [45, 49], [45]]))); have HLIB3 := Lib.hid (Know.has_left (b := Know.strs wb 0 [[98, 97, 116, 99, 104], [48], [45, 49], [48], [48], [48], [45, 49], [45, 49], [45, 49], [45]]) HLIB2.out); have HKW2 := Lib.hid (show (K'.and (Know.strs wb 0 [[98, 97, 116, 99, 104], [48], [45, 49], [48], [48], [48], [45, 49], [45, 49], [45, 49], [45]])).has (Know.strs wb 0 ([98, 97, 116, 99, 104] :: ([[48], [45, 49], [48], [48], [48], [45, 49], [45, 49], [45, 49]] ++ [[45]]))) from HKW.out); replace H := Lib.hid h; clear h)
    | (go_at_call 26; (with_reducible refine (rd_read_batch rd wb _ 0 [] [[48], [45, 49], [48], [48], [48], [45, 49], [45, 49], [45, 49]] [45] 0 (-1) 0 0 0 (-1) (-1) (-1) false false false rfl kn8 (by decide +kernel) (by decide +kernel) (by decide +kernel) (by decide +kernel) (by decide) (by decide) HLIB3.out HKW2.out H.out).mono ?_); rintro e_ wn ⟨v2, rfl, h⟩; replace H := Lib.hid h; clear h))
      go_roundw
      case rel => exact ⟨_, v2, Lib.hid (Know.has_left HKK.out), .inr (.inl ⟨rfl, by go_num, H.out⟩)⟩
      case measure => first | (simp [intOf]; done) | (simp [intOf]; omega)
    · have H := Lib.hid hst
      clear hst
      go_wp2_with (first
    | (go_at_call 25; (with_reducible refine (sl_cutN [99, 117, 116, 32, 53, 10] [99, 117, 116, 32, 53] [] true kc2 (by decide) HLIB2.out H.out).mono ?_); rintro e_ wn ⟨rfl, h⟩; replace H := Lib.hid h; clear h)
    | (go_at_call 13; (with_reducible refine (sl_splitN [99, 117, 116, 32, 53] [[99, 117, 116], [53]] 2 rfl kwB (by decide) HLIB2.out H.out).mono ?_); rintro e_ wn ⟨wb, rfl, h⟩; have h := h.strs; have HKW := Lib.hid (Know.has_right (a := K') (Know.has_refl (Know.strs wb 0 [[99, 117, 116], [53]]))); have HLIB3 := Lib.hid (Know.has_left (b := Know.strs wb 0 [[99, 117, 116], [53]]) HLIB2.out); replace H := Lib.hid h; clear h)
    | (go_at_call 26; (with_reducible refine (rd_read_cut rd wb _ 5 [53] kn5 (by decide) (by decide) HLIB3.out HKW.out H.out).mono ?_); rintro e_ wn ⟨rfl, h⟩; replace H := Lib.hid h; clear h))
      go_roundw
      case rel => exact ⟨_, v, Lib.hid (Know.has_left HKK.out), .inr (.inr ⟨rfl, by go_num, H.out⟩)⟩
      case measure => first | (simp [intOf]; done) | (simp [intOf]; omega)
    · obtain ⟨qv, cv, hv⟩ := hst.p1.rowAny
      subst hv
      have H := Lib.hid hst
      have d0 := (hst).rawCell 0; have d1 := (hst).rawCell 1; have d2 := (hst).rawCell 2; simp at d0 d1 d2
      have e0 := (hst.p2).rawCell 0; have e1 := (hst.p2).rawCell 1; have e2 := (hst.p2).rawCell 2; simp at e0 e1 e2; have r0 := (hst.p2).rawFree 0; have r1 := (hst.p2).rawFree 1; have r2 := (hst.p2).rawFree 2
      clear hst
      go_wp2_with fail
      have hz : St W0 _ K' (.raw sb #[.slice qv 1 cv, .int .i64 5, .slice none 0 0] 25 :: _) := ((H.out.p2.rawSet 0 (.slice qv 1 cv)).rawSet 1 (.int .i64 5)).rawSet 2 (.slice none 0 0)
      refine bodyPost_ret (rc_cell_tmpS rfl _ _ sb [.slice qv 1 cv, .int .i64 5, .slice none 0 0] _ rfl (rc_rangeS hz) Tryd.underlying25 rfl (by kernel_rfl)) rfl ?_
      exact ⟨_, K', rfl, HKK.out, hz.drop.drop⟩
set_option maxHeartbeats 4000000 in
set_option maxRecDepth 100000 in
theorem parse_k2 {W0 w : World} {K : Know} {L : List Res} (hlib : K.has Know.lib) (h : St W0 w K L) :
    Calls Tryd.prog 10 #[.string (bb [99, 117, 116, 32, 53, 10, 98, 97, 116, 99, 104, 32, 48, 32, 45, 49, 32, 48, 32, 48, 32, 48, 32, 45, 49, 32, 45, 49, 32, 45, 49, 32, 45, 10])] w fun en w' => ∃ K' : Know, en = .returned (.tuple #[.agg #[.slice none 0 0, .int .i64 0, .slice none 0 0], .int .i64 2]) ∧ K'.has K ∧ St W0 w' K' L := by
  obtain ⟨sb, hsb⟩ : ∃ b, w.heap.size = b := ⟨_, rfl⟩
  obtain ⟨rd, hrd⟩ : ∃ b, sb + 1 = b := ⟨_, rfl⟩
  have g1 := (h.allocRaw #[.slice none 0 0, .int .i64 0, .slice none 0 0] 25).allocRaw #[.slice none 0 0, .int .i64 (-1), .slice none 0 0] 65
  simp only [World.size_alloc, hsb, hrd] at g1
  have H := Lib.hid g1
  have HLIB := Lib.hid hlib
  clear h g1 hlib
  go_enter Tryd.func10, Tryd.ntmps10
  go_wp2_with fail
  go_loopw [0, 5] (fun tv nv wr => ∃ (K' : Know), Hid (K'.has K) ∧ ((tv = .string (bb [99, 117, 116, 32, 53, 10, 98, 97, 116, 99, 104, 32, 48, 32, 45, 49, 32, 48, 32, 48, 32, 48, 32, 45, 49, 32, 45, 49, 32, 45, 49, 32, 45, 10]) ∧ nv = .int .i64 1 ∧ St W0 wr K' (.raw rd #[.slice none 0 0, .int .i64 (-1), .slice none 0 0] 65 :: .raw sb #[.slice none 0 0, .int .i64 0, .slice none 0 0] 25 :: L)) ∨ (tv = .string (bb [98, 97, 116, 99, 104, 32, 48, 32, 45, 49, 32, 48, 32, 48, 32, 48, 32, 45, 49, 32, 45, 49, 32, 45, 49, 32, 45, 10]) ∧ nv = .int .i64 2 ∧ St W0 wr K' (.raw rd #[.slice none 0 0, .int .i64 5, .slice none 0 0] 65 :: .raw sb #[.slice none 0 0, .int .i64 0, .slice none 0 0] 25 :: L)))) (fun _ nv _ => 4 - (intOf nv).toNat)
  case atStart => exact ⟨K, Lib.hid (Know.has_refl _), .inl ⟨rfl, rfl, H.out⟩⟩
  case round =>
    obtain ⟨K', HKK, hd⟩ := hrel
    clear H
    have HLIB2 := Lib.hid (Know.has_trans HKK.out HLIB.out)
    rcases hd with ⟨rfl, rfl, hst⟩ | ⟨rfl, rfl, hst⟩
    · have H := Lib.hid hst
      clear hst
      go_wp2_with (first
    | (go_at_call 25; (with_reducible refine (sl_cutN [99, 117, 116, 32, 53, 10, 98, 97, 116, 99, 104, 32, 48, 32, 45, 49, 32, 48, 32, 48, 32, 48, 32, 45, 49, 32, 45, 49, 32, 45, 49, 32, 45, 10] [99, 117, 116, 32, 53] [98, 97, 116, 99, 104, 32, 48, 32, 45, 49, 32, 48, 32, 48, 32, 48, 32, 45, 49, 32, 45, 49, 32, 45, 49, 32, 45, 10] true kc3 (by decide) HLIB2.out H.out).mono ?_); rintro e_ wn ⟨rfl, h⟩; replace H := Lib.hid h; clear h)
    | (go_at_call 13; (with_reducible refine (sl_splitN [99, 117, 116, 32, 53] [[99, 117, 116], [53]] 2 rfl kwB (by decide) HLIB2.out H.out).mono ?_); rintro e_ wn ⟨wb, rfl, h⟩; have h := h.strs; have HKW := Lib.hid (Know.has_right (a := K') (Know.has_refl (Know.strs wb 0 [[99, 117, 116], [53]]))); have HLIB3 := Lib.hid (Know.has_left (b := Know.strs wb 0 [[99, 117, 116], [53]]) HLIB2.out); replace H := Lib.hid h; clear h)
    | (go_at_call 26; (with_reducible refine (rd_read_cut rd wb _ 5 [53] kn5 (by decide) (by decide) HLIB3.out HKW.out H.out).mono ?_); rintro e_ wn ⟨rfl, h⟩; replace H := Lib.hid h; clear h))
      go_roundw
      case rel => exact ⟨_, Lib.hid (Know.has_left HKK.out), .inr ⟨rfl, by go_num, H.out⟩⟩
      case measure => first | (simp [intOf]; done) | (simp [intOf]; omega)
    · have H := Lib.hid hst
      clear hst
      go_wp2_with (first
    | (go_at_call 25; (with_reducible refine (sl_cutN [98, 97, 116, 99, 104, 32, 48, 32, 45, 49, 32, 48, 32, 48, 32, 48, 32, 45, 49, 32, 45, 49, 32, 45, 49, 32, 45, 10] [98, 97, 116, 99, 104, 32, 48, 32, 45, 49, 32, 48, 32, 48, 32, 48, 32, 45, 49, 32, 45, 49, 32, 45, 49, 32, 45] [] true kc4 (by decide) HLIB2.out H.out).mono ?_); rintro e_ wn ⟨rfl, h⟩; replace H := Lib.hid h; clear h)
    | (go_at_call 13; (with_reducible refine (sl_splitN [98, 97, 116, 99, 104, 32, 48, 32, 45, 49, 32, 48, 32, 48, 32, 48, 32, 45, 49, 32, 45, 49, 32, 45, 49, 32, 45] [[98, 97, 116, 99, 104], [48], [45, 49], [48], [48], [48], [45, 49], [45, 49], [45, 49], [45]] 10 rfl kwA (by decide) HLIB2.out H.out).mono ?_); rintro e_ wn ⟨wb, rfl, h⟩; have h := h.strs; have HKW := Lib.hid (Know.has_right (a := K') (Know.has_refl (Know.strs wb 0 [[98, 97, 116, 99, 104], [48], [45, 49], [48], [48], [48], [45, 49], [45, 49], [45, 49], [45]]))); have HLIB3 := Lib.hid (Know.has_left (b := Know.strs wb 0 [[98, 97, 116, 99, 104], [48], [45, 49], [48], [48], [48], [45, 49], [45, 49], [45, 49], [45]]) HLIB2.out); have HKW2 := Lib.hid (show (K'.and (Know.strs wb 0 [[98, 97, 116, 99, 104], [48], [45, 49], [48], [48], [48], [45, 49], [45, 49], [45, 49], [45]])).has (Know.strs wb 0 ([98, 97, 116, 99, 104] :: ([[48], [45, 49], [48], [48], [48], [45, 49], [45, 49], [45, 49]] ++ [[45]]))) from HKW.out); replace H := Lib.hid h; clear h)
    | (go_at_call 26; (with_reducible refine (rd_read_no rd wb _ 5 ([[48], [45, 49], [48], [48], [48], [45, 49], [45, 49], [45, 49]] ++ [[45]]) (by decide) HLIB3.out HKW2.out H.out).mono ?_); rintro e_ wn ⟨rfl, h⟩; have e0 := (h.p1).rawCell 0; have e1 := (h.p1).rawCell 1; have e2 := (h.p1).rawCell 2; simp at e0 e1 e2; have r0 := (h.p1).rawFree 0; have r1 := (h.p1).rawFree 1; have r2 := (h.p1).rawFree 2; replace H := Lib.hid h; clear h))
      have hz : St W0 _ _ (.raw sb #[.slice none 0 0, .int .i64 0, .slice none 0 0] 25 :: _) := ((H.out.p1.rawSet 0 (.slice none 0 0)).rawSet 1 (.int .i64 0)).rawSet 2 (.slice none 0 0)
      refine bodyPost_ret (rc_cell_tmpS rfl _ _ sb [.slice none 0 0, .int .i64 0, .slice none 0 0] _ rfl (rc_rangeS hz) Tryd.underlying25 rfl (by kernel_rfl)) rfl ?_
      exact ⟨_, rfl, Know.has_left HKK.out, hz.drop.drop⟩

end Go.Proofs.YtenojajfacacoaaDoor
/- A script speaks. -/
namespace Go.Proofs.YtenojajfacacoaaDoor
open Go.RowKit

theorem sc_hex61 {W0 w : World} {K : Know} {L : List Res} (h : St W0 w K L) : Calls Tryd.prog 15 #[.string ⟨#[97]⟩] w fun en w' => en = .returned (.string ⟨#[54, 49]⟩) ∧ St W0 w' K L := sc_hex [97] (by decide) h
theorem parse_k1' {W0 w : World} {K : Know} {L : List Res} (hlib : K.has Know.lib) (h : St W0 w K L) :
    Calls Tryd.prog 10 #[.string ⟨#[98, 97, 116, 99, 104, 32, 48, 32, 45, 49, 32, 48, 32, 48, 32, 48, 32, 45, 49, 32, 45, 49, 32, 45, 49, 32, 45, 10, 99, 117, 116, 32, 53, 10]⟩] w fun en w' => ∃ (v : Value) (K' : Know), en = .returned (.tuple #[.agg #[v, .int .i64 5, .slice none 0 0], .int .i64 0]) ∧ K'.has K ∧ St W0 w' K' (.row v 45 12 1 [.int .i64 0, .int .i64 (-1), .bool false, .bool false, .bool false, .int .i64 0, .int .i64 0, .int .i64 0, .int .i64 (-1), .int .i64 (-1), .int .i64 (-1), .slice none 0 0] :: L) := parse_k1 hlib h
theorem parse_k2' {W0 w : World} {K : Know} {L : List Res} (hlib : K.has Know.lib) (h : St W0 w K L) :
    Calls Tryd.prog 10 #[.string ⟨#[99, 117, 116, 32, 53, 10, 98, 97, 116, 99, 104, 32, 48, 32, 45, 49, 32, 48, 32, 48, 32, 48, 32, 45, 49, 32, 45, 49, 32, 45, 49, 32, 45, 10]⟩] w fun en w' => ∃ K' : Know, en = .returned (.tuple #[.agg #[.slice none 0 0, .int .i64 0, .slice none 0 0], .int .i64 2]) ∧ K'.has K ∧ St W0 w' K' L := parse_k2 hlib h
set_option maxHeartbeats 4000000 in
set_option maxRecDepth 100000 in
theorem speaks25 {W0 w : World} {K : Know} {L : List Res} (hlib : K.has Know.lib) (h : St W0 w K L) :
    Calls Tryd.prog 6 #[] w fun en w' => ∃ K' : Know, en = .returned (.bool true) ∧ K'.has K ∧ St W0 w' K' L := by
  have H := Lib.hid h
  have HLIB := Lib.hid hlib
  clear h hlib
  go_enter Tryd.func6, Tryd.ntmps6
  go_wp2_with (first
    | (go_at_call 10; (with_reducible refine (parse_k1' HLIB.out H.out).mono ?_); rintro e_ wn ⟨v, K1, rfl, hkk, h⟩; have HK1 := Lib.hid hkk; clear hkk; obtain ⟨g, cv, hv⟩ := h.rowSlice (by decide); subst hv; obtain ⟨xb, hxb⟩ : ∃ y, wn.heap.size = y := ⟨_, rfl⟩; have h := h.allocRaw #[.slice (some ⟨g, 0, none⟩) 1 cv, .int .i64 5, .slice none 0 0] 25; rw [hxb] at h; have x0 := (h).rawCell 0; have x1 := (h).rawCell 1; have x2 := (h).rawCell 2; simp at x0 x1 x2; have z8 := h.p1.rowCell 8 (by decide); simp at z8; replace H := Lib.hid h; clear h)
    | (go_at_call 10; clear x0 x1 x2 z8; (with_reducible refine (parse_k2' (Know.has_trans HK1.out HLIB.out) H.out).mono ?_); rintro e_ wn ⟨K2, rfl, hkk, h⟩; have HK2 := Lib.hid hkk; clear hkk; obtain ⟨yb, hyb⟩ : ∃ y, wn.heap.size = y := ⟨_, rfl⟩; have h := h.allocRaw #[.slice none 0 0, .int .i64 0, .slice none 0 0] 25; rw [hyb] at h; have x0 := (h.p1).rawCell 0; have x1 := (h.p1).rawCell 1; have x2 := (h.p1).rawCell 2; simp at x0 x1 x2; have z8 := h.p2.rowCell 8 (by decide); simp at z8; replace H := Lib.hid h; clear h)
    | (go_at_call 15; (try clear x0 x1 x2 z8); (with_reducible refine (sc_hex61 H.out).mono ?_); rintro e_ wn ⟨rfl, h⟩; have x0 := (h.p1).rawCell 0; have x1 := (h.p1).rawCell 1; have x2 := (h.p1).rawCell 2; simp at x0 x1 x2; have z8 := h.p2.rowCell 8 (by decide); simp at z8; replace H := Lib.hid h; clear h))
  go_ret
  exact ⟨K2, rfl, Know.has_trans HK2.out HK1.out, H.out.drop.drop.drop⟩

end Go.Proofs.YtenojajfacacoaaDoor
/- Whether a script can be told, by definition. -/
namespace Go.Proofs.YtenojajfacacoaaDoor
open Go.RowKit

set_option maxHeartbeats 4000000 in
set_option maxRecDepth 100000 in
theorem rs_oddB (nl : Bool) (d : Bs) (o : Bool) (ho : oddB ⟨nl, d⟩ = o) {W0 w : World} {K : Know} {L : List Res} (h : St W0 w K L) :
    Calls Tryd.prog 19 #[.agg #[.bool nl, .string (bb d)]] w fun en w' => en = .returned (.bool o) ∧ St W0 w' K L := by
  subst ho
  obtain ⟨xb, hxb⟩ : ∃ b, w.heap.size = b := ⟨_, rfl⟩
  have g1 := h.allocRaw #[.bool nl, .string (bb d)] 48
  rw [hxb] at g1
  have c0 := (g1).rawCell 0; have c1 := (g1).rawCell 1; simp at c0 c1
  have H := Lib.hid g1
  clear h g1
  cases nl
  · go_enter Tryd.func19, Tryd.ntmps19
    go_wp2_with fail
    go_ret
    exact ⟨rfl, H.out.drop⟩
  · by_cases hd : d = []
    · subst hd
      go_enter Tryd.func19, Tryd.ntmps19
      go_wp2_with fail
      go_ret
      exact ⟨rfl, H.out.drop⟩
    · have t1 : (d == ([] : Bs)) = false := by rw [beq_eq_false_iff_ne]; exact hd
      have t2 : (([] : Bs) == d) = false := by rw [beq_eq_false_iff_ne]; exact fun h => hd h.symm
      have t3 : (d != ([] : Bs)) = true := by simp [bne, t1]
      have HO := Lib.hid (show oddB ⟨true, d⟩ = true by unfold oddB; cases d with | nil => exact absurd rfl hd | cons _ _ => rfl)
      clear hd
      go_enter Tryd.func19, Tryd.ntmps19
      go_wp2_with fail
      go_ret
      exact ⟨by rw [HO.out]; rfl, H.out.drop⟩
set_option maxHeartbeats 16000000 in
set_option maxRecDepth 100000 in
theorem rs_mayI (vB : Value) (c : Int) (q : Option Addr) (cap : Nat) (ch : List Int) (l : List BtR) (hll : (l.length : Int) ≤ 1000000) (hrl : ∀ x ∈ l, (x.l.length : Int) ≤ 1000000) (hhl : ∀ x ∈ l, ∀ y ∈ x.l, (y.1.hdrs.length : Int) ≤ 1000000) {W0 w : World} {K : Know} {L : List Res} (hkb : K.has (Know.btrs vB l)) (h : St W0 w K L) :
    Calls Tryd.prog 8 #[.agg #[vB, .int .i64 c, .slice q ch.length cap]] w fun en w' => ∃ b, en = .returned (.bool b) ∧ (b = true ↔ mayP l c) ∧ St W0 w' K L := by
  obtain ⟨qb, bcap, hvB⟩ := fl_form (btrs_flat hkb) h
  subst hvB
  obtain ⟨rb, hrb⟩ : ∃ b, w.heap.size = b := ⟨_, rfl⟩
  have g1 := h.allocRaw #[.slice qb l.length bcap, .int .i64 c, .slice q ch.length cap] 29
  rw [hrb] at g1
  have z0 := (g1).rawCell 0; have z1 := (g1).rawCell 1; have z2 := (g1).rawCell 2; simp at z0 z1 z2
  have H := Lib.hid g1
  have HKB := Lib.hid hkb
  have HLB := Lib.hid hll
  have HRL := Lib.hid hrl
  have HHL0 := Lib.hid hhl
  by_cases hc1 : c < -1
  · have hc2 : decide (c < -1) = true := decide_eq_true hc1
    have HNM := Lib.hid (show ¬ mayP l c from fun h => by have := h.1; omega)
    clear h g1 hkb hll hrl hhl
    go_enter Tryd.func8, Tryd.ntmps8
    go_wp2_with fail
    go_ret
    exact ⟨false, rfl, ⟨fun h => (by cases h), fun h => absurd h HNM.out⟩, H.out.drop⟩
  have HC := Lib.hid (show -1 ≤ c by omega)
  have hc2 : decide (c < -1) = false := decide_eq_false hc1
  clear h g1 hkb hll hrl hhl
  go_enter Tryd.func8, Tryd.ntmps8
  go_wp2_with fail
  clear z0 z1 z2
  go_loopw [3] (fun iv wr => ∃ (k : Nat), k ≤ l.length ∧ iv = .int .i64 k ∧ Hid (∀ x ∈ l.take k, okX x) ∧ St W0 wr K (.raw rb #[.slice qb l.length bcap, .int .i64 c, .slice q ch.length cap] 29 :: L)) (fun iv _ => l.length - (intOf iv).toNat)
  case atStart => exact ⟨0, Nat.zero_le _, rfl, Lib.hid (fun z hz => by cases hz), H.out⟩
  case round =>
    obtain ⟨k, hk', rfl, HF1, hst⟩ := hrel
    clear H
    have H := Lib.hid hst
    clear hst
    have z0 := (H.out).rawCell 0; have z1 := (H.out).rawCell 1; have z2 := (H.out).rawCell 2; simp at z0 z1 z2
    have hkbi : (l.length : Int) ≤ 1000000 := HLB.out
    by_cases hk : k < l.length
    · obtain ⟨bk, off, hqq⟩ := fl_at (btrs_flat HKB.out) H.out (by omega)
      have HKB' := HKB.out
      rw [hqq] at HKB'
      have HKB2 := Lib.hid HKB'
      have HQB := Lib.hid hqq
      obtain ⟨x, hx⟩ : ∃ x, l[k] = x := ⟨_, rfl⟩
      have hmem : x ∈ l := hx ▸ List.getElem_mem hk
      have HMX := Lib.hid hmem
      have hXK0 := btrs_recs HKB.out hmem
      obtain ⟨xq, xcap, hxv⟩ := recs_form hXK0 H.out
      rw [hxv] at hXK0
      have HXV := Lib.hid hxv
      have HXX := Lib.hid hx
      have HXK := Lib.hid hXK0
      have HXB := Lib.hid (HRL.out x hmem)
      have HHL := Lib.hid (HHL0.out x hmem)
      have hki : (k : Int) < (l.length : Int) := by omega
      clear hx hmem hXK0 hxv HKB' hqq
      go_wp2_with fail
      clear z0 z1 z2
      go_loopw [4] (fun iv wr => ∃ (k3 : Nat), k3 ≤ x.l.length ∧ iv = .int .i64 k3 ∧ Hid (∀ y ∈ x.l.take k3, okR y.1) ∧ St W0 wr K (.raw rb #[.slice qb l.length bcap, .int .i64 c, .slice q ch.length cap] 29 :: L)) (fun iv _ => x.l.length - (intOf iv).toNat)
      case atStart => exact ⟨0, Nat.zero_le _, rfl, Lib.hid (fun z hz => by cases hz), H.out⟩
      case round =>
        obtain ⟨k3, hk3', rfl, HF3, hst3⟩ := hrel
        clear H
        have H := Lib.hid hst3
        clear hst3
        have z0 := H.out.rawCell 0
        simp at z0
        rw [HQB.out] at z0
        have c11 := (btrs_cell HKB2.out H.out k hk _ HXX.out).2.2.2.2.2.2.2.2.2.2.2
        rw [HXV.out] at c11
        have hkb3 : (x.l.length : Int) ≤ 1000000 := HXB.out
        by_cases hk3 : k3 < x.l.length
        · obtain ⟨eb, eo, hxq⟩ := recs_at HXK.out H.out (by omega)
          rw [hxq] at c11
          have HXK' := HXK.out
          rw [hxq] at HXK'
          obtain ⟨⟨r, vh⟩, hy⟩ : ∃ y, x.l[k3] = y := ⟨_, rfl⟩
          have hmem : (r, vh) ∈ x.l := hy ▸ List.getElem_mem hk3
          have HMR := Lib.hid hmem
          have hHK0 := recs_hdrs HXK.out hmem
          obtain ⟨hq, hcap, hvh⟩ := fl_form hHK0 H.out
          simp only at hvh
          subst hvh
          have cc := recs_cell HXK' H.out k3 hk3 _ hy
          simp only [← Nat.add_assoc] at cc
          obtain ⟨c0, c1, c2, c3, c4, c5, c6⟩ := cc
          have HHK := Lib.hid (show K.has (Know.flat RHdr (.slice hq r.hdrs.length hcap) 3 r.hdrs) from hHK0)
          have HHB := Lib.hid (show (r.hdrs.length : Int) ≤ 1000000 from HHL.out _ hmem)
          have HY := Lib.hid hy
          obtain ⟨t9, ht9⟩ : ∃ b, wr.heap.size = b := ⟨_, rfl⟩
          have g9 := H.out.allocRaw #[.int .i64 r.time, .int .i64 r.off, .bool r.key.null, .string (bb r.key.data), .bool r.val.null, .string (bb r.val.data), .slice hq r.hdrs.length hcap] 51
          rw [ht9] at g9
          have hk3i : (k3 : Int) < (x.l.length : Int) := by omega
          have t1 : True := trivial
          have y0 := g9.rawCell 0; have y1 := g9.rawCell 1; have y2 := g9.rawCell 2; have y3 := g9.rawCell 3; have y4 := g9.rawCell 4; have y5 := g9.rawCell 5; have y6 := g9.rawCell 6; simp at y0 y1 y2 y3 y4 y5 y6
          clear H hxq HXK' hy hmem hHK0
          have H := Lib.hid g9
          clear g9
          cases ho1 : oddB r.key with
          | true =>
            have HO1 := Lib.hid (show oddB ⟨r.key.null, r.key.data⟩ = true from ho1)
            have HNM := Lib.hid (show ¬ mayP l c from may_not HMX.out HMR.out (fun h => by have h9 := h.1; rw [ho1] at h9; cases h9))
            clear ho1
            go_wp2_with (go_at_call 19; have _t := t1; clear _t; (with_reducible refine (rs_oddB r.key.null r.key.data true HO1.out H.out).mono ?_); rintro e_ wn ⟨rfl, h⟩; have y0 := h.rawCell 0; have y1 := h.rawCell 1; have y2 := h.rawCell 2; have y3 := h.rawCell 3; have y4 := h.rawCell 4; have y5 := h.rawCell 5; have y6 := h.rawCell 6; simp at y0 y1 y2 y3 y4 y5 y6; replace H := Lib.hid h; clear h; clear t1)
            go_ret
            exact ⟨false, rfl, ⟨fun h => (by cases h), fun h => absurd h HNM.out⟩, H.out.drop.drop⟩
          | false =>
            have HO1 := Lib.hid (show oddB ⟨r.key.null, r.key.data⟩ = false from ho1)
            clear ho1
            cases ho2 : oddB r.val with
            | true =>
              have HO2 := Lib.hid (show oddB ⟨r.val.null, r.val.data⟩ = true from ho2)
              have HNM := Lib.hid (show ¬ mayP l c from may_not HMX.out HMR.out (fun h => by have h9 := h.2.1; rw [ho2] at h9; cases h9))
              clear ho2
              go_wp2_with (first
          | (go_at_call 19; have _t := t1; clear _t; (with_reducible refine (rs_oddB r.key.null r.key.data false HO1.out H.out).mono ?_); rintro e_ wn ⟨rfl, h⟩; have y0 := h.rawCell 0; have y1 := h.rawCell 1; have y2 := h.rawCell 2; have y3 := h.rawCell 3; have y4 := h.rawCell 4; have y5 := h.rawCell 5; have y6 := h.rawCell 6; simp at y0 y1 y2 y3 y4 y5 y6; replace H := Lib.hid h; clear h; clear t1)
          | (go_at_call 19; (with_reducible refine (rs_oddB r.val.null r.val.data true HO2.out H.out).mono ?_); rintro e_ wn ⟨rfl, h⟩; replace H := Lib.hid h; clear h))
              go_ret
              exact ⟨false, rfl, ⟨fun h => (by cases h), fun h => absurd h HNM.out⟩, H.out.drop.drop⟩
            | false =>
              have HO2 := Lib.hid (show oddB ⟨r.val.null, r.val.data⟩ = false from ho2)
              clear ho2
              go_wp2_with (first
          | (go_at_call 19; have _t := t1; clear _t; (with_reducible refine (rs_oddB r.key.null r.key.data false HO1.out H.out).mono ?_); rintro e_ wn ⟨rfl, h⟩; have y0 := h.rawCell 0; have y1 := h.rawCell 1; have y2 := h.rawCell 2; have y3 := h.rawCell 3; have y4 := h.rawCell 4; have y5 := h.rawCell 5; have y6 := h.rawCell 6; simp at y0 y1 y2 y3 y4 y5 y6; replace H := Lib.hid h; clear h; clear t1)
          | (go_at_call 19; (with_reducible refine (rs_oddB r.val.null r.val.data false HO2.out H.out).mono ?_); rintro e_ wn ⟨rfl, h⟩; replace H := Lib.hid h; clear h))
              clear y0 y1 y2 y3 y4 y5 y6 c0 c1 c2 c3 c4 c5 c6 c11 z0
              go_loopw [6] (fun iv wr => ∃ (k4 : Nat), k4 ≤ r.hdrs.length ∧ iv = .int .i64 k4 ∧ Hid (∀ z ∈ r.hdrs.take k4, oddB z.val = false) ∧ St W0 wr K (.raw t9 #[.int .i64 r.time, .int .i64 r.off, .bool r.key.null, .string (bb r.key.data), .bool r.val.null, .string (bb r.val.data), .slice hq r.hdrs.length hcap] 51 :: .raw rb #[.slice qb l.length bcap, .int .i64 c, .slice q ch.length cap] 29 :: L)) (fun iv _ => r.hdrs.length - (intOf iv).toNat)
              case atStart => exact ⟨0, Nat.zero_le _, rfl, Lib.hid (fun z hz => by cases hz), H.out⟩
              case round =>
                obtain ⟨k4, hk4', rfl, HF4, hst4⟩ := hrel
                clear H
                have H := Lib.hid hst4
                clear hst4
                have z6 := H.out.rawCell 6
                simp at z6
                have hkb4 : (r.hdrs.length : Int) ≤ 1000000 := HHB.out
                by_cases hk4 : k4 < r.hdrs.length
                · obtain ⟨hb, ho, hhq⟩ := fl_at HHK.out H.out (by omega)
                  rw [hhq] at z6
                  have HHK' := HHK.out
                  rw [hhq] at HHK'
                  obtain ⟨z, hz⟩ : ∃ z, r.hdrs[k4] = z := ⟨_, rfl⟩
                  obtain ⟨c0, c1, c2⟩ := rhdr_cell HHK' H.out k4 hk4 z hz
                  have hzm : z ∈ r.hdrs := hz ▸ List.getElem_mem hk4
                  have hk4i : (k4 : Int) < (r.hdrs.length : Int) := by omega
                  cases hod : oddB z.val with
                  | true =>
                    have HOD := Lib.hid (show oddB ⟨z.val.null, z.val.data⟩ = true from hod)
                    have HNM := Lib.hid (show ¬ mayP l c from may_not HMX.out HMR.out (fun h => by have h9 := h.2.2 z hzm; rw [hod] at h9; cases h9))
                    clear hhq HHK' hz hod hzm
                    go_wp2_with (go_at_call 19; (with_reducible refine (rs_oddB z.val.null z.val.data true HOD.out H.out).mono ?_); rintro e_ wn ⟨rfl, h⟩; replace H := Lib.hid h; clear h)
                    go_ret
                    exact ⟨false, rfl, ⟨fun h => (by cases h), fun h => absurd h HNM.out⟩, H.out.drop.drop⟩
                  | false =>
                    have HOD := Lib.hid (show oddB ⟨z.val.null, z.val.data⟩ = false from hod)
                    have HF5 := Lib.hid (take_all (P := fun z : HdrS => oddB z.val = false) hk4 hz HF4.out hod)
                    clear hhq HHK' hz hod hzm
                    go_wp2_with (go_at_call 19; (with_reducible refine (rs_oddB z.val.null z.val.data false HOD.out H.out).mono ?_); rintro e_ wn ⟨rfl, h⟩; replace H := Lib.hid h; clear h)
                    go_roundw
                    case rel => exact ⟨k4 + 1, hk4, by go_num, HF5, H.out⟩
                    case measure => first | (simp [intOf]; done) | (simp [intOf]; omega)
                · have hk4i : ¬ ((k4 : Int) < (r.hdrs.length : Int)) := by omega
                  have HF5 := Lib.hid (take_all (P := fun y : RecS × Value => okR y.1) hk3 HY.out HF3.out ⟨HO1.out, HO2.out, take_end (P := fun z : HdrS => oddB z.val = false) hk4 HF4.out⟩)
                  go_wp2_with fail
                  go_roundw
                  case rel => exact ⟨k3 + 1, hk3, by go_num, HF5, H.out.drop⟩
                  case measure => first | (simp [intOf]; done) | (simp [intOf]; omega)
        · have hk3i : ¬ ((k3 : Int) < (x.l.length : Int)) := by omega
          have HF5 := Lib.hid (take_all (P := okX) hk HXX.out HF1.out (take_end (P := fun y : RecS × Value => okR y.1) hk3 HF3.out))
          go_wp2_with fail
          go_roundw
          case rel => exact ⟨k + 1, hk, by go_num, HF5, H.out⟩
          case measure => first | (simp [intOf]; done) | (simp [intOf]; omega)
    · have hki : ¬ ((k : Int) < (l.length : Int)) := by omega
      have HM := Lib.hid (may_all HC.out (take_end (P := okX) hk HF1.out))
      go_wp2_with fail
      go_ret
      exact .inr ⟨rfl, HM.out, H.out.drop⟩
theorem rs_mayB (b : Bool) (vB : Value) (c : Int) (q : Option Addr) (cap : Nat) (ch : List Int) (l : List BtR) (hb : b = true ↔ mayP l c) (hll : (l.length : Int) ≤ 1000000) (hrl : ∀ x ∈ l, (x.l.length : Int) ≤ 1000000) (hhl : ∀ x ∈ l, ∀ y ∈ x.l, (y.1.hdrs.length : Int) ≤ 1000000) {W0 w : World} {K : Know} {L : List Res} (hkb : K.has (Know.btrs vB l)) (h : St W0 w K L) :
    Calls Tryd.prog 8 #[.agg #[vB, .int .i64 c, .slice q ch.length cap]] w fun en w' => en = .returned (.bool b) ∧ St W0 w' K L := by
  refine (rs_mayI vB c q cap ch l hll hrl hhl hkb h).mono ?_
  rintro en w' ⟨b', rfl, hb', h⟩
  have e : b' = b := by
    cases b <;> cases b' <;> first | rfl | exact absurd (hb.2 (hb'.1 rfl)) (by decide) | exact absurd (hb'.2 (hb.1 rfl)) (by decide)
  subst e
  exact ⟨rfl, h⟩
theorem rs_mayT (vB : Value) (c : Int) (q : Option Addr) (cap : Nat) (ch : List Int) (l : List BtR) (hb : mayP l c) (hll : (l.length : Int) ≤ 1000000) (hrl : ∀ x ∈ l, (x.l.length : Int) ≤ 1000000) (hhl : ∀ x ∈ l, ∀ y ∈ x.l, (y.1.hdrs.length : Int) ≤ 1000000) {W0 w : World} {K : Know} {L : List Res} (hkb : K.has (Know.btrs vB l)) (h : St W0 w K L) :
    Calls Tryd.prog 8 #[.agg #[vB, .int .i64 c, .slice q ch.length cap]] w fun en w' => en = .returned (.bool true) ∧ St W0 w' K L := rs_mayB true vB c q cap ch l ⟨fun _ => hb, fun _ => rfl⟩ hll hrl hhl hkb h
theorem rs_mayF (vB : Value) (c : Int) (q : Option Addr) (cap : Nat) (ch : List Int) (l : List BtR) (hb : ¬ mayP l c) (hll : (l.length : Int) ≤ 1000000) (hrl : ∀ x ∈ l, (x.l.length : Int) ≤ 1000000) (hhl : ∀ x ∈ l, ∀ y ∈ x.l, (y.1.hdrs.length : Int) ≤ 1000000) {W0 w : World} {K : Know} {L : List Res} (hkb : K.has (Know.btrs vB l)) (h : St W0 w K L) :
    Calls Tryd.prog 8 #[.agg #[vB, .int .i64 c, .slice q ch.length cap]] w fun en w' => en = .returned (.bool false) ∧ St W0 w' K L := rs_mayB false vB c q cap ch l ⟨fun h => (by cases h), fun h => absurd h hb⟩ hll hrl hhl hkb h

end Go.Proofs.YtenojajfacacoaaDoor
/- Things of one's own, picked. -/
namespace Go.Proofs.YtenojajfacacoaaDoor
open Go.RowKit

/-- Some of the things, in another order: each index is one into what is left. -/
def selL {α : Type} : List Nat → List α → List α
  | [], _ => []
  | i :: t, L => match L[i]? with
    | some x => x :: selL t (L.eraseIdx i)
    | none => selL t L
theorem erase_perm {α : Type} : ∀ (L : List α) (i : Nat) (hi : i < L.length), L.Perm (L[i] :: L.eraseIdx i)
  | [], _, hi => absurd hi (by simp)
  | x :: t, 0, _ => List.Perm.refl _
  | x :: t, i + 1, hi => ((erase_perm t i (by simpa using hi)).cons x).trans (List.Perm.swap _ _ _)
theorem Holds.perm {w : World} {L L' : List Res} (p : L.Perm L') : ∀ {S : Nat → Prop}, Holds L w S → Holds L' w S := by
  induction p with
  | nil => exact fun h => h
  | cons x _ ih => exact fun h => h.cons fun _ => ih
  | swap x y l => exact fun h => Holds.swap h
  | trans _ _ ih1 ih2 => exact fun h => ih2 (ih1 h)
theorem Holds.sel {w : World} : ∀ (ix : List Nat) {L : List Res} {S : Nat → Prop}, Holds L w S → ∃ S', Holds (selL ix L) w S' ∧ ∀ k, S' k → S k
  | [], _, _, _ => ⟨fun _ => False, fun _ h => h, fun _ h => h.elim⟩
  | i :: t, L, S, h => by
    unfold selL
    by_cases hi : i < L.length
    · rw [List.getElem?_eq_getElem hi]
      obtain ⟨S1, S2, h1, h2, h3, h4⟩ := Holds.perm (erase_perm L i hi) h
      obtain ⟨S', g1, g2⟩ := Holds.sel t h2
      exact ⟨fun k => S1 k ∨ S' k, ⟨S1, S', h1, g1, fun k a b => h3 k a (g2 k b), fun _ => Iff.rfl⟩, fun k hk => (h4 k).2 (hk.imp id (g2 k))⟩
    · rw [List.getElem?_eq_none (by omega)]
      exact Holds.sel t h
theorem St.sel {W0 w : World} {K : Know} {L : List Res} (h : St W0 w K L) (ix : List Nat) : St W0 w K (selL ix L) := by
  obtain ⟨a, S, F, b, c, d, e⟩ := h
  obtain ⟨S', g1, g2⟩ := Holds.sel ix b
  exact ⟨a, S', F, g1, fun k hk => c k (g2 k hk), d, fun k hk => ⟨(e k hk).1, fun h => (e k hk).2.1 (g2 k h), (e k hk).2.2⟩⟩

end Go.Proofs.YtenojajfacacoaaDoor
/- Contracts of package prefix: writing. -/
namespace Go.Proofs.YtenojajfacacoaaDoor
open Go.RowKit

/-- The numbers of a prefix. -/
structure PreS where
  base : Int
  len : Int
  leader : Int
  sum : Int
  attr : Int
  last : Int
  first : Int
  maxt : Int
  prod : Int
  epoch : Int
  seq : Int
  count : Int
deriving DecidableEq
def pv (x : PreS) : Value := .agg #[.int .i64 x.base, .int .i64 x.len, .int .i64 x.leader, .int .i64 x.sum, .int .i64 x.attr, .int .i64 x.last, .int .i64 x.first, .int .i64 x.maxt, .int .i64 x.prod, .int .i64 x.epoch, .int .i64 x.seq, .int .i64 x.count]
def PreS.list (x : PreS) : List Int := [x.base, x.len, x.leader, x.sum, x.attr, x.last, x.first, x.maxt, x.prod, x.epoch, x.seq, x.count]
def PreS.R (x : PreS) : Prop := ∀ n ∈ x.list, -9223372036854775808 ≤ n ∧ n < 9223372036854775808
def PreS.zero : PreS := ⟨0, 0, 0, 0, 0, 0, 0, 0, 0, 0, 0, 0⟩
/-- A number without a sign, as one with: beyond all, where it doesn't fit. -/
def sumItem (n : Int) : Int := if n < 0 ∨ 4294967295 < n then 4294967296 else if 2147483647 < n then n - 4294967296 else n
def PreS.items (x : PreS) : List (Int × Nat) := [(x.base, 8), (x.len, 4), (x.leader, 4), (2, 1), (sumItem x.sum, 4), (x.attr, 2), (x.last, 4), (x.first, 8), (x.maxt, 8), (x.prod, 8), (x.epoch, 2), (x.seq, 4), (x.count, 4)]
def preSizes : List Nat := [8, 4, 4, 1, 4, 2, 4, 8, 8, 8, 2, 4, 4]
theorem sumItem_range (n : Int) : -9223372036854775808 ≤ sumItem n ∧ sumItem n < 9223372036854775808 := by
  unfold sumItem; split
  · omega
  · split <;> omega
theorem wrap32_sum (n : Int) (h0 : ¬ n < 0) (h1 : ¬ 4294967295 < n) : wrap32 n = sumItem n := by
  have e : wrap32 n = (n + 2147483648) % 4294967296 - 2147483648 := by unfold wrap32; rfl
  rw [e]
  unfold sumItem
  rw [if_neg (by omega)]
  split <;> omega
theorem OutS.okI {o : OutS} {a b : Int} {m : Nat} (h : o.ok (m + 8)) : (o.int a b).ok m := OutS.ok_int h (by omega)
theorem OutS.int_bad (o : OutS) (n : Int) (h : n < 0 ∨ 4294967295 < n) : o.int (sumItem n) 4 = o.fail 11 := by
  have e : sumItem n = 4294967296 := if_pos h
  rw [e]
  unfold OutS.int
  rw [if_neg (by decide)]

end Go.Proofs.YtenojajfacacoaaDoor
/- Contracts of package prefix: reading. -/
namespace Go.Proofs.YtenojajfacacoaaDoor
open Go.RowKit

theorem St.set1_Pre2 {W0 w : World} {K : Know} {L : List Res} {r : Res} {b j : Nat} {c : Array Value} {T : TypeId} {v : Value} (h : St W0 w K (r :: .raw b c T :: L)) : St W0 (w.setCell ⟨b, j, none⟩ v) K (r :: .raw b (c.setIfInBounds j v) T :: L) := (h.p1.rawSet j v).p1
theorem and_u32 (n : Int) : bits .and .i64 n 4294967295 = n % 4294967296 := by
  rw [bits_and_i64]
  have e1 : ((4294967295 : Int) % 18446744073709551616).toNat = 2 ^ 32 - 1 := by decide
  rw [e1, Nat.and_two_pow_sub_one_eq_mod]
  have h : (0 : Int) ≤ n % 18446744073709551616 := Int.emod_nonneg _ (by decide)
  rw [IntKind.wrap_i64]
  omega

end Go.Proofs.YtenojajfacacoaaDoor
/- Contracts of package prefix: Read. -/
namespace Go.Proofs.YtenojajfacacoaaDoor
open Go.RowKit

theorem raw12 {W0 w : World} {K : Know} {L : List Res} {b : Nat} {T : TypeId} {v0 v1 v2 v3 v4 v5 v6 v7 v8 v9 v10 v11 : Value} (h : St W0 w K (.raw b #[v0, v1, v2, v3, v4, v5, v6, v7, v8, v9, v10, v11] T :: L)) :
    w.cell? ⟨b, 0, none⟩ = some v0 ∧ w.cell? ⟨b, 1, none⟩ = some v1 ∧ w.cell? ⟨b, 2, none⟩ = some v2 ∧ w.cell? ⟨b, 3, none⟩ = some v3 ∧ w.cell? ⟨b, 4, none⟩ = some v4 ∧ w.cell? ⟨b, 5, none⟩ = some v5 ∧ w.cell? ⟨b, 6, none⟩ = some v6 ∧ w.cell? ⟨b, 7, none⟩ = some v7 ∧ w.cell? ⟨b, 8, none⟩ = some v8 ∧ w.cell? ⟨b, 9, none⟩ = some v9 ∧ w.cell? ⟨b, 10, none⟩ = some v10 ∧ w.cell? ⟨b, 11, none⟩ = some v11 ∧
    w.frozen? ⟨b, 0, none⟩ = false ∧ w.frozen? ⟨b, 1, none⟩ = false ∧ w.frozen? ⟨b, 2, none⟩ = false ∧ w.frozen? ⟨b, 3, none⟩ = false ∧ w.frozen? ⟨b, 4, none⟩ = false ∧ w.frozen? ⟨b, 5, none⟩ = false ∧ w.frozen? ⟨b, 6, none⟩ = false ∧ w.frozen? ⟨b, 7, none⟩ = false ∧ w.frozen? ⟨b, 8, none⟩ = false ∧ w.frozen? ⟨b, 9, none⟩ = false ∧ w.frozen? ⟨b, 10, none⟩ = false ∧ w.frozen? ⟨b, 11, none⟩ = false :=
  ⟨h.rawCell 0, h.rawCell 1, h.rawCell 2, h.rawCell 3, h.rawCell 4, h.rawCell 5, h.rawCell 6, h.rawCell 7, h.rawCell 8, h.rawCell 9, h.rawCell 10, h.rawCell 11, h.rawFree 0, h.rawFree 1, h.rawFree 2, h.rawFree 3, h.rawFree 4, h.rawFree 5, h.rawFree 6, h.rawFree 7, h.rawFree 8, h.rawFree 9, h.rawFree 10, h.rawFree 11⟩

def preOfL : List Int → PreS × Int
  | [a0, a1, a2, a3, a4, a5, a6, a7, a8, a9, a10, a11, a12] => (⟨a0, a1, a2, a4 % 4294967296, a5, a6, a7, a8, a9, a10, a11, a12⟩, a3)
  | _ => (PreS.zero, 0)
def preChk (x : PreS) (m : Int) (i : InS) : InS :=
  (fun j2 : InS => if x.count < 0 then j2.fail 10 else j2) ((fun j1 : InS => if x.len < 49 then j1.fail 4 else j1) (if m = 2 then i else i.fail 6))
def InS.pre (i : InS) : PreS × InS :=
  (fun j : InS => (if j.err = 0 then (preOfL (InS.ints preSizes i).1).1 else PreS.zero, j)) (preChk (preOfL (InS.ints preSizes i).1).1 (preOfL (InS.ints preSizes i).1).2 (InS.ints preSizes i).2)

end Go.Proofs.YtenojajfacacoaaDoor
/- Batches: placed, signed. -/
namespace Go.Proofs.YtenojajfacacoaaDoor
open Go.RowKit

end Go.Proofs.YtenojajfacacoaaDoor
/- Batches: rows. -/
namespace Go.Proofs.YtenojajfacacoaaDoor
open Go.RowKit

end Go.Proofs.YtenojajfacacoaaDoor
/- Batches: which may be. -/
namespace Go.Proofs.YtenojajfacacoaaDoor
open Go.RowKit

end Go.Proofs.YtenojajfacacoaaDoor
/- Batches: the reference: times. -/
namespace Go.Proofs.YtenojajfacacoaaDoor
open Go.RowKit

end Go.Proofs.YtenojajfacacoaaDoor
/- Batches: the reference: rows. -/
namespace Go.Proofs.YtenojajfacacoaaDoor
open Go.RowKit

def PrevIs (l : List (RecS × Value)) (k : Nat) (ah : Int) : Prop := (k = 0 ∧ ah = -1) ∨ (∃ (j : Nat) (h : j < l.length), k = j + 1 ∧ (l[j]'h).1.off = ah ∧ 0 ≤ ah)
end Go.Proofs.YtenojajfacacoaaDoor
/- Batches: the reference: producers. -/
namespace Go.Proofs.YtenojajfacacoaaDoor
open Go.RowKit

end Go.Proofs.YtenojajfacacoaaDoor
/- Batches: the reference: which may be. -/
namespace Go.Proofs.YtenojajfacacoaaDoor
open Go.RowKit

end Go.Proofs.YtenojajfacacoaaDoor
/- Batches: which are small. -/
namespace Go.Proofs.YtenojajfacacoaaDoor
open Go.RowKit

set_option maxHeartbeats 1000000 in
set_option maxRecDepth 100000 in
theorem l11_small (base leader : Int) (app txn ctl : Bool) (last first maxt prod epoch sq : Int) (l : List (RecS × Value)) (q : Option Addr) (cap : Nat) (r : Bool) (hr : smallB (l.map (·.1)) = r) (hfit : FitW l) {W0 w : World} {K : Know} {L : List Res} (hk : K.has (Know.recs (.slice q l.length cap) l)) (h : St W0 w K L) :
    Calls Tryd.prog 18 #[.agg #[.int .i64 base, .int .i64 leader, .bool app, .bool txn, .bool ctl, .int .i64 last, .int .i64 first, .int .i64 maxt, .int .i64 prod, .int .i64 epoch, .int .i64 sq, .slice q l.length cap]] w fun en w' => en = .returned (.int .i64 (if r then 1 else 0)) ∧ St W0 w' K L := by
  have HK := Lib.hid hk
  have HFT := Lib.hid hfit
  have h1 := h.allocRaw #[.int .i64 base, .int .i64 leader, .bool app, .bool txn, .bool ctl, .int .i64 last, .int .i64 first, .int .i64 maxt, .int .i64 prod, .int .i64 epoch, .int .i64 sq, .slice q l.length cap] 45
  obtain ⟨hb, hhb⟩ : ∃ b, w.heap.size = b := ⟨_, rfl⟩
  rw [hhb] at h1
  obtain ⟨x0, x1, x2, x3, x4, x5, x6, x7, x8, x9, x10, x11, y0, y1, y2, y3, y4, y5, y6, y7, y8, y9, y10, y11⟩ := raw12 (b := hb) (h1)
  have H := Lib.hid h1
  clear h h1 hk hfit
  unfold smallB at hr
  rw [List.length_map] at hr
  by_cases hl : 12 < l.length
  · have dl : decide ((12 : Int) < (l.length : Int)) = true := decide_eq_true (by omega)
    obtain rfl : false = r := by rw [← hr, decide_eq_false (by omega)]; rfl
    clear hr hl
    go_enter Tryd.func18, Tryd.ntmps18
    go_wp2
    go_ret
    exact ⟨rfl, H.out.drop⟩
  have dl : decide ((12 : Int) < (l.length : Int)) = false := decide_eq_false (by omega)
  have hll : (l.length : Int) ≤ 12 := by omega
  rw [decide_eq_true (by omega), Bool.true_and] at hr
  have HR := Lib.hid hr
  clear hr hl
  go_enter Tryd.func18, Tryd.ntmps18
  go_wp2
  clear x0 y0 x1 y1 x2 y2 x3 y3 x4 y4 x5 y5 x6 y6 x7 y7 x8 y8 x9 y9 x10 y10 x11 y11
  go_loopw [4, 6, 14] (fun _ _ iv wr => ∃ k : Nat, k ≤ l.length ∧ iv = .int .i64 k ∧ Hid (rAll ((l.map (·.1)).drop k) = r) ∧ St W0 wr K (.raw hb #[.int .i64 base, .int .i64 leader, .bool app, .bool txn, .bool ctl, .int .i64 last, .int .i64 first, .int .i64 maxt, .int .i64 prod, .int .i64 epoch, .int .i64 sq, .slice q l.length cap] 45 :: L)) (fun _ _ iv _ => l.length - (intOf iv).toNat)
  case atStart => exact ⟨0, Nat.zero_le _, rfl, HR, H.out⟩
  case round =>
    obtain ⟨k, hkl, rfl, HC, hst⟩ := hrel
    clear H
    have H := Lib.hid hst
    clear hst
    by_cases hlt : k < l.length
    · have hd := drop_recs l k hlt _ rfl
      obtain ⟨b, off, hqq⟩ := recs_at HK.out H.out (by omega)
      subst hqq
      obtain ⟨⟨x, vx⟩, hx⟩ : ∃ x, l[k] = x := ⟨_, rfl⟩
      have cc := recs_cell HK.out H.out k hlt (x, vx) hx
      have hmem : (x, vx) ∈ l := hx ▸ List.getElem_mem hlt
      have xf : x.R ∧ x.hdrs.length ≤ 9223372036854775807 ∧ HFit x.hdrs ∧ x.key.data.length ≤ 140737488351232 ∧ x.val.data.length ≤ 140737488351232 := HFT.out (x, vx) hmem
      have xk : K.has (Know.flat RHdr vx 3 x.hdrs) := recs_hdrs HK.out hmem
      obtain ⟨qx, capx, hvx⟩ := flat_form xk H.out
      subst hvx
      simp only at cc
      obtain ⟨c0, c1, c2, c3, c4, c5, c6⟩ := cc
      rw [← Nat.add_assoc] at c1 c2 c3 c4 c5 c6
      have hx1 : l[k].1 = x := by rw [hx]
      have XF := Lib.hid xf
      have XK := Lib.hid xk
      have HX := Lib.hid hx1
      clear xf xk hx1 hx hmem
      obtain ⟨wE, hwE⟩ : ∃ b, wr.heap.size = b := ⟨_, rfl⟩
      have hki : (k : Int) < (l.length : Int) := by omega
      have h := H.out.allocRaw #[.int .i64 x.time, .int .i64 x.off, .bool x.key.null, .string (bb x.key.data), .bool x.val.null, .string (bb x.val.data), .slice qx x.hdrs.length capx] 51
      rw [hwE] at h
      clear H
      have H := Lib.hid h
      clear h
      rw [HX.out] at hd
      have hc := HC.out
      rw [hd] at hc
      have hc : (smallRec x && rAll ((l.map (·.1)).drop (k + 1))) = r := hc
      unfold smallRec at hc
      obtain ⟨ec0, ec1, ec2, ec3, ec4, ec5, ec6, ef0, ef1, ef2, ef3, ef4, ef5, ef6⟩ := raw7 (b := wE) (H.out)
      have xf2 := XF.out
      obtain ⟨_, hxl, _, hkl2, hvl2⟩ := xf2
      have ws : wrap64 ((x.key.data.length : Int) + (x.val.data.length : Int)) = (x.key.data.length : Int) + (x.val.data.length : Int) := by unfold wrap64; omega
      clear hd hxl hkl2 hvl2
      by_cases c1 : 100 < x.key.data.length + x.val.data.length
      · have d1 : decide ((100 : Int) < (x.key.data.length : Int) + (x.val.data.length : Int)) = true := decide_eq_true (by omega)
        have hfin : false = r := by rw [← hc, decide_eq_false (by omega)]; rfl
        clear hc c1
        obtain rfl : false = r := hfin
        go_wp2
        go_ret
        exact ⟨rfl, H.out.drop.drop⟩
      have d1 : decide ((100 : Int) < (x.key.data.length : Int) + (x.val.data.length : Int)) = false := decide_eq_false (by omega)
      rw [decide_eq_true (by omega), Bool.true_and] at hc
      by_cases c2 : 6 < x.hdrs.length
      · have d2 : decide ((6 : Int) < (x.hdrs.length : Int)) = true := decide_eq_true (by omega)
        have hfin : false = r := by rw [← hc, decide_eq_false (by omega)]; rfl
        clear hc c1 c2
        obtain rfl : false = r := hfin
        go_wp2
        go_ret
        exact ⟨rfl, H.out.drop.drop⟩
      have d2 : decide ((6 : Int) < (x.hdrs.length : Int)) = false := decide_eq_false (by omega)
      rw [decide_eq_true (by omega), Bool.true_and] at hc
      have hh6 : (x.hdrs.length : Int) ≤ 6 := by omega
      have HC1 := Lib.hid hc
      clear hc c1 c2
      go_wp2
      clear ec0 ef0 ec1 ef1 ec2 ef2 ec3 ef3 ec4 ef4 ec5 ef5 ec6 ef6 c0 c3 c4 c5 c6
      go_loopw [6, 37] (fun _ iv wr => ∃ j : Nat, j ≤ x.hdrs.length ∧ iv = .int .i64 j ∧ Hid ((hAll (x.hdrs.drop j) && rAll ((l.map (·.1)).drop (k + 1))) = r) ∧ St W0 wr K (.raw wE #[.int .i64 x.time, .int .i64 x.off, .bool x.key.null, .string (bb x.key.data), .bool x.val.null, .string (bb x.val.data), .slice qx x.hdrs.length capx] 51 :: .raw hb #[.int .i64 base, .int .i64 leader, .bool app, .bool txn, .bool ctl, .int .i64 last, .int .i64 first, .int .i64 maxt, .int .i64 prod, .int .i64 epoch, .int .i64 sq, .slice (some ⟨b, off, none⟩) l.length cap] 45 :: L)) (fun _ iv _ => x.hdrs.length - (intOf iv).toNat)
      case atStart => exact ⟨0, Nat.zero_le _, rfl, HC1, H.out⟩
      case round =>
        obtain ⟨j, hjl, rfl, HJ, hst⟩ := hrel
        clear H
        have H := Lib.hid hst
        clear hst
        by_cases hjt : j < x.hdrs.length
        · obtain ⟨bh, oh, hqh, g0, g1, g2⟩ := hdr_cells XK.out H.out j hjt
          subst hqh
          have hhf := XF.out.2.2.1 _ (List.getElem_mem hjt)
          obtain ⟨⟨hk, ⟨hu, hv⟩⟩, hx⟩ : ∃ y, x.hdrs[j] = y := ⟨_, rfl⟩
          have hj := HJ.out
          rw [drop_hdrs _ _ hjt] at hj
          rw [hx] at g0 g1 g2 hhf hj
          have hj : ((decide (hk.length + hv.length ≤ 100) && hAll (x.hdrs.drop (j + 1))) && rAll ((l.map (·.1)).drop (k + 1))) = r := hj
          simp only at g0 g1 g2 hhf
          obtain ⟨b1, b2⟩ := hhf
          have hji : (j : Int) < (x.hdrs.length : Int) := by omega
          have ws2 : wrap64 ((hk.length : Int) + (hv.length : Int)) = (hk.length : Int) + (hv.length : Int) := by unfold wrap64; omega
          clear b1 b2
          have h := H.out.allocRaw #[.string (bb hk), .bool hu, .string (bb hv)] 54
          obtain ⟨wH, hwH⟩ : ∃ b, wr.heap.size = b := ⟨_, rfl⟩
          rw [hwH] at h
          have u0 := h.rawCell 0; have u1 := h.rawCell 1; have u2 := h.rawCell 2
          simp at u0 u1 u2
          clear H
          have H := Lib.hid h
          clear h hx
          by_cases c1 : 100 < hk.length + hv.length
          · have d1 : decide ((100 : Int) < (hk.length : Int) + (hv.length : Int)) = true := decide_eq_true (by omega)
            have hfin : false = r := by rw [← hj, decide_eq_false (by omega)]; rfl
            clear hj c1
            obtain rfl : false = r := hfin
            go_wp2
            go_ret
            exact ⟨rfl, H.out.drop.drop.drop⟩
          · have d1 : decide ((100 : Int) < (hk.length : Int) + (hv.length : Int)) = false := decide_eq_false (by omega)
            rw [decide_eq_true (by omega), Bool.true_and] at hj
            have HJ2 := Lib.hid hj
            clear hj c1
            go_wp2
            go_roundw
            case rel => exact ⟨j + 1, hjt, by go_num, HJ2, H.out.drop⟩
            case measure => first | (simp [intOf]; done) | (simp [intOf]; omega)
        · obtain rfl : x.hdrs.length = j := by omega
          have hj := HJ.out
          rw [List.drop_of_length_le (Nat.le_refl _)] at hj
          have HC2 := Lib.hid (show rAll ((l.map (·.1)).drop (k + 1)) = r from hj)
          clear hj
          go_wp2
          go_roundw
          case rel => exact ⟨k + 1, hlt, by go_num, HC2, H.out.drop⟩
          case measure => first | (simp [intOf]; done) | (simp [intOf]; omega)
    · obtain rfl : l.length = k := by omega
      have hc := HC.out
      rw [List.drop_of_length_le (by simp)] at hc
      obtain rfl : true = r := hc
      go_wp2
      go_ret
      exact ⟨rfl, H.out.drop⟩

end Go.Proofs.YtenojajfacacoaaDoor
/- Small scripts (pure), and batches. -/
namespace Go.Proofs.YtenojajfacacoaaDoor
open Go.RowKit

def sm11 (x : BtR) : Bool := smallB (x.l.map (·.1))
theorem smallS_eq (l : List BtR) (ch : List Int) (h1 : ¬ 8 < l.length) (h2 : ¬ 200 < ch.length) : smallS l ch = l.all sm11 := by
  unfold smallS
  rw [decide_eq_true (by omega), decide_eq_true (by omega), Bool.true_and, Bool.true_and]
  rfl
theorem smallS_no1 (l : List BtR) (ch : List Int) (h1 : 8 < l.length) : smallS l ch = false := by
  unfold smallS
  rw [decide_eq_false (by omega), Bool.false_and]
theorem smallS_no2 (l : List BtR) (ch : List Int) (h1 : 200 < ch.length) : smallS l ch = false := by
  unfold smallS
  rw [show decide (ch.length ≤ 200) = false from decide_eq_false (by omega), Bool.false_and, Bool.and_false]
theorem l11_smallF (base leader : Int) (app txn ctl : Bool) (last first maxt prod epoch sq : Int) (l : List (RecS × Value)) (q : Option Addr) (cap : Nat) (hr : smallB (l.map (·.1)) = false) (hfit : FitW l) {W0 w : World} {K : Know} {L : List Res} (hk : K.has (Know.recs (.slice q l.length cap) l)) (h : St W0 w K L) :
    Calls Tryd.prog 18 #[.agg #[.int .i64 base, .int .i64 leader, .bool app, .bool txn, .bool ctl, .int .i64 last, .int .i64 first, .int .i64 maxt, .int .i64 prod, .int .i64 epoch, .int .i64 sq, .slice q l.length cap]] w fun en w' => en = .returned (.int .i64 0) ∧ St W0 w' K L := l11_small base leader app txn ctl last first maxt prod epoch sq l q cap false hr hfit hk h
theorem l11_smallT (base leader : Int) (app txn ctl : Bool) (last first maxt prod epoch sq : Int) (l : List (RecS × Value)) (q : Option Addr) (cap : Nat) (hr : smallB (l.map (·.1)) = true) (hfit : FitW l) {W0 w : World} {K : Know} {L : List Res} (hk : K.has (Know.recs (.slice q l.length cap) l)) (h : St W0 w K L) :
    Calls Tryd.prog 18 #[.agg #[.int .i64 base, .int .i64 leader, .bool app, .bool txn, .bool ctl, .int .i64 last, .int .i64 first, .int .i64 maxt, .int .i64 prod, .int .i64 epoch, .int .i64 sq, .slice q l.length cap]] w fun en w' => en = .returned (.int .i64 1) ∧ St W0 w' K L := l11_small base leader app txn ctl last first maxt prod epoch sq l q cap true hr hfit hk h

end Go.Proofs.YtenojajfacacoaaDoor
/- Small scripts. -/
namespace Go.Proofs.YtenojajfacacoaaDoor
open Go.RowKit

set_option maxHeartbeats 4000000 in
set_option maxRecDepth 100000 in
theorem sc_small (qb : Option Addr) (bcap : Nat) (c : Int) (q : Option Addr) (cap : Nat) (ch : List Int) (l : List BtR) (r : Bool) (hr : smallS l ch = r) (hfit : ∀ x ∈ l, FitW x.l) {W0 w : World} {K : Know} {L : List Res} (hkb : K.has (Know.btrs (.slice qb l.length bcap) l)) (h : St W0 w K L) :
    Calls Tryd.prog 7 #[.agg #[.slice qb l.length bcap, .int .i64 c, .slice q ch.length cap]] w fun en w' => en = .returned (.int .i64 (if r then 1 else 0)) ∧ St W0 w' K L := by
  obtain ⟨rb, hrb⟩ : ∃ b, w.heap.size = b := ⟨_, rfl⟩
  have g1 := h.allocRaw #[.slice qb l.length bcap, .int .i64 c, .slice q ch.length cap] 25
  rw [hrb] at g1
  have z0 := (g1).rawCell 0; have z1 := (g1).rawCell 1; have z2 := (g1).rawCell 2; simp at z0 z1 z2
  have H := Lib.hid g1
  have HKB := Lib.hid hkb
  have HFT := Lib.hid hfit
  clear h g1 hkb hfit
  by_cases h8 : 8 < l.length
  · obtain rfl : false = r := by rw [← hr, smallS_no1 l ch h8]
    have d1 : (8 : Int) < (l.length : Int) := by omega
    have d2 : decide ((8 : Int) < (l.length : Int)) = true := decide_eq_true d1
    clear hr h8
    go_enter Tryd.func7, Tryd.ntmps7
    go_wp2_with fail
    go_ret
    exact ⟨rfl, H.out.drop⟩
  have d1 : ¬ (8 : Int) < (l.length : Int) := by omega
  have d2 : decide ((8 : Int) < (l.length : Int)) = false := decide_eq_false d1
  by_cases h2 : 200 < ch.length
  · obtain rfl : false = r := by rw [← hr, smallS_no2 l ch h2]
    have d3 : (200 : Int) < (ch.length : Int) := by omega
    have d4 : decide ((200 : Int) < (ch.length : Int)) = true := decide_eq_true d3
    clear hr h8 h2
    go_enter Tryd.func7, Tryd.ntmps7
    go_wp2_with fail
    go_ret
    exact ⟨rfl, H.out.drop⟩
  have d3 : ¬ (200 : Int) < (ch.length : Int) := by omega
  have d4 : decide ((200 : Int) < (ch.length : Int)) = false := decide_eq_false d3
  have HR := Lib.hid (show (l.drop 0).all sm11 = r by rw [← hr, smallS_eq l ch h8 h2]; rfl)
  have HLI := Lib.hid (show (l.length : Int) ≤ 8 by omega)
  clear hr h8 h2
  go_enter Tryd.func7, Tryd.ntmps7
  go_wp2_with fail
  clear z0 z1 z2 d1 d2 d3 d4
  go_loopw [18] (fun iv wr => ∃ k : Nat, k ≤ l.length ∧ iv = .int .i64 k ∧ Hid ((l.drop k).all sm11 = r) ∧ St W0 wr K (.raw rb #[.slice qb l.length bcap, .int .i64 c, .slice q ch.length cap] 25 :: L)) (fun iv _ => l.length - (intOf iv).toNat)
  case atStart => exact ⟨0, Nat.zero_le _, rfl, HR, H.out⟩
  case round =>
    obtain ⟨k, hkl, rfl, HC, hst⟩ := hrel
    clear H
    have H := Lib.hid hst
    clear hst
    have hli : (l.length : Int) ≤ 8 := HLI.out
    by_cases hk : k < l.length
    · obtain ⟨bk, off, hqq⟩ := fl_at (btrs_flat HKB.out) H.out (by omega)
      subst hqq
      obtain ⟨x, hx⟩ : ∃ x, l[k] = x := ⟨_, rfl⟩
      have hmem : x ∈ l := hx ▸ List.getElem_mem hk
      have hXK := btrs_recs HKB.out hmem
      obtain ⟨xq, xcap, hxv⟩ := recs_form hXK H.out
      have cc := btrs_cell HKB.out H.out k hk _ hx
      rw [hxv] at hXK cc
      obtain ⟨c0, c1, c2, c3, c4, c5, c6, c7, c8, c9, c10, c11⟩ := cc
      have HXK := Lib.hid hXK
      have HFX := Lib.hid (HFT.out x hmem)
      have hd : (sm11 x && (l.drop (k + 1)).all sm11) = r := by
        have h9 := HC.out
        rw [List.drop_eq_getElem_cons hk, hx] at h9
        exact h9
      obtain ⟨tb, htb⟩ : ∃ b, wr.heap.size = b := ⟨_, rfl⟩
      have g1 := H.out.allocRaw #[.int .i64 x.b.base, .int .i64 x.b.leader, .bool x.b.app, .bool x.b.txn, .bool x.b.ctl, .int .i64 x.b.last, .int .i64 x.b.first, .int .i64 x.b.maxt, .int .i64 x.b.prod, .int .i64 x.b.epoch, .int .i64 x.b.seq, .slice xq x.l.length xcap] 45
      rw [htb] at g1
      have y0 := g1.rawCell 0; have y1 := g1.rawCell 1; have y2 := g1.rawCell 2; have y3 := g1.rawCell 3; have y4 := g1.rawCell 4; have y5 := g1.rawCell 5; have y6 := g1.rawCell 6; have y7 := g1.rawCell 7; have y8 := g1.rawCell 8; have y9 := g1.rawCell 9; have y10 := g1.rawCell 10; have y11 := g1.rawCell 11; simp at y0 y1 y2 y3 y4 y5 y6 y7 y8 y9 y10 y11
      have hki : (k : Int) < (l.length : Int) := by omega
      clear H hXK hxv hmem hx
      have H := Lib.hid g1
      clear g1
      cases hsm : sm11 x with
      | false =>
        have HSM := Lib.hid (show smallB (x.l.map (·.1)) = false from hsm)
        obtain rfl : false = r := by rw [← hd, hsm]; rfl
        clear hd hsm
        go_wp2_with (go_at_call 18; (with_reducible refine (l11_smallF x.b.base x.b.leader x.b.app x.b.txn x.b.ctl x.b.last x.b.first x.b.maxt x.b.prod x.b.epoch x.b.seq x.l xq xcap HSM.out HFX.out HXK.out H.out).mono ?_); rintro e_ wn ⟨rfl, h⟩; replace H := Lib.hid h; clear h)
        go_ret
        exact ⟨rfl, H.out.drop.drop⟩
      | true =>
        have HSM := Lib.hid (show smallB (x.l.map (·.1)) = true from hsm)
        have HD := Lib.hid (show (l.drop (k + 1)).all sm11 = r by rw [← hd, hsm]; rfl)
        clear hd hsm
        go_wp2_with (go_at_call 18; (with_reducible refine (l11_smallT x.b.base x.b.leader x.b.app x.b.txn x.b.ctl x.b.last x.b.first x.b.maxt x.b.prod x.b.epoch x.b.seq x.l xq xcap HSM.out HFX.out HXK.out H.out).mono ?_); rintro e_ wn ⟨rfl, h⟩; replace H := Lib.hid h; clear h)
        go_roundw
        case rel => exact ⟨k + 1, hk, by go_num, HD, H.out.drop⟩
        case measure => first | (simp [intOf]; done) | (simp [intOf]; omega)
    · have hki : ¬ (k : Int) < (l.length : Int) := by omega
      obtain rfl : true = r := by rw [← HC.out, List.drop_eq_nil_of_le (by omega)]; rfl
      go_wp2_with fail
      go_ret
      exact ⟨rfl, H.out.drop⟩
theorem sc_small0 (qb : Option Addr) (bcap : Nat) (c : Int) (q : Option Addr) (cap : Nat) (ch : List Int) (l : List BtR) (hr : smallS l ch = false) (hfit : ∀ x ∈ l, FitW x.l) {W0 w : World} {K : Know} {L : List Res} (hkb : K.has (Know.btrs (.slice qb l.length bcap) l)) (h : St W0 w K L) :
    Calls Tryd.prog 7 #[.agg #[.slice qb l.length bcap, .int .i64 c, .slice q ch.length cap]] w fun en w' => en = .returned (.int .i64 0) ∧ St W0 w' K L := sc_small qb bcap c q cap ch l false hr hfit hkb h
theorem sc_small1 (qb : Option Addr) (bcap : Nat) (c : Int) (q : Option Addr) (cap : Nat) (ch : List Int) (l : List BtR) (hr : smallS l ch = true) (hfit : ∀ x ∈ l, FitW x.l) {W0 w : World} {K : Know} {L : List Res} (hkb : K.has (Know.btrs (.slice qb l.length bcap) l)) (h : St W0 w K L) :
    Calls Tryd.prog 7 #[.agg #[.slice qb l.length bcap, .int .i64 c, .slice q ch.length cap]] w fun en w' => en = .returned (.int .i64 1) ∧ St W0 w' K L := sc_small qb bcap c q cap ch l true hr hfit hkb h

end Go.Proofs.YtenojajfacacoaaDoor
