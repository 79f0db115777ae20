/- A text. -/
import Derived.Test.YtnnnglklgofabaaGreatGProduceWrites12
import Derived.Test.YtnnnglklgofabaaGreatGProduceWrites13
import Derived.Test.YtnnnglklgofabaaGreatGProduceWrites5
import Derived.RegionTactic
import Derived.Deep.RegionHeld3
import Derived.Deep.DeepCutAuto
import Derived.WalkMore
import Derived.Test.YtnnnglklgofabaaGreatGProduceWrites9
import Derived.Test.YtnnnglklgofabaaGreatArgs
import Derived.SizedLaws
import Derived.Deep.Slices
import Derived.Test.YtnnnglklgofabaaGreatL06F
import Derived.Test.YtnnnglklgofabaaGreatGProduceWrites8
import Derived.Test.YtnnnglklgofabaaGreatGProduceWrites1
import Derived.Lib.SmallJoins
import Derived.Test.YtnnnglklgofabaaGreatGProduceWrites4
import Derived.Test.YtnnnglklgofabaaGreatGProduceWrites6
/- A text. -/
namespace Go.Proofs.YtnnnglklgofabaaGreat
open Go.RowKit

set_option maxHeartbeats 2000000 in
set_option maxRecDepth 100000 in
theorem ref20_same_N1 (dd1 dd2 : Bs) (ac1 ac2 : Int) (tm1 tm2 : Int) (l1 l2 : List PTop) (q1 q2 : Option Addr) (cap1 cap2 : Nat)  {W0 w : World} {K : Know} {L : List Res} (h : St W0 w K L) :
  Calls Tryz.prog 17 #[.agg #[.bool true, .string (bb dd1), .int .i64 ac1, .int .i64 tm1, .slice q1 l1.length cap1], .agg #[.bool false, .string (bb dd2), .int .i64 ac2, .int .i64 tm2, .slice q2 l2.length cap2]] w fun en w' => en = .returned (.bool false) ∧ St W0 w' K L := by
 obtain ⟨ra, hra⟩ : ∃ b, w.heap.size = b := ⟨_, rfl⟩; obtain ⟨rb, hrb⟩ : ∃ b, ra + 1 = b := ⟨_, rfl⟩; have h0 := (h.allocRaw #[.bool true, .string (bb dd1), .int .i64 ac1, .int .i64 tm1, .slice q1 l1.length cap1] 40).allocRaw #[.bool false, .string (bb dd2), .int .i64 ac2, .int .i64 tm2, .slice q2 l2.length cap2] 40; simp only [World.size_alloc, hra, hrb] at h0; have y0 := h0.rawCell 0; have x0 := h0.p1.rawCell 0; have y1 := h0.rawCell 1; have x1 := h0.p1.rawCell 1; have y2 := h0.rawCell 2; have x2 := h0.p1.rawCell 2; have y3 := h0.rawCell 3; have x3 := h0.p1.rawCell 3; have y4 := h0.rawCell 4; have x4 := h0.p1.rawCell 4; simp at x0 y0 x1 y1 x2 y2 x3 y3 x4 y4; have H := Lib.hid h0; clear h h0; go_enter Tryz.func17, Tryz.ntmps17; go_wp2; go_ret; exact ⟨rfl, H.out.drop.drop⟩

set_option maxHeartbeats 2000000 in
set_option maxRecDepth 100000 in
theorem ref20_same_N2 (dd1 dd2 : Bs) (ac1 ac2 : Int) (tm1 tm2 : Int) (l1 l2 : List PTop) (q1 q2 : Option Addr) (cap1 cap2 : Nat)  {W0 w : World} {K : Know} {L : List Res} (h : St W0 w K L) :
  Calls Tryz.prog 17 #[.agg #[.bool false, .string (bb dd1), .int .i64 ac1, .int .i64 tm1, .slice q1 l1.length cap1], .agg #[.bool true, .string (bb dd2), .int .i64 ac2, .int .i64 tm2, .slice q2 l2.length cap2]] w fun en w' => en = .returned (.bool false) ∧ St W0 w' K L := by
 obtain ⟨ra, hra⟩ : ∃ b, w.heap.size = b := ⟨_, rfl⟩; obtain ⟨rb, hrb⟩ : ∃ b, ra + 1 = b := ⟨_, rfl⟩; have h0 := (h.allocRaw #[.bool false, .string (bb dd1), .int .i64 ac1, .int .i64 tm1, .slice q1 l1.length cap1] 40).allocRaw #[.bool true, .string (bb dd2), .int .i64 ac2, .int .i64 tm2, .slice q2 l2.length cap2] 40; simp only [World.size_alloc, hra, hrb] at h0; have y0 := h0.rawCell 0; have x0 := h0.p1.rawCell 0; have y1 := h0.rawCell 1; have x1 := h0.p1.rawCell 1; have y2 := h0.rawCell 2; have x2 := h0.p1.rawCell 2; have y3 := h0.rawCell 3; have x3 := h0.p1.rawCell 3; have y4 := h0.rawCell 4; have x4 := h0.p1.rawCell 4; simp at x0 y0 x1 y1 x2 y2 x3 y3 x4 y4; have H := Lib.hid h0; clear h h0; go_enter Tryz.func17, Tryz.ntmps17; go_wp2; go_ret; exact ⟨rfl, H.out.drop.drop⟩

set_option maxHeartbeats 2000000 in
set_option maxRecDepth 100000 in
theorem ref20_same_D (nl : Bool) (dd1 dd2 : Bs) (ac1 ac2 : Int) (tm1 tm2 : Int) (l1 l2 : List PTop) (q1 q2 : Option Addr) (cap1 cap2 : Nat) (hne : dd1 ≠ dd2) {W0 w : World} {K : Know} {L : List Res} (h : St W0 w K L) :
  Calls Tryz.prog 17 #[.agg #[.bool nl, .string (bb dd1), .int .i64 ac1, .int .i64 tm1, .slice q1 l1.length cap1], .agg #[.bool nl, .string (bb dd2), .int .i64 ac2, .int .i64 tm2, .slice q2 l2.length cap2]] w fun en w' => en = .returned (.bool false) ∧ St W0 w' K L := by
 obtain ⟨ra, hra⟩ : ∃ b, w.heap.size = b := ⟨_, rfl⟩; obtain ⟨rb, hrb⟩ : ∃ b, ra + 1 = b := ⟨_, rfl⟩; have h0 := (h.allocRaw #[.bool nl, .string (bb dd1), .int .i64 ac1, .int .i64 tm1, .slice q1 l1.length cap1] 40).allocRaw #[.bool nl, .string (bb dd2), .int .i64 ac2, .int .i64 tm2, .slice q2 l2.length cap2] 40; simp only [World.size_alloc, hra, hrb] at h0; have y0 := h0.rawCell 0; have x0 := h0.p1.rawCell 0; have y1 := h0.rawCell 1; have x1 := h0.p1.rawCell 1; have y2 := h0.rawCell 2; have x2 := h0.p1.rawCell 2; have y3 := h0.rawCell 3; have x3 := h0.p1.rawCell 3; have y4 := h0.rawCell 4; have x4 := h0.p1.rawCell 4; simp at x0 y0 x1 y1 x2 y2 x3 y3 x4 y4; have H := Lib.hid h0; clear h h0; have g1 : (dd1 == dd2) = false := by simpa using hne
 have g2 : (dd1 != dd2) = true := by simpa using hne
 have g3 : ¬ dd1 = dd2 := hne; clear hne; go_enter Tryz.func17, Tryz.ntmps17; go_wp2; go_ret; exact ⟨rfl, H.out.drop.drop⟩

set_option maxHeartbeats 2000000 in
set_option maxRecDepth 100000 in
theorem ref20_same_A (nl : Bool) (dd : Bs) (ac1 ac2 : Int) (tm1 tm2 : Int) (l1 l2 : List PTop) (q1 q2 : Option Addr) (cap1 cap2 : Nat) (hne : ac1 ≠ ac2) {W0 w : World} {K : Know} {L : List Res} (h : St W0 w K L) :
  Calls Tryz.prog 17 #[.agg #[.bool nl, .string (bb dd), .int .i64 ac1, .int .i64 tm1, .slice q1 l1.length cap1], .agg #[.bool nl, .string (bb dd), .int .i64 ac2, .int .i64 tm2, .slice q2 l2.length cap2]] w fun en w' => en = .returned (.bool false) ∧ St W0 w' K L := by
 obtain ⟨ra, hra⟩ : ∃ b, w.heap.size = b := ⟨_, rfl⟩; obtain ⟨rb, hrb⟩ : ∃ b, ra + 1 = b := ⟨_, rfl⟩; have h0 := (h.allocRaw #[.bool nl, .string (bb dd), .int .i64 ac1, .int .i64 tm1, .slice q1 l1.length cap1] 40).allocRaw #[.bool nl, .string (bb dd), .int .i64 ac2, .int .i64 tm2, .slice q2 l2.length cap2] 40; simp only [World.size_alloc, hra, hrb] at h0; have y0 := h0.rawCell 0; have x0 := h0.p1.rawCell 0; have y1 := h0.rawCell 1; have x1 := h0.p1.rawCell 1; have y2 := h0.rawCell 2; have x2 := h0.p1.rawCell 2; have y3 := h0.rawCell 3; have x3 := h0.p1.rawCell 3; have y4 := h0.rawCell 4; have x4 := h0.p1.rawCell 4; simp at x0 y0 x1 y1 x2 y2 x3 y3 x4 y4; have H := Lib.hid h0; clear h h0; have g1 : (ac1 == ac2) = false := by simpa using hne
 have g2 : (ac1 != ac2) = true := by simpa using hne
 have g3 : ¬ ac1 = ac2 := hne; clear hne; go_enter Tryz.func17, Tryz.ntmps17; go_wp2; go_ret; exact ⟨rfl, H.out.drop.drop⟩

set_option maxHeartbeats 2000000 in
set_option maxRecDepth 100000 in
theorem ref20_same_T (nl : Bool) (dd : Bs) (ac : Int) (tm1 tm2 : Int) (l1 l2 : List PTop) (q1 q2 : Option Addr) (cap1 cap2 : Nat) (hne : tm1 ≠ tm2) {W0 w : World} {K : Know} {L : List Res} (h : St W0 w K L) :
  Calls Tryz.prog 17 #[.agg #[.bool nl, .string (bb dd), .int .i64 ac, .int .i64 tm1, .slice q1 l1.length cap1], .agg #[.bool nl, .string (bb dd), .int .i64 ac, .int .i64 tm2, .slice q2 l2.length cap2]] w fun en w' => en = .returned (.bool false) ∧ St W0 w' K L := by
 obtain ⟨ra, hra⟩ : ∃ b, w.heap.size = b := ⟨_, rfl⟩; obtain ⟨rb, hrb⟩ : ∃ b, ra + 1 = b := ⟨_, rfl⟩; have h0 := (h.allocRaw #[.bool nl, .string (bb dd), .int .i64 ac, .int .i64 tm1, .slice q1 l1.length cap1] 40).allocRaw #[.bool nl, .string (bb dd), .int .i64 ac, .int .i64 tm2, .slice q2 l2.length cap2] 40; simp only [World.size_alloc, hra, hrb] at h0; have y0 := h0.rawCell 0; have x0 := h0.p1.rawCell 0; have y1 := h0.rawCell 1; have x1 := h0.p1.rawCell 1; have y2 := h0.rawCell 2; have x2 := h0.p1.rawCell 2; have y3 := h0.rawCell 3; have x3 := h0.p1.rawCell 3; have y4 := h0.rawCell 4; have x4 := h0.p1.rawCell 4; simp at x0 y0 x1 y1 x2 y2 x3 y3 x4 y4; have H := Lib.hid h0; clear h h0; have g1 : (tm1 == tm2) = false := by simpa using hne
 have g2 : (tm1 != tm2) = true := by simpa using hne
 have g3 : ¬ tm1 = tm2 := hne; clear hne; go_enter Tryz.func17, Tryz.ntmps17; go_wp2; go_ret; exact ⟨rfl, H.out.drop.drop⟩

set_option maxHeartbeats 2000000 in
set_option maxRecDepth 100000 in
theorem ref20_same_L (nl : Bool) (dd : Bs) (ac : Int) (tm : Int) (l1 l2 : List PTop) (q1 q2 : Option Addr) (cap1 cap2 : Nat) (hne : l1.length ≠ l2.length) {W0 w : World} {K : Know} {L : List Res} (h : St W0 w K L) :
  Calls Tryz.prog 17 #[.agg #[.bool nl, .string (bb dd), .int .i64 ac, .int .i64 tm, .slice q1 l1.length cap1], .agg #[.bool nl, .string (bb dd), .int .i64 ac, .int .i64 tm, .slice q2 l2.length cap2]] w fun en w' => en = .returned (.bool false) ∧ St W0 w' K L := by
 obtain ⟨ra, hra⟩ : ∃ b, w.heap.size = b := ⟨_, rfl⟩; obtain ⟨rb, hrb⟩ : ∃ b, ra + 1 = b := ⟨_, rfl⟩; have h0 := (h.allocRaw #[.bool nl, .string (bb dd), .int .i64 ac, .int .i64 tm, .slice q1 l1.length cap1] 40).allocRaw #[.bool nl, .string (bb dd), .int .i64 ac, .int .i64 tm, .slice q2 l2.length cap2] 40; simp only [World.size_alloc, hra, hrb] at h0; have y0 := h0.rawCell 0; have x0 := h0.p1.rawCell 0; have y1 := h0.rawCell 1; have x1 := h0.p1.rawCell 1; have y2 := h0.rawCell 2; have x2 := h0.p1.rawCell 2; have y3 := h0.rawCell 3; have x3 := h0.p1.rawCell 3; have y4 := h0.rawCell 4; have x4 := h0.p1.rawCell 4; simp at x0 y0 x1 y1 x2 y2 x3 y3 x4 y4; have H := Lib.hid h0; clear h h0; have g1 : ((l1.length : Int) == (l2.length : Int)) = false := by rw [beq_eq_false_iff_ne]; omega
 have g2 : ((l1.length : Int) != (l2.length : Int)) = true := by simp [bne, g1]
 have g3 : ¬ ((l1.length : Int) = (l2.length : Int)) := by omega
 clear hne; go_enter Tryz.func17, Tryz.ntmps17; go_wp2; go_ret; exact ⟨rfl, H.out.drop.drop⟩

set_option maxHeartbeats 8000000 in
set_option maxRecDepth 100000 in
theorem ref20_same_M0 (nl : Bool) (dd : Bs) (ac : Int) (tm : Int) (l1 l2 : List PTop) (q1 q2 : Option Addr) (cap1 cap2 : Nat) (r : Bool) (hlen : l1.length = l2.length) (hr : decide (l1.map PTop.pt = l2.map PTop.pt) = r) (hn : l1.length ≤ 4398046511104) (hf1 : ∀ x ∈ l1, EqT x) (hf2 : ∀ x ∈ l2, EqT x) {W0 w : World} {K : Know} {L : List Res} (hk1 : K.has (Know.ptops (.slice q1 l1.length cap1) l1)) (hk2 : K.has (Know.ptops (.slice q2 l2.length cap2) l2)) (h : St W0 w K L) :
  Calls Tryz.prog 17 #[.agg #[.bool nl, .string (bb dd), .int .i64 ac, .int .i64 tm, .slice q1 l1.length cap1], .agg #[.bool nl, .string (bb dd), .int .i64 ac, .int .i64 tm, .slice q2 l2.length cap2]] w fun en w' => en = .returned (.bool r) ∧ St W0 w' K L := by
 obtain ⟨ra, hra⟩ : ∃ b, w.heap.size = b := ⟨_, rfl⟩; obtain ⟨rb, hrb⟩ : ∃ b, ra + 1 = b := ⟨_, rfl⟩; have h0 := (h.allocRaw #[.bool nl, .string (bb dd), .int .i64 ac, .int .i64 tm, .slice q1 l1.length cap1] 40).allocRaw #[.bool nl, .string (bb dd), .int .i64 ac, .int .i64 tm, .slice q2 l2.length cap2] 40; simp only [World.size_alloc, hra, hrb] at h0; have y0 := h0.rawCell 0; have x0 := h0.p1.rawCell 0; have y1 := h0.rawCell 1; have x1 := h0.p1.rawCell 1; have y2 := h0.rawCell 2; have x2 := h0.p1.rawCell 2; have y3 := h0.rawCell 3; have x3 := h0.p1.rawCell 3; have y4 := h0.rawCell 4; have x4 := h0.p1.rawCell 4; simp at x0 y0 x1 y1 x2 y2 x3 y3 x4 y4; have H := Lib.hid h0; clear h h0; have HF1 := Lib.hid hf1; have HF2 := Lib.hid hf2; have HK1 := Lib.hid hk1; have HK2 := Lib.hid hk2; have HR := Lib.hid hr; have HLEN := Lib.hid hlen; have hni : (l1.length : Int) ≤ 4398046511104 := by omega
 have g1 : ((l1.length : Int) == (l2.length : Int)) = true := by rw [hlen]; exact beq_self_eq_true _
 have g2 : ((l1.length : Int) != (l2.length : Int)) = false := by simp [bne, g1]
 clear hr hlen hn hf1 hf2 hk1 hk2; go_enter Tryz.func17, Tryz.ntmps17; go_wp2; clear g1 g2 x0 y0 x1 y1 x2 y2 x3 y3 x4 y4; go_loopw [5] (fun iv wr => ∃ k : Nat, k ≤ l1.length ∧ iv = .int .i64 k ∧ Hid ((l1.map PTop.pt).take k = (l2.map PTop.pt).take k) ∧ St W0 wr K (.raw rb #[.bool nl, .string (bb dd), .int .i64 ac, .int .i64 tm, .slice q2 l2.length cap2] 40 :: .raw ra #[.bool nl, .string (bb dd), .int .i64 ac, .int .i64 tm, .slice q1 l1.length cap1] 40 :: L)) (fun iv _ => l1.length - (intOf iv).toNat)
 case atStart => exact ⟨0, Nat.zero_le _, rfl, Lib.hid (by simp), H.out⟩
 case round =>
  obtain ⟨k, hkl, rfl, heq, hst⟩ := hrel; clear H; have H := Lib.hid hst; clear hst
  by_cases hlt : k < l1.length
  · have hlt2 : k < l2.length := by have := HLEN.out; omega
    obtain ⟨bk1, off1, hqq1⟩ := ptops_at HK1.out H.out (by omega); subst hqq1; obtain ⟨z1, hx1⟩ : ∃ x, l1[k] = x := ⟨_, rfl⟩; have hmem1 : z1 ∈ l1 := hx1 ▸ List.getElem_mem _; have hq1 := HF1.out z1 hmem1; have hk1 := ptops_parts HK1.out hmem1; have HX1 := Lib.hid (show (l1[k]).pt = z1.pt by rw [hx1]); have HXX1 := Lib.hid hx1; clear hmem1 hx1; obtain ⟨bk2, off2, hqq2⟩ := ptops_at HK2.out H.out (by omega); subst hqq2; obtain ⟨z2, hx2⟩ : ∃ x, l2[k] = x := ⟨_, rfl⟩; have hmem2 : z2 ∈ l2 := hx2 ▸ List.getElem_mem _; have hq2 := HF2.out z2 hmem2; have hk2 := ptops_parts HK2.out hmem2; have HX2 := Lib.hid (show (l2[k]).pt = z2.pt by rw [hx2]); have HXX2 := Lib.hid hx2; clear hmem2 hx2; have NX := Lib.hid (show z1.pt ≠ z2.pt → l1.map PTop.pt ≠ l2.map PTop.pt from gmap_ne_of_get _ l1 l2 k hlt hlt2 _ _ HX1.out HX2.out); have NT := Lib.hid (show z1.pt = z2.pt → (l1.map PTop.pt).take (k + 1) = (l2.map PTop.pt).take (k + 1) from fun e => by rw [gmap_take_succ _ l1 k hlt _ HX1.out, gmap_take_succ _ l2 k hlt2 _ HX2.out, heq.out, e]); obtain ⟨c0, c1⟩ := ptops_cell HK1.out H.out k hlt _ HXX1.out; have hkn : (k : Int) < (l1.length : Int) := by omega
    have hkn2 : (k : Int) < (l2.length : Int) := by omega
    obtain ⟨n1, xl1, xq1, xc1⟩ := z1; obtain ⟨n2, xl2, xq2, xc2⟩ := z2; obtain ⟨tb1, htb1⟩ : ∃ b, wr.heap.size = b := ⟨_, rfl⟩; obtain ⟨tb2, htb2⟩ : ∃ b, tb1 + 1 = b := ⟨_, rfl⟩; have x4 := H.out.p1.rawCell 4; have h1 := H.out.allocRaw #[.string (bb n1), .slice xq1 xl1.length xc1] 83; rw [htb1] at h1; have y4 := h1.p1.rawCell 4; obtain ⟨d0, d1⟩ := ptops_cell HK2.out h1 k hlt2 _ HXX2.out; have h := h1.allocRaw #[.string (bb n2), .slice xq2 xl2.length xc2] 83; rw [World.size_alloc, htb1, htb2] at h; simp only at c0 c1 d0 d1; have u0 := h.p1.rawCell 0; have u1 := h.p1.rawCell 1; have v0 := h.rawCell 0; have v1 := h.rawCell 1; simp at x4 y4 u0 u1 v0 v1; have XK1 := Lib.hid (show K.has (Know.pparts (.slice xq1 xl1.length xc1) xl1) from hk1); have XK2 := Lib.hid (show K.has (Know.pparts (.slice xq2 xl2.length xc2) xl2) from hk2); have XP1 := Lib.hid (show ∀ y ∈ xl1, EqP y from hq1.parts); have XP2 := Lib.hid (show ∀ y ∈ xl2, EqP y from hq2.parts); have hxl : xl1.length ≤ 4398046511104 := hq1.len; have hxi : (xl1.length : Int) ≤ 4398046511104 := by omega
    clear H h1 hk1 hk2 hq1 hq2 HX1 HX2 HXX1 HXX2 hxl; have H := Lib.hid h; clear h
    by_cases hnn : n1 = n2
    rotate_left
    · have HRF := Lib.hid (show r = false by rw [← HR.out]; exact decide_eq_false (NX.out fun e => hnn (congrArg Prod.fst e))); have g1 : (n1 == n2) = false := by simpa using hnn
      have g2 : (n1 != n2) = true := by simpa using hnn
      have g3 : ¬ n1 = n2 := hnn; clear hnn NX NT; go_wp2; go_ret; exact ⟨ret_bool HRF.out.symm, H.out.drop.drop.drop.drop⟩
    subst hnn
    by_cases hxx : xl1.length = xl2.length
    rotate_left
    · have HRF := Lib.hid (show r = false by rw [← HR.out]; exact decide_eq_false (NX.out fun e => gmap_len_ne _ _ _ hxx (congrArg Prod.snd e))); have g1 : ((xl1.length : Int) == (xl2.length : Int)) = false := by rw [beq_eq_false_iff_ne]; omega
      have g2 : ((xl1.length : Int) != (xl2.length : Int)) = true := by simp [bne, g1]
      have g3 : ¬ ((xl1.length : Int) = (xl2.length : Int)) := by omega
      clear hxx NX NT; go_wp2; go_ret; exact ⟨ret_bool HRF.out.symm, H.out.drop.drop.drop.drop⟩
    have HXLN := Lib.hid hxx; have g1 : ((xl1.length : Int) == (xl2.length : Int)) = true := by rw [hxx]; exact beq_self_eq_true _
    have g2 : ((xl1.length : Int) != (xl2.length : Int)) = false := by simp [bne, g1]
    have NXP := Lib.hid (show xl1.map PartR.pb ≠ xl2.map PartR.pb → r = false from fun hne => by rw [← HR.out]; exact decide_eq_false (NX.out fun e => hne (congrArg Prod.snd e))); have NTP := Lib.hid (show xl1.map PartR.pb = xl2.map PartR.pb → (l1.map PTop.pt).take (k + 1) = (l2.map PTop.pt).take (k + 1) from fun e => NT.out (by unfold PTop.pt; simp only; rw [e])); clear hxx NX NT; go_wp2_with fail; clear g1 g2 x4 y4 u0 u1 v0 v1 c0 c1 d0 d1; go_loopw [8] (fun jv wr => ∃ j : Nat, j ≤ xl1.length ∧ jv = .int .i64 j ∧ Hid ((xl1.map PartR.pb).take j = (xl2.map PartR.pb).take j) ∧ St W0 wr K (.raw tb2 #[.string (bb n1), .slice xq2 xl2.length xc2] 83 :: .raw tb1 #[.string (bb n1), .slice xq1 xl1.length xc1] 83 :: .raw rb #[.bool nl, .string (bb dd), .int .i64 ac, .int .i64 tm, .slice (some ⟨bk2, off2, none⟩) l2.length cap2] 40 :: .raw ra #[.bool nl, .string (bb dd), .int .i64 ac, .int .i64 tm, .slice (some ⟨bk1, off1, none⟩) l1.length cap1] 40 :: L)) (fun jv _ => xl1.length - (intOf jv).toNat)
    case atStart => exact ⟨0, Nat.zero_le _, rfl, Lib.hid (by simp), H.out⟩
    case round =>
      obtain ⟨j, hjl, rfl, heq2, hst⟩ := hrel; clear H; have H := Lib.hid hst; clear hst; have t1 := H.out.p1.rawCell 1; simp at t1
      by_cases hjt : j < xl1.length
      · have hjt2 : j < xl2.length := by have := HXLN.out; omega
        obtain ⟨pk1, poff1, hpq1⟩ := pparts_at XK1.out H.out (by omega); subst hpq1; obtain ⟨y1, hy1⟩ : ∃ y, xl1[j] = y := ⟨_, rfl⟩; have hmem1 : y1 ∈ xl1 := hy1 ▸ List.getElem_mem _; have HYF1 := Lib.hid (show ∀ z ∈ y1.l, EqR z from (XP1.out y1 hmem1).bats); have HYK1 := Lib.hid (pparts_bats XK1.out hmem1); have HYX1 := Lib.hid (show (xl1[j]).pb = y1.pb by rw [hy1]); have HYY1 := Lib.hid hy1; obtain ⟨pk2, poff2, hpq2⟩ := pparts_at XK2.out H.out (by omega); subst hpq2; obtain ⟨y2, hy2⟩ : ∃ y, xl2[j] = y := ⟨_, rfl⟩; have hmem2 : y2 ∈ xl2 := hy2 ▸ List.getElem_mem _; have HYF2 := Lib.hid (show ∀ z ∈ y2.l, EqR z from (XP2.out y2 hmem2).bats); have HYK2 := Lib.hid (pparts_bats XK2.out hmem2); have HYX2 := Lib.hid (show (xl2[j]).pb = y2.pb by rw [hy2]); have HYY2 := Lib.hid hy2; have hyl : y1.l.length ≤ 4398046511104 := (XP1.out y1 hmem1).len; have HYN := Lib.hid hyl; have hjn : (j : Int) < (xl1.length : Int) := by omega
        have hjn2 : (j : Int) < (xl2.length : Int) := by omega
        have NQ := Lib.hid (show y1.pb ≠ y2.pb → r = false from fun hne => NXP.out (gmap_ne_of_get _ xl1 xl2 j hjt hjt2 _ _ HYX1.out HYX2.out hne)); have NU := Lib.hid (show y1.pb = y2.pb → (xl1.map PartR.pb).take (j + 1) = (xl2.map PartR.pb).take (j + 1) from fun e => by rw [gmap_take_succ _ xl1 j hjt _ HYX1.out, gmap_take_succ _ xl2 j hjt2 _ HYX2.out, heq2.out, e])
        have HKP := Lib.hid (show ∀ w', St W0 w' K (.raw tb2 #[.string (bb n1), .slice (some ⟨pk2, poff2, none⟩) xl2.length xc2] 83 :: .raw tb1 #[.string (bb n1), .slice (some ⟨pk1, poff1, none⟩) xl1.length xc1] 83 :: .raw rb #[.bool nl, .string (bb dd), .int .i64 ac, .int .i64 tm, .slice (some ⟨bk2, off2, none⟩) l2.length cap2] 40 :: .raw ra #[.bool nl, .string (bb dd), .int .i64 ac, .int .i64 tm, .slice (some ⟨bk1, off1, none⟩) l1.length cap1] 40 :: L) → (w'.cell? ⟨tb1, 1, none⟩ = some (.slice (some ⟨pk1, poff1, none⟩) xl1.length xc1) ∧ w'.cell? ⟨pk1, poff1 + j * 2, none⟩ = some (.int .i64 y1.idx) ∧ w'.cell? ⟨pk1, poff1 + j * 2 + 1, none⟩ = some (.slice y1.q y1.l.length y1.cap) ∧ w'.cell? ⟨tb2, 1, none⟩ = some (.slice (some ⟨pk2, poff2, none⟩) xl2.length xc2) ∧ w'.cell? ⟨pk2, poff2 + j * 2, none⟩ = some (.int .i64 y2.idx) ∧ w'.cell? ⟨pk2, poff2 + j * 2 + 1, none⟩ = some (.slice y2.q y2.l.length y2.cap)) from fun w' hs => by
          have a1 := hs.p1.rawCell 1; have a2 := hs.rawCell 1; obtain ⟨b1, b2⟩ := pparts_cell XK1.out hs j hjt _ HYY1.out; obtain ⟨e1, e2⟩ := pparts_cell XK2.out hs j hjt2 _ HYY2.out; simp at a1 a2
          exact ⟨a1, b1, b2, a2, e1, e2⟩)
        clear hmem1 hmem2 hy1 hy2 hyl; obtain ⟨i1, yl1, yq1, yc1⟩ := y1; obtain ⟨i2, yl2, yq2, yc2⟩ := y2
        by_cases hi : i1 = i2
        rotate_left
        · have HRF := Lib.hid (NQ.out fun e => hi (congrArg Prod.fst e)); have g1 : (i1 == i2) = false := by simpa using hi
          have g2 : (i1 != i2) = true := by simpa using hi
          have g3 : ¬ i1 = i2 := hi; clear hi NQ NU; simp only at HKP; go_wp2; have hs := H.out.drew; refine wp_region_held_drew (S := fun w' => w'.cell? ⟨tb1, 1, none⟩ = some (.slice (some ⟨pk1, poff1, none⟩) xl1.length xc1) ∧ w'.cell? ⟨pk1, poff1 + j * 2, none⟩ = some (.int .i64 i1) ∧ w'.cell? ⟨pk1, poff1 + j * 2 + 1, none⟩ = some (.slice yq1 yl1.length yc1) ∧ w'.cell? ⟨tb2, 1, none⟩ = some (.slice (some ⟨pk2, poff2, none⟩) xl2.length xc2) ∧ w'.cell? ⟨pk2, poff2 + j * 2, none⟩ = some (.int .i64 i2) ∧ w'.cell? ⟨pk2, poff2 + j * 2 + 1, none⟩ = some (.slice yq2 yl2.length yc2)) (by kernel_rfl) (HKP.out _ hs) (fun hHeld => ?_); refine tQ 0 ⟨some 75, .fieldAddr 83 (.tmp 6) 1, 0, _, _, none⟩ ?_; simp only [Act.put, sA, sB, sC]; refine tQ 1 ⟨some 76, .load 81 (.tmp 75), 81, _, _, none⟩ ?_; simp only [Act.put, sA, sB, sC]; refine tQ 2 ⟨some 77, .move (.tmp 8), 3, _, _, none⟩ ?_; simp only [Act.put, sA, sB, sC]; refine tQ 3 ⟨some 78, .indexAddr 81 (.tmp 76) (.tmp 77), 0, _, _, none⟩ ?_; simp only [Act.put, sA, sB, sC]; refine tQ 4 ⟨some 79, .fieldAddr 85 (.tmp 78) 0, 0, _, _, none⟩ ?_; simp only [Act.put, sA, sB, sC]; refine tQ 5 ⟨some 80, .load 3 (.tmp 79), 3, _, _, none⟩ ?_; simp only [Act.put, sA, sB, sC]; refine tQ 6 ⟨some 81, .fieldAddr 83 (.tmp 7) 1, 0, _, _, none⟩ ?_; simp only [Act.put, sA, sB, sC]; refine tQ 7 ⟨some 82, .load 81 (.tmp 81), 81, _, _, none⟩ ?_; simp only [Act.put, sA, sB, sC]; refine tQ 8 ⟨some 83, .move (.tmp 8), 3, _, _, none⟩ ?_; simp only [Act.put, sA, sB, sC]; refine tQ 9 ⟨some 84, .indexAddr 81 (.tmp 82) (.tmp 83), 0, _, _, none⟩ ?_; simp only [Act.put, sA, sB, sC]; refine tQ 10 ⟨some 85, .fieldAddr 85 (.tmp 84) 0, 0, _, _, none⟩ ?_; simp only [Act.put, sA, sB, sC]; refine tQ 11 ⟨some 86, .load 3 (.tmp 85), 3, _, _, none⟩ ?_; simp only [Act.put, sA, sB, sC]; refine tQ 12 ⟨some 87, .binOp .neq 3 (.tmp 80) (.tmp 86) 3, 4, _, _, none⟩ ?_; simp only [Act.put, sA, sB, sC]; refine tQ 13 ⟨some 88, .move (.tmp 87), 4, _, _, none⟩ ?_; simp only [Act.put, sA, sB, sC]; refine wpAnyH_take (i := 14) (oi := ⟨some 89, .fieldAddr 83 (.tmp 6) 1, 0, _, _, some (13, false)⟩) (v := undef) rfl (by kernel_rfl) (by kernel_rfl) (by kernel_rfl) (fun _ _ _ h => h) (Or.inr ⟨by rfl, rfl⟩) (by assumption) ?_; simp only [Act.put, sA, sB, sC]; refine wpAnyH_take (i := 15) (oi := ⟨some 90, .load 81 (.tmp 89), 81, _, _, some (13, false)⟩) (v := undef) rfl (by kernel_rfl) (by kernel_rfl) (by kernel_rfl) (fun _ _ _ h => h) (Or.inr ⟨by rfl, rfl⟩) (by assumption) ?_; simp only [Act.put, sA, sB, sC]; refine wpAnyH_take (i := 16) (oi := ⟨some 91, .move (.tmp 8), 3, _, _, some (13, false)⟩) (v := undef) rfl (by kernel_rfl) (by kernel_rfl) (by kernel_rfl) (fun _ _ _ h => h) (Or.inr ⟨by rfl, rfl⟩) (by assumption) ?_; simp only [Act.put, sA, sB, sC]; refine wpAnyH_take (i := 17) (oi := ⟨some 92, .indexAddr 81 (.tmp 90) (.tmp 91), 0, _, _, some (13, false)⟩) (v := undef) rfl (by kernel_rfl) (by kernel_rfl) (by kernel_rfl) (fun _ _ _ h => h) (Or.inr ⟨by rfl, rfl⟩) (by assumption) ?_; simp only [Act.put, sA, sB, sC]; refine wpAnyH_take (i := 18) (oi := ⟨some 93, .fieldAddr 85 (.tmp 92) 1, 0, _, _, some (13, false)⟩) (v := undef) rfl (by kernel_rfl) (by kernel_rfl) (by kernel_rfl) (fun _ _ _ h => h) (Or.inr ⟨by rfl, rfl⟩) (by assumption) ?_; simp only [Act.put, sA, sB, sC]; refine wpAnyH_take (i := 19) (oi := ⟨some 94, .load 66 (.tmp 93), 66, _, _, some (13, false)⟩) (v := undef) rfl (by kernel_rfl) (by kernel_rfl) (by kernel_rfl) (fun _ _ _ h => h) (Or.inr ⟨by rfl, rfl⟩) (by assumption) ?_; simp only [Act.put, sA, sB, sC]; refine wpAnyH_take (i := 20) (oi := ⟨some 95, .fieldAddr 83 (.tmp 7) 1, 0, _, _, some (13, false)⟩) (v := undef) rfl (by kernel_rfl) (by kernel_rfl) (by kernel_rfl) (fun _ _ _ h => h) (Or.inr ⟨by rfl, rfl⟩) (by assumption) ?_; simp only [Act.put, sA, sB, sC]; refine wpAnyH_take (i := 21) (oi := ⟨some 96, .load 81 (.tmp 95), 81, _, _, some (13, false)⟩) (v := undef) rfl (by kernel_rfl) (by kernel_rfl) (by kernel_rfl) (fun _ _ _ h => h) (Or.inr ⟨by rfl, rfl⟩) (by assumption) ?_; simp only [Act.put, sA, sB, sC]; refine wpAnyH_take (i := 22) (oi := ⟨some 97, .move (.tmp 8), 3, _, _, some (13, false)⟩) (v := undef) rfl (by kernel_rfl) (by kernel_rfl) (by kernel_rfl) (fun _ _ _ h => h) (Or.inr ⟨by rfl, rfl⟩) (by assumption) ?_; simp only [Act.put, sA, sB, sC]; refine wpAnyH_take (i := 23) (oi := ⟨some 98, .indexAddr 81 (.tmp 96) (.tmp 97), 0, _, _, some (13, false)⟩) (v := undef) rfl (by kernel_rfl) (by kernel_rfl) (by kernel_rfl) (fun _ _ _ h => h) (Or.inr ⟨by rfl, rfl⟩) (by assumption) ?_; simp only [Act.put, sA, sB, sC]; refine wpAnyH_take (i := 24) (oi := ⟨some 99, .fieldAddr 85 (.tmp 98) 1, 0, _, _, some (13, false)⟩) (v := undef) rfl (by kernel_rfl) (by kernel_rfl) (by kernel_rfl) (fun _ _ _ h => h) (Or.inr ⟨by rfl, rfl⟩) (by assumption) ?_; simp only [Act.put, sA, sB, sC]; refine wpAnyH_take (i := 25) (oi := ⟨some 100, .load 66 (.tmp 99), 66, _, _, some (13, false)⟩) (v := undef) rfl (by kernel_rfl) (by kernel_rfl) (by kernel_rfl) (fun _ _ _ h => h) (Or.inr ⟨by rfl, rfl⟩) (by assumption) ?_; simp only [Act.put, sA, sB, sC]; refine wpAnyH_take (i := 26) (oi := ⟨some 101, .call { callee := .value (.func 51), args := #[.tmp 94, .tmp 100], argTypes := #[66, 66] }, 4, _, _, some (13, false)⟩) (v := undef) rfl (by kernel_rfl) (by kernel_rfl) (by kernel_rfl) (fun _ _ _ h => h) (Or.inr ⟨by rfl, rfl⟩) (by assumption) ?_; simp only [Act.put, sA, sB, sC]; refine wpAnyH_take (i := 27) (oi := ⟨some 102, .unOp UnOp.not 4 (.tmp 101), 4, _, _, some (13, false)⟩) (v := undef) rfl (by kernel_rfl) (by kernel_rfl) (by kernel_rfl) (fun _ _ _ h => h) (Or.inr ⟨by rfl, rfl⟩) (by assumption) ?_; simp only [Act.put, sA, sB, sC]; refine tQ 28 ⟨some 103, .pick (.tmp 88) (.const (Value.bool true)) (.tmp 102), 4, _, _, none⟩ ?_; simp only [Act.put, sA, sB, sC]; refine wpAnyH_done (by kernel_rfl) ?_ _; clear hHeld; go_wp2_with fail; go_ret; exact ⟨ret_bool (HRF.out).symm, hs.drop.drop.drop.drop⟩
        subst hi
        by_cases hbb : yl1.map BatR.b = yl2.map BatR.b
        · have HE2 := Lib.hid (decide_eq_true hbb); have NT2 := Lib.hid (NU.out (by unfold PartR.pb; simp only; rw [hbb])); clear hbb NQ NU; simp only at HKP; go_wp2; have hs := H.out.drew; refine wp_region_held_drew (S := fun w' => w'.cell? ⟨tb1, 1, none⟩ = some (.slice (some ⟨pk1, poff1, none⟩) xl1.length xc1) ∧ w'.cell? ⟨pk1, poff1 + j * 2, none⟩ = some (.int .i64 i1) ∧ w'.cell? ⟨pk1, poff1 + j * 2 + 1, none⟩ = some (.slice yq1 yl1.length yc1) ∧ w'.cell? ⟨tb2, 1, none⟩ = some (.slice (some ⟨pk2, poff2, none⟩) xl2.length xc2) ∧ w'.cell? ⟨pk2, poff2 + j * 2, none⟩ = some (.int .i64 i1) ∧ w'.cell? ⟨pk2, poff2 + j * 2 + 1, none⟩ = some (.slice yq2 yl2.length yc2)) (by kernel_rfl) (HKP.out _ hs) (fun hHeld => ?_); refine tQ 0 ⟨some 75, .fieldAddr 83 (.tmp 6) 1, 0, _, _, none⟩ ?_; simp only [Act.put, sA, sB, sC]; refine tQ 1 ⟨some 76, .load 81 (.tmp 75), 81, _, _, none⟩ ?_; simp only [Act.put, sA, sB, sC]; refine tQ 2 ⟨some 77, .move (.tmp 8), 3, _, _, none⟩ ?_; simp only [Act.put, sA, sB, sC]; refine tQ 3 ⟨some 78, .indexAddr 81 (.tmp 76) (.tmp 77), 0, _, _, none⟩ ?_; simp only [Act.put, sA, sB, sC]; refine tQ 4 ⟨some 79, .fieldAddr 85 (.tmp 78) 0, 0, _, _, none⟩ ?_; simp only [Act.put, sA, sB, sC]; refine tQ 5 ⟨some 80, .load 3 (.tmp 79), 3, _, _, none⟩ ?_; simp only [Act.put, sA, sB, sC]; refine tQ 6 ⟨some 81, .fieldAddr 83 (.tmp 7) 1, 0, _, _, none⟩ ?_; simp only [Act.put, sA, sB, sC]; refine tQ 7 ⟨some 82, .load 81 (.tmp 81), 81, _, _, none⟩ ?_; simp only [Act.put, sA, sB, sC]; refine tQ 8 ⟨some 83, .move (.tmp 8), 3, _, _, none⟩ ?_; simp only [Act.put, sA, sB, sC]; refine tQ 9 ⟨some 84, .indexAddr 81 (.tmp 82) (.tmp 83), 0, _, _, none⟩ ?_; simp only [Act.put, sA, sB, sC]; refine tQ 10 ⟨some 85, .fieldAddr 85 (.tmp 84) 0, 0, _, _, none⟩ ?_; simp only [Act.put, sA, sB, sC]; refine tQ 11 ⟨some 86, .load 3 (.tmp 85), 3, _, _, none⟩ ?_; simp only [Act.put, sA, sB, sC]; refine tQ 12 ⟨some 87, .binOp .neq 3 (.tmp 80) (.tmp 86) 3, 4, _, _, none⟩ ?_; simp only [Act.put, sA, sB, sC]; refine tQ 13 ⟨some 88, .move (.tmp 87), 4, _, _, none⟩ ?_; simp only [Act.put, sA, sB, sC]; refine tQ 14 ⟨some 89, .fieldAddr 83 (.tmp 6) 1, 0, _, _, some (13, false)⟩ ?_; simp only [Act.put, sA, sB, sC]; refine tQ 15 ⟨some 90, .load 81 (.tmp 89), 81, _, _, some (13, false)⟩ ?_; simp only [Act.put, sA, sB, sC]; refine tQ 16 ⟨some 91, .move (.tmp 8), 3, _, _, some (13, false)⟩ ?_; simp only [Act.put, sA, sB, sC]; refine tQ 17 ⟨some 92, .indexAddr 81 (.tmp 90) (.tmp 91), 0, _, _, some (13, false)⟩ ?_; simp only [Act.put, sA, sB, sC]; refine tQ 18 ⟨some 93, .fieldAddr 85 (.tmp 92) 1, 0, _, _, some (13, false)⟩ ?_; simp only [Act.put, sA, sB, sC]; refine tQ 19 ⟨some 94, .load 66 (.tmp 93), 66, _, _, some (13, false)⟩ ?_; simp only [Act.put, sA, sB, sC]; refine tQ 20 ⟨some 95, .fieldAddr 83 (.tmp 7) 1, 0, _, _, some (13, false)⟩ ?_; simp only [Act.put, sA, sB, sC]; refine tQ 21 ⟨some 96, .load 81 (.tmp 95), 81, _, _, some (13, false)⟩ ?_; simp only [Act.put, sA, sB, sC]; refine tQ 22 ⟨some 97, .move (.tmp 8), 3, _, _, some (13, false)⟩ ?_; simp only [Act.put, sA, sB, sC]; refine tQ 23 ⟨some 98, .indexAddr 81 (.tmp 96) (.tmp 97), 0, _, _, some (13, false)⟩ ?_; simp only [Act.put, sA, sB, sC]; refine tQ 24 ⟨some 99, .fieldAddr 85 (.tmp 98) 1, 0, _, _, some (13, false)⟩ ?_; simp only [Act.put, sA, sB, sC]; refine tQ 25 ⟨some 100, .load 66 (.tmp 99), 66, _, _, some (13, false)⟩ ?_; simp only [Act.put, sA, sB, sC]; refine wpAnyH_ready (rs := [26]) (by kernel_rfl) (by simp) (AllReadyH.cons (o := ⟨some 101, .call { callee := .value (.func 51), args := #[.tmp 94, .tmp 100], argTypes := #[66, 66] }, 4, _, _, some (13, false)⟩) rfl (fun KK hK => ?_) AllReadyH.nil); go_simp; go_at_call 51; with_reducible refine (ref11_rowsR yl1 yl2 _ _ _ _ _ HE2.out HYN.out HYF1.out HYF2.out HYK1.out HYK2.out hs).mono ?_; rintro e wq ⟨rfl, hs⟩; refine hK.out _ _ (HKP.out _ hs) (fun hHeld => ?_); clear hK KK
          try simp only [Act.put, sA, sB, sC]
          refine tQ 27 ⟨some 102, .unOp UnOp.not 4 (.tmp 101), 4, _, _, some (13, false)⟩ ?_; simp only [Act.put, sA, sB, sC]; refine tQ 28 ⟨some 103, .pick (.tmp 88) (.const (Value.bool true)) (.tmp 102), 4, _, _, none⟩ ?_; simp only [Act.put, sA, sB, sC]; refine wpAnyH_done (by kernel_rfl) ?_ _; clear hHeld; go_wp2_with fail; go_roundw
          case rel => exact ⟨j + 1, hjt, by go_num, NT2, hs⟩
          case measure => first | (simp [intOf]; done) | (simp [intOf]; omega)
        · have HE2 := Lib.hid (decide_eq_false hbb); have HRF := Lib.hid (NQ.out fun e => hbb (congrArg Prod.snd e)); clear hbb NQ NU; simp only at HKP; go_wp2; have hs := H.out.drew; refine wp_region_held_drew (S := fun w' => w'.cell? ⟨tb1, 1, none⟩ = some (.slice (some ⟨pk1, poff1, none⟩) xl1.length xc1) ∧ w'.cell? ⟨pk1, poff1 + j * 2, none⟩ = some (.int .i64 i1) ∧ w'.cell? ⟨pk1, poff1 + j * 2 + 1, none⟩ = some (.slice yq1 yl1.length yc1) ∧ w'.cell? ⟨tb2, 1, none⟩ = some (.slice (some ⟨pk2, poff2, none⟩) xl2.length xc2) ∧ w'.cell? ⟨pk2, poff2 + j * 2, none⟩ = some (.int .i64 i1) ∧ w'.cell? ⟨pk2, poff2 + j * 2 + 1, none⟩ = some (.slice yq2 yl2.length yc2)) (by kernel_rfl) (HKP.out _ hs) (fun hHeld => ?_); refine tQ 0 ⟨some 75, .fieldAddr 83 (.tmp 6) 1, 0, _, _, none⟩ ?_; simp only [Act.put, sA, sB, sC]; refine tQ 1 ⟨some 76, .load 81 (.tmp 75), 81, _, _, none⟩ ?_; simp only [Act.put, sA, sB, sC]; refine tQ 2 ⟨some 77, .move (.tmp 8), 3, _, _, none⟩ ?_; simp only [Act.put, sA, sB, sC]; refine tQ 3 ⟨some 78, .indexAddr 81 (.tmp 76) (.tmp 77), 0, _, _, none⟩ ?_; simp only [Act.put, sA, sB, sC]; refine tQ 4 ⟨some 79, .fieldAddr 85 (.tmp 78) 0, 0, _, _, none⟩ ?_; simp only [Act.put, sA, sB, sC]; refine tQ 5 ⟨some 80, .load 3 (.tmp 79), 3, _, _, none⟩ ?_; simp only [Act.put, sA, sB, sC]; refine tQ 6 ⟨some 81, .fieldAddr 83 (.tmp 7) 1, 0, _, _, none⟩ ?_; simp only [Act.put, sA, sB, sC]; refine tQ 7 ⟨some 82, .load 81 (.tmp 81), 81, _, _, none⟩ ?_; simp only [Act.put, sA, sB, sC]; refine tQ 8 ⟨some 83, .move (.tmp 8), 3, _, _, none⟩ ?_; simp only [Act.put, sA, sB, sC]; refine tQ 9 ⟨some 84, .indexAddr 81 (.tmp 82) (.tmp 83), 0, _, _, none⟩ ?_; simp only [Act.put, sA, sB, sC]; refine tQ 10 ⟨some 85, .fieldAddr 85 (.tmp 84) 0, 0, _, _, none⟩ ?_; simp only [Act.put, sA, sB, sC]; refine tQ 11 ⟨some 86, .load 3 (.tmp 85), 3, _, _, none⟩ ?_; simp only [Act.put, sA, sB, sC]; refine tQ 12 ⟨some 87, .binOp .neq 3 (.tmp 80) (.tmp 86) 3, 4, _, _, none⟩ ?_; simp only [Act.put, sA, sB, sC]; refine tQ 13 ⟨some 88, .move (.tmp 87), 4, _, _, none⟩ ?_; simp only [Act.put, sA, sB, sC]; refine tQ 14 ⟨some 89, .fieldAddr 83 (.tmp 6) 1, 0, _, _, some (13, false)⟩ ?_; simp only [Act.put, sA, sB, sC]; refine tQ 15 ⟨some 90, .load 81 (.tmp 89), 81, _, _, some (13, false)⟩ ?_; simp only [Act.put, sA, sB, sC]; refine tQ 16 ⟨some 91, .move (.tmp 8), 3, _, _, some (13, false)⟩ ?_; simp only [Act.put, sA, sB, sC]; refine tQ 17 ⟨some 92, .indexAddr 81 (.tmp 90) (.tmp 91), 0, _, _, some (13, false)⟩ ?_; simp only [Act.put, sA, sB, sC]; refine tQ 18 ⟨some 93, .fieldAddr 85 (.tmp 92) 1, 0, _, _, some (13, false)⟩ ?_; simp only [Act.put, sA, sB, sC]; refine tQ 19 ⟨some 94, .load 66 (.tmp 93), 66, _, _, some (13, false)⟩ ?_; simp only [Act.put, sA, sB, sC]; refine tQ 20 ⟨some 95, .fieldAddr 83 (.tmp 7) 1, 0, _, _, some (13, false)⟩ ?_; simp only [Act.put, sA, sB, sC]; refine tQ 21 ⟨some 96, .load 81 (.tmp 95), 81, _, _, some (13, false)⟩ ?_; simp only [Act.put, sA, sB, sC]; refine tQ 22 ⟨some 97, .move (.tmp 8), 3, _, _, some (13, false)⟩ ?_; simp only [Act.put, sA, sB, sC]; refine tQ 23 ⟨some 98, .indexAddr 81 (.tmp 96) (.tmp 97), 0, _, _, some (13, false)⟩ ?_; simp only [Act.put, sA, sB, sC]; refine tQ 24 ⟨some 99, .fieldAddr 85 (.tmp 98) 1, 0, _, _, some (13, false)⟩ ?_; simp only [Act.put, sA, sB, sC]; refine tQ 25 ⟨some 100, .load 66 (.tmp 99), 66, _, _, some (13, false)⟩ ?_; simp only [Act.put, sA, sB, sC]; refine wpAnyH_ready (rs := [26]) (by kernel_rfl) (by simp) (AllReadyH.cons (o := ⟨some 101, .call { callee := .value (.func 51), args := #[.tmp 94, .tmp 100], argTypes := #[66, 66] }, 4, _, _, some (13, false)⟩) rfl (fun KK hK => ?_) AllReadyH.nil); go_simp; go_at_call 51; with_reducible refine (ref11_rowsR yl1 yl2 _ _ _ _ _ HE2.out HYN.out HYF1.out HYF2.out HYK1.out HYK2.out hs).mono ?_; rintro e wq ⟨rfl, hs⟩; refine hK.out _ _ (HKP.out _ hs) (fun hHeld => ?_); clear hK KK
          try simp only [Act.put, sA, sB, sC]
          refine tQ 27 ⟨some 102, .unOp UnOp.not 4 (.tmp 101), 4, _, _, some (13, false)⟩ ?_; simp only [Act.put, sA, sB, sC]; refine tQ 28 ⟨some 103, .pick (.tmp 88) (.const (Value.bool true)) (.tmp 102), 4, _, _, none⟩ ?_; simp only [Act.put, sA, sB, sC]; refine wpAnyH_done (by kernel_rfl) ?_ _; clear hHeld; go_wp2_with fail; go_ret; exact ⟨ret_bool (HRF.out).symm, hs.drop.drop.drop.drop⟩
      · obtain rfl : j = xl1.length := by omega
        have hall : xl1.map PartR.pb = xl2.map PartR.pb := by
          have h := heq2.out
          rwa [List.take_of_length_le (by simp), List.take_of_length_le (by have := HXLN.out; simp; omega)] at h
        have NT3 := Lib.hid (NTP.out hall); clear hall; go_wp2; go_roundw
        case rel => exact ⟨k + 1, hlt, by go_num, NT3, H.out.drop.drop⟩
        case measure => first | (simp [intOf]; done) | (simp [intOf]; omega)
  · obtain rfl : k = l1.length := by omega
    have hall : l1.map PTop.pt = l2.map PTop.pt := by
      exact zq13
    have HRT := Lib.hid (show r = true by rw [← HR.out, hall]; exact decide_eq_true rfl); clear hall; have x4 := H.out.p1.rawCell 4; simp at x4; go_wp2; go_ret; exact ⟨ret_bool HRT.out.symm, H.out.drop.drop⟩
theorem ref20_same_M (nl : Bool) (dd : Bs) (ac : Int) (tm : Int) (l1 l2 : List PTop) (q1 q2 : Option Addr) (cap1 cap2 : Nat) (r : Bool) (hr : decide (l1.map PTop.pt = l2.map PTop.pt) = r) (hn : l1.length ≤ 4398046511104) (hf1 : ∀ x ∈ l1, EqT x) (hf2 : ∀ x ∈ l2, EqT x) {W0 w : World} {K : Know} {L : List Res} (hk1 : K.has (Know.ptops (.slice q1 l1.length cap1) l1)) (hk2 : K.has (Know.ptops (.slice q2 l2.length cap2) l2)) (h : St W0 w K L) :
   Calls Tryz.prog 17 #[.agg #[.bool nl, .string (bb dd), .int .i64 ac, .int .i64 tm, .slice q1 l1.length cap1], .agg #[.bool nl, .string (bb dd), .int .i64 ac, .int .i64 tm, .slice q2 l2.length cap2]] w fun en w' => en = .returned (.bool r) ∧ St W0 w' K L := by
 by_cases hlen : l1.length = l2.length
 · exact ref20_same_M0 nl dd ac tm l1 l2 q1 q2 cap1 cap2 r hlen hr hn hf1 hf2 hk1 hk2 h
 · obtain rfl : r = false := by rw [← hr]; exact decide_eq_false (gmap_len_ne _ _ _ hlen)
   exact ref20_same_L nl dd ac tm l1 l2 q1 q2 cap1 cap2 hlen h

theorem ref20_same (nl1 nl2 : Bool) (dd1 dd2 : Bs) (ac1 ac2 tm1 tm2 : Int) (l1 l2 : List PTop) (q1 q2 : Option Addr) (cap1 cap2 : Nat) (r : Bool) (hr : decide (nl1 = nl2 ∧ dd1 = dd2 ∧ ac1 = ac2 ∧ tm1 = tm2 ∧ l1.map PTop.pt = l2.map PTop.pt) = r) (hn : l1.length ≤ 4398046511104) (hf1 : ∀ x ∈ l1, EqT x) (hf2 : ∀ x ∈ l2, EqT x) {W0 w : World} {K : Know} {L : List Res} (hk1 : K.has (Know.ptops (.slice q1 l1.length cap1) l1)) (hk2 : K.has (Know.ptops (.slice q2 l2.length cap2) l2)) (h : St W0 w K L) :
   Calls Tryz.prog 17 #[.agg #[.bool nl1, .string (bb dd1), .int .i64 ac1, .int .i64 tm1, .slice q1 l1.length cap1], .agg #[.bool nl2, .string (bb dd2), .int .i64 ac2, .int .i64 tm2, .slice q2 l2.length cap2]] w fun en w' => en = .returned (.bool r) ∧ St W0 w' K L := by
 have hb : ∀ hne : ¬ (nl1 = nl2 ∧ dd1 = dd2 ∧ ac1 = ac2 ∧ tm1 = tm2 ∧ l1.map PTop.pt = l2.map PTop.pt), r = false := fun hne => by rw [← hr]; exact decide_eq_false hne
 by_cases h1 : nl1 = nl2
 rotate_left
 · obtain rfl : r = false := hb (fun e => h1 e.1)
   cases nl1 <;> cases nl2
   · exact absurd rfl h1
   · exact ref20_same_N2 dd1 dd2 ac1 ac2 tm1 tm2 l1 l2 q1 q2 cap1 cap2 h
   · exact ref20_same_N1 dd1 dd2 ac1 ac2 tm1 tm2 l1 l2 q1 q2 cap1 cap2 h
   · exact absurd rfl h1
 subst h1
 by_cases h2 : dd1 = dd2
 rotate_left
 · obtain rfl : r = false := hb (fun e => h2 e.2.1); exact ref20_same_D nl1 dd1 dd2 ac1 ac2 tm1 tm2 l1 l2 q1 q2 cap1 cap2 h2 h
 subst h2
 by_cases h3 : ac1 = ac2
 rotate_left
 · obtain rfl : r = false := hb (fun e => h3 e.2.2.1); exact ref20_same_A nl1 dd1 ac1 ac2 tm1 tm2 l1 l2 q1 q2 cap1 cap2 h3 h
 subst h3
 by_cases h4 : tm1 = tm2
 rotate_left
 · obtain rfl : r = false := hb (fun e => h4 e.2.2.2.1); exact ref20_same_T nl1 dd1 ac1 tm1 tm2 l1 l2 q1 q2 cap1 cap2 h4 h
 subst h4
 have hr2 : decide (l1.map PTop.pt = l2.map PTop.pt) = r := by
   rw [← hr]; exact decide_eq_decide.mpr ⟨fun e => ⟨rfl, rfl, rfl, rfl, e⟩, fun e => e.2.2.2.2⟩
 exact ref20_same_M nl1 dd1 ac1 tm1 l1 l2 q1 q2 cap1 cap2 r hr2 hn hf1 hf2 hk1 hk2 h
set_option maxHeartbeats 8000000 in
set_option maxRecDepth 100000 in
theorem ref20_write (nl : Bool) (dd : Bs) (ac tm : Int) (l : List PTop) (q : Option Addr) (cap : Nat) (S : Bs) (hS : encPReq nl dd ac tm l = S) (h2 : S.length ≤ 9000000) (hdd : dd.length ≤ 32767) (hra : -9223372036854775808 ≤ ac ∧ ac < 9223372036854775808) (hrt : -9223372036854775808 ≤ tm ∧ tm < 9223372036854775808) (hll : l.length ≤ 1000000) (hf : ∀ x ∈ l, WrT x) {W0 w : World} {K : Know} {L : List Res} (hk : K.has (Know.ptops (.slice q l.length cap) l)) (h : St W0 w K L) :
  Calls Tryz.prog 16 #[.agg #[.bool nl, .string (bb dd), .int .i64 ac, .int .i64 tm, .slice q l.length cap]] w fun en w' => en = .returned (.string (bb S)) ∧ St W0 w' K L := by
 obtain ⟨rb, hrb⟩ : ∃ b, w.heap.size = b := ⟨_, rfl⟩; have g9 := h.allocRaw #[.bool nl, .string (bb dd), .int .i64 ac, .int .i64 tm, .slice q l.length cap] 40; rw [hrb] at g9; have H := Lib.hid g9; have HK := Lib.hid hk; have HF := Lib.hid hf; have HDD := Lib.hid hdd; have RA := Lib.hid hra; have RT := Lib.hid hrt; have RL := Lib.hid (show -9223372036854775808 ≤ (l.length : Int) ∧ (l.length : Int) < 9223372036854775808 by omega); have HS := Lib.hid h2; have hni : (l.length : Int) ≤ 1000000 := by omega
 obtain ⟨g0, hg0⟩ : ∃ y, encF 2 ⟨nl, dd⟩ = y := ⟨_, rfl⟩; obtain ⟨g1, hg1⟩ : ∃ y, beBytes ac 2 = y := ⟨_, rfl⟩; obtain ⟨g2, hg2⟩ : ∃ y, beBytes tm 4 = y := ⟨_, rfl⟩; obtain ⟨g3, hg3⟩ : ∃ y, beBytes (l.length : Int) 4 = y := ⟨_, rfl⟩; obtain ⟨y1, hy1⟩ : ∃ y, g0 ++ g1 = y := ⟨_, rfl⟩; obtain ⟨y2, hy2⟩ : ∃ y, y1 ++ g2 = y := ⟨_, rfl⟩; obtain ⟨y3, hy3⟩ : ∃ y, y2 ++ g3 = y := ⟨_, rfl⟩
 have hR : y3 ++ (l.drop 0).flatMap encPTop = S := by
  rw [← hS, ← hy3, ← hy2, ← hy1, ← hg0, ← hg1, ← hg2, ← hg3, List.drop_zero]
  rfl
 have l3 := len_ahead hR h2; have e3 := congrArg List.length hy3; have e2 := congrArg List.length hy2; have e1 := congrArg List.length hy1; rw [List.length_append] at e1 e2 e3; obtain ⟨q1, q2, q3⟩ : ¬ (9223372036854775807 < g0.length + g1.length) ∧ ¬ (9223372036854775807 < y1.length + g2.length) ∧ ¬ (9223372036854775807 < y2.length + g3.length) := by refine ⟨?_, ?_, ?_⟩ <;> omega
 have hcat1 : bb g0 ++ bb g1 = bb y1 := by rw [← hy1]; exact bb_append _ _
 have hcat2 : bb y1 ++ bb g2 = bb y2 := by rw [← hy2]; exact bb_append _ _
 have hcat3 : bb y2 ++ bb g3 = bb y3 := by rw [← hy3]; exact bb_append _ _
 have G0 := Lib.hid hg0; have G1 := Lib.hid hg1; have G2 := Lib.hid hg2; have G3 := Lib.hid hg3; have HR := Lib.hid hR
 have HKP := Lib.hid (show ∀ w', St W0 w' K (.raw rb #[.bool nl, .string (bb dd), .int .i64 ac, .int .i64 tm, .slice q l.length cap] 40 :: L) → (w'.cell? ⟨rb, 0, none⟩ = some (.bool nl) ∧ w'.cell? ⟨rb, 1, none⟩ = some (.string (bb dd)) ∧ w'.cell? ⟨rb, 2, none⟩ = some (.int .i64 ac) ∧ w'.cell? ⟨rb, 3, none⟩ = some (.int .i64 tm) ∧ w'.cell? ⟨rb, 4, none⟩ = some (.slice q l.length cap)) from fun w' hs => by
  have a0 := hs.rawCell 0; have a1 := hs.rawCell 1; have a2 := hs.rawCell 2; have a3 := hs.rawCell 3; have a4 := hs.rawCell 4; simp at a0 a1 a2 a3 a4
  exact ⟨a0, a1, a2, a3, a4⟩)
 clear h g9 hk hf hdd hra hrt hll hS h2 hg0 hg1 hg2 hg3 hy1 hy2 hy3 hR l3 e1 e2 e3; go_enter Tryz.func16, Tryz.ntmps16; go_wp2_with fail; go_cut [3] (fun s3 wx => s3 = .string (bb y3) ∧ St W0 wx K (.raw rb #[.bool nl, .string (bb dd), .int .i64 ac, .int .i64 tm, .slice q l.length cap] 40 :: L))
 case first =>
  have hs := H.out.drew; refine wp_region_held_drew (S := fun w' => w'.cell? ⟨rb, 0, none⟩ = some (.bool nl) ∧ w'.cell? ⟨rb, 1, none⟩ = some (.string (bb dd)) ∧ w'.cell? ⟨rb, 2, none⟩ = some (.int .i64 ac) ∧ w'.cell? ⟨rb, 3, none⟩ = some (.int .i64 tm) ∧ w'.cell? ⟨rb, 4, none⟩ = some (.slice q l.length cap)) (by kernel_rfl) (HKP.out _ hs) (fun hHeld => ?_); refine tQ 0 ⟨some 9, .fieldAddr 40 (.tmp 1) 0, 0, _, _, none⟩ ?_; simp only [Act.put, sA, sB, sC]; refine tQ 1 ⟨some 10, .load 23 (.tmp 9), 23, _, _, none⟩ ?_; simp only [Act.put, sA, sB, sC]; refine tQ 3 ⟨some 12, .fieldAddr 40 (.tmp 1) 1, 0, _, _, none⟩ ?_; simp only [Act.put, sA, sB, sC]; refine tQ 4 ⟨some 13, .load 3 (.tmp 12), 3, _, _, none⟩ ?_; simp only [Act.put, sA, sB, sC]; refine tQ 7 ⟨some 16, .fieldAddr 40 (.tmp 1) 2, 0, _, _, none⟩ ?_; simp only [Act.put, sA, sB, sC]; refine tQ 8 ⟨some 17, .load 3 (.tmp 16), 3, _, _, none⟩ ?_; simp only [Act.put, sA, sB, sC]; refine tQ 11 ⟨some 20, .fieldAddr 40 (.tmp 1) 3, 0, _, _, none⟩ ?_; simp only [Act.put, sA, sB, sC]; refine tQ 12 ⟨some 21, .load 38 (.tmp 20), 38, _, _, none⟩ ?_; simp only [Act.put, sA, sB, sC]; refine tQ 13 ⟨some 22, .call { callee := .builtin .len, args := #[.tmp 21], argTypes := #[38] }, 3, _, _, none⟩ ?_; simp only [Act.put, sA, sB, sC]; refine wpAnyH_ready (rs := [2]) (by kernel_rfl) (by simp) (AllReadyH.cons (o := ⟨some 11, .call { callee := .value (.func 48), args := #[.tmp 10, .const (Value.int IntKind.i64 2)], argTypes := #[23, 3] }, 9, _, _, none⟩) rfl (fun KK hK => ?_) AllReadyH.nil); go_simp; go_at_call 48; with_reducible refine (pfix2 nl dd g0 G0.out HDD.out hs).mono ?_; rintro e wq ⟨rfl, hs⟩; refine hK.out _ _ (HKP.out _ hs) (fun hHeld => ?_); clear hK KK
  try simp only [Act.put, sA, sB, sC]
  refine wpAnyH_ready (rs := [5]) (by kernel_rfl) (by simp) (AllReadyH.cons (o := ⟨some 14, .call { callee := .value (.func 49), args := #[.tmp 13, .const (Value.int IntKind.i64 2)], argTypes := #[3, 3] }, 9, _, _, none⟩) rfl (fun KK hK => ?_) AllReadyH.nil); go_simp; go_at_call 49; with_reducible refine (pby ac 2 2 rfl (by decide) g1 G1.out RA.out hs).mono ?_; rintro e wq ⟨rfl, hs⟩; refine hK.out _ _ (HKP.out _ hs) (fun hHeld => ?_); clear hK KK
  try simp only [Act.put, sA, sB, sC]
  refine tQ 6 ⟨some 15, .binOp .add 9 (.tmp 11) (.tmp 14) 9, 9, _, _, none⟩ ?_; simp only [Act.put, sA, sB, sC]; refine wpAnyH_ready (rs := [9]) (by kernel_rfl) (by simp) (AllReadyH.cons (o := ⟨some 18, .call { callee := .value (.func 49), args := #[.tmp 17, .const (Value.int IntKind.i64 4)], argTypes := #[3, 3] }, 9, _, _, none⟩) rfl (fun KK hK => ?_) AllReadyH.nil); go_simp; go_at_call 49; with_reducible refine (pby tm 4 4 rfl (by decide) g2 G2.out RT.out hs).mono ?_; rintro e wq ⟨rfl, hs⟩; refine hK.out _ _ (HKP.out _ hs) (fun hHeld => ?_); clear hK KK
  try simp only [Act.put, sA, sB, sC]
  refine tQ 10 ⟨some 19, .binOp .add 9 (.tmp 15) (.tmp 18) 9, 9, _, _, none⟩ ?_; simp only [Act.put, sA, sB, sC]; refine wpAnyH_ready (rs := [14]) (by kernel_rfl) (by simp) (AllReadyH.cons (o := ⟨some 23, .call { callee := .value (.func 49), args := #[.tmp 22, .const (Value.int IntKind.i64 4)], argTypes := #[3, 3] }, 9, _, _, none⟩) rfl (fun KK hK => ?_) AllReadyH.nil); go_simp; go_at_call 49; with_reducible refine (pby l.length 4 4 rfl (by decide) g3 G3.out RL.out hs).mono ?_; rintro e wq ⟨rfl, hs⟩; refine hK.out _ _ (HKP.out _ hs) (fun hHeld => ?_); clear hK KK
  try simp only [Act.put, sA, sB, sC]
  refine tQ 15 ⟨some 24, .binOp .add 9 (.tmp 19) (.tmp 23) 9, 9, _, _, none⟩ ?_; simp only [Act.put, sA, sB, sC]; refine tQ 16 ⟨some 3, .assign (.tmp 24), 9, _, _, none⟩ ?_; simp only [Act.put, sA, sB, sC]; refine wpAnyH_done (by kernel_rfl) ?_ _; clear hHeld; go_wp2_with fail; go_meet; exact ⟨rfl, hs⟩
 obtain ⟨rfl, h⟩ := hcut; clear H HKP hcat1 hcat2 hcat3 q1 q2 q3 G0 G1 G2 G3; have H := Lib.hid h; clear h; go_wp2_with fail; go_loopw [3, 4] (fun sv iv wr => ∃ (k : Nat) (E : Bs), k ≤ l.length ∧ iv = .int .i64 k ∧ sv = .string (bb E) ∧ Hid (E ++ (l.drop k).flatMap encPTop = S) ∧ St W0 wr K (.raw rb #[.bool nl, .string (bb dd), .int .i64 ac, .int .i64 tm, .slice q l.length cap] 40 :: L)) (fun _ iv _ => l.length - (intOf iv).toNat)
 case atStart => exact ⟨0, y3, Nat.zero_le _, rfl, rfl, HR, H.out⟩
 case round =>
  obtain ⟨k, E, hkl, rfl, rfl, HE, hst⟩ := hrel; clear H HR; have H := Lib.hid hst; clear hst; have z4 := H.out.rawCell 4; simp at z4
  by_cases hlt : k < l.length
  · obtain ⟨bk, off, hqq⟩ := ptops_at HK.out H.out (by omega); obtain ⟨x, hx⟩ : ∃ x, l[k] = x := ⟨_, rfl⟩; have hmem : x ∈ l := hx ▸ List.getElem_mem hlt; have hpx := HF.out x hmem; have HK' := HK.out; rw [hqq] at HK'; obtain ⟨c0, c1⟩ := ptops_cell HK' H.out k hlt x hx; have HXK0 := ptops_parts HK.out hmem; have he := HE.out; rw [flat_cut encPTop l k hlt x hx] at he; have hkn : (k : Int) < (l.length : Int) := by omega
    obtain ⟨nm, xl, xq, xcap⟩ := x; simp only at c0 c1 HXK0; obtain ⟨h0, hh0⟩ : ∃ y, encF 2 ⟨false, nm⟩ = y := ⟨_, rfl⟩; obtain ⟨h1, hh1⟩ : ∃ y, beBytes (xl.length : Int) 4 = y := ⟨_, rfl⟩; obtain ⟨B1, hB1⟩ : ∃ B, E ++ h0 = B := ⟨_, rfl⟩; obtain ⟨B2, hB2⟩ : ∃ B, B1 ++ h1 = B := ⟨_, rfl⟩
    have hI : B2 ++ ((xl.drop 0).flatMap encPart ++ (l.drop (k + 1)).flatMap encPTop) = S := by
     rw [← he, ← hB2, ← hB1, ← hh0, ← hh1, List.drop_zero]; unfold encPTop; simp only [List.append_assoc]
     rfl
    have lI := len_ahead hI HS.out; have eB2 := congrArg List.length hB2; have eB1 := congrArg List.length hB1; rw [List.length_append] at eB1 eB2; obtain ⟨q1, q2⟩ : ¬ (9223372036854775807 < E.length + h0.length) ∧ ¬ (9223372036854775807 < B1.length + h1.length) := by refine ⟨?_, ?_⟩ <;> omega
    have hcat1 : bb E ++ bb h0 = bb B1 := by rw [← hB1]; exact bb_append _ _
    have hcat2 : bb B1 ++ bb h1 = bb B2 := by rw [← hB2]; exact bb_append _ _
    have hxl : xl.length ≤ 10000000 := by
     have h9 := congrArg List.length hI; rw [List.length_append, List.length_append, List.drop_zero] at h9; have h8 : 8 * xl.length ≤ (xl.flatMap encPart).length := encParts_len xl; have h7 := HS.out
     omega
    have hxi : (xl.length : Int) ≤ 10000000 := by omega
    have RX := Lib.hid (show -9223372036854775808 ≤ (xl.length : Int) ∧ (xl.length : Int) < 9223372036854775808 by omega); have H0 := Lib.hid hh0; have H1 := Lib.hid hh1; have HI := Lib.hid hI; have HNM := Lib.hid (show nm.length ≤ 32767 from hpx.name); have HXK := Lib.hid HXK0; have HPP := Lib.hid (show ∀ y ∈ xl, WrP y from hpx.parts); subst hqq; obtain ⟨tb, htb⟩ : ∃ b, wr.heap.size = b := ⟨_, rfl⟩; have h := H.out.allocRaw #[.string (bb nm), .slice xq xl.length xcap] 83; rw [htb] at h; clear H; have H := Lib.hid h
    have HKP := Lib.hid (show ∀ w', St W0 w' K (.raw tb #[.string (bb nm), .slice xq xl.length xcap] 83 :: .raw rb #[.bool nl, .string (bb dd), .int .i64 ac, .int .i64 tm, .slice (some ⟨bk, off, none⟩) l.length cap] 40 :: L) → (w'.cell? ⟨tb, 0, none⟩ = some (.string (bb nm)) ∧ w'.cell? ⟨tb, 1, none⟩ = some (.slice xq xl.length xcap)) from fun w' hs => by
     have a0 := hs.rawCell 0; have a1 := hs.rawCell 1; simp at a0 a1
     exact ⟨a0, a1⟩)
    clear h hx hmem hpx HK' HXK0 he hxl hh0 hh1 hB1 hB2 hI lI eB1 eB2; go_wp2_with fail; go_cut [3] (fun s3 wx => s3 = .string (bb B2) ∧ St W0 wx K (.raw tb #[.string (bb nm), .slice xq xl.length xcap] 83 :: .raw rb #[.bool nl, .string (bb dd), .int .i64 ac, .int .i64 tm, .slice (some ⟨bk, off, none⟩) l.length cap] 40 :: L))
    case first =>
     have hs := H.out.drew; refine wp_region_held_drew (S := fun w' => w'.cell? ⟨tb, 0, none⟩ = some (.string (bb nm)) ∧ w'.cell? ⟨tb, 1, none⟩ = some (.slice xq xl.length xcap)) (by kernel_rfl) (HKP.out _ hs) (fun hHeld => ?_); refine tQ 0 ⟨some 37, .move (.tmp 3), 9, _, _, none⟩ ?_; simp only [Act.put, sA, sB, sC]; refine tQ 1 ⟨some 38, .fieldAddr 83 (.tmp 5) 0, 0, _, _, none⟩ ?_; simp only [Act.put, sA, sB, sC]; refine tQ 2 ⟨some 39, .load 9 (.tmp 38), 9, _, _, none⟩ ?_; simp only [Act.put, sA, sB, sC]; refine tQ 3 ⟨some 40, .build 23 #[(1, .tmp 39)], 23, _, _, none⟩ ?_; simp only [Act.put, sA, sB, sC]; refine tQ 6 ⟨some 43, .fieldAddr 83 (.tmp 5) 1, 0, _, _, none⟩ ?_; simp only [Act.put, sA, sB, sC]; refine tQ 7 ⟨some 44, .load 81 (.tmp 43), 81, _, _, none⟩ ?_; simp only [Act.put, sA, sB, sC]; refine tQ 8 ⟨some 45, .call { callee := .builtin .len, args := #[.tmp 44], argTypes := #[81] }, 3, _, _, none⟩ ?_; simp only [Act.put, sA, sB, sC]; refine wpAnyH_ready (rs := [4]) (by kernel_rfl) (by simp) (AllReadyH.cons (o := ⟨some 41, .call { callee := .value (.func 48), args := #[.tmp 40, .const (Value.int IntKind.i64 2)], argTypes := #[23, 3] }, 9, _, _, none⟩) rfl (fun KK hK => ?_) AllReadyH.nil); go_simp; go_at_call 48; with_reducible refine (pfix2 false nm h0 H0.out HNM.out hs).mono ?_; rintro e wq ⟨rfl, hs⟩; refine hK.out _ _ (HKP.out _ hs) (fun hHeld => ?_); clear hK KK
     try simp only [Act.put, sA, sB, sC]
     refine tQ 5 ⟨some 42, .binOp .add 9 (.tmp 37) (.tmp 41) 9, 9, _, _, none⟩ ?_; simp only [Act.put, sA, sB, sC]; refine wpAnyH_ready (rs := [9]) (by kernel_rfl) (by simp) (AllReadyH.cons (o := ⟨some 46, .call { callee := .value (.func 49), args := #[.tmp 45, .const (Value.int IntKind.i64 4)], argTypes := #[3, 3] }, 9, _, _, none⟩) rfl (fun KK hK => ?_) AllReadyH.nil); go_simp; go_at_call 49; with_reducible refine (pby xl.length 4 4 rfl (by decide) h1 H1.out RX.out hs).mono ?_; rintro e wq ⟨rfl, hs⟩; refine hK.out _ _ (HKP.out _ hs) (fun hHeld => ?_); clear hK KK
     try simp only [Act.put, sA, sB, sC]
     refine tQ 10 ⟨some 47, .binOp .add 9 (.tmp 42) (.tmp 46) 9, 9, _, _, none⟩ ?_; simp only [Act.put, sA, sB, sC]; refine tQ 11 ⟨some 3, .assign (.tmp 47), 9, _, _, none⟩ ?_; simp only [Act.put, sA, sB, sC]; refine wpAnyH_done (by kernel_rfl) ?_ _; clear hHeld; go_wp2_with fail; go_meet; exact ⟨rfl, hs⟩
    obtain ⟨rfl, h⟩ := hcut; clear H HKP hcat1 hcat2 q1 q2 H0 H1 z4 c0 c1; have H := Lib.hid h; clear h; go_wp2_with fail; go_loopw [3, 6] (fun sv jv wr => ∃ (j : Nat) (G : Bs), j ≤ xl.length ∧ jv = .int .i64 j ∧ sv = .string (bb G) ∧ Hid (G ++ ((xl.drop j).flatMap encPart ++ (l.drop (k + 1)).flatMap encPTop) = S) ∧ St W0 wr K (.raw tb #[.string (bb nm), .slice xq xl.length xcap] 83 :: .raw rb #[.bool nl, .string (bb dd), .int .i64 ac, .int .i64 tm, .slice (some ⟨bk, off, none⟩) l.length cap] 40 :: L)) (fun _ jv _ => xl.length - (intOf jv).toNat)
    case atStart => exact ⟨0, B2, Nat.zero_le _, rfl, rfl, HI, H.out⟩
    case round =>
     obtain ⟨j, G, hjl, rfl, rfl, HG, hst⟩ := hrel; clear H HI; have H := Lib.hid hst; clear hst; have t1 := H.out.rawCell 1; simp at t1
     by_cases hjt : j < xl.length
     · obtain ⟨pk, poff, hpq⟩ := pparts_at HXK.out H.out (by omega); subst hpq; obtain ⟨y, hy⟩ : ∃ y, xl[j] = y := ⟨_, rfl⟩; have hmem : y ∈ xl := hy ▸ List.getElem_mem hjt; have hpy := HPP.out y hmem; have HYK0 := pparts_bats HXK.out hmem; have hg := HG.out; rw [flat_cut encPart xl j hjt y hy] at hg; have hjn : (j : Int) < (xl.length : Int) := by omega
       have HY := Lib.hid hy; obtain ⟨yi, yl, yq, ycap⟩ := y; simp only at HYK0; obtain ⟨al, hal⟩ : ∃ y, encB yl = y := ⟨_, rfl⟩; obtain ⟨k1, hk1⟩ : ∃ y, beBytes yi 4 = y := ⟨_, rfl⟩; obtain ⟨k2, hk2⟩ : ∃ y, encF 4 ⟨false, al⟩ = y := ⟨_, rfl⟩; obtain ⟨D1, hD1⟩ : ∃ B, G ++ k1 = B := ⟨_, rfl⟩; obtain ⟨D2, hD2⟩ : ∃ B, D1 ++ k2 = B := ⟨_, rfl⟩
       have hI : D2 ++ ((xl.drop (j + 1)).flatMap encPart ++ (l.drop (k + 1)).flatMap encPTop) = S := by
        rw [← hg, ← hD2, ← hD1, ← hk1, ← hk2, ← hal]; unfold encPart; simp only [List.append_assoc]
        rfl
       have lI := len_ahead hI HS.out; have eD2 := congrArg List.length hD2; have eD1 := congrArg List.length hD1; have ek2 := congrArg List.length hk2; rw [List.length_append] at eD1 eD2; have hka : al.length ≤ k2.length := by rw [← ek2]; show al.length ≤ (beBytes _ _ ++ al).length; rw [List.length_append]; omega
       have hal4 : al.length ≤ 9000000 := by omega
       obtain ⟨q1, q2⟩ : ¬ (9223372036854775807 < G.length + k1.length) ∧ ¬ (9223372036854775807 < D1.length + k2.length) := by refine ⟨?_, ?_⟩ <;> omega
       have hcat1 : bb G ++ bb k1 = bb D1 := by rw [← hD1]; exact bb_append _ _
       have hcat2 : bb D1 ++ bb k2 = bb D2 := by rw [← hD2]; exact bb_append _ _
       have hyl : yl.length ≤ 9000000 := by
        have h9 : 61 * yl.length ≤ (encB yl).length := encB_ge61 yl; rw [hal] at h9
        omega
       have hyi : (yl.length : Int) ≤ 9000000 := by omega
       have K1 := Lib.hid hk1; have K2_ := Lib.hid hk2; have HI := Lib.hid hI; have HAL := Lib.hid hal; have HALN := Lib.hid hal4; have HAL4 := Lib.hid (show al.length ≤ 100000000 by omega); have HYK := Lib.hid HYK0; have HYI := Lib.hid (show -9223372036854775808 ≤ yi ∧ yi < 9223372036854775808 from hpy.idx); have HYB := Lib.hid (show ∀ z ∈ yl, z.l.map (·.1) = z.b.recs ∧ SmallOk z.b from hpy.bats); clear hy hmem hpy HYK0 hg hk1 hk2 hD1 hD2 hI lI eD1 eD2 ek2 hka hal4 hyl hal; go_wp2_with fail; clear t1; go_loopw [7, 8] (fun av mv wr => ∃ (m : Nat) (A : Bs), m ≤ yl.length ∧ mv = .int .i64 m ∧ av = .string (bb A) ∧ Hid (A ++ encB (yl.drop m) = al) ∧ St W0 wr K (.raw tb #[.string (bb nm), .slice (some ⟨pk, poff, none⟩) xl.length xcap] 83 :: .raw rb #[.bool nl, .string (bb dd), .int .i64 ac, .int .i64 tm, .slice (some ⟨bk, off, none⟩) l.length cap] 40 :: L)) (fun _ mv _ => yl.length - (intOf mv).toNat)
       case atStart => exact ⟨0, [], Nat.zero_le _, rfl, rfl, Lib.hid (by rw [List.drop_zero]; exact HAL.out), H.out⟩
       case round =>
        obtain ⟨m, A, hml, rfl, rfl, HA, hst⟩ := hrel; clear H; have H := Lib.hid hst; clear hst; have t1 := H.out.rawCell 1; simp at t1; obtain ⟨d0, d1⟩ := pparts_cell HXK.out H.out j hjt _ HY.out; simp only at d0 d1
        by_cases hmt : m < yl.length
        · obtain ⟨tk, toff, htq⟩ := bats_at HYK.out H.out (by omega); subst htq; obtain ⟨z, hz⟩ : ∃ z, yl[m] = z := ⟨_, rfl⟩; have hmem : z ∈ yl := hz ▸ List.getElem_mem hmt; obtain ⟨hz1, hz2⟩ := HYB.out z hmem; obtain ⟨c0, c1, c2, c3, c4, c5, c6, c7, c8, c9, c10, c11⟩ := bats_cell HYK.out H.out m hmt z hz; have HZK := Lib.hid (bats_recs HYK.out hmem); have hmn : (m : Int) < (yl.length : Int) := by omega
          obtain ⟨en1, hen1⟩ : ∃ y, z.b.enc = y := ⟨_, rfl⟩; obtain ⟨A2, hA2⟩ : ∃ y, A ++ en1 = y := ⟨_, rfl⟩
          have hI2 : A2 ++ encB (yl.drop (m + 1)) = al := by
           rw [← HA.out, ← hA2, ← hen1, List.append_assoc, ← encB_cons, List.drop_eq_getElem_cons hmt, hz]
          have eA2 := congrArg List.length hA2; rw [List.length_append] at eA2; have lA := congrArg List.length hI2; rw [List.length_append] at lA; have q3 : ¬ (9223372036854775807 < A.length + en1.length) := by have := HALN.out; omega
          have hcat3 : bb A ++ bb en1 = bb A2 := by rw [← hA2]; exact bb_append _ _
          have HEN := Lib.hid hen1; have HZ1 := Lib.hid hz1; have HZ2 := Lib.hid hz2; have HI2 := Lib.hid hI2; clear hz hmem hz1 hz2 hen1 hA2 hI2 eA2 lA; go_wp2_with (go_at_call 50; (try clear c0 c1 c2 c3 c4 c5 c6 c7 c8 c9 c10 c11); (with_reducible refine (ref11_encode z.b en1 HEN.out z.l z.q z.cap HZ1.out HZ2.out HZK.out H.out).mono ?_); rintro e_ wn ⟨rfl, h⟩; replace H := Lib.hid h; clear h); go_roundw
          case rel => exact ⟨m + 1, A2, hmt, by go_num, rfl, HI2, H.out⟩
          case measure => first | (simp [intOf]; done) | (simp [intOf]; omega)
        · obtain rfl : m = yl.length := by omega
          have ha := HA.out; rw [List.drop_length, show encB [] = [] from rfl, List.append_nil] at ha; have ha := ha.symm; subst ha
          go_wp2_with (first
  | (go_at_call 49; (try clear d0 t1); (with_reducible refine (pby yi 4 4 rfl (by decide) k1 K1.out HYI.out H.out).mono ?_); rintro e_ wn ⟨rfl, h⟩; replace H := Lib.hid h; clear h)
  | (go_at_call 48; (with_reducible refine (pfix4 al k2 K2_.out HAL4.out H.out).mono ?_); rintro e_ wn ⟨rfl, h⟩; replace H := Lib.hid h; clear h))
          go_roundw
          case rel => exact ⟨j + 1, D2, hjt, by go_num, rfl, HI, H.out⟩
          case measure => first | (simp [intOf]; done) | (simp [intOf]; omega)
     · obtain rfl : j = xl.length := by omega
       have HE2 := Lib.hid (show G ++ (l.drop (k + 1)).flatMap encPTop = S by have hg := HG.out; rw [List.drop_length] at hg; exact hg); go_wp2_with fail; go_roundw
       case rel => exact ⟨k + 1, G, hlt, by go_num, rfl, HE2, H.out.drop⟩
       case measure => first | (simp [intOf]; done) | (simp [intOf]; omega)
  · obtain rfl : k = l.length := by omega
    have he := HE.out; rw [List.drop_length, List.flatMap_nil, List.append_nil] at he; subst he; go_wp2_with fail; go_ret; exact ⟨rfl, H.out.drop⟩
theorem cells_int : Tryz.prog.cellsOf 3 = 1 := by kernel_rfl
theorem cells_str : Tryz.prog.cellsOf 9 = 1 := by kernel_rfl
theorem len2 {α : Type} {l : List α} (h : l.length = 2) : ∃ a b, l = [a, b] := by
 match l, h with
 | [a, b], _ => exact ⟨a, b, rfl⟩
theorem len3 {α : Type} {l : List α} (h : l.length = 3) : ∃ a b c, l = [a, b, c] := by
 match l, h with
 | [a, b, c], _ => exact ⟨a, b, c, rfl⟩
open Go.ChangeShapes Go.WideShapes Go.ChangeAt Go.Deep

def Light {H : Type} (t : TypeId) (d : DataW H) : Prop := ∀ k ∈ d.weights Tryz.prog t, k ≤ reachBytes
theorem reach_eq : reachBytes = 140737488351232 := rfl

section
variable {H : Type} {enc : TypeId × Value → H} {w : World} {spare : Nat → Bool} {held : Bool}

theorem light_arg {ts : List TypeId} {ds : List (DataW H)} (h : (DataW.weightsEach Tryz.prog ts ds).all (· ≤ reachBytes) = true) {j : Nat} {t : TypeId} {d : DataW H} (ht : ts[j]? = some t) (hd : ds[j]? = some d) : Light t d := by
 intro k hk; have := List.all_eq_true.1 h k (DataW.weights_mem_each ht hd k hk)
 simpa using this

theorem opens_field {t : TypeId} {fs : Array Field} {n N : Nat} {cs : List Value} {y : DataW H × List MemPlace} (ht : Tryz.prog.underlying t = some (.struct fs)) (h : DataW.trod enc Tryz.prog w 0 spare held n t cs = some y) (hl : Light t y.1) (hN : ∀ x ∈ y.2, x.block < N) :
  cs.length = Tryz.prog.cellsOf t ∧ ∃ m, ∀ (i : Nat) (f : Field), fs[i]? = some f → ∃ z, DataW.trod enc Tryz.prog w 0 spare held m f.type ((cs.drop f.offset).take (Tryz.prog.cellsOf f.type)) = some z ∧ Light f.type z.1 ∧ ∀ x ∈ z.2, x.block < N := by
 obtain ⟨xs, m, _, rfl, hc, hxl, hg⟩ := DataW.trod_struct ht h; refine ⟨hc, m, fun i f hf => ?_⟩; have hi : i < fs.size := (Array.getElem?_eq_some_iff.1 hf).1; have hx : xs[i]? = some (xs[i]'(by omega)) := List.getElem?_eq_getElem (by omega); refine ⟨_, (hg i f hf).trans hx, ?_, fun x hxx => hN x (List.mem_flatMap.2 ⟨_, List.getElem_mem _, hxx⟩)⟩; intro k hk; refine hl k ?_; simp only [DataW.weights, ht]; exact DataW.weights_mem_each (j := i) (by rw [List.getElem?_map, Array.getElem?_toList, hf]; rfl) (by rw [List.getElem?_map, hx]; rfl) k hk

theorem opens_str {t : TypeId} {n : Nat} {cs : List Value} {y : DataW H × List MemPlace} (ht : Tryz.prog.underlying t = some .string) (h : DataW.trod enc Tryz.prog w 0 spare held n t cs = some y) (hl : Light t y.1) : ∃ s : Bs, cs = [.string (bb s)] ∧ s.length ≤ 140737488351232 := by
 obtain ⟨s, e, e2, q⟩ := DataW.trod_string ht h; refine ⟨s.data.toList, e, ?_⟩; subst e2; have := hl s.data.toList.length (by simp [DataW.weights]); rw [reach_eq] at this; exact this
theorem opens_i64 {t : TypeId} {n : Nat} {cs : List Value} {y : DataW H × List MemPlace} (ht : Tryz.prog.underlying t = some (.int .i64)) (h : DataW.trod enc Tryz.prog w 0 spare held n t cs = some y) : ∃ x : Int, cs = [.int .i64 x] ∧ -9223372036854775808 ≤ x ∧ x < 9223372036854775808 := by
 obtain ⟨x, e, _, q⟩ := DataW.trod_int ht h; exact ⟨x, e, wf_i64 q⟩
theorem opens_bool {t : TypeId} {n : Nat} {cs : List Value} {y : DataW H × List MemPlace} (ht : Tryz.prog.underlying t = some .bool) (h : DataW.trod enc Tryz.prog w 0 spare held n t cs = some y) : ∃ x : Bool, cs = [.bool x] := by
 obtain ⟨x, e, _⟩ := DataW.trod_bool ht h; exact ⟨x, e⟩

theorem weightsAll_mem' {P : Program} {e : TypeId} : ∀ {l : List (DataW H)} {d : DataW H}, d ∈ l → ∀ k ∈ d.weights P e, k ∈ DataW.weightsAll P e l
  | a :: l, d, hd, k, hk => by
    simp only [DataW.weightsAll, List.mem_append]
    rcases List.mem_cons.1 hd with rfl | hd
    · exact .inl hk
    · exact .inr (weightsAll_mem' hd k hk)

theorem opens_rows {α : Type} {R : World → List Value → α → Prop} {t e : TypeId} {sz N : Nat} (ht : Tryz.prog.underlying t = some (.slice e)) (hC : Tryz.prog.cellsOf e = sz) (hsz : 0 < sz)
    (hR : ∀ n cs y, DataW.trod enc Tryz.prog w 0 spare held n e cs = some y → Light e y.1 → (∀ x ∈ y.2, x.block < N) → ∃ x, R w cs x)
    {fuel : Nat} {cs : List Value} {x : DataW H × List MemPlace} (h : DataW.trod enc Tryz.prog w 0 spare held fuel t cs = some x) (hl : Light t x.1) (hlt : ∀ y ∈ x.2, y.block < N) (hN : N ≤ w.heap.size) :
    ∃ v l, cs = [v] ∧ RowsOf R (· < N) w v sz l ∧ l.length * Tryz.prog.bytesOf e ≤ 140737488351232 ∧ l.length ≤ maxLen := by
  rcases open_slice ht h with ⟨rfl, rfl⟩ | ⟨a, len, cap, m, n, D, Pl, rfl, hb, hlc, hm, hmm, hx, hi⟩
  · exact ⟨_, [], rfl, ⟨none, 0, rfl, fun h => absurd h (by simp)⟩, by simp, by simp⟩
  · have hlm : len ≤ m := by rw [hmm]; split <;> omega
    have hp2 : x.2 = MemPlace.row a (m * Tryz.prog.cellsOf e) ++ (List.range m).flatMap Pl := by rw [hx]
    have hx1 : x.1 = .slice ((List.range len).map D) ((List.range (m - len)).map fun j => D (len + j)) := by rw [hx]
    have hsum : len * Tryz.prog.bytesOf e ≤ 140737488351232 := by
      have := hl (((List.range len).map D).length * Tryz.prog.bytesOf e + ((List.range (m - len)).map fun j => D (len + j)).length * Tryz.prog.bytesOf e) (by rw [hx1]; simp [DataW.weights, ht, Nat.add_mul]); rw [reach_eq] at this; simp only [List.length_map, List.length_range] at this
      omega
    have hle : ∀ i, i < len → Light e (D i) := by
      intro i hil k hk; refine hl k ?_; rw [hx1]; simp only [DataW.weights, ht, List.mem_cons, List.mem_append]; exact .inr (.inl (weightsAll_mem' (List.mem_map.2 ⟨i, List.mem_range.2 hil, rfl⟩) k hk))
    have key : ∀ i, i < len → ∃ y : α, ∃ cs', cs'.length = sz ∧ R w cs' y ∧ (∀ f u, cs'[f]? = some u → w.cell? ((a.add (i * sz)).add f) = some u) := by
      intro i hil; obtain ⟨cs', hc, htr⟩ := hi i (by omega); obtain ⟨_, hcl, hat⟩ := World.cells?_some hc; obtain ⟨y, hy⟩ := hR n cs' _ htr (hle i hil) (fun z hz => hlt z (by rw [hp2, List.mem_append]; exact .inr (List.mem_flatMap.2 ⟨i, by simp; omega, hz⟩))); rw [hC] at hcl hat; refine ⟨y, cs', hcl, hy, fun f u hu => ?_⟩; have hf : f < sz := by rw [← hcl]; exact (List.getElem?_eq_some_iff.1 hu).1
      rw [hat f hf, hu]
    obtain ⟨l, hll, hq⟩ := list_of len _ key; refine ⟨_, l, rfl, ⟨some a, cap, by rw [hll], fun h0 => ?_⟩, by rw [hll]; exact hsum, by omega⟩; obtain ⟨cs0, h1, h2, h3⟩ := hq 0 h0
    have hc0 : w.cell? a = some (cs0[0]'(by omega)) := by
      have := h3 0 _ (List.getElem?_eq_getElem (by omega))
      simpa [Addr.add] using this
    have hsp : a.spot = none := by
      cases hs : a.spot with
      | none => rfl
      | some s =>
        unfold World.cell? at hc0
        split at hc0 <;> simp_all
    obtain ⟨ab, ao, asp⟩ := a; simp only at hsp; subst hsp
    have hlt0 : ab < N := hlt (.cell ab ao) (by
      rw [hp2, List.mem_append]
      left
      simp only [MemPlace.row, List.mem_map, List.mem_range]
      exact ⟨0, by rw [hC]; exact Nat.mul_pos (by omega) hsz, by simp⟩)
    refine ⟨ab, ao, rfl, hlt0, Nat.lt_of_lt_of_le hlt0 hN, fun i hi => ?_⟩; obtain ⟨cs', g1, g2, g3⟩ := hq i hi; refine ⟨cs', g1, g2, fun f u hu => ?_⟩; have := g3 f u hu; have e1 : ∀ (o q : Nat), (⟨ab, o, none⟩ : Addr).add q = ⟨ab, o + q, none⟩ := by intro o q; unfold Addr.add; split <;> simp_all
    rw [e1, e1, Nat.add_assoc] at this; exact this
end

theorem RowsOf.part {α : Type} {R : World → List Value → α → Prop} {Q : α → Prop} {D : Nat → Prop} {w : World} {v : Value} {sz : Nat} {l : List α} (h : RowsOf (fun w cs x => R w cs x ∧ Q x) D w v sz l) : RowsOf R D w v sz l ∧ ∀ x ∈ l, Q x := by
 refine ⟨h.mono (fun _ _ h => h) (fun _ _ h => h.1), fun x hx => ?_⟩; obtain ⟨i, hi, rfl⟩ := List.mem_iff_getElem.1 hx; obtain ⟨p, cap, rfl, h⟩ := h; obtain ⟨b, off, rfl, _, _, hc⟩ := h (by omega); obtain ⟨cs, _, h2, _⟩ := hc i hi; exact h2.2

end Go.Proofs.YtnnnglklgofabaaGreat
namespace Go.Proofs.YtnnnglklgofabaaGreat
open Go.RowKit

open Go.ChangeShapes Go.WideShapes Go.ChangeAt Go.Deep

theorem cells_hdr : Tryz.prog.cellsOf 121 = 3 := by kernel_rfl
theorem cells_blob : Tryz.prog.cellsOf 23 = 2 := by kernel_rfl
theorem cells_bool : Tryz.prog.cellsOf 4 = 1 := by kernel_rfl
section
variable {H : Type} {enc : TypeId × Value → H} {w : World} {spare : Nat → Bool} {held : Bool}
end

end Go.Proofs.YtnnnglklgofabaaGreat
namespace Go.Proofs.YtnnnglklgofabaaGreat
open Go.RowKit
open Go.ChangeShapes Go.WideShapes Go.ChangeAt Go.Deep

section
variable {H : Type} {enc : TypeId × Value → H} {w : World} {spare : Nat → Bool} {held : Bool}
theorem zq12 {p : Prop} (h : p := by intro n cs y h hl hN; obtain ⟨hc, m, hf⟩ := opens_field Tryz.underlying23 h hl hN; rw [cells_blob] at hc; obtain ⟨a, b, rfl⟩ := len2 hc; obtain ⟨z0, g0, l0, _⟩ := hf 0 _ rfl; obtain ⟨z1, g1, l1, _⟩ := hf 1 _ rfl; have g0 : DataW.trod enc Tryz.prog w 0 spare held m 4 (List.take (Tryz.prog.cellsOf 4) (List.drop 0 [a, b])) = some z0 := g0; have g1 : DataW.trod enc Tryz.prog w 0 spare held m 9 (List.take (Tryz.prog.cellsOf 9) (List.drop 1 [a, b])) = some z1 := g1; rw [cells_bool] at g0; rw [cells_str] at g1; obtain ⟨x, e0⟩ := opens_bool Tryz.underlying4 g0; obtain ⟨s, e1, hs⟩ := opens_str Tryz.underlying9 g1 l1; simp at e0 e1; subst e0 e1; exact ⟨⟨x, s⟩, rfl, hs⟩) : p := h
set_option maxRecDepth 100000 in
theorem blob_opens {N : Nat} : ∀ n cs y, DataW.trod enc Tryz.prog w 0 spare held n 23 cs = some y → Light 23 y.1 → (∀ x ∈ y.2, x.block < N) → ∃ x : BlobS, cs = [.bool x.null, .string (bb x.data)] ∧ x.data.length ≤ 140737488351232 := by
 exact zq12
set_option maxRecDepth 100000 in
theorem rhdr_opens {N : Nat} : ∀ n cs y, DataW.trod enc Tryz.prog w 0 spare held n 121 cs = some y → Light 121 y.1 → (∀ x ∈ y.2, x.block < N) → ∃ x : HdrS, RHdr cs x ∧ (x.key.length ≤ 140737488351232 ∧ x.val.data.length ≤ 140737488351232) := by
 intro n cs y h hl hN; obtain ⟨hc, m, hf⟩ := opens_field Tryz.underlying121 h hl hN; rw [cells_hdr] at hc; obtain ⟨a, b, c, rfl⟩ := len3 hc; obtain ⟨z0, g0, l0, n0⟩ := hf 0 _ rfl; obtain ⟨z1, g1, l1, n1⟩ := hf 1 _ rfl; have g0 : DataW.trod enc Tryz.prog w 0 spare held m 9 (List.take (Tryz.prog.cellsOf 9) (List.drop 0 [a, b, c])) = some z0 := g0; have g1 : DataW.trod enc Tryz.prog w 0 spare held m 23 (List.take (Tryz.prog.cellsOf 23) (List.drop 1 [a, b, c])) = some z1 := g1; rw [cells_str] at g0; rw [cells_blob] at g1; obtain ⟨s, e0, hs⟩ := opens_str Tryz.underlying9 g0 l0; obtain ⟨x, e1, hx⟩ := blob_opens _ _ _ g1 l1 n1; simp at e0 e1; obtain ⟨e1, e2⟩ := e1; subst e0 e1 e2; exact ⟨⟨s, x⟩, rfl, hs, hx⟩
end

end Go.Proofs.YtnnnglklgofabaaGreat
namespace Go.Proofs.YtnnnglklgofabaaGreat
open Go.RowKit

end Go.Proofs.YtnnnglklgofabaaGreat
namespace Go.Proofs.YtnnnglklgofabaaGreat
open Go.Joins Go.RowKit
open Go.ChangeShapes Go.WideShapes Go.ChangeAt Go.Deep

theorem cells_rec : Tryz.prog.cellsOf 119 = 7 := by kernel_rfl
theorem cells_hdrs : Tryz.prog.cellsOf 117 = 1 := by kernel_rfl
section
variable {H : Type} {enc : TypeId × Value → H} {w : World} {spare : Nat → Bool} {held : Bool}
end
end Go.Proofs.YtnnnglklgofabaaGreat
namespace Go.Proofs.YtnnnglklgofabaaGreat
open Go.RowKit

def GoodR (l : List (RecS × Value)) : Prop := ∀ x ∈ l, smallR x.1 = 1 ∧ recOk x.1 = 0
theorem GoodR.nil : GoodR [] := fun _ h => by cases h
def FitR (l : List (RecS × Value)) : Prop := ∀ x ∈ l, x.1.R ∧ x.1.hdrs.length ≤ 9223372036854775807 ∧ HFit x.1.hdrs ∧ x.1.key.data.length ≤ 140737488351232 ∧ x.1.val.data.length ≤ 140737488351232
end Go.Proofs.YtnnnglklgofabaaGreat
namespace Go.Proofs.YtnnnglklgofabaaGreat
open Go.Joins Go.RowKit
open Go.ChangeShapes Go.WideShapes Go.ChangeAt Go.Deep

def QRec (W : World) (x : RecS × Value) : Prop := RowsOf (fun _ cs x => RHdr cs x) (· < W.heap.size) W x.2 3 x.1.hdrs ∧ x.1.R ∧ x.1.hdrs.length ≤ 9223372036854775807 ∧ HFit x.1.hdrs ∧ x.1.key.data.length ≤ 140737488351232 ∧ x.1.val.data.length ≤ 140737488351232
theorem QRec.fit {W : World} {l : List (RecS × Value)} (h : ∀ x ∈ l, QRec W x) : FitR l := fun x hx => (h x hx).2
theorem QRec.start {W : World} {v : Value} {l : List (RecS × Value)} (hr : RowsOf (fun _ cs x => RRec cs x) (· < W.heap.size) W v 7 l) (h : ∀ x ∈ l, QRec W x) : St W W (Know.recs v l) [] := St.start ⟨hr, fun x hx => (h x hx).1⟩
section
variable {H : Type} {enc : TypeId × Value → H} {w : World} {spare : Nat → Bool} {held : Bool}
set_option maxHeartbeats 1000000 in
set_option maxRecDepth 100000 in
theorem rrec_opens : ∀ n cs y, DataW.trod enc Tryz.prog w 0 spare held n 119 cs = some y → Light 119 y.1 → (∀ x ∈ y.2, x.block < w.heap.size) → ∃ x : RecS × Value, RRec cs x ∧ QRec w x := by
 intro n cs y hf hl hN; have hNw : w.heap.size ≤ w.heap.size := Nat.le_refl _; obtain ⟨hc, m, hg⟩ := opens_field Tryz.underlying119 hf hl hN; rw [cells_rec] at hc
 match cs, hc with
 | [c0, c1, c2, c3, c4, c5, c6], _ =>
  obtain ⟨z0, g0, l0, n0⟩ := hg 0 _ rfl; have g0 : DataW.trod enc Tryz.prog w 0 spare held m 3 (List.take (Tryz.prog.cellsOf 3) (List.drop 0 [c0, c1, c2, c3, c4, c5, c6])) = some z0 := g0; rw [cells_int] at g0; obtain ⟨z1, g1, l1, n1⟩ := hg 1 _ rfl; have g1 : DataW.trod enc Tryz.prog w 0 spare held m 3 (List.take (Tryz.prog.cellsOf 3) (List.drop 1 [c0, c1, c2, c3, c4, c5, c6])) = some z1 := g1; rw [cells_int] at g1; obtain ⟨z2, g2, l2, n2⟩ := hg 2 _ rfl; have g2 : DataW.trod enc Tryz.prog w 0 spare held m 23 (List.take (Tryz.prog.cellsOf 23) (List.drop 2 [c0, c1, c2, c3, c4, c5, c6])) = some z2 := g2; rw [cells_blob] at g2; obtain ⟨z3, g3, l3, n3⟩ := hg 3 _ rfl; have g3 : DataW.trod enc Tryz.prog w 0 spare held m 23 (List.take (Tryz.prog.cellsOf 23) (List.drop 4 [c0, c1, c2, c3, c4, c5, c6])) = some z3 := g3; rw [cells_blob] at g3; obtain ⟨z4, g4, l4, n4⟩ := hg 4 _ rfl; have g4 : DataW.trod enc Tryz.prog w 0 spare held m 117 (List.take (Tryz.prog.cellsOf 117) (List.drop 6 [c0, c1, c2, c3, c4, c5, c6])) = some z4 := g4; rw [cells_hdrs] at g4; obtain ⟨x0, e0, r0⟩ := opens_i64 Tryz.underlying3 g0; obtain ⟨x1, e1, r1⟩ := opens_i64 Tryz.underlying3 g1; obtain ⟨x2, e2, s2⟩ := blob_opens _ _ _ g2 l2 n2; obtain ⟨x3, e3, s3⟩ := blob_opens _ _ _ g3 l3 n3; obtain ⟨v6, x4, e4, hr, _, hm⟩ := opens_rows (R := fun w cs x => (fun _ cs x => RHdr cs x) w cs x ∧ (fun x : HdrS => x.key.length ≤ 140737488351232 ∧ x.val.data.length ≤ 140737488351232) x) (N := w.heap.size) Tryz.underlying117 cells_hdr (by decide) rhdr_opens g4 l4 n4 hNw; obtain ⟨hr1, hq⟩ := hr.part; simp at e0 e1 e2 e3 e4; obtain ⟨e2a, e2b⟩ := e2; obtain ⟨e3a, e3b⟩ := e3; subst e0 e1 e2a e2b e3a e3b e4; have hm2 : x4.length ≤ 9223372036854775807 := hm; exact ⟨(⟨x0, x1, x2, x3, x4⟩, _), rfl, hr1, ⟨r0, r1⟩, hm2, hq, s2, s3⟩
end
end Go.Proofs.YtnnnglklgofabaaGreat
namespace Go.Proofs.YtnnnglklgofabaaGreat
open Go.Joins Go.RowKit
open Go.ChangeShapes Go.WideShapes Go.ChangeAt Go.Deep

theorem cells_bat : Tryz.prog.cellsOf 58 = 12 := by kernel_rfl
theorem cells_recs : Tryz.prog.cellsOf 56 = 1 := by kernel_rfl
section
variable {H : Type} {enc : TypeId × Value → H} {w : World} {spare : Nat → Bool} {held : Bool}
set_option maxHeartbeats 2000000 in
set_option maxRecDepth 100000 in
theorem bat_opens : ∀ n cs y, DataW.trod enc Tryz.prog w 0 spare held n 58 cs = some y → Light 58 y.1 → (∀ x ∈ y.2, x.block < w.heap.size) →
    ∃ (base leader : Int) (app txn ctl : Bool) (last first maxt prod epoch sq : Int) (l : List (RecS × Value)) (rv : Value), cs = [.int .i64 base, .int .i64 leader, .bool app, .bool txn, .bool ctl, .int .i64 last, .int .i64 first, .int .i64 maxt, .int .i64 prod, .int .i64 epoch, .int .i64 sq, rv] ∧
      BatS.R ⟨base, leader, app, txn, ctl, last, first, maxt, prod, epoch, sq, l.map (·.1)⟩ ∧ RowsOf (fun _ cs x => RRec cs x) (· < w.heap.size) w rv 7 l ∧ (∀ x ∈ l, QRec w x) := by
  intro n cs y hf hl hN; obtain ⟨hc, m, hg⟩ := opens_field Tryz.underlying58 hf hl hN; rw [cells_bat] at hc
  match cs, hc with
  | [c0, c1, c2, c3, c4, c5, c6, c7, c8, c9, c10, c11], _ =>
    obtain ⟨z0, g0, l0, n0⟩ := hg 0 _ rfl; have g0 : DataW.trod enc Tryz.prog w 0 spare held m 3 (List.take (Tryz.prog.cellsOf 3) (List.drop 0 [c0, c1, c2, c3, c4, c5, c6, c7, c8, c9, c10, c11])) = some z0 := g0; rw [cells_int] at g0; obtain ⟨z1, g1, l1, n1⟩ := hg 1 _ rfl; have g1 : DataW.trod enc Tryz.prog w 0 spare held m 3 (List.take (Tryz.prog.cellsOf 3) (List.drop 1 [c0, c1, c2, c3, c4, c5, c6, c7, c8, c9, c10, c11])) = some z1 := g1; rw [cells_int] at g1; obtain ⟨z2, g2, l2, n2⟩ := hg 2 _ rfl; have g2 : DataW.trod enc Tryz.prog w 0 spare held m 4 (List.take (Tryz.prog.cellsOf 4) (List.drop 2 [c0, c1, c2, c3, c4, c5, c6, c7, c8, c9, c10, c11])) = some z2 := g2; rw [cells_bool] at g2; obtain ⟨z3, g3, l3, n3⟩ := hg 3 _ rfl; have g3 : DataW.trod enc Tryz.prog w 0 spare held m 4 (List.take (Tryz.prog.cellsOf 4) (List.drop 3 [c0, c1, c2, c3, c4, c5, c6, c7, c8, c9, c10, c11])) = some z3 := g3; rw [cells_bool] at g3; obtain ⟨z4, g4, l4, n4⟩ := hg 4 _ rfl; have g4 : DataW.trod enc Tryz.prog w 0 spare held m 4 (List.take (Tryz.prog.cellsOf 4) (List.drop 4 [c0, c1, c2, c3, c4, c5, c6, c7, c8, c9, c10, c11])) = some z4 := g4; rw [cells_bool] at g4; obtain ⟨z5, g5, l5, n5⟩ := hg 5 _ rfl; have g5 : DataW.trod enc Tryz.prog w 0 spare held m 3 (List.take (Tryz.prog.cellsOf 3) (List.drop 5 [c0, c1, c2, c3, c4, c5, c6, c7, c8, c9, c10, c11])) = some z5 := g5; rw [cells_int] at g5; obtain ⟨z6, g6, l6, n6⟩ := hg 6 _ rfl; have g6 : DataW.trod enc Tryz.prog w 0 spare held m 3 (List.take (Tryz.prog.cellsOf 3) (List.drop 6 [c0, c1, c2, c3, c4, c5, c6, c7, c8, c9, c10, c11])) = some z6 := g6; rw [cells_int] at g6; obtain ⟨z7, g7, l7, n7⟩ := hg 7 _ rfl; have g7 : DataW.trod enc Tryz.prog w 0 spare held m 3 (List.take (Tryz.prog.cellsOf 3) (List.drop 7 [c0, c1, c2, c3, c4, c5, c6, c7, c8, c9, c10, c11])) = some z7 := g7; rw [cells_int] at g7; obtain ⟨z8, g8, l8, n8⟩ := hg 8 _ rfl; have g8 : DataW.trod enc Tryz.prog w 0 spare held m 3 (List.take (Tryz.prog.cellsOf 3) (List.drop 8 [c0, c1, c2, c3, c4, c5, c6, c7, c8, c9, c10, c11])) = some z8 := g8; rw [cells_int] at g8; obtain ⟨z9, g9, l9, n9⟩ := hg 9 _ rfl; have g9 : DataW.trod enc Tryz.prog w 0 spare held m 3 (List.take (Tryz.prog.cellsOf 3) (List.drop 9 [c0, c1, c2, c3, c4, c5, c6, c7, c8, c9, c10, c11])) = some z9 := g9; rw [cells_int] at g9; obtain ⟨z10, g10, l10, n10⟩ := hg 10 _ rfl; have g10 : DataW.trod enc Tryz.prog w 0 spare held m 3 (List.take (Tryz.prog.cellsOf 3) (List.drop 10 [c0, c1, c2, c3, c4, c5, c6, c7, c8, c9, c10, c11])) = some z10 := g10; rw [cells_int] at g10; obtain ⟨z11, g11, l11, n11⟩ := hg 11 _ rfl; have g11 : DataW.trod enc Tryz.prog w 0 spare held m 56 (List.take (Tryz.prog.cellsOf 56) (List.drop 11 [c0, c1, c2, c3, c4, c5, c6, c7, c8, c9, c10, c11])) = some z11 := g11; rw [cells_recs] at g11; obtain ⟨x0, e0, r0⟩ := opens_i64 Tryz.underlying3 g0; obtain ⟨x1, e1, r1⟩ := opens_i64 Tryz.underlying3 g1; obtain ⟨x2, e2⟩ := opens_bool Tryz.underlying4 g2; obtain ⟨x3, e3⟩ := opens_bool Tryz.underlying4 g3; obtain ⟨x4, e4⟩ := opens_bool Tryz.underlying4 g4; obtain ⟨x5, e5, r5⟩ := opens_i64 Tryz.underlying3 g5; obtain ⟨x6, e6, r6⟩ := opens_i64 Tryz.underlying3 g6; obtain ⟨x7, e7, r7⟩ := opens_i64 Tryz.underlying3 g7; obtain ⟨x8, e8, r8⟩ := opens_i64 Tryz.underlying3 g8; obtain ⟨x9, e9, r9⟩ := opens_i64 Tryz.underlying3 g9; obtain ⟨x10, e10, r10⟩ := opens_i64 Tryz.underlying3 g10; obtain ⟨v11, x11, e11, hrq, _, _⟩ := opens_rows (R := fun w' cs x => (fun _ cs x => RRec cs x) w' cs x ∧ QRec w x) (N := w.heap.size) Tryz.underlying56 cells_rec (by decide) rrec_opens g11 l11 n11 (Nat.le_refl _); obtain ⟨hr, hq⟩ := hrq.part; simp at e0 e1 e2 e3 e4 e5 e6 e7 e8 e9 e10 e11; subst e0 e1 e2 e3 e4 e5 e6 e7 e8 e9 e10 e11; exact ⟨x0, x1, x2, x3, x4, x5, x6, x7, x8, x9, x10, x11, _, rfl, ⟨r0, r1, r5, r6, r7, r8, r9, r10⟩, hr, hq⟩
end
end Go.Proofs.YtnnnglklgofabaaGreat
namespace Go.Proofs.YtnnnglklgofabaaGreat
open Go.RowKit

def QBat (W : World) (x : BatR) : Prop := (RowsOf (fun _ cs x => RRec cs x) (· < W.heap.size) W (.slice x.q x.l.length x.cap) 7 x.l ∧ ∀ y ∈ x.l, QRec W y) ∧ x.Fit
theorem QBat.fit {W : World} {l : List BatR} (h : ∀ x ∈ l, QBat W x) : ∀ x ∈ l, x.Fit := fun x hx => (h x hx).2
theorem QBat.start {W : World} {v : Value} {l : List BatR} (hr : RowsOf (fun _ cs x => RBat cs x) (· < W.heap.size) W v 12 l) (h : ∀ x ∈ l, QBat W x) : St W W (Know.bats v l) [] := St.start ⟨hr, fun x hx => ⟨(h x hx).1.1, fun y hy => ((h x hx).1.2 y hy).1⟩⟩
section
variable {H : Type} {enc : TypeId × Value → H} {w : World} {spare : Nat → Bool} {held : Bool}
theorem rbat_opens : ∀ n cs y, DataW.trod enc Tryz.prog w 0 spare held n 58 cs = some y → Light 58 y.1 → (∀ x ∈ y.2, x.block < w.heap.size) → ∃ x : BatR, RBat cs x ∧ QBat w x := by
 intro n cs y hf hl hN; obtain ⟨base, leader, app, txn, ctl, last, first, maxt, prod, epoch, sq, l, rv, e, hR, hr, hq⟩ := bat_opens n cs y hf hl hN; obtain ⟨q, cap, hrv⟩ : ∃ q cap, rv = .slice q l.length cap := by obtain ⟨p, cap, hv, _⟩ := hr; exact ⟨p, cap, hv⟩
 subst hrv; exact ⟨⟨⟨base, leader, app, txn, ctl, last, first, maxt, prod, epoch, sq, l.map (·.1)⟩, l, q, cap⟩, e, ⟨hr, hq⟩, hR, fun x hx => (hq x hx).2, rfl⟩
end

end Go.Proofs.YtnnnglklgofabaaGreat
namespace Go.Proofs.YtnnnglklgofabaaGreat
open Go.RowKit
open Go.ChangeShapes Go.WideShapes Go.ChangeAt Go.Deep

theorem cells_blob_OpenF : Tryz.prog.cellsOf 23 = 2 := by kernel_rfl
theorem cells_bool_OpenF : Tryz.prog.cellsOf 4 = 1 := by kernel_rfl
section
variable {H : Type} {enc : TypeId × Value → H} {w : World} {spare : Nat → Bool} {held : Bool}
set_option maxRecDepth 100000 in
theorem blob_opens_OpenF {N : Nat} : ∀ n cs y, DataW.trod enc Tryz.prog w 0 spare held n 23 cs = some y → Light 23 y.1 → (∀ x ∈ y.2, x.block < N) → ∃ x : BlobS, cs = [.bool x.null, .string (bb x.data)] ∧ x.data.length ≤ 140737488351232 := by
 exact zq12
end
end Go.Proofs.YtnnnglklgofabaaGreat
