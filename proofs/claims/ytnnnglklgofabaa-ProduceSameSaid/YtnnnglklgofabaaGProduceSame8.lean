/- Whether any two requests are one is the document's answer: proved of all. -/
import Derived.Test.YtnnnglklgofabaaGProduceSame4
import Derived.Test.YtnnnglklgofabaaGProduceSame5
import Derived.Test.YtnnnglklgofabaaGProduceSame7
import Derived.Test.YtnnnglklgofabaaGProduceSame3
import Derived.RegionTactic
import Derived.Deep.RegionHeld3
import Derived.Deep.DeepCutAuto
import Derived.WalkMore
import Derived.Test.YtnnnglklgofabaaArgs
/- A text. -/
namespace Go.Proofs.Ytnnnglklgofabaa
open Go.RowKit

theorem St.twoP {W : World} {A B : Know} (ha : St W W A []) (hb : St W W B []) : St W W (A.and B) [] := by
 obtain ⟨F, a, fa⟩ := ha.get
 obtain ⟨G, b, gb⟩ := hb.get
 exact St.start ⟨A.mono _ _ _ a fa, B.mono _ _ _ b gb⟩

theorem eqT_of {l : List PTop} (hf : ∀ x ∈ l, FewT20 x) (hs : ∀ x ∈ l, SmT x) : ∀ x ∈ l, EqT x := fun x hx =>
  ⟨(hf x hx).len, fun y hy => ⟨Nat.le_trans ((hf x hx).parts y hy).len (by decide), fun z hz => EqR.of (((hf x hx).parts y hy).fit z hz) (hs x hx y hy z hz) (fun v hv => ((((hf x hx).parts y hy).fit z hz).2.1 v hv).2.1)⟩⟩
theorem eqT_nl {l m : List PTop} (h : m.map PTop.nl = l.map PTop.nl) (he : ∀ x ∈ l, EqT x) : ∀ x ∈ m, EqT x := by
 intro x hx
 obtain ⟨y, hy, _, hl⟩ := nl_mem h hx
 have e := he y hy
 exact ⟨by rw [← hl]; exact e.len, fun v hv => e.parts v (by rw [hl]; exact hv)⟩
theorem same_nl {nl1 nl2 : Bool} {dd1 dd2 : Bs} {ac1 ac2 tm1 tm2 : Int} {l1 l2 m1 m2 : List PTop} {r : Bool} (h1 : m1.map PTop.nl = l1.map PTop.nl) (h2 : m2.map PTop.nl = l2.map PTop.nl) (hr : decide (nl1 = nl2 ∧ dd1 = dd2 ∧ ac1 = ac2 ∧ tm1 = tm2 ∧ l1.map PTop.pt = l2.map PTop.pt) = r) : decide (nl1 = nl2 ∧ dd1 = dd2 ∧ ac1 = ac2 ∧ tm1 = tm2 ∧ m1.map PTop.pt = m2.map PTop.pt) = r := by
 rw [← hr]
 exact decide_eq_decide.mpr (by rw [nl_pt h1, nl_pt h2])
theorem fewT_of {W : World} {l : List PTop} (h : ∀ x ∈ l, QPTop W x) : ∀ x ∈ l, FewT20 x := fun x hx =>
  ⟨(h x hx).2.2, Nat.le_trans (h x hx).2.1 (by decide), fun y hy => ⟨((h x hx).1.2 y hy).2.1, fun z hz => (((h x hx).1.2 y hy).1.2 z hz).2⟩⟩
set_option maxHeartbeats 8000000 in
set_option maxRecDepth 100000 in
theorem produceSame_main (nl1 nl2 : Bool) (dd1 dd2 : Bs) (ac1 ac2 tm1 tm2 : Int) (l1 l2 : List PTop) (q1 q2 : Option Addr) (cap1 cap2 : Nat) (r : Bool) (hr : decide (nl1 = nl2 ∧ dd1 = dd2 ∧ ac1 = ac2 ∧ tm1 = tm2 ∧ l1.map PTop.pt = l2.map PTop.pt) = r) (hd1 : dd1.length ≤ 140737488351232) (hd2 : dd2.length ≤ 140737488351232) (hl1 : l1.length ≤ 3518437208780) (hl2 : l2.length ≤ 3518437208780) (hf1 : ∀ x ∈ l1, FewT20 x) (hf2 : ∀ x ∈ l2, FewT20 x) {W0 w : World} {K : Know} (hk1 : K.has (Know.ptops (.slice q1 l1.length cap1) l1)) (hk2 : K.has (Know.ptops (.slice q2 l2.length cap2) l2)) (h : St W0 w K []) :
   Calls Try.prog 4 #[.agg #[.bool nl1, .string (bb dd1), .int .i64 ac1, .int .i64 tm1, .slice q1 l1.length cap1], .agg #[.bool nl2, .string (bb dd2), .int .i64 ac2, .int .i64 tm2, .slice q2 l2.length cap2]] w fun en w' => en = .returned (.bool true) ∧ Below W0.heap.size W0 w' := by
 obtain ⟨ra, hra⟩ : ∃ b, w.heap.size = b := ⟨_, rfl⟩
 obtain ⟨rb, hrb⟩ : ∃ b, ra + 1 = b := ⟨_, rfl⟩
 have h0 := (h.allocRaw #[.bool nl1, .string (bb dd1), .int .i64 ac1, .int .i64 tm1, .slice q1 l1.length cap1] 29).allocRaw #[.bool nl2, .string (bb dd2), .int .i64 ac2, .int .i64 tm2, .slice q2 l2.length cap2] 29
 simp only [World.size_alloc, hra, hrb] at h0
 have H := Lib.hid h0
 have HA := Lib.hid hk1
 have HB := Lib.hid hk2
 have HR := Lib.hid hr
 have HD1 := Lib.hid hd1
 have HD2 := Lib.hid hd2
 have HL1 := Lib.hid hl1
 have HL2 := Lib.hid hl2
 have HF1 := Lib.hid hf1
 have HF2 := Lib.hid hf2
 have HFL1 := Lib.hid (show ∀ x ∈ l1, x.l.length ≤ 4398046511104 from fun x hx => (hf1 x hx).len)
 have HFL2 := Lib.hid (show ∀ x ∈ l2, x.l.length ≤ 4398046511104 from fun x hx => (hf2 x hx).len)
 have HN1 := Lib.hid (show l1.length ≤ 4398046511104 from Nat.le_trans hl1 (by decide))
 have HKP := Lib.hid (show ∀ (K' : Know) w', St W0 w' K' [.raw rb #[.bool nl2, .string (bb dd2), .int .i64 ac2, .int .i64 tm2, .slice q2 l2.length cap2] 29, .raw ra #[.bool nl1, .string (bb dd1), .int .i64 ac1, .int .i64 tm1, .slice q1 l1.length cap1] 29] → (w'.cell? ⟨ra, 0, none⟩ = some (.bool nl1) ∧ w'.cell? ⟨ra, 1, none⟩ = some (.string (bb dd1)) ∧ w'.cell? ⟨ra, 2, none⟩ = some (.int .i64 ac1) ∧ w'.cell? ⟨ra, 3, none⟩ = some (.int .i64 tm1) ∧ w'.cell? ⟨ra, 4, none⟩ = some (.slice q1 l1.length cap1) ∧ w'.cell? ⟨rb, 0, none⟩ = some (.bool nl2) ∧ w'.cell? ⟨rb, 1, none⟩ = some (.string (bb dd2)) ∧ w'.cell? ⟨rb, 2, none⟩ = some (.int .i64 ac2) ∧ w'.cell? ⟨rb, 3, none⟩ = some (.int .i64 tm2) ∧ w'.cell? ⟨rb, 4, none⟩ = some (.slice q2 l2.length cap2)) from fun K' w' hs => by
   have a0 := hs.p1.rawCell 0
   have a1 := hs.p1.rawCell 1
   have a2 := hs.p1.rawCell 2
   have a3 := hs.p1.rawCell 3
   have a4 := hs.p1.rawCell 4
   have b0 := hs.rawCell 0
   have b1 := hs.rawCell 1
   have b2 := hs.rawCell 2
   have b3 := hs.rawCell 3
   have b4 := hs.rawCell 4
   simp at a0 a1 a2 a3 a4 b0 b1 b2 b3 b4
   exact ⟨a0, a1, a2, a3, a4, b0, b1, b2, b3, b4⟩)
 clear h h0 hk1 hk2 hr hd1 hd2 hl1 hl2 hf1 hf2
 go_enter Try.func4, Try.ntmps4
 go_wp2_with (go_at_call 5; (with_reducible refine (speaks20 H.out).mono ?_); rintro e_ wn ⟨rfl, h⟩; replace H := Lib.hid h; clear h)
 have hs := H.out.drew
 refine wp_region_held_drew (S := fun w' => w'.cell? ⟨ra, 0, none⟩ = some (.bool nl1) ∧ w'.cell? ⟨ra, 1, none⟩ = some (.string (bb dd1)) ∧ w'.cell? ⟨ra, 2, none⟩ = some (.int .i64 ac1) ∧ w'.cell? ⟨ra, 3, none⟩ = some (.int .i64 tm1) ∧ w'.cell? ⟨ra, 4, none⟩ = some (.slice q1 l1.length cap1) ∧ w'.cell? ⟨rb, 0, none⟩ = some (.bool nl2) ∧ w'.cell? ⟨rb, 1, none⟩ = some (.string (bb dd2)) ∧ w'.cell? ⟨rb, 2, none⟩ = some (.int .i64 ac2) ∧ w'.cell? ⟨rb, 3, none⟩ = some (.int .i64 tm2) ∧ w'.cell? ⟨rb, 4, none⟩ = some (.slice q2 l2.length cap2)) (by kernel_rfl) (HKP.out _ _ hs) (fun hHeld => ?_)
 refine tQ 0 ⟨some 7, .load 29 (.tmp 2), 29, "law.go:132", #[], none⟩ ?_; simp only [Act.put, sA, sB, sC]
 refine wpAnyH_ready (rs := [1]) (by kernel_rfl) (by simp) (AllReadyH.cons (o := ⟨some 8, .call { callee := .value (.func 11), args := #[.tmp 7], argTypes := #[29] }, 3, "law.go:132", #[.mk 0 .data], none⟩) rfl (fun KK hK => ?_) AllReadyH.nil)
 · go_simp
   go_at_call 11
   with_reducible refine (few20 nl1 dd1 ac1 tm1 l1 _ _ HD1.out HL1.out HF1.out HA.out hs).mono ?_
   rintro e wq ⟨f1, rfl, hf1, hs⟩
   rcases hf1 with rfl | ⟨rfl, hf1⟩
   · refine hK.out _ _ (HKP.out _ _ hs) (fun hHeld => ?_)
     clear hK KK
     try simp only [Act.put, sA, sB, sC]
     refine tQ 2 ⟨some 9, .binOp .eql 3 (.tmp 8) (.const (Value.int IntKind.i64 0)) 3, 4, "law.go:132", #[.mk 1 .data], none⟩ ?_; simp only [Act.put, sA, sB, sC]
     refine tQ 3 ⟨some 10, .move (.tmp 9), 4, "law.go:132", #[.mk 2 .data, .mk 1 .chain], none⟩ ?_; simp only [Act.put, sA, sB, sC]
     refine wpAnyH_take (i := 4) (oi := ⟨some 11, .load 29 (.tmp 3), 29, "law.go:132", #[.mk 3 .guard], some (3, false)⟩) (v := undef) rfl (by kernel_rfl) (by kernel_rfl) (by kernel_rfl) (fun _ _ _ h => h) (Or.inr ⟨by rfl, rfl⟩) (by assumption) ?_
     simp only [Act.put, sA, sB, sC]
     refine wpAnyH_take (i := 5) (oi := ⟨some 12, .call { callee := .value (.func 11), args := #[.tmp 11], argTypes := #[29] }, 3, "law.go:132", #[.mk 4 .data, .mk 3 .chain, .mk 3 .guard], some (3, false)⟩) (v := undef) rfl (by kernel_rfl) (by kernel_rfl) (by kernel_rfl) (fun _ _ _ h => h) (Or.inr ⟨by rfl, rfl⟩) (by assumption) ?_
     simp only [Act.put, sA, sB, sC]
     refine wpAnyH_take (i := 6) (oi := ⟨some 13, .binOp .eql 3 (.tmp 12) (.const (Value.int IntKind.i64 0)) 3, 4, "law.go:132", #[.mk 5 .data, .mk 3 .guard], some (3, false)⟩) (v := undef) rfl (by kernel_rfl) (by kernel_rfl) (by kernel_rfl) (fun _ _ _ h => h) (Or.inr ⟨by rfl, rfl⟩) (by assumption) ?_
     simp only [Act.put, sA, sB, sC]
     refine tQ 7 ⟨some 14, .pick (.tmp 10) (.const (Value.bool true)) (.tmp 13), 4, "law.go:132", #[.mk 3 .data, .mk 6 .data], none⟩ ?_; simp only [Act.put, sA, sB, sC]
     refine tQ 8 ⟨some 15, .move (.tmp 14), 4, "law.go:132", #[.mk 7 .data, .mk 5 .chain], none⟩ ?_; simp only [Act.put, sA, sB, sC]
     refine wpAnyH_take (i := 9) (oi := ⟨some 16, .load 29 (.tmp 2), 29, "law.go:132", #[.mk 8 .guard], some (8, false)⟩) (v := undef) rfl (by kernel_rfl) (by kernel_rfl) (by kernel_rfl) (fun _ _ _ h => h) (Or.inr ⟨by rfl, rfl⟩) (by assumption) ?_
     simp only [Act.put, sA, sB, sC]
     refine wpAnyH_take (i := 10) (oi := ⟨some 17, .load 29 (.tmp 3), 29, "law.go:132", #[.mk 8 .guard], some (8, false)⟩) (v := undef) rfl (by kernel_rfl) (by kernel_rfl) (by kernel_rfl) (fun _ _ _ h => h) (Or.inr ⟨by rfl, rfl⟩) (by assumption) ?_
     simp only [Act.put, sA, sB, sC]
     refine wpAnyH_take (i := 11) (oi := ⟨some 18, .call { callee := .value (.func 12), args := #[.tmp 16, .tmp 17], argTypes := #[29, 29] }, 4, "law.go:132", #[.mk 9 .data, .mk 10 .data, .mk 8 .chain, .mk 8 .guard], some (8, false)⟩) (v := undef) rfl (by kernel_rfl) (by kernel_rfl) (by kernel_rfl) (fun _ _ _ h => h) (Or.inr ⟨by rfl, rfl⟩) (by assumption) ?_
     simp only [Act.put, sA, sB, sC]
     refine wpAnyH_take (i := 12) (oi := ⟨some 19, .load 29 (.tmp 2), 29, "law.go:132", #[.mk 8 .guard], some (8, false)⟩) (v := undef) rfl (by kernel_rfl) (by kernel_rfl) (by kernel_rfl) (fun _ _ _ h => h) (Or.inr ⟨by rfl, rfl⟩) (by assumption) ?_
     simp only [Act.put, sA, sB, sC]
     refine wpAnyH_take (i := 13) (oi := ⟨some 20, .call { callee := .value (.func 14), args := #[.tmp 19], argTypes := #[29] }, 52, "law.go:132", #[.mk 12 .data, .mk 11 .chain, .mk 8 .guard], some (8, false)⟩) (v := undef) rfl (by kernel_rfl) (by kernel_rfl) (by kernel_rfl) (fun _ _ _ h => h) (Or.inr ⟨by rfl, rfl⟩) (by assumption) ?_
     simp only [Act.put, sA, sB, sC]
     refine wpAnyH_take (i := 14) (oi := ⟨some 21, .load 29 (.tmp 3), 29, "law.go:132", #[.mk 8 .guard], some (8, false)⟩) (v := undef) rfl (by kernel_rfl) (by kernel_rfl) (by kernel_rfl) (fun _ _ _ h => h) (Or.inr ⟨by rfl, rfl⟩) (by assumption) ?_
     simp only [Act.put, sA, sB, sC]
     refine wpAnyH_take (i := 15) (oi := ⟨some 22, .call { callee := .value (.func 14), args := #[.tmp 21], argTypes := #[29] }, 52, "law.go:132", #[.mk 14 .data, .mk 13 .chain, .mk 8 .guard], some (8, false)⟩) (v := undef) rfl (by kernel_rfl) (by kernel_rfl) (by kernel_rfl) (fun _ _ _ h => h) (Or.inr ⟨by rfl, rfl⟩) (by assumption) ?_
     simp only [Act.put, sA, sB, sC]
     refine wpAnyH_take (i := 16) (oi := ⟨some 23, .call { callee := .value (.func 13), args := #[.tmp 20, .tmp 22], argTypes := #[52, 52] }, 4, "law.go:132", #[.mk 13 .data, .mk 15 .data, .mk 15 .chain, .mk 8 .guard], some (8, false)⟩) (v := undef) rfl (by kernel_rfl) (by kernel_rfl) (by kernel_rfl) (fun _ _ _ h => h) (Or.inr ⟨by rfl, rfl⟩) (by assumption) ?_
     simp only [Act.put, sA, sB, sC]
     refine wpAnyH_take (i := 17) (oi := ⟨some 24, .binOp .eql 4 (.tmp 18) (.tmp 23) 4, 4, "law.go:132", #[.mk 11 .data, .mk 16 .data, .mk 8 .guard], some (8, false)⟩) (v := undef) rfl (by kernel_rfl) (by kernel_rfl) (by kernel_rfl) (fun _ _ _ h => h) (Or.inr ⟨by rfl, rfl⟩) (by assumption) ?_
     simp only [Act.put, sA, sB, sC]
     refine tQ 18 ⟨some 25, .pick (.tmp 15) (.const (Value.bool true)) (.tmp 24), 4, "law.go:132", #[.mk 8 .data, .mk 17 .data], none⟩ ?_; simp only [Act.put, sA, sB, sC]
     refine tQ 19 ⟨some 4, .assign (.tmp 25), 4, "law.go:132", #[.mk 18 .data, .mk 16 .chain, .mk 0 .phase, .mk 1 .phase, .mk 2 .phase, .mk 3 .phase, .mk 4 .phase, .mk 5 .phase, .mk 6 .phase, .mk 7 .phase, .mk 8 .phase, .mk 9 .phase, .mk 10 .phase, .mk 11 .phase, .mk 12 .phase, .mk 13 .phase, .mk 14 .phase, .mk 15 .phase, .mk 16 .phase, .mk 17 .phase, .mk 18 .phase], none⟩ ?_; simp only [Act.put, sA, sB, sC]
     refine wpAnyH_done (by kernel_rfl) ?_ _
     clear hHeld
     go_wp2_with fail
     go_ret
     exact ⟨rfl, hs.below⟩
   · refine hK.out _ _ (HKP.out _ _ hs) (fun hHeld => ?_)
     clear hK KK
     try simp only [Act.put, sA, sB, sC]
     have HE1 := Lib.hid (eqT_of HF1.out hf1.1)
     clear hf1
     refine tQ 2 ⟨some 9, .binOp .eql 3 (.tmp 8) (.const (Value.int IntKind.i64 0)) 3, 4, "law.go:132", #[.mk 1 .data], none⟩ ?_; simp only [Act.put, sA, sB, sC]
     refine tQ 3 ⟨some 10, .move (.tmp 9), 4, "law.go:132", #[.mk 2 .data, .mk 1 .chain], none⟩ ?_; simp only [Act.put, sA, sB, sC]
     refine tQ 4 ⟨some 11, .load 29 (.tmp 3), 29, "law.go:132", #[.mk 3 .guard], some (3, false)⟩ ?_; simp only [Act.put, sA, sB, sC]
     refine wpAnyH_ready (rs := [5]) (by kernel_rfl) (by simp) (AllReadyH.cons (o := ⟨some 12, .call { callee := .value (.func 11), args := #[.tmp 11], argTypes := #[29] }, 3, "law.go:132", #[.mk 4 .data, .mk 3 .chain, .mk 3 .guard], some (3, false)⟩) rfl (fun KK hK => ?_) AllReadyH.nil)
     · go_simp
       go_at_call 11
       with_reducible refine (few20 nl2 dd2 ac2 tm2 l2 _ _ HD2.out HL2.out HF2.out HB.out hs).mono ?_
       rintro e wq ⟨f2, rfl, hf2, hs⟩
       rcases hf2 with rfl | ⟨rfl, hf2⟩
       · refine hK.out _ _ (HKP.out _ _ hs) (fun hHeld => ?_)
         clear hK KK
         try simp only [Act.put, sA, sB, sC]
         refine tQ 6 ⟨some 13, .binOp .eql 3 (.tmp 12) (.const (Value.int IntKind.i64 0)) 3, 4, "law.go:132", #[.mk 5 .data, .mk 3 .guard], some (3, false)⟩ ?_; simp only [Act.put, sA, sB, sC]
         refine tQ 7 ⟨some 14, .pick (.tmp 10) (.const (Value.bool true)) (.tmp 13), 4, "law.go:132", #[.mk 3 .data, .mk 6 .data], none⟩ ?_; simp only [Act.put, sA, sB, sC]
         refine tQ 8 ⟨some 15, .move (.tmp 14), 4, "law.go:132", #[.mk 7 .data, .mk 5 .chain], none⟩ ?_; simp only [Act.put, sA, sB, sC]
         refine wpAnyH_take (i := 9) (oi := ⟨some 16, .load 29 (.tmp 2), 29, "law.go:132", #[.mk 8 .guard], some (8, false)⟩) (v := undef) rfl (by kernel_rfl) (by kernel_rfl) (by kernel_rfl) (fun _ _ _ h => h) (Or.inr ⟨by rfl, rfl⟩) (by assumption) ?_
         simp only [Act.put, sA, sB, sC]
         refine wpAnyH_take (i := 10) (oi := ⟨some 17, .load 29 (.tmp 3), 29, "law.go:132", #[.mk 8 .guard], some (8, false)⟩) (v := undef) rfl (by kernel_rfl) (by kernel_rfl) (by kernel_rfl) (fun _ _ _ h => h) (Or.inr ⟨by rfl, rfl⟩) (by assumption) ?_
         simp only [Act.put, sA, sB, sC]
         refine wpAnyH_take (i := 11) (oi := ⟨some 18, .call { callee := .value (.func 12), args := #[.tmp 16, .tmp 17], argTypes := #[29, 29] }, 4, "law.go:132", #[.mk 9 .data, .mk 10 .data, .mk 8 .chain, .mk 8 .guard], some (8, false)⟩) (v := undef) rfl (by kernel_rfl) (by kernel_rfl) (by kernel_rfl) (fun _ _ _ h => h) (Or.inr ⟨by rfl, rfl⟩) (by assumption) ?_
         simp only [Act.put, sA, sB, sC]
         refine wpAnyH_take (i := 12) (oi := ⟨some 19, .load 29 (.tmp 2), 29, "law.go:132", #[.mk 8 .guard], some (8, false)⟩) (v := undef) rfl (by kernel_rfl) (by kernel_rfl) (by kernel_rfl) (fun _ _ _ h => h) (Or.inr ⟨by rfl, rfl⟩) (by assumption) ?_
         simp only [Act.put, sA, sB, sC]
         refine wpAnyH_take (i := 13) (oi := ⟨some 20, .call { callee := .value (.func 14), args := #[.tmp 19], argTypes := #[29] }, 52, "law.go:132", #[.mk 12 .data, .mk 11 .chain, .mk 8 .guard], some (8, false)⟩) (v := undef) rfl (by kernel_rfl) (by kernel_rfl) (by kernel_rfl) (fun _ _ _ h => h) (Or.inr ⟨by rfl, rfl⟩) (by assumption) ?_
         simp only [Act.put, sA, sB, sC]
         refine wpAnyH_take (i := 14) (oi := ⟨some 21, .load 29 (.tmp 3), 29, "law.go:132", #[.mk 8 .guard], some (8, false)⟩) (v := undef) rfl (by kernel_rfl) (by kernel_rfl) (by kernel_rfl) (fun _ _ _ h => h) (Or.inr ⟨by rfl, rfl⟩) (by assumption) ?_
         simp only [Act.put, sA, sB, sC]
         refine wpAnyH_take (i := 15) (oi := ⟨some 22, .call { callee := .value (.func 14), args := #[.tmp 21], argTypes := #[29] }, 52, "law.go:132", #[.mk 14 .data, .mk 13 .chain, .mk 8 .guard], some (8, false)⟩) (v := undef) rfl (by kernel_rfl) (by kernel_rfl) (by kernel_rfl) (fun _ _ _ h => h) (Or.inr ⟨by rfl, rfl⟩) (by assumption) ?_
         simp only [Act.put, sA, sB, sC]
         refine wpAnyH_take (i := 16) (oi := ⟨some 23, .call { callee := .value (.func 13), args := #[.tmp 20, .tmp 22], argTypes := #[52, 52] }, 4, "law.go:132", #[.mk 13 .data, .mk 15 .data, .mk 15 .chain, .mk 8 .guard], some (8, false)⟩) (v := undef) rfl (by kernel_rfl) (by kernel_rfl) (by kernel_rfl) (fun _ _ _ h => h) (Or.inr ⟨by rfl, rfl⟩) (by assumption) ?_
         simp only [Act.put, sA, sB, sC]
         refine wpAnyH_take (i := 17) (oi := ⟨some 24, .binOp .eql 4 (.tmp 18) (.tmp 23) 4, 4, "law.go:132", #[.mk 11 .data, .mk 16 .data, .mk 8 .guard], some (8, false)⟩) (v := undef) rfl (by kernel_rfl) (by kernel_rfl) (by kernel_rfl) (fun _ _ _ h => h) (Or.inr ⟨by rfl, rfl⟩) (by assumption) ?_
         simp only [Act.put, sA, sB, sC]
         refine tQ 18 ⟨some 25, .pick (.tmp 15) (.const (Value.bool true)) (.tmp 24), 4, "law.go:132", #[.mk 8 .data, .mk 17 .data], none⟩ ?_; simp only [Act.put, sA, sB, sC]
         refine tQ 19 ⟨some 4, .assign (.tmp 25), 4, "law.go:132", #[.mk 18 .data, .mk 16 .chain, .mk 0 .phase, .mk 1 .phase, .mk 2 .phase, .mk 3 .phase, .mk 4 .phase, .mk 5 .phase, .mk 6 .phase, .mk 7 .phase, .mk 8 .phase, .mk 9 .phase, .mk 10 .phase, .mk 11 .phase, .mk 12 .phase, .mk 13 .phase, .mk 14 .phase, .mk 15 .phase, .mk 16 .phase, .mk 17 .phase, .mk 18 .phase], none⟩ ?_; simp only [Act.put, sA, sB, sC]
         refine wpAnyH_done (by kernel_rfl) ?_ _
         clear hHeld
         go_wp2_with fail
         go_ret
         exact ⟨rfl, hs.below⟩
       · refine hK.out _ _ (HKP.out _ _ hs) (fun hHeld => ?_)
         clear hK KK
         try simp only [Act.put, sA, sB, sC]
         have HE2 := Lib.hid (eqT_of HF2.out hf2.1)
         clear hf2
         refine tQ 6 ⟨some 13, .binOp .eql 3 (.tmp 12) (.const (Value.int IntKind.i64 0)) 3, 4, "law.go:132", #[.mk 5 .data, .mk 3 .guard], some (3, false)⟩ ?_; simp only [Act.put, sA, sB, sC]
         refine tQ 7 ⟨some 14, .pick (.tmp 10) (.const (Value.bool true)) (.tmp 13), 4, "law.go:132", #[.mk 3 .data, .mk 6 .data], none⟩ ?_; simp only [Act.put, sA, sB, sC]
         refine tQ 8 ⟨some 15, .move (.tmp 14), 4, "law.go:132", #[.mk 7 .data, .mk 5 .chain], none⟩ ?_; simp only [Act.put, sA, sB, sC]
         refine tQ 9 ⟨some 16, .load 29 (.tmp 2), 29, "law.go:132", #[.mk 8 .guard], some (8, false)⟩ ?_; simp only [Act.put, sA, sB, sC]
         refine tQ 10 ⟨some 17, .load 29 (.tmp 3), 29, "law.go:132", #[.mk 8 .guard], some (8, false)⟩ ?_; simp only [Act.put, sA, sB, sC]
         refine tQ 12 ⟨some 19, .load 29 (.tmp 2), 29, "law.go:132", #[.mk 8 .guard], some (8, false)⟩ ?_; simp only [Act.put, sA, sB, sC]
         refine tQ 14 ⟨some 21, .load 29 (.tmp 3), 29, "law.go:132", #[.mk 8 .guard], some (8, false)⟩ ?_; simp only [Act.put, sA, sB, sC]
         refine wpAnyH_ready (rs := [11]) (by kernel_rfl) (by simp) (AllReadyH.cons (o := ⟨some 18, .call { callee := .value (.func 12), args := #[.tmp 16, .tmp 17], argTypes := #[29, 29] }, 4, "law.go:132", #[.mk 9 .data, .mk 10 .data, .mk 8 .chain, .mk 8 .guard], some (8, false)⟩) rfl (fun KK hK => ?_) AllReadyH.nil)
         · go_simp
           go_at_call 12
           with_reducible refine (preq_same nl1 nl2 dd1 dd2 ac1 ac2 tm1 tm2 l1 l2 _ _ _ _ r HR.out HN1.out HE1.out HE2.out HA.out HB.out hs).mono ?_
           rintro e wq ⟨rfl, hs⟩
           refine hK.out _ _ (HKP.out _ _ hs) (fun hHeld => ?_)
           clear hK KK
           try simp only [Act.put, sA, sB, sC]
           refine wpAnyH_ready (rs := [13]) (by kernel_rfl) (by simp) (AllReadyH.cons (o := ⟨some 20, .call { callee := .value (.func 14), args := #[.tmp 19], argTypes := #[29] }, 52, "law.go:132", #[.mk 12 .data, .mk 11 .chain, .mk 8 .guard], some (8, false)⟩) rfl (fun KK hK => ?_) AllReadyH.nil)
           · go_simp
             go_at_call 14
             with_reducible refine (of20 nl1 dd1 ac1 tm1 l1 _ _ HL1.out HFL1.out HA.out hs).mono ?_
             rintro e wq ⟨qq1, cq1, m1, K1, rfl, hm1, hk13, hkm1, hs⟩
             refine hK.out _ _ (HKP.out _ _ hs) (fun hHeld => ?_)
             clear hK KK
             try simp only [Act.put, sA, sB, sC]
             have HM1 := Lib.hid hm1
             have HMK1 := Lib.hid hkm1
             have HA1 := Lib.hid (Know.has_trans hk13 HA.out)
             have HB1 := Lib.hid (Know.has_trans hk13 HB.out)
             clear HA HB
             have HA := HA1
             have HB := HB1
             clear HA1 HB1
             clear hm1 hkm1 hk13
             refine wpAnyH_ready (rs := [15]) (by kernel_rfl) (by simp) (AllReadyH.cons (o := ⟨some 22, .call { callee := .value (.func 14), args := #[.tmp 21], argTypes := #[29] }, 52, "law.go:132", #[.mk 14 .data, .mk 13 .chain, .mk 8 .guard], some (8, false)⟩) rfl (fun KK hK => ?_) AllReadyH.nil)
             · go_simp
               go_at_call 14
               with_reducible refine (of20 nl2 dd2 ac2 tm2 l2 _ _ HL2.out HFL2.out HB.out hs).mono ?_
               rintro e wq ⟨qq2, cq2, m2, K2, rfl, hm2, hk23, hkm2, hs⟩
               refine hK.out _ _ (HKP.out _ _ hs) (fun hHeld => ?_)
               clear hK KK
               try simp only [Act.put, sA, sB, sC]
               have HM2 := Lib.hid hm2
               have HMK2 := Lib.hid hkm2
               have HA2 := Lib.hid (Know.has_trans hk23 HA.out)
               have HB2 := Lib.hid (Know.has_trans hk23 HB.out)
               clear HA HB
               have HA := HA2
               have HB := HB2
               clear HA2 HB2
               have HMx := Lib.hid (Know.has_trans hk23 HMK1.out)
               clear HMK1
               have HMK1 := HMx
               clear HMx
               clear hm2 hkm2 hk23
               refine wpAnyH_ready (rs := [16]) (by kernel_rfl) (by simp) (AllReadyH.cons (o := ⟨some 23, .call { callee := .value (.func 13), args := #[.tmp 20, .tmp 22], argTypes := #[52, 52] }, 4, "law.go:132", #[.mk 13 .data, .mk 15 .data, .mk 15 .chain, .mk 8 .guard], some (8, false)⟩) rfl (fun KK hK => ?_) AllReadyH.nil)
               · go_simp
                 go_at_call 13
                 with_reducible refine (ref20_same nl1 nl2 dd1 dd2 ac1 ac2 tm1 tm2 m1 m2 _ _ _ _ r (same_nl HM1.out HM2.out HR.out) (Nat.le_trans (Nat.le_of_eq (nl_len HM1.out)) HN1.out) (eqT_nl HM1.out HE1.out) (eqT_nl HM2.out HE2.out) HMK1.out HMK2.out hs).mono ?_
                 rintro e wq ⟨rfl, hs⟩
                 refine hK.out _ _ (HKP.out _ _ hs) (fun hHeld => ?_)
                 clear hK KK
                 try simp only [Act.put, sA, sB, sC]
                 refine tQ 17 ⟨some 24, .binOp .eql 4 (.tmp 18) (.tmp 23) 4, 4, "law.go:132", #[.mk 11 .data, .mk 16 .data, .mk 8 .guard], some (8, false)⟩ ?_; simp only [Act.put, sA, sB, sC]
                 refine tQ 18 ⟨some 25, .pick (.tmp 15) (.const (Value.bool true)) (.tmp 24), 4, "law.go:132", #[.mk 8 .data, .mk 17 .data], none⟩ ?_; simp only [Act.put, sA, sB, sC]
                 refine tQ 19 ⟨some 4, .assign (.tmp 25), 4, "law.go:132", #[.mk 18 .data, .mk 16 .chain, .mk 0 .phase, .mk 1 .phase, .mk 2 .phase, .mk 3 .phase, .mk 4 .phase, .mk 5 .phase, .mk 6 .phase, .mk 7 .phase, .mk 8 .phase, .mk 9 .phase, .mk 10 .phase, .mk 11 .phase, .mk 12 .phase, .mk 13 .phase, .mk 14 .phase, .mk 15 .phase, .mk 16 .phase, .mk 17 .phase, .mk 18 .phase], none⟩ ?_; simp only [Act.put, sA, sB, sC]
                 refine wpAnyH_done (by kernel_rfl) ?_ _
                 clear hHeld
                 go_wp2_with fail
                 go_ret
                 exact ⟨rfl, hs.below⟩
theorem produceSame_any (nl1 nl2 : Bool) (dd1 dd2 : Bs) (ac1 ac2 tm1 tm2 : Int) (l1 l2 : List PTop) (q1 q2 : Option Addr) (cap1 cap2 : Nat) (W : World) (hd1 : dd1.length ≤ 140737488351232) (hd2 : dd2.length ≤ 140737488351232) (hl1 : l1.length ≤ 3518437208780) (hl2 : l2.length ≤ 3518437208780) (hq1 : (∀ x ∈ l1, QPTop W x)) (hq2 : (∀ x ∈ l2, QPTop W x)) (hs1 : St W W (Know.ptops (.slice q1 l1.length cap1) l1) []) (hs2 : St W W (Know.ptops (.slice q2 l2.length cap2) l2) []) :
  Calls Try.prog 4 #[.agg #[.bool nl1, .string (bb dd1), .int .i64 ac1, .int .i64 tm1, .slice q1 l1.length cap1], .agg #[.bool nl2, .string (bb dd2), .int .i64 ac2, .int .i64 tm2, .slice q2 l2.length cap2]] W fun en w' => en = .returned (.bool true) ∧ Below W.heap.size W w' :=
 produceSame_main nl1 nl2 dd1 dd2 ac1 ac2 tm1 tm2 l1 l2 q1 q2 cap1 cap2 _ rfl hd1 hd2 hl1 hl2 (fewT_of hq1) (fewT_of hq2) (Know.has_left (Know.has_refl _)) (Know.has_right (Know.has_refl _)) (St.twoP hs1 hs2)

end Go.Proofs.Ytnnnglklgofabaa
/- Whether any two requests are one is the document's answer: proved of all. -/
namespace Go.Proofs.Ytnnnglklgofabaa
open Go.ChangeShapes Go.WideShapes Go.ChangeAt Go.ChangeMaps Go.RowKit

set_option maxRecDepth 100000 in
theorem produceSame_lifted (os : Os) (started : os.Started) (H : Type) (enc : TypeId × Value → H) :
  ReturnsInHanded {} Try.checked os 4 .any (Rows.produceSameSpec.pre6 enc Try.prog Try.f4 Rows.produceSameRow.domain false) (Rows.produceSameSpec.post enc Try.prog Try.f4 false true false false) := by
 refine returnsInHanded_of_change_sized (C := Try.checked) Try.own started (by as_aux_lemma => kernel_rfl) Try.func4
  (ChangeSpec.witness6 (enc := enc) (C := Try.checked) false ⟨#[], #[.agg #[.bool false, .string ⟨#[]⟩, .int .i64 0, .int .i64 0, .slice none 0 0], .agg #[.bool false, .string ⟨#[]⟩, .int .i64 0, .int .i64 0, .slice none 0 0]], []⟩ 8 (by as_aux_lemma => kernel_rfl) (by as_aux_lemma => kernel_rfl) (by as_aux_lemma => kernel_rfl) (by as_aux_lemma => kernel_rfl)) ?_
 intro W base args ds gs before hval0 hW hcnd hsz0 _
 have hval : ∀ (j : Nat) t v, Try.f4.params[j]? = some t → args[j]? = some v → Value.okWide Try.prog W .any base t v := hval0
 clear hval0
 refine law_contract (n := 2) (tb := 4) rfl rfl rfl Try.underlying4 (by intro ds h; match ds, h with | [d0, d1], _ => rfl) (by as_aux_lemma => kernel_rfl) hW ?_
 intro p hA0 hlt
 have hA : DataW.TrodAll enc Try.prog W 0 (fun _ => true) true Try.f4.params.toList args.toList ds p := hA0
 clear hA0
 rw [Try.params4] at hA hval
 obtain ⟨v0, v1, d0, d1, p0, p1, rfl, rfl, rfl, h0, h1⟩ := trodAll_two hA
 have hsz : (DataW.weightsEach Try.prog (Try.f4.params.toList ++ Rows.produceSameSpec.plain.varTypes Try.prog) ([d0, d1] ++ gs)).all (· ≤ reachBytes) = true := hsz0
 rw [Try.params4] at hsz
 have lg0 : Light 29 d0 := light_arg hsz (j := 0) rfl rfl
 obtain ⟨nl0, dd0, ac0, tm0, l0, q0, cap0, rfl, hd0, ra0, rt0, hl0, hq0, hs0⟩ := preq_open (hval 0 29 v0 rfl rfl) h0 lg0 (fun y hy => hlt y (by simp [hy]))
 have lg1 : Light 29 d1 := light_arg hsz (j := 1) rfl rfl
 obtain ⟨nl1, dd1, ac1, tm1, l1, q1, cap1, rfl, hd1, ra1, rt1, hl1, hq1, hs1⟩ := preq_open (hval 1 29 v1 rfl rfl) h1 lg1 (fun y hy => hlt y (by simp [hy]))
 exact produceSame_any nl0 nl1 dd0 dd1 ac0 ac1 tm0 tm1 l0 l1 q0 q1 cap0 cap1 W hd0 hd1 hl0 hl1 hq0 hq1 hs0 hs1

theorem produceSame_holds : Rows.ProduceSameSaid :=
 OpenClaim.holds_of_wide 4 Try.f4 rfl rfl rfl rfl rfl rfl rfl ⟨rfl, rfl, rfl, rfl, rfl⟩ rfl rfl rfl rfl rfl (by as_aux_lemma => kernel_rfl) Try.func4 (by as_aux_lemma => kernel_rfl)
  (of_decide_eq_true (by as_aux_lemma => kernel_rfl)) (by as_aux_lemma => (unfold Func.isWrapper; rw [if_neg (by as_aux_lemma => decide +kernel)]; exact ⟨rfl, rfl⟩))
  (fun os started H enc _ => produceSame_lifted os started H enc)

end Go.Proofs.Ytnnnglklgofabaa
