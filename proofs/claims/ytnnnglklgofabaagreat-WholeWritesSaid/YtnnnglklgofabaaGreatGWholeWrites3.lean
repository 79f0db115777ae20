/- A text. -/
import Derived.Test.YtnnnglklgofabaaGreatGWholeWrites2
import Derived.Test.YtnnnglklgofabaaGreatRec6
import Derived.Test.YtnnnglklgofabaaGreatGWholeWrites1
import Derived.Test.YtnnnglklgofabaaGreatHdr3
import Derived.Test.YtnnnglklgofabaaGreatRecs
import Derived.Test.YtnnnglklgofabaaGreatS1
/- A text. -/
namespace Go.Proofs.YtnnnglklgofabaaGreat
open Go.RowKit

def PrevIs (l : List (RecS × Value)) (k : Nat) (ah : Int) : Prop := (k = 0 ∧ ah = -1) ∨ (∃ (j : Nat) (h : j < l.length), k = j + 1 ∧ (l[j]'h).1.off = ah ∧ 0 ≤ ah)
theorem zq6 {p : Prop} (h : p := by
  by_cases c3 : 9223372036854775807 - first < x.time
  · have d3 : decide (mf < x.time) = true := by rw [← HMF.out]; exact decide_eq_true c3
    rw [if_pos (.inr c3)] at hc; obtain rfl : 11 = e := by have := HE.out; rw [← hc] at this; exact this
    clear c3 hc; go_wp2; go_ret; exact ⟨rfl, H.out.drop⟩
  · have d3 : decide (mf < x.time) = false := by rw [← HMF.out]; exact decide_eq_false c3
    by_cases c4 : x.time < -first
    · have d4 : decide (x.time < nf) = true := by rw [← HNF.out]; exact decide_eq_true c4
      rw [if_pos (.inl c4)] at hc; obtain rfl : 11 = e := by have := HE.out; rw [← hc] at this; exact this
      clear c3 c4 hc; go_wp2; go_ret; exact ⟨rfl, H.out.drop⟩
    · have d4 : decide (x.time < nf) = false := by rw [← HNF.out]; exact decide_eq_false c4
      rw [if_neg (by omega)] at hc; have HC2 := Lib.hid hc; clear c3 c4 hc; go_wp2; go_roundw
      case rel => exact ⟨k + 1, x.off, _, hlt, by go_num, HC2, PR2, H.out⟩
      case measure => first | (simp [intOf]; done) | (simp [intOf]; omega)) : p := h
theorem zq16 {p : Prop} (h : p := by
  try simp only [Act.put, sA, sB, sC]
  refine tQ 8 ⟨some 68, .binOp .neq 3 (.tmp 65) (.tmp 67) 3, 4, _, _, some (3, true)⟩ ?_; simp only [Act.put, sA, sB, sC]; refine tQ 9 ⟨some 69, .pick (.tmp 63) (.tmp 68) (.const (Value.bool false)), 4, _, _, none⟩ ?_; simp only [Act.put, sA, sB, sC]; refine wpAnyH_done (by kernel_rfl) ?_ _; clear hHeld; go_wp2_with fail; go_ret; exact ⟨rfl, hs.drop⟩) : p := h
set_option maxHeartbeats 1000000 in
set_option maxRecDepth 100000 in
theorem ref11_orders (base leader : Int) (app txn ctl : Bool) (last first maxt prod epoch sq : Int) (l : List (RecS × Value)) (q : Option Addr) (cap : Nat) (e : Int) (he : BatS.rows ⟨base, leader, app, txn, ctl, last, first, maxt, prod, epoch, sq, l.map (·.1)⟩ = e) (hf : 0 ≤ first ∧ first ≤ 9223372036854775807) (hfit : FitB l) (hll : l.length ≤ 1000000) {W0 w : World} {K : Know} {L : List Res} (hk : K.has (Know.recs (.slice q l.length cap) l)) (h : St W0 w K L) :
  Calls Tryz.prog 104 #[.agg #[.int .i64 base, .int .i64 leader, .bool app, .bool txn, .bool ctl, .int .i64 last, .int .i64 first, .int .i64 maxt, .int .i64 prod, .int .i64 epoch, .int .i64 sq, .slice q l.length cap]] w fun en w' => en = .returned (.int .i64 e) ∧ St W0 w' K L := by
 obtain ⟨tot, htot⟩ : ∃ t, rowsC first last (l.map (·.1)) (-1) first = t := ⟨_, rfl⟩; have HE := Lib.hid (show rowsE app maxt tot = e by rw [← he, ← htot]; rfl); have HT := Lib.hid htot; have HLL := Lib.hid hll; have HK := Lib.hid hk; have HFT := Lib.hid hfit; have HF := Lib.hid hf; obtain ⟨nf, hnf⟩ : ∃ m, -first = m := ⟨_, rfl⟩; obtain ⟨mf, hmf⟩ : ∃ m, 9223372036854775807 - first = m := ⟨_, rfl⟩; have HNF := Lib.hid hnf; have HMF := Lib.hid hmf; have n1 : wrap64 (-first) = nf := by rw [← hnf]; unfold wrap64; omega
 have n2 : IntKind.i64.wrap (-first) = nf := by rw [← hnf]; exact IntWalk.i64_in _ (by omega)
 have m1 : wrap64 (9223372036854775807 - first) = mf := by rw [← hmf]; unfold wrap64; omega
 have m2 : IntKind.i64.wrap (9223372036854775807 - first) = mf := by rw [← hmf]; exact IntWalk.i64_in _ (by omega)
 have h1 := h.allocRaw #[.int .i64 base, .int .i64 leader, .bool app, .bool txn, .bool ctl, .int .i64 last, .int .i64 first, .int .i64 maxt, .int .i64 prod, .int .i64 epoch, .int .i64 sq, .slice q l.length cap] 58; obtain ⟨hb, hhb⟩ : ∃ b, w.heap.size = b := ⟨_, rfl⟩; rw [hhb] at h1; obtain ⟨x0, x1, x2, x3, x4, x5, x6, x7, x8, x9, x10, x11, y0, y1, y2, y3, y4, y5, y6, y7, y8, y9, y10, y11⟩ := raw12 (b := hb) (h1); have H := Lib.hid h1; have HP := Lib.hid (show PrevIs l 0 (-1) from .inl ⟨rfl, rfl⟩); clear h h1 hk hfit he htot hnf hmf hf; go_enter Tryz.func104, Tryz.ntmps104; go_wp2; clear x0 y0 x1 y1 x2 y2 x3 y3 x4 y4 x5 y5 x6 y6 x7 y7 x8 y8 x9 y9 x10 y10 x11 y11; go_loopw [3, 4, 5] (fun iv _ _ wr => ∃ (k : Nat) (ah g : Int), k ≤ l.length ∧ iv = .int .i64 k ∧ Hid (rowsC first last ((l.map (·.1)).drop k) ah g = tot) ∧ Hid (PrevIs l k ah) ∧ St W0 wr K (.raw hb #[.int .i64 base, .int .i64 leader, .bool app, .bool txn, .bool ctl, .int .i64 last, .int .i64 first, .int .i64 maxt, .int .i64 prod, .int .i64 epoch, .int .i64 sq, .slice q l.length cap] 58 :: L)) (fun iv _ _ _ => l.length - (intOf iv).toNat)
 case atStart => exact ⟨0, -1, first, Nat.zero_le _, rfl, HT, HP, H.out⟩
 case round =>
  obtain ⟨k, ah, g, hkl, rfl, HC, PR, hst⟩ := hrel; clear H; have H := Lib.hid hst; clear hst; obtain ⟨x0, x1, x2, x3, x4, x5, x6, x7, x8, x9, x10, x11, y0, y1, y2, y3, y4, y5, y6, y7, y8, y9, y10, y11⟩ := raw12 (b := hb) (H.out)
  by_cases hlt : k < l.length
  · have hd := drop_recs l k hlt _ rfl; obtain ⟨b, off, hqq⟩ := recs_at HK.out H.out (by omega); subst hqq; obtain ⟨⟨x, vx⟩, hx⟩ : ∃ x, l[k] = x := ⟨_, rfl⟩; have cc := recs_cell HK.out H.out k hlt (x, vx) hx; have hmem : (x, vx) ∈ l := hx ▸ List.getElem_mem hlt; have xf : x.R ∧ HFit x.hdrs ∧ x.sum ≤ 1000000 := HFT.out (x, vx) hmem; have xk : K.has (Know.flat RHdr vx 3 x.hdrs) := recs_hdrs HK.out hmem; obtain ⟨qx, capx, hvx⟩ := flat_form xk H.out; subst hvx; simp only at cc; obtain ⟨c0, c1, c2, c3, c4, c5, c6⟩ := cc; rw [← Nat.add_assoc] at c1 c2 c3 c4 c5 c6; have hx1 : l[k].1 = x := by rw [hx]
    have XF := Lib.hid xf; have XK := Lib.hid xk; have HX := Lib.hid hx1; clear xf xk hx1 hx hmem; have hki : (k : Int) < (l.length : Int) := by omega
    rw [HX.out] at hd; have hc := HC.out; rw [hd, rowsC_cons] at hc; clear hd
    by_cases c2 : last < x.off
    · have d2 : decide (last < x.off) = true := decide_eq_true c2; rw [if_pos (.inr c2)] at hc; clear c2; obtain rfl : 13 = e := by have := HE.out; rw [← hc] at this; exact this
      go_wp2; go_ret; exact ⟨rfl, H.out.drop⟩
    · have d2 : decide (last < x.off) = false := decide_eq_false c2; have PR2 := Lib.hid (show 0 ≤ x.off → PrevIs l (k + 1) x.off from fun h0 => .inr ⟨k, hlt, rfl, by rw [HX.out], h0⟩)
      rcases PR.out with ⟨hk0, rfl⟩ | ⟨j, hj, hk1, hjo, ha0⟩
      · have dk : decide ((0 : Int) < (k : Int)) = false := decide_eq_false (by omega); have dk2 : decide (0 < k) = false := decide_eq_false (by omega); clear hk0
        by_cases c5 : x.off < 0
        · have d5 : decide (x.off < 0) = true := decide_eq_true c5; rw [if_pos (.inl (by omega))] at hc; clear c2 c5; obtain rfl : 13 = e := by have := HE.out; rw [← hc] at this; exact this
          go_wp2; go_ret; exact ⟨rfl, H.out.drop⟩
        · have d5 : decide (x.off < 0) = false := decide_eq_false c5; rw [if_neg (by omega)] at hc; replace PR2 := Lib.hid (PR2.out (by omega)); clear c2 c5
          exact zq6
      · have dk : decide ((0 : Int) < (k : Int)) = true := decide_eq_true (by omega); have dk2 : decide (0 < k) = true := decide_eq_true (by omega); have kj : (k : Int) - 1 = (j : Int) := by omega
        obtain ⟨⟨y, vy⟩, hy⟩ : ∃ y, l[j] = y := ⟨_, rfl⟩; have cy := recs_cell HK.out H.out j hj (y, vy) hy; rw [hy] at hjo; simp only at cy hjo; obtain ⟨_, g1, _⟩ := cy; rw [← Nat.add_assoc, hjo] at g1; have hjl : (j : Int) < (l.length : Int) := by omega
        have hj0 : (0 : Int) ≤ (j : Int) := by omega
        clear hy hk1 hj
        by_cases c1 : x.off ≤ ah
        · have d1 : decide (x.off ≤ ah) = true := decide_eq_true c1; rw [if_pos (.inl c1)] at hc; clear c1 c2; obtain rfl : 13 = e := by have := HE.out; rw [← hc] at this; exact this
          go_wp2; go_ret; exact ⟨rfl, H.out.drop⟩
        · have d1 : decide (x.off ≤ ah) = false := decide_eq_false c1; have d5 : decide (x.off < 0) = false := decide_eq_false (by omega); rw [if_neg (by omega)] at hc; replace PR2 := Lib.hid (PR2.out (by omega)); clear c1 c2
          exact zq6
  · obtain rfl : l.length = k := by omega
    have hc := HC.out; rw [List.drop_of_length_le (by simp)] at hc; obtain rfl : Except.ok g = tot := hc; have hee := HE.out; simp only [rowsE] at hee
    cases app with
    | true =>
      obtain rfl : 0 = e := by rw [← hee]; rfl
      clear hee; go_upto_region 10 with (fail); have hs := H.out.drew; refine wp_region_held_drew (S := fun w' => w'.cell? ⟨hb, 0, none⟩ = some (.int .i64 base) ∧ w'.cell? ⟨hb, 1, none⟩ = some (.int .i64 leader) ∧ w'.cell? ⟨hb, 2, none⟩ = some (.bool true) ∧ w'.cell? ⟨hb, 3, none⟩ = some (.bool txn) ∧ w'.cell? ⟨hb, 4, none⟩ = some (.bool ctl) ∧ w'.cell? ⟨hb, 5, none⟩ = some (.int .i64 last) ∧ w'.cell? ⟨hb, 6, none⟩ = some (.int .i64 first) ∧ w'.cell? ⟨hb, 7, none⟩ = some (.int .i64 maxt) ∧ w'.cell? ⟨hb, 8, none⟩ = some (.int .i64 prod) ∧ w'.cell? ⟨hb, 9, none⟩ = some (.int .i64 epoch) ∧ w'.cell? ⟨hb, 10, none⟩ = some (.int .i64 sq) ∧ w'.cell? ⟨hb, 11, none⟩ = some (.slice q l.length cap)) (by kernel_rfl) (let ⟨x0, x1, x2, x3, x4, x5, x6, x7, x8, x9, x10, x11, _⟩ := raw12 (b := hb) hs; ⟨x0, x1, x2, x3, x4, x5, x6, x7, x8, x9, x10, x11⟩) (fun hHeld => ?_); refine tQ 0 ⟨some 60, .fieldAddr 58 (.tmp 1) 2, 0, _, _, none⟩ ?_; simp only [Act.put, sA, sB, sC]; refine tQ 1 ⟨some 61, .load 4 (.tmp 60), 4, _, _, none⟩ ?_; simp only [Act.put, sA, sB, sC]; refine tQ 2 ⟨some 62, .unOp UnOp.not 4 (.tmp 61), 4, _, _, none⟩ ?_; simp only [Act.put, sA, sB, sC]; refine tQ 3 ⟨some 63, .move (.tmp 62), 4, _, _, none⟩ ?_; simp only [Act.put, sA, sB, sC]; refine wpAnyH_take (i := 4) (oi := ⟨some 64, .load 58 (.tmp 1), 58, _, _, some (3, true)⟩) (v := undef) rfl (by kernel_rfl) (by kernel_rfl) (by kernel_rfl) (fun _ _ _ h => h) (Or.inr ⟨by rfl, rfl⟩) (by assumption) ?_; simp only [Act.put, sA, sB, sC]; refine wpAnyH_take (i := 5) (oi := ⟨some 65, .call { callee := .value (.func 137), args := #[.tmp 64], argTypes := #[58] }, 3, _, _, some (3, true)⟩) (v := undef) rfl (by kernel_rfl) (by kernel_rfl) (by kernel_rfl) (fun _ _ _ h => h) (Or.inr ⟨by rfl, rfl⟩) (by assumption) ?_; simp only [Act.put, sA, sB, sC]; refine wpAnyH_take (i := 6) (oi := ⟨some 66, .fieldAddr 58 (.tmp 1) 7, 0, _, _, some (3, true)⟩) (v := undef) rfl (by kernel_rfl) (by kernel_rfl) (by kernel_rfl) (fun _ _ _ h => h) (Or.inr ⟨by rfl, rfl⟩) (by assumption) ?_; simp only [Act.put, sA, sB, sC]; refine wpAnyH_take (i := 7) (oi := ⟨some 67, .load 3 (.tmp 66), 3, _, _, some (3, true)⟩) (v := undef) rfl (by kernel_rfl) (by kernel_rfl) (by kernel_rfl) (fun _ _ _ h => h) (Or.inr ⟨by rfl, rfl⟩) (by assumption) ?_; simp only [Act.put, sA, sB, sC]; refine wpAnyH_take (i := 8) (oi := ⟨some 68, .binOp .neq 3 (.tmp 65) (.tmp 67) 3, 4, _, _, some (3, true)⟩) (v := undef) rfl (by kernel_rfl) (by kernel_rfl) (by kernel_rfl) (fun _ _ _ h => h) (Or.inr ⟨by rfl, rfl⟩) (by assumption) ?_; simp only [Act.put, sA, sB, sC]; refine tQ 9 ⟨some 69, .pick (.tmp 63) (.tmp 68) (.const (Value.bool false)), 4, _, _, none⟩ ?_; simp only [Act.put, sA, sB, sC]; refine wpAnyH_done (by kernel_rfl) ?_ _; clear hHeld; go_wp2_with fail; go_ret; exact ⟨rfl, hs.drop⟩
    | false =>
      have HG := Lib.hid (show rowsC first last (l.map (·.1)) (-1) first = .ok g from HT.out)
      by_cases c1 : maxt = g
      · subst c1; obtain rfl : 0 = e := by rw [← hee]; simp
        clear hee; go_upto_region 10 with (fail); have hs := H.out.drew; refine wp_region_held_drew (S := fun w' => w'.cell? ⟨hb, 0, none⟩ = some (.int .i64 base) ∧ w'.cell? ⟨hb, 1, none⟩ = some (.int .i64 leader) ∧ w'.cell? ⟨hb, 2, none⟩ = some (.bool false) ∧ w'.cell? ⟨hb, 3, none⟩ = some (.bool txn) ∧ w'.cell? ⟨hb, 4, none⟩ = some (.bool ctl) ∧ w'.cell? ⟨hb, 5, none⟩ = some (.int .i64 last) ∧ w'.cell? ⟨hb, 6, none⟩ = some (.int .i64 first) ∧ w'.cell? ⟨hb, 7, none⟩ = some (.int .i64 maxt) ∧ w'.cell? ⟨hb, 8, none⟩ = some (.int .i64 prod) ∧ w'.cell? ⟨hb, 9, none⟩ = some (.int .i64 epoch) ∧ w'.cell? ⟨hb, 10, none⟩ = some (.int .i64 sq) ∧ w'.cell? ⟨hb, 11, none⟩ = some (.slice q l.length cap)) (by kernel_rfl) (let ⟨x0, x1, x2, x3, x4, x5, x6, x7, x8, x9, x10, x11, _⟩ := raw12 (b := hb) hs; ⟨x0, x1, x2, x3, x4, x5, x6, x7, x8, x9, x10, x11⟩) (fun hHeld => ?_); refine tQ 0 ⟨some 60, .fieldAddr 58 (.tmp 1) 2, 0, _, _, none⟩ ?_; simp only [Act.put, sA, sB, sC]; refine tQ 1 ⟨some 61, .load 4 (.tmp 60), 4, _, _, none⟩ ?_; simp only [Act.put, sA, sB, sC]; refine tQ 2 ⟨some 62, .unOp UnOp.not 4 (.tmp 61), 4, _, _, none⟩ ?_; simp only [Act.put, sA, sB, sC]; refine tQ 3 ⟨some 63, .move (.tmp 62), 4, _, _, none⟩ ?_; simp only [Act.put, sA, sB, sC]; refine tQ 4 ⟨some 64, .load 58 (.tmp 1), 58, _, _, some (3, true)⟩ ?_; simp only [Act.put, sA, sB, sC]; refine tQ 6 ⟨some 66, .fieldAddr 58 (.tmp 1) 7, 0, _, _, some (3, true)⟩ ?_; simp only [Act.put, sA, sB, sC]; refine tQ 7 ⟨some 67, .load 3 (.tmp 66), 3, _, _, some (3, true)⟩ ?_; simp only [Act.put, sA, sB, sC]; refine wpAnyH_ready (rs := [5]) (by kernel_rfl) (by simp) (AllReadyH.cons (o := ⟨some 65, .call { callee := .value (.func 137), args := #[.tmp 64], argTypes := #[58] }, 3, _, _, some (3, true)⟩) rfl (fun KK hK => ?_) AllReadyH.nil); go_simp; go_at_call 137; with_reducible refine (ref11_times base leader false txn ctl last first maxt prod epoch sq l _ _ _ HG.out HF.out HFT.out HLL.out HK.out hs).mono ?_; rintro e wq ⟨rfl, hs⟩; refine hK.out _ _ (let ⟨x0, x1, x2, x3, x4, x5, x6, x7, x8, x9, x10, x11, _⟩ := raw12 (b := hb) hs; ⟨x0, x1, x2, x3, x4, x5, x6, x7, x8, x9, x10, x11⟩) (fun hHeld => ?_); clear hK KK
        exact zq16
      · obtain rfl : 11 = e := by rw [← hee]; simp [c1]
        have b1 : (g == maxt) = false := by rw [beq_eq_false_iff_ne]; exact fun h => c1 h.symm
        have b2 : (g != maxt) = true := by simp [bne, b1]
        clear hee c1; go_upto_region 10 with (fail); have hs := H.out.drew; refine wp_region_held_drew (S := fun w' => w'.cell? ⟨hb, 0, none⟩ = some (.int .i64 base) ∧ w'.cell? ⟨hb, 1, none⟩ = some (.int .i64 leader) ∧ w'.cell? ⟨hb, 2, none⟩ = some (.bool false) ∧ w'.cell? ⟨hb, 3, none⟩ = some (.bool txn) ∧ w'.cell? ⟨hb, 4, none⟩ = some (.bool ctl) ∧ w'.cell? ⟨hb, 5, none⟩ = some (.int .i64 last) ∧ w'.cell? ⟨hb, 6, none⟩ = some (.int .i64 first) ∧ w'.cell? ⟨hb, 7, none⟩ = some (.int .i64 maxt) ∧ w'.cell? ⟨hb, 8, none⟩ = some (.int .i64 prod) ∧ w'.cell? ⟨hb, 9, none⟩ = some (.int .i64 epoch) ∧ w'.cell? ⟨hb, 10, none⟩ = some (.int .i64 sq) ∧ w'.cell? ⟨hb, 11, none⟩ = some (.slice q l.length cap)) (by kernel_rfl) (let ⟨x0, x1, x2, x3, x4, x5, x6, x7, x8, x9, x10, x11, _⟩ := raw12 (b := hb) hs; ⟨x0, x1, x2, x3, x4, x5, x6, x7, x8, x9, x10, x11⟩) (fun hHeld => ?_); refine tQ 0 ⟨some 60, .fieldAddr 58 (.tmp 1) 2, 0, _, _, none⟩ ?_; simp only [Act.put, sA, sB, sC]; refine tQ 1 ⟨some 61, .load 4 (.tmp 60), 4, _, _, none⟩ ?_; simp only [Act.put, sA, sB, sC]; refine tQ 2 ⟨some 62, .unOp UnOp.not 4 (.tmp 61), 4, _, _, none⟩ ?_; simp only [Act.put, sA, sB, sC]; refine tQ 3 ⟨some 63, .move (.tmp 62), 4, _, _, none⟩ ?_; simp only [Act.put, sA, sB, sC]; refine tQ 4 ⟨some 64, .load 58 (.tmp 1), 58, _, _, some (3, true)⟩ ?_; simp only [Act.put, sA, sB, sC]; refine tQ 6 ⟨some 66, .fieldAddr 58 (.tmp 1) 7, 0, _, _, some (3, true)⟩ ?_; simp only [Act.put, sA, sB, sC]; refine tQ 7 ⟨some 67, .load 3 (.tmp 66), 3, _, _, some (3, true)⟩ ?_; simp only [Act.put, sA, sB, sC]; refine wpAnyH_ready (rs := [5]) (by kernel_rfl) (by simp) (AllReadyH.cons (o := ⟨some 65, .call { callee := .value (.func 137), args := #[.tmp 64], argTypes := #[58] }, 3, _, _, some (3, true)⟩) rfl (fun KK hK => ?_) AllReadyH.nil); go_simp; go_at_call 137; with_reducible refine (ref11_times base leader false txn ctl last first maxt prod epoch sq l _ _ _ HG.out HF.out HFT.out HLL.out HK.out hs).mono ?_; rintro e wq ⟨rfl, hs⟩; refine hK.out _ _ (let ⟨x0, x1, x2, x3, x4, x5, x6, x7, x8, x9, x10, x11, _⟩ := raw12 (b := hb) hs; ⟨x0, x1, x2, x3, x4, x5, x6, x7, x8, x9, x10, x11⟩) (fun hHeld => ?_); clear hK KK
        exact zq16
set_option maxHeartbeats 1000000 in
set_option maxRecDepth 100000 in
theorem ref11_int32s (n lo : Int) (r : Bool) (hr : decide (lo ≤ n ∧ n ≤ 2147483647) = r) {W0 w : World} {K : Know} {L : List Res} (h : St W0 w K L) :
   Calls Tryz.prog 100 #[.int .i64 n, .int .i64 lo] w fun en w' => en = .returned (.bool r) ∧ St W0 w' K L := by
 have H := Lib.hid h; clear h
 by_cases h1 : lo ≤ n
 · have d1 : decide (lo ≤ n) = true := decide_eq_true h1
   by_cases h2 : n ≤ 2147483647
   · have d2 : decide (n ≤ 2147483647) = true := decide_eq_true h2; obtain rfl : true = r := (decide_eq_true ⟨h1, h2⟩).symm.trans hr; clear h1 h2; go_enter Tryz.func100, Tryz.ntmps100; go_wp2; go_ret; exact ⟨rfl, H.out⟩
   · have d2 : decide (n ≤ 2147483647) = false := decide_eq_false h2; obtain rfl : false = r := (decide_eq_false (fun x => h2 x.2)).symm.trans hr; clear h1 h2; go_enter Tryz.func100, Tryz.ntmps100; go_wp2; go_ret; exact ⟨rfl, H.out⟩
 · have d1 : decide (lo ≤ n) = false := decide_eq_false h1; obtain rfl : false = r := (decide_eq_false (fun x => h1 x.1)).symm.trans hr; clear h1; go_enter Tryz.func100, Tryz.ntmps100; go_wp2; go_ret; exact ⟨rfl, H.out⟩

set_option maxHeartbeats 1000000 in
set_option maxRecDepth 100000 in
theorem ref11_producer (base leader : Int) (app txn ctl : Bool) (last first maxt prod epoch sq : Int) (rv : Value) (r : Bool) (hr : (if prod = -1 then decide (epoch = -1 ∧ sq = -1 ∧ txn = false) else if prod < 0 ∨ ¬ (0 ≤ epoch ∧ epoch ≤ 32767) then false else if ctl then decide (sq = -1) else decide (0 ≤ sq ∧ sq ≤ 2147483647)) = r) {W0 w : World} {K : Know} {L : List Res} (h : St W0 w K L) :
   Calls Tryz.prog 101 #[.agg #[.int .i64 base, .int .i64 leader, .bool app, .bool txn, .bool ctl, .int .i64 last, .int .i64 first, .int .i64 maxt, .int .i64 prod, .int .i64 epoch, .int .i64 sq, rv]] w fun en w' => en = .returned (.bool r) ∧ St W0 w' K L := by
 have h1 := h.allocRaw #[.int .i64 base, .int .i64 leader, .bool app, .bool txn, .bool ctl, .int .i64 last, .int .i64 first, .int .i64 maxt, .int .i64 prod, .int .i64 epoch, .int .i64 sq, rv] 58; obtain ⟨hb, hhb⟩ : ∃ b, w.heap.size = b := ⟨_, rfl⟩; rw [hhb] at h1; obtain ⟨x0, x1, x2, x3, x4, x5, x6, x7, x8, x9, x10, x11, y0, y1, y2, y3, y4, y5, y6, y7, y8, y9, y10, y11⟩ := raw12 (b := hb) (h1); have H := Lib.hid h1; clear h h1
 by_cases c0 : prod = -1
 · rw [if_pos c0] at hr; subst c0
   by_cases c1 : epoch = -1
   · subst c1
     by_cases c2 : sq = -1
     · subst c2; obtain rfl : (!txn) = r := by rw [← hr]; cases txn <;> rfl
       clear hr; go_enter Tryz.func101, Tryz.ntmps101; go_wp2; go_ret; exact ⟨rfl, H.out.drop⟩
     · obtain rfl : false = r := by rw [← hr]; exact (decide_eq_false (fun x => c2 x.2.1)).symm
       have b2 : (sq == -1) = false := by rw [beq_eq_false_iff_ne]; exact c2
       clear hr c2; go_enter Tryz.func101, Tryz.ntmps101; go_wp2; go_ret; exact ⟨rfl, H.out.drop⟩
   · obtain rfl : false = r := by rw [← hr]; exact (decide_eq_false (fun x => c1 x.1)).symm
     have b1 : (epoch == -1) = false := by rw [beq_eq_false_iff_ne]; exact c1
     clear hr c1; go_enter Tryz.func101, Tryz.ntmps101; go_wp2; go_ret; exact ⟨rfl, H.out.drop⟩
 · rw [if_neg c0] at hr; have b0 : (prod == -1) = false := by rw [beq_eq_false_iff_ne]; exact c0
   by_cases c1 : prod < 0
   · rw [if_pos (.inl c1)] at hr; subst hr; have d1 : decide (prod < 0) = true := decide_eq_true c1; clear c0 c1; go_enter Tryz.func101, Tryz.ntmps101; go_wp2; go_ret; exact ⟨rfl, H.out.drop⟩
   · have d1 : decide (prod < 0) = false := decide_eq_false c1
     by_cases c2 : epoch < 0
     · rw [if_pos (.inr (by omega))] at hr; subst hr; have d2 : decide (epoch < 0) = true := decide_eq_true c2; clear c0 c1 c2; go_enter Tryz.func101, Tryz.ntmps101; go_wp2; go_ret; exact ⟨rfl, H.out.drop⟩
     · have d2 : decide (epoch < 0) = false := decide_eq_false c2
       by_cases c3 : 32767 < epoch
       · rw [if_pos (.inr (by omega))] at hr; subst hr; have d3 : decide ((32767 : Int) < epoch) = true := decide_eq_true c3; clear c0 c1 c2 c3; go_enter Tryz.func101, Tryz.ntmps101; go_wp2; go_ret; exact ⟨rfl, H.out.drop⟩
       · have d3 : decide ((32767 : Int) < epoch) = false := decide_eq_false c3; rw [if_neg (by rintro (x | x); exact c1 x; exact x (by omega))] at hr; clear c0 c1 c2 c3
         cases ctl with
         | true =>
          obtain rfl : (sq == -1) = r := by rw [← hr]; rfl
          clear hr; go_enter Tryz.func101, Tryz.ntmps101; go_wp2; go_ret; exact ⟨rfl, H.out.drop⟩
         | false =>
          have HS := Lib.hid (show decide (0 ≤ sq ∧ sq ≤ 2147483647) = r from hr); clear hr; go_enter Tryz.func101, Tryz.ntmps101; go_wp2_with (go_at_call 100; (with_reducible refine (ref11_int32s sq 0 _ HS.out H.out).mono ?_); rintro e_ wn ⟨rfl, h⟩; replace H := Lib.hid h; clear h; obtain ⟨x0, x1, x2, x3, x4, x5, x6, x7, x8, x9, x10, x11, y0, y1, y2, y3, y4, y5, y6, y7, y8, y9, y10, y11⟩ := raw12 (b := hb) (H.out)); go_ret; exact ⟨rfl, H.out.drop⟩
theorem zq3 {p : Prop} (h : p := by
  have hd := drop_recs l k hlt _ rfl; obtain ⟨b, off, hqq⟩ := recs_at HK.out H.out (by omega); subst hqq; obtain ⟨⟨x, vx⟩, hx⟩ : ∃ x, l[k] = x := ⟨_, rfl⟩; have cc := recs_cell HK.out H.out k hlt (x, vx) hx; have hmem : (x, vx) ∈ l := hx ▸ List.getElem_mem hlt; have xf : x.R ∧ HFit x.hdrs ∧ x.sum ≤ 1000000 := HFT.out (x, vx) hmem; have xk : K.has (Know.flat RHdr vx 3 x.hdrs) := recs_hdrs HK.out hmem; obtain ⟨qx, capx, hvx⟩ := flat_form xk H.out; subst hvx; simp only at cc; obtain ⟨c0, c1, c2, c3, c4, c5, c6⟩ := cc; rw [← Nat.add_assoc] at c1 c2 c3 c4 c5 c6; have hx1 : l[k].1 = x := by rw [hx]
  have XF := Lib.hid xf; have XK := Lib.hid xk; have HX := Lib.hid hx1; clear xf xk hx1 hx hmem; have hki : (k : Int) < (l.length : Int) := by omega
  rw [HX.out] at hd; have hc := HC.out; rw [hd] at hc; have hc : (if recOk x = 0 then recsC ((l.map (·.1)).drop (k + 1)) else recOk x) = tot := hc; have XL := Lib.hid (show x.hdrs.length ≤ 9223372036854775807 by have := sum_hdrs XF.out.2.2; omega); clear hd
  by_cases c1 : recOk x = 0
  · rw [if_pos c1] at hc; have HC2 := Lib.hid hc; have ER := Lib.hid c1; clear hc c1; go_wp2_with (go_at_call 102; (with_reducible refine (ref07_right x (.slice qx x.hdrs.length capx) _ ER.out XL.out XK.out H.out).mono ?_); rintro e_ wn ⟨rfl, h⟩; replace H := Lib.hid h; clear h; obtain ⟨x0, x1, x2, x3, x4, x5, x6, x7, x8, x9, x10, x11, y0, y1, y2, y3, y4, y5, y6, y7, y8, y9, y10, y11⟩ := raw12 (b := hb) (H.out)); go_roundw
    case rel => exact ⟨k + 1, hlt, by go_num, HC2.out, H.out⟩
    case measure => first | (simp [intOf]; done) | (simp [intOf]; omega)
  · rw [if_neg c1] at hc; have ER := Lib.hid hc; have gz : (tot == 0) = false := by rw [beq_eq_false_iff_ne, ← hc]; exact c1
    obtain rfl : tot = e := HTE.out (by rw [← hc]; exact c1); clear hc c1; go_wp2_with (go_at_call 102; (with_reducible refine (ref07_right x (.slice qx x.hdrs.length capx) _ ER.out XL.out XK.out H.out).mono ?_); rintro e_ wn ⟨rfl, h⟩; replace H := Lib.hid h; clear h; obtain ⟨x0, x1, x2, x3, x4, x5, x6, x7, x8, x9, x10, x11, y0, y1, y2, y3, y4, y5, y6, y7, y8, y9, y10, y11⟩ := raw12 (b := hb) (H.out)); go_ret; exact ⟨rfl, H.out.drop⟩) : p := h
set_option maxHeartbeats 1000000 in
set_option maxRecDepth 100000 in
theorem ref11_check (base leader : Int) (app txn ctl : Bool) (last first maxt prod epoch sq : Int) (l : List (RecS × Value)) (q : Option Addr) (cap : Nat) (e : Int) (he : batErr ⟨base, leader, app, txn, ctl, last, first, maxt, prod, epoch, sq, l.map (·.1)⟩ = e) (hmx : first ≤ 9223372036854775807) (hb0 : Rn base) (hfit : FitB l) (hll : l.length ≤ 1000000) {W0 w : World} {K : Know} {L : List Res} (hk : K.has (Know.recs (.slice q l.length cap) l)) (h : St W0 w K L) :
    Calls Tryz.prog 71 #[.agg #[.int .i64 base, .int .i64 leader, .bool app, .bool txn, .bool ctl, .int .i64 last, .int .i64 first, .int .i64 maxt, .int .i64 prod, .int .i64 epoch, .int .i64 sq, .slice q l.length cap]] w fun en w' => en = .returned (.int .i64 e) ∧ St W0 w' K L := by
  have HK := Lib.hid hk; have HFT := Lib.hid hfit; have HLL := Lib.hid hll; unfold Rn at hb0; have h1 := h.allocRaw #[.int .i64 base, .int .i64 leader, .bool app, .bool txn, .bool ctl, .int .i64 last, .int .i64 first, .int .i64 maxt, .int .i64 prod, .int .i64 epoch, .int .i64 sq, .slice q l.length cap] 58; obtain ⟨hb, hhb⟩ : ∃ b, w.heap.size = b := ⟨_, rfl⟩; rw [hhb] at h1; obtain ⟨x0, x1, x2, x3, x4, x5, x6, x7, x8, x9, x10, x11, y0, y1, y2, y3, y4, y5, y6, y7, y8, y9, y10, y11⟩ := raw12 (b := hb) (h1); have H := Lib.hid h1; clear h h1 hk hfit; unfold batErr at he; simp only [List.length_map] at he
  by_cases p1 : BatS.placed ⟨base, leader, app, txn, ctl, last, first, maxt, prod, epoch, sq, l.map (·.1)⟩ = false
  · rw [if_pos p1] at he; subst he
    by_cases g0 : 0 ≤ base
    case neg =>
      have d0 : decide (base < 0) = true := decide_eq_true (by omega); clear g0; clear p1 hmx hll hb0; go_enter Tryz.func71, Tryz.ntmps71
      go_wp2_with (first
    | (go_at_call 100; (with_reducible refine (ref11_int32s leader (-1) _ HW1.out H.out).mono ?_); rintro e_ wn ⟨rfl, h⟩; replace H := Lib.hid h; clear h; obtain ⟨x0, x1, x2, x3, x4, x5, x6, x7, x8, x9, x10, x11, y0, y1, y2, y3, y4, y5, y6, y7, y8, y9, y10, y11⟩ := raw12 (b := hb) (H.out))
    | (go_at_call 100; (with_reducible refine (ref11_int32s last 0 _ HW2.out H.out).mono ?_); rintro e_ wn ⟨rfl, h⟩; replace H := Lib.hid h; clear h; obtain ⟨x0, x1, x2, x3, x4, x5, x6, x7, x8, x9, x10, x11, y0, y1, y2, y3, y4, y5, y6, y7, y8, y9, y10, y11⟩ := raw12 (b := hb) (H.out)))
      go_ret; exact ⟨rfl, H.out.drop⟩
    by_cases g1 : -1 ≤ leader ∧ leader ≤ 2147483647
    case neg =>
      have d0 : decide (base < 0) = false := decide_eq_false (by omega); have HW1 := Lib.hid (show decide (-1 ≤ leader ∧ leader ≤ 2147483647) = false from decide_eq_false g1); clear g0 g1; clear p1 hmx hll hb0; go_enter Tryz.func71, Tryz.ntmps71
      go_wp2_with (first
    | (go_at_call 100; (with_reducible refine (ref11_int32s leader (-1) _ HW1.out H.out).mono ?_); rintro e_ wn ⟨rfl, h⟩; replace H := Lib.hid h; clear h; obtain ⟨x0, x1, x2, x3, x4, x5, x6, x7, x8, x9, x10, x11, y0, y1, y2, y3, y4, y5, y6, y7, y8, y9, y10, y11⟩ := raw12 (b := hb) (H.out))
    | (go_at_call 100; (with_reducible refine (ref11_int32s last 0 _ HW2.out H.out).mono ?_); rintro e_ wn ⟨rfl, h⟩; replace H := Lib.hid h; clear h; obtain ⟨x0, x1, x2, x3, x4, x5, x6, x7, x8, x9, x10, x11, y0, y1, y2, y3, y4, y5, y6, y7, y8, y9, y10, y11⟩ := raw12 (b := hb) (H.out)))
      go_ret; exact ⟨rfl, H.out.drop⟩
    by_cases g2 : 0 ≤ last ∧ last ≤ 2147483647
    case neg =>
      have d0 : decide (base < 0) = false := decide_eq_false (by omega); have HW1 := Lib.hid (show decide (-1 ≤ leader ∧ leader ≤ 2147483647) = true from decide_eq_true g1); have HW2 := Lib.hid (show decide (0 ≤ last ∧ last ≤ 2147483647) = false from decide_eq_false g2); clear g0 g1 g2; clear p1 hmx hll hb0; go_enter Tryz.func71, Tryz.ntmps71
      go_wp2_with (first
    | (go_at_call 100; (with_reducible refine (ref11_int32s leader (-1) _ HW1.out H.out).mono ?_); rintro e_ wn ⟨rfl, h⟩; replace H := Lib.hid h; clear h; obtain ⟨x0, x1, x2, x3, x4, x5, x6, x7, x8, x9, x10, x11, y0, y1, y2, y3, y4, y5, y6, y7, y8, y9, y10, y11⟩ := raw12 (b := hb) (H.out))
    | (go_at_call 100; (with_reducible refine (ref11_int32s last 0 _ HW2.out H.out).mono ?_); rintro e_ wn ⟨rfl, h⟩; replace H := Lib.hid h; clear h; obtain ⟨x0, x1, x2, x3, x4, x5, x6, x7, x8, x9, x10, x11, y0, y1, y2, y3, y4, y5, y6, y7, y8, y9, y10, y11⟩ := raw12 (b := hb) (H.out)))
      go_ret; exact ⟨rfl, H.out.drop⟩
    by_cases g3 : base ≤ 9223372036854775807 - last
    case neg =>
      have d0 : decide (base < 0) = false := decide_eq_false (by omega); have HW1 := Lib.hid (show decide (-1 ≤ leader ∧ leader ≤ 2147483647) = true from decide_eq_true g1); have HW2 := Lib.hid (show decide (0 ≤ last ∧ last ≤ 2147483647) = true from decide_eq_true g2); obtain ⟨ml, hml⟩ : ∃ ml, 9223372036854775807 - base = ml := ⟨_, rfl⟩; have wl : wrap64 (9223372036854775807 - base) = ml := by rw [← hml]; unfold wrap64; omega
      have wl2 : IntKind.i64.wrap (9223372036854775807 - base) = ml := by rw [← hml]; exact IntWalk.i64_in _ (by omega)
      have d3 : decide (ml < last) = true := by rw [← hml]; exact decide_eq_true (by omega)
      clear g0 g1 g2 g3 hml; clear p1 hmx hll hb0; go_enter Tryz.func71, Tryz.ntmps71
      go_wp2_with (first
    | (go_at_call 100; (with_reducible refine (ref11_int32s leader (-1) _ HW1.out H.out).mono ?_); rintro e_ wn ⟨rfl, h⟩; replace H := Lib.hid h; clear h; obtain ⟨x0, x1, x2, x3, x4, x5, x6, x7, x8, x9, x10, x11, y0, y1, y2, y3, y4, y5, y6, y7, y8, y9, y10, y11⟩ := raw12 (b := hb) (H.out))
    | (go_at_call 100; (with_reducible refine (ref11_int32s last 0 _ HW2.out H.out).mono ?_); rintro e_ wn ⟨rfl, h⟩; replace H := Lib.hid h; clear h; obtain ⟨x0, x1, x2, x3, x4, x5, x6, x7, x8, x9, x10, x11, y0, y1, y2, y3, y4, y5, y6, y7, y8, y9, y10, y11⟩ := raw12 (b := hb) (H.out)))
      go_ret; exact ⟨rfl, H.out.drop⟩
    by_cases g4 : 0 ≤ first
    case neg =>
      have d0 : decide (base < 0) = false := decide_eq_false (by omega); have HW1 := Lib.hid (show decide (-1 ≤ leader ∧ leader ≤ 2147483647) = true from decide_eq_true g1); have HW2 := Lib.hid (show decide (0 ≤ last ∧ last ≤ 2147483647) = true from decide_eq_true g2); obtain ⟨ml, hml⟩ : ∃ ml, 9223372036854775807 - base = ml := ⟨_, rfl⟩; have wl : wrap64 (9223372036854775807 - base) = ml := by rw [← hml]; unfold wrap64; omega
      have wl2 : IntKind.i64.wrap (9223372036854775807 - base) = ml := by rw [← hml]; exact IntWalk.i64_in _ (by omega)
      have d3 : decide (ml < last) = false := by rw [← hml]; exact decide_eq_false (by omega)
      have d4 : decide (first < 0) = true := decide_eq_true (by omega); clear g0 g1 g2 g3 g4 hml; clear p1 hmx hll hb0; go_enter Tryz.func71, Tryz.ntmps71
      go_wp2_with (first
    | (go_at_call 100; (with_reducible refine (ref11_int32s leader (-1) _ HW1.out H.out).mono ?_); rintro e_ wn ⟨rfl, h⟩; replace H := Lib.hid h; clear h; obtain ⟨x0, x1, x2, x3, x4, x5, x6, x7, x8, x9, x10, x11, y0, y1, y2, y3, y4, y5, y6, y7, y8, y9, y10, y11⟩ := raw12 (b := hb) (H.out))
    | (go_at_call 100; (with_reducible refine (ref11_int32s last 0 _ HW2.out H.out).mono ?_); rintro e_ wn ⟨rfl, h⟩; replace H := Lib.hid h; clear h; obtain ⟨x0, x1, x2, x3, x4, x5, x6, x7, x8, x9, x10, x11, y0, y1, y2, y3, y4, y5, y6, y7, y8, y9, y10, y11⟩ := raw12 (b := hb) (H.out)))
      go_ret; exact ⟨rfl, H.out.drop⟩
    by_cases g5 : 0 ≤ maxt
    case neg =>
      have d0 : decide (base < 0) = false := decide_eq_false (by omega); have HW1 := Lib.hid (show decide (-1 ≤ leader ∧ leader ≤ 2147483647) = true from decide_eq_true g1); have HW2 := Lib.hid (show decide (0 ≤ last ∧ last ≤ 2147483647) = true from decide_eq_true g2); obtain ⟨ml, hml⟩ : ∃ ml, 9223372036854775807 - base = ml := ⟨_, rfl⟩; have wl : wrap64 (9223372036854775807 - base) = ml := by rw [← hml]; unfold wrap64; omega
      have wl2 : IntKind.i64.wrap (9223372036854775807 - base) = ml := by rw [← hml]; exact IntWalk.i64_in _ (by omega)
      have d3 : decide (ml < last) = false := by rw [← hml]; exact decide_eq_false (by omega)
      have d4 : decide (first < 0) = false := decide_eq_false (by omega); have d5 : decide (maxt < 0) = true := decide_eq_true (by omega); clear g0 g1 g2 g3 g4 g5 hml; clear p1 hmx hll hb0; go_enter Tryz.func71, Tryz.ntmps71
      go_wp2_with (first
    | (go_at_call 100; (with_reducible refine (ref11_int32s leader (-1) _ HW1.out H.out).mono ?_); rintro e_ wn ⟨rfl, h⟩; replace H := Lib.hid h; clear h; obtain ⟨x0, x1, x2, x3, x4, x5, x6, x7, x8, x9, x10, x11, y0, y1, y2, y3, y4, y5, y6, y7, y8, y9, y10, y11⟩ := raw12 (b := hb) (H.out))
    | (go_at_call 100; (with_reducible refine (ref11_int32s last 0 _ HW2.out H.out).mono ?_); rintro e_ wn ⟨rfl, h⟩; replace H := Lib.hid h; clear h; obtain ⟨x0, x1, x2, x3, x4, x5, x6, x7, x8, x9, x10, x11, y0, y1, y2, y3, y4, y5, y6, y7, y8, y9, y10, y11⟩ := raw12 (b := hb) (H.out)))
      go_ret; exact ⟨rfl, H.out.drop⟩
    exact absurd (show BatS.placed ⟨base, leader, app, txn, ctl, last, first, maxt, prod, epoch, sq, l.map (·.1)⟩ = true from decide_eq_true ⟨g0, g1, g2, g3, g4, g5⟩) (by rw [p1]; decide)
  rw [if_neg p1] at he
  have p2 : BatS.placed ⟨base, leader, app, txn, ctl, last, first, maxt, prod, epoch, sq, l.map (·.1)⟩ = true := by cases hh : BatS.placed ⟨base, leader, app, txn, ctl, last, first, maxt, prod, epoch, sq, l.map (·.1)⟩ with
    | false => exact absurd hh p1
    | true => rfl
  obtain ⟨g0, g1, g2, g3, g4, g5⟩ := of_decide_eq_true (show decide (0 ≤ base ∧ (-1 ≤ leader ∧ leader ≤ 2147483647) ∧ (0 ≤ last ∧ last ≤ 2147483647) ∧ base ≤ 9223372036854775807 - last ∧ 0 ≤ first ∧ 0 ≤ maxt) = true from p2); have HFP := Lib.hid (show 0 ≤ first ∧ first ≤ 9223372036854775807 from ⟨g4, hmx⟩); have d0 : decide (base < 0) = false := decide_eq_false (by omega); have HW1 := Lib.hid (show decide (-1 ≤ leader ∧ leader ≤ 2147483647) = true from decide_eq_true g1); have HW2 := Lib.hid (show decide (0 ≤ last ∧ last ≤ 2147483647) = true from decide_eq_true g2); obtain ⟨ml, hml⟩ : ∃ ml, 9223372036854775807 - base = ml := ⟨_, rfl⟩; have wl : wrap64 (9223372036854775807 - base) = ml := by rw [← hml]; unfold wrap64; omega
  have wl2 : IntKind.i64.wrap (9223372036854775807 - base) = ml := by rw [← hml]; exact IntWalk.i64_in _ (by omega)
  have d3 : decide (ml < last) = false := by rw [← hml]; exact decide_eq_false (by omega)
  have d4 : decide (first < 0) = false := decide_eq_false (by omega); have d5 : decide (maxt < 0) = false := decide_eq_false (by omega); clear g0 g1 g2 g3 g4 g5 hml; clear p1 p2 hmx hb0
  by_cases c1 : ctl = true ∧ txn = false
  · rw [if_pos c1] at he; subst he; obtain ⟨rfl, rfl⟩ := c1; clear hll; go_enter Tryz.func71, Tryz.ntmps71
    go_wp2_with (first
    | (go_at_call 100; (with_reducible refine (ref11_int32s leader (-1) _ HW1.out H.out).mono ?_); rintro e_ wn ⟨rfl, h⟩; replace H := Lib.hid h; clear h; obtain ⟨x0, x1, x2, x3, x4, x5, x6, x7, x8, x9, x10, x11, y0, y1, y2, y3, y4, y5, y6, y7, y8, y9, y10, y11⟩ := raw12 (b := hb) (H.out))
    | (go_at_call 100; (with_reducible refine (ref11_int32s last 0 _ HW2.out H.out).mono ?_); rintro e_ wn ⟨rfl, h⟩; replace H := Lib.hid h; clear h; obtain ⟨x0, x1, x2, x3, x4, x5, x6, x7, x8, x9, x10, x11, y0, y1, y2, y3, y4, y5, y6, y7, y8, y9, y10, y11⟩ := raw12 (b := hb) (H.out)))
    go_ret; exact ⟨rfl, H.out.drop⟩
  rw [if_neg c1] at he
  by_cases s1 : BatS.signed ⟨base, leader, app, txn, ctl, last, first, maxt, prod, epoch, sq, l.map (·.1)⟩ = false
  · rw [if_pos s1] at he; subst he; have HS := Lib.hid (show (if prod = -1 then decide (epoch = -1 ∧ sq = -1 ∧ txn = false) else if prod < 0 ∨ ¬ (0 ≤ epoch ∧ epoch ≤ 32767) then false else if ctl then decide (sq = -1) else decide (0 ≤ sq ∧ sq ≤ 2147483647)) = false from s1); clear s1 hll
    cases ctl with
    | false =>
      go_enter Tryz.func71, Tryz.ntmps71
      go_wp2_with (first
    | (go_at_call 100; (with_reducible refine (ref11_int32s leader (-1) _ HW1.out H.out).mono ?_); rintro e_ wn ⟨rfl, h⟩; replace H := Lib.hid h; clear h; obtain ⟨x0, x1, x2, x3, x4, x5, x6, x7, x8, x9, x10, x11, y0, y1, y2, y3, y4, y5, y6, y7, y8, y9, y10, y11⟩ := raw12 (b := hb) (H.out))
    | (go_at_call 100; (with_reducible refine (ref11_int32s last 0 _ HW2.out H.out).mono ?_); rintro e_ wn ⟨rfl, h⟩; replace H := Lib.hid h; clear h; obtain ⟨x0, x1, x2, x3, x4, x5, x6, x7, x8, x9, x10, x11, y0, y1, y2, y3, y4, y5, y6, y7, y8, y9, y10, y11⟩ := raw12 (b := hb) (H.out))
    | (go_at_call 101; (with_reducible refine (ref11_producer _ _ _ _ _ _ _ _ _ _ _ _ _ HS.out H.out).mono ?_); rintro e_ wn ⟨rfl, h⟩; replace H := Lib.hid h; clear h; obtain ⟨x0, x1, x2, x3, x4, x5, x6, x7, x8, x9, x10, x11, y0, y1, y2, y3, y4, y5, y6, y7, y8, y9, y10, y11⟩ := raw12 (b := hb) (H.out)))
      go_ret; exact ⟨rfl, H.out.drop⟩
    | true =>
      cases txn with
      | false => exact absurd ⟨rfl, rfl⟩ c1
      | true =>
        clear c1; go_enter Tryz.func71, Tryz.ntmps71
        go_wp2_with (first
    | (go_at_call 100; (with_reducible refine (ref11_int32s leader (-1) _ HW1.out H.out).mono ?_); rintro e_ wn ⟨rfl, h⟩; replace H := Lib.hid h; clear h; obtain ⟨x0, x1, x2, x3, x4, x5, x6, x7, x8, x9, x10, x11, y0, y1, y2, y3, y4, y5, y6, y7, y8, y9, y10, y11⟩ := raw12 (b := hb) (H.out))
    | (go_at_call 100; (with_reducible refine (ref11_int32s last 0 _ HW2.out H.out).mono ?_); rintro e_ wn ⟨rfl, h⟩; replace H := Lib.hid h; clear h; obtain ⟨x0, x1, x2, x3, x4, x5, x6, x7, x8, x9, x10, x11, y0, y1, y2, y3, y4, y5, y6, y7, y8, y9, y10, y11⟩ := raw12 (b := hb) (H.out))
    | (go_at_call 101; (with_reducible refine (ref11_producer _ _ _ _ _ _ _ _ _ _ _ _ _ HS.out H.out).mono ?_); rintro e_ wn ⟨rfl, h⟩; replace H := Lib.hid h; clear h; obtain ⟨x0, x1, x2, x3, x4, x5, x6, x7, x8, x9, x10, x11, y0, y1, y2, y3, y4, y5, y6, y7, y8, y9, y10, y11⟩ := raw12 (b := hb) (H.out)))
        go_ret; exact ⟨rfl, H.out.drop⟩
  rw [if_neg s1] at he
  have s2 : BatS.signed ⟨base, leader, app, txn, ctl, last, first, maxt, prod, epoch, sq, l.map (·.1)⟩ = true := by cases hh : BatS.signed ⟨base, leader, app, txn, ctl, last, first, maxt, prod, epoch, sq, l.map (·.1)⟩ with
    | false => exact absurd hh s1
    | true => rfl
  have HS := Lib.hid (show (if prod = -1 then decide (epoch = -1 ∧ sq = -1 ∧ txn = false) else if prod < 0 ∨ ¬ (0 ≤ epoch ∧ epoch ≤ 32767) then false else if ctl then decide (sq = -1) else decide (0 ≤ sq ∧ sq ≤ 2147483647)) = true from s2); clear s1 s2
  cases ctl with
  | false =>
    rw [if_neg (fun h => by cases h.1)] at he; obtain ⟨tot, htot⟩ : ∃ t, recsC (l.map (·.1)) = t := ⟨_, rfl⟩; rw [htot] at he; have HTE := Lib.hid (show tot ≠ 0 → tot = e from fun h => by rw [if_pos h] at he; exact he); have HTZ := Lib.hid (show tot = 0 → BatS.rows ⟨base, leader, app, txn, false, last, first, maxt, prod, epoch, sq, l.map (·.1)⟩ = e from fun h => by rw [if_neg (fun x => x h), if_neg (fun h => by cases h.1)] at he; exact he); have HT := Lib.hid htot; clear he htot c1; go_enter Tryz.func71, Tryz.ntmps71
    go_wp2_with (first
        | (go_at_call 100; (with_reducible refine (ref11_int32s leader (-1) _ HW1.out H.out).mono ?_); rintro e_ wn ⟨rfl, h⟩; replace H := Lib.hid h; clear h; obtain ⟨x0, x1, x2, x3, x4, x5, x6, x7, x8, x9, x10, x11, y0, y1, y2, y3, y4, y5, y6, y7, y8, y9, y10, y11⟩ := raw12 (b := hb) (H.out))
        | (go_at_call 100; (with_reducible refine (ref11_int32s last 0 _ HW2.out H.out).mono ?_); rintro e_ wn ⟨rfl, h⟩; replace H := Lib.hid h; clear h; obtain ⟨x0, x1, x2, x3, x4, x5, x6, x7, x8, x9, x10, x11, y0, y1, y2, y3, y4, y5, y6, y7, y8, y9, y10, y11⟩ := raw12 (b := hb) (H.out))
        | (go_at_call 101; (with_reducible refine (ref11_producer _ _ _ _ _ _ _ _ _ _ _ _ _ HS.out H.out).mono ?_); rintro e_ wn ⟨rfl, h⟩; replace H := Lib.hid h; clear h; obtain ⟨x0, x1, x2, x3, x4, x5, x6, x7, x8, x9, x10, x11, y0, y1, y2, y3, y4, y5, y6, y7, y8, y9, y10, y11⟩ := raw12 (b := hb) (H.out)))
    go_loopw [3, 4] (fun iv _ wr => ∃ k : Nat, k ≤ l.length ∧ iv = .int .i64 k ∧ Hid (recsC ((l.map (·.1)).drop k) = tot) ∧ St W0 wr K (.raw hb #[.int .i64 base, .int .i64 leader, .bool app, .bool txn, .bool false, .int .i64 last, .int .i64 first, .int .i64 maxt, .int .i64 prod, .int .i64 epoch, .int .i64 sq, .slice q l.length cap] 58 :: L)) (fun iv _ _ => l.length - (intOf iv).toNat)
    case atStart => exact ⟨0, Nat.zero_le _, rfl, HT, H.out⟩
    case round =>
      clear x0 y0 x1 y1 x2 y2 x3 y3 x4 y4 x5 y5 x6 y6 x7 y7 x8 y8 x9 y9 x10 y10 x11 y11; obtain ⟨k, hkl, rfl, HC, hst⟩ := hrel; clear H; have H := Lib.hid hst; clear hst; obtain ⟨x0, x1, x2, x3, x4, x5, x6, x7, x8, x9, x10, x11, y0, y1, y2, y3, y4, y5, y6, y7, y8, y9, y10, y11⟩ := raw12 (b := hb) (H.out)
      by_cases hlt : k < l.length
      · exact zq3
      · obtain rfl : l.length = k := by omega
        have hc := HC.out; rw [List.drop_of_length_le (by simp)] at hc; obtain rfl : 0 = tot := hc; have HROW := Lib.hid (HTZ.out rfl); go_wp2_with (go_at_call 104; (with_reducible refine (ref11_orders _ _ _ _ _ _ _ _ _ _ _ l _ _ _ HROW.out HFP.out HFT.out HLL.out HK.out H.out).mono ?_); rintro e_ wn ⟨rfl, h⟩; replace H := Lib.hid h; clear h); go_ret; exact ⟨rfl, H.out.drop⟩

  | true =>
    cases txn with
    | false => exact absurd ⟨rfl, rfl⟩ c1
    | true =>
      clear c1
      by_cases c2 : l.length = 1
      · rw [if_neg (fun h => h.2 c2)] at he; have HLEN := Lib.hid c2; have bl : ((l.length : Int) == 1) = true := by rw [c2]; rfl
        have bl2 : ((l.length : Int) != 1) = false := by rw [c2]; rfl
        obtain ⟨tot, htot⟩ : ∃ t, recsC (l.map (·.1)) = t := ⟨_, rfl⟩; rw [htot] at he; have HTE := Lib.hid (show tot ≠ 0 → tot = e from fun h => by rw [if_pos h] at he; exact he)
        have HEN := Lib.hid (show ∀ (x : RecS) (h0 : 0 < l.length), (l[0]'h0).1 = x → ((ctlOf x).2.2 ≠ 0 → tot = 0 → (ctlOf x).2.2 = e) ∧ ((ctlOf x).2.2 = 0 → tot = 0 → BatS.rows ⟨base, leader, app, true, true, last, first, maxt, prod, epoch, sq, l.map (·.1)⟩ = e) from fun x h0 hx => by
          have hm : l.map (·.1) = x :: (l.map (·.1)).drop 1 := by have := drop_recs l 0 (by omega) x hx; simpa using this
          have hens : BatS.ends ⟨base, leader, app, true, true, last, first, maxt, prod, epoch, sq, l.map (·.1)⟩ = (ctlOf x).2.2 := by unfold BatS.ends; simp only; rw [hm]
          rw [hens] at he; refine ⟨fun h h2 => ?_, fun h h2 => ?_⟩
          · rw [if_neg (fun y => y h2), if_pos ⟨rfl, h⟩] at he; exact he
          · rw [if_neg (fun y => y h2), if_neg (fun y => y.2 h)] at he; exact he)
        have HT := Lib.hid htot; clear he htot c2; go_enter Tryz.func71, Tryz.ntmps71
        go_wp2_with (first
            | (go_at_call 100; (with_reducible refine (ref11_int32s leader (-1) _ HW1.out H.out).mono ?_); rintro e_ wn ⟨rfl, h⟩; replace H := Lib.hid h; clear h; obtain ⟨x0, x1, x2, x3, x4, x5, x6, x7, x8, x9, x10, x11, y0, y1, y2, y3, y4, y5, y6, y7, y8, y9, y10, y11⟩ := raw12 (b := hb) (H.out))
            | (go_at_call 100; (with_reducible refine (ref11_int32s last 0 _ HW2.out H.out).mono ?_); rintro e_ wn ⟨rfl, h⟩; replace H := Lib.hid h; clear h; obtain ⟨x0, x1, x2, x3, x4, x5, x6, x7, x8, x9, x10, x11, y0, y1, y2, y3, y4, y5, y6, y7, y8, y9, y10, y11⟩ := raw12 (b := hb) (H.out))
            | (go_at_call 101; (with_reducible refine (ref11_producer _ _ _ _ _ _ _ _ _ _ _ _ _ HS.out H.out).mono ?_); rintro e_ wn ⟨rfl, h⟩; replace H := Lib.hid h; clear h; obtain ⟨x0, x1, x2, x3, x4, x5, x6, x7, x8, x9, x10, x11, y0, y1, y2, y3, y4, y5, y6, y7, y8, y9, y10, y11⟩ := raw12 (b := hb) (H.out)))
        go_loopw [3, 4] (fun iv _ wr => ∃ k : Nat, k ≤ l.length ∧ iv = .int .i64 k ∧ Hid (recsC ((l.map (·.1)).drop k) = tot) ∧ St W0 wr K (.raw hb #[.int .i64 base, .int .i64 leader, .bool app, .bool true, .bool true, .int .i64 last, .int .i64 first, .int .i64 maxt, .int .i64 prod, .int .i64 epoch, .int .i64 sq, .slice q l.length cap] 58 :: L)) (fun iv _ _ => l.length - (intOf iv).toNat)
        case atStart => exact ⟨0, Nat.zero_le _, rfl, HT, H.out⟩
        case round =>
          clear x0 y0 x1 y1 x2 y2 x3 y3 x4 y4 x5 y5 x6 y6 x7 y7 x8 y8 x9 y9 x10 y10 x11 y11; obtain ⟨k, hkl, rfl, HC, hst⟩ := hrel; clear H; have H := Lib.hid hst; clear hst; obtain ⟨x0, x1, x2, x3, x4, x5, x6, x7, x8, x9, x10, x11, y0, y1, y2, y3, y4, y5, y6, y7, y8, y9, y10, y11⟩ := raw12 (b := hb) (H.out)
          by_cases hlt : k < l.length
          · exact zq3
          · obtain rfl : l.length = k := by omega
            have hc := HC.out; rw [List.drop_of_length_le (by simp)] at hc; obtain rfl : 0 = tot := hc; obtain ⟨b, off, hqq⟩ := recs_at HK.out H.out (by rw [HLEN.out]; decide); subst hqq; obtain ⟨⟨x, vx⟩, hx⟩ : ∃ x, l[0]'(by rw [HLEN.out]; decide) = x := ⟨_, rfl⟩; have cc := recs_cell HK.out H.out 0 (by rw [HLEN.out]; decide) (x, vx) hx; have hmem : (x, vx) ∈ l := hx ▸ List.getElem_mem _; have xf : x.R ∧ HFit x.hdrs ∧ x.sum ≤ 1000000 := HFT.out (x, vx) hmem; have xk : K.has (Know.flat RHdr vx 3 x.hdrs) := recs_hdrs HK.out hmem; obtain ⟨qx, capx, hvx⟩ := flat_form xk H.out; subst hvx; simp only [Nat.zero_mul, Nat.zero_add, Nat.add_zero] at cc; obtain ⟨c0, c1, c2, c3, c4, c5, c6⟩ := cc; have XD := Lib.hid (sum_data xf.2.2); have hl0 : (0 : Int) < (l.length : Int) := by have := HLEN.out; omega
            obtain ⟨⟨i1, i2, i3⟩, hi⟩ : ∃ r, ctlOf x = r := ⟨_, rfl⟩; have EC := Lib.hid (show ctlRead x.key.null x.val.null x.key.data x.val.data x.hdrs.length x.off = (i1, i2, i3) from hi); have hen := HEN.out x (by rw [HLEN.out]; decide) (by rw [hx]); rw [hi] at hen; clear hx hmem xf xk hi
            by_cases c9 : i3 = 0
            · subst c9; have HROW := Lib.hid (hen.2 rfl rfl); clear hen
              go_wp2_with (first
            | (go_at_call 103; (with_reducible refine (ref08_read x.time x.off x.key.null x.val.null x.key.data x.val.data qx x.hdrs.length capx (i1, i2, _) EC.out XD.out.1 XD.out.2 H.out).mono ?_); rintro e_ wn ⟨rfl, h⟩; replace H := Lib.hid h; clear h; obtain ⟨x0, x1, x2, x3, x4, x5, x6, x7, x8, x9, x10, x11, y0, y1, y2, y3, y4, y5, y6, y7, y8, y9, y10, y11⟩ := raw12 (b := hb) (H.out))
            | (go_at_call 104; (with_reducible refine (ref11_orders _ _ _ _ _ _ _ _ _ _ _ l _ _ _ HROW.out HFP.out HFT.out HLL.out HK.out H.out).mono ?_); rintro e_ wn ⟨rfl, h⟩; replace H := Lib.hid h; clear h))
              go_ret; exact ⟨rfl, H.out.drop⟩
            · have gz : (i3 == 0) = false := by rw [beq_eq_false_iff_ne]; exact c9
              obtain rfl : i3 = e := hen.1 c9 rfl; clear hen c9; go_wp2_with (go_at_call 103; (with_reducible refine (ref08_read x.time x.off x.key.null x.val.null x.key.data x.val.data qx x.hdrs.length capx (i1, i2, _) EC.out XD.out.1 XD.out.2 H.out).mono ?_); rintro e_ wn ⟨rfl, h⟩; replace H := Lib.hid h; clear h; obtain ⟨x0, x1, x2, x3, x4, x5, x6, x7, x8, x9, x10, x11, y0, y1, y2, y3, y4, y5, y6, y7, y8, y9, y10, y11⟩ := raw12 (b := hb) (H.out)); go_ret; exact ⟨rfl, H.out.drop⟩

      · rw [if_pos ⟨rfl, c2⟩] at he; subst he; have bl : ((l.length : Int) == 1) = false := by rw [beq_eq_false_iff_ne]; omega
        clear c2 hll; go_enter Tryz.func71, Tryz.ntmps71
        go_wp2_with (first
    | (go_at_call 100; (with_reducible refine (ref11_int32s leader (-1) _ HW1.out H.out).mono ?_); rintro e_ wn ⟨rfl, h⟩; replace H := Lib.hid h; clear h; obtain ⟨x0, x1, x2, x3, x4, x5, x6, x7, x8, x9, x10, x11, y0, y1, y2, y3, y4, y5, y6, y7, y8, y9, y10, y11⟩ := raw12 (b := hb) (H.out))
    | (go_at_call 100; (with_reducible refine (ref11_int32s last 0 _ HW2.out H.out).mono ?_); rintro e_ wn ⟨rfl, h⟩; replace H := Lib.hid h; clear h; obtain ⟨x0, x1, x2, x3, x4, x5, x6, x7, x8, x9, x10, x11, y0, y1, y2, y3, y4, y5, y6, y7, y8, y9, y10, y11⟩ := raw12 (b := hb) (H.out))
    | (go_at_call 101; (with_reducible refine (ref11_producer _ _ _ _ _ _ _ _ _ _ _ _ _ HS.out H.out).mono ?_); rintro e_ wn ⟨rfl, h⟩; replace H := Lib.hid h; clear h; obtain ⟨x0, x1, x2, x3, x4, x5, x6, x7, x8, x9, x10, x11, y0, y1, y2, y3, y4, y5, y6, y7, y8, y9, y10, y11⟩ := raw12 (b := hb) (H.out)))
        go_ret; exact ⟨rfl, H.out.drop⟩
set_option maxHeartbeats 1000000 in
set_option maxRecDepth 100000 in
theorem l11_small (base leader : Int) (app txn ctl : Bool) (last first maxt prod epoch sq : Int) (l : List (RecS × Value)) (q : Option Addr) (cap : Nat) (r : Bool) (hr : smallB (l.map (·.1)) = r) (hfit : FitW l) {W0 w : World} {K : Know} {L : List Res} (hk : K.has (Know.recs (.slice q l.length cap) l)) (h : St W0 w K L) :
   Calls Tryz.prog 29 #[.agg #[.int .i64 base, .int .i64 leader, .bool app, .bool txn, .bool ctl, .int .i64 last, .int .i64 first, .int .i64 maxt, .int .i64 prod, .int .i64 epoch, .int .i64 sq, .slice q l.length cap]] w fun en w' => en = .returned (.int .i64 (if r then 1 else 0)) ∧ St W0 w' K L := by
 have HK := Lib.hid hk; have HFT := Lib.hid hfit; have h1 := h.allocRaw #[.int .i64 base, .int .i64 leader, .bool app, .bool txn, .bool ctl, .int .i64 last, .int .i64 first, .int .i64 maxt, .int .i64 prod, .int .i64 epoch, .int .i64 sq, .slice q l.length cap] 58; obtain ⟨hb, hhb⟩ : ∃ b, w.heap.size = b := ⟨_, rfl⟩; rw [hhb] at h1; obtain ⟨x0, x1, x2, x3, x4, x5, x6, x7, x8, x9, x10, x11, y0, y1, y2, y3, y4, y5, y6, y7, y8, y9, y10, y11⟩ := raw12 (b := hb) (h1); have H := Lib.hid h1; clear h h1 hk hfit; unfold smallB at hr; rw [List.length_map] at hr
 by_cases hl : 12 < l.length
 · have dl : decide ((12 : Int) < (l.length : Int)) = true := decide_eq_true (by omega); obtain rfl : false = r := by rw [← hr, decide_eq_false (by omega)]; rfl
   clear hr hl; go_enter Tryz.func29, Tryz.ntmps29; go_wp2; go_ret; exact ⟨rfl, H.out.drop⟩
 have dl : decide ((12 : Int) < (l.length : Int)) = false := decide_eq_false (by omega); have hll : (l.length : Int) ≤ 12 := by omega
 rw [decide_eq_true (by omega), Bool.true_and] at hr; have HR := Lib.hid hr; clear hr hl; go_enter Tryz.func29, Tryz.ntmps29; go_wp2; clear x0 y0 x1 y1 x2 y2 x3 y3 x4 y4 x5 y5 x6 y6 x7 y7 x8 y8 x9 y9 x10 y10 x11 y11; go_loopw [4, 6, 14] (fun _ _ iv wr => ∃ k : Nat, k ≤ l.length ∧ iv = .int .i64 k ∧ Hid (rAll ((l.map (·.1)).drop k) = r) ∧ St W0 wr K (.raw hb #[.int .i64 base, .int .i64 leader, .bool app, .bool txn, .bool ctl, .int .i64 last, .int .i64 first, .int .i64 maxt, .int .i64 prod, .int .i64 epoch, .int .i64 sq, .slice q l.length cap] 58 :: L)) (fun _ _ iv _ => l.length - (intOf iv).toNat)
 case atStart => exact ⟨0, Nat.zero_le _, rfl, HR, H.out⟩
 case round =>
   obtain ⟨k, hkl, rfl, HC, hst⟩ := hrel; clear H; have H := Lib.hid hst; clear hst
   by_cases hlt : k < l.length
   · have hd := drop_recs l k hlt _ rfl; obtain ⟨b, off, hqq⟩ := recs_at HK.out H.out (by omega); subst hqq; obtain ⟨⟨x, vx⟩, hx⟩ : ∃ x, l[k] = x := ⟨_, rfl⟩; have cc := recs_cell HK.out H.out k hlt (x, vx) hx; have hmem : (x, vx) ∈ l := hx ▸ List.getElem_mem hlt; have xf : x.R ∧ x.hdrs.length ≤ 9223372036854775807 ∧ HFit x.hdrs ∧ x.key.data.length ≤ 140737488351232 ∧ x.val.data.length ≤ 140737488351232 := HFT.out (x, vx) hmem; have xk : K.has (Know.flat RHdr vx 3 x.hdrs) := recs_hdrs HK.out hmem; obtain ⟨qx, capx, hvx⟩ := flat_form xk H.out; subst hvx; simp only at cc; obtain ⟨c0, c1, c2, c3, c4, c5, c6⟩ := cc; rw [← Nat.add_assoc] at c1 c2 c3 c4 c5 c6; have hx1 : l[k].1 = x := by rw [hx]
     have XF := Lib.hid xf; have XK := Lib.hid xk; have HX := Lib.hid hx1; clear xf xk hx1 hx hmem; obtain ⟨wE, hwE⟩ : ∃ b, wr.heap.size = b := ⟨_, rfl⟩; have hki : (k : Int) < (l.length : Int) := by omega
     have h := H.out.allocRaw #[.int .i64 x.time, .int .i64 x.off, .bool x.key.null, .string (bb x.key.data), .bool x.val.null, .string (bb x.val.data), .slice qx x.hdrs.length capx] 119; rw [hwE] at h; clear H; have H := Lib.hid h; clear h; rw [HX.out] at hd; have hc := HC.out; rw [hd] at hc; have hc : (smallRec x && rAll ((l.map (·.1)).drop (k + 1))) = r := hc; unfold smallRec at hc; obtain ⟨ec0, ec1, ec2, ec3, ec4, ec5, ec6, ef0, ef1, ef2, ef3, ef4, ef5, ef6⟩ := raw7 (b := wE) (H.out); have xf2 := XF.out; obtain ⟨_, hxl, _, hkl2, hvl2⟩ := xf2; have ws : wrap64 ((x.key.data.length : Int) + (x.val.data.length : Int)) = (x.key.data.length : Int) + (x.val.data.length : Int) := by unfold wrap64; omega
     clear hd hxl hkl2 hvl2
     by_cases c1 : 100 < x.key.data.length + x.val.data.length
     · have d1 : decide ((100 : Int) < (x.key.data.length : Int) + (x.val.data.length : Int)) = true := decide_eq_true (by omega); have hfin : false = r := by rw [← hc, decide_eq_false (by omega)]; rfl
       clear hc c1; obtain rfl : false = r := hfin; go_wp2; go_ret; exact ⟨rfl, H.out.drop.drop⟩
     have d1 : decide ((100 : Int) < (x.key.data.length : Int) + (x.val.data.length : Int)) = false := decide_eq_false (by omega); rw [decide_eq_true (by omega), Bool.true_and] at hc
     by_cases c2 : 6 < x.hdrs.length
     · have d2 : decide ((6 : Int) < (x.hdrs.length : Int)) = true := decide_eq_true (by omega); have hfin : false = r := by rw [← hc, decide_eq_false (by omega)]; rfl
       clear hc c1 c2; obtain rfl : false = r := hfin; go_wp2; go_ret; exact ⟨rfl, H.out.drop.drop⟩
     have d2 : decide ((6 : Int) < (x.hdrs.length : Int)) = false := decide_eq_false (by omega); rw [decide_eq_true (by omega), Bool.true_and] at hc; have hh6 : (x.hdrs.length : Int) ≤ 6 := by omega
     have HC1 := Lib.hid hc; clear hc c1 c2; go_wp2; clear ec0 ef0 ec1 ef1 ec2 ef2 ec3 ef3 ec4 ef4 ec5 ef5 ec6 ef6 c0 c3 c4 c5 c6; go_loopw [6, 37] (fun _ iv wr => ∃ j : Nat, j ≤ x.hdrs.length ∧ iv = .int .i64 j ∧ Hid ((hAll (x.hdrs.drop j) && rAll ((l.map (·.1)).drop (k + 1))) = r) ∧ St W0 wr K (.raw wE #[.int .i64 x.time, .int .i64 x.off, .bool x.key.null, .string (bb x.key.data), .bool x.val.null, .string (bb x.val.data), .slice qx x.hdrs.length capx] 119 :: .raw hb #[.int .i64 base, .int .i64 leader, .bool app, .bool txn, .bool ctl, .int .i64 last, .int .i64 first, .int .i64 maxt, .int .i64 prod, .int .i64 epoch, .int .i64 sq, .slice (some ⟨b, off, none⟩) l.length cap] 58 :: L)) (fun _ iv _ => x.hdrs.length - (intOf iv).toNat)
     case atStart => exact ⟨0, Nat.zero_le _, rfl, HC1, H.out⟩
     case round =>
       obtain ⟨j, hjl, rfl, HJ, hst⟩ := hrel; clear H; have H := Lib.hid hst; clear hst
       by_cases hjt : j < x.hdrs.length
       · obtain ⟨bh, oh, hqh, g0, g1, g2⟩ := hdr_cells XK.out H.out j hjt; subst hqh; have hhf := XF.out.2.2.1 _ (List.getElem_mem hjt); obtain ⟨⟨hk, ⟨hu, hv⟩⟩, hx⟩ : ∃ y, x.hdrs[j] = y := ⟨_, rfl⟩; have hj := HJ.out; rw [drop_hdrs _ _ hjt] at hj; rw [hx] at g0 g1 g2 hhf hj; have hj : ((decide (hk.length + hv.length ≤ 100) && hAll (x.hdrs.drop (j + 1))) && rAll ((l.map (·.1)).drop (k + 1))) = r := hj; simp only at g0 g1 g2 hhf; obtain ⟨b1, b2⟩ := hhf; have hji : (j : Int) < (x.hdrs.length : Int) := by omega
         have ws2 : wrap64 ((hk.length : Int) + (hv.length : Int)) = (hk.length : Int) + (hv.length : Int) := by unfold wrap64; omega
         clear b1 b2; have h := H.out.allocRaw #[.string (bb hk), .bool hu, .string (bb hv)] 121; obtain ⟨wH, hwH⟩ : ∃ b, wr.heap.size = b := ⟨_, rfl⟩; rw [hwH] at h; have u0 := h.rawCell 0; have u1 := h.rawCell 1; have u2 := h.rawCell 2; simp at u0 u1 u2; clear H; have H := Lib.hid h; clear h hx
         by_cases c1 : 100 < hk.length + hv.length
         · have d1 : decide ((100 : Int) < (hk.length : Int) + (hv.length : Int)) = true := decide_eq_true (by omega); have hfin : false = r := by rw [← hj, decide_eq_false (by omega)]; rfl
           clear hj c1; obtain rfl : false = r := hfin; go_wp2; go_ret; exact ⟨rfl, H.out.drop.drop.drop⟩
         · have d1 : decide ((100 : Int) < (hk.length : Int) + (hv.length : Int)) = false := decide_eq_false (by omega); rw [decide_eq_true (by omega), Bool.true_and] at hj; have HJ2 := Lib.hid hj; clear hj c1; go_wp2; go_roundw
           case rel => exact ⟨j + 1, hjt, by go_num, HJ2, H.out.drop⟩
           case measure => first | (simp [intOf]; done) | (simp [intOf]; omega)
       · obtain rfl : x.hdrs.length = j := by omega
         have hj := HJ.out; rw [List.drop_of_length_le (Nat.le_refl _)] at hj; have HC2 := Lib.hid (show rAll ((l.map (·.1)).drop (k + 1)) = r from hj); clear hj; go_wp2; go_roundw
         case rel => exact ⟨k + 1, hlt, by go_num, HC2, H.out.drop⟩
         case measure => first | (simp [intOf]; done) | (simp [intOf]; omega)
   · obtain rfl : l.length = k := by omega
     have hc := HC.out; rw [List.drop_of_length_le (by simp)] at hc; obtain rfl : true = r := hc; go_wp2; go_ret; exact ⟨rfl, H.out.drop⟩
theorem encR_small (x : RecS) (hx : x.R) (hs : x.sum ≤ 1000) : (encR x).length ≤ 33000 := by
 have h1 := recF_le x hx (by omega); have h2 := encV_le ⟨false, recF x⟩ (by simp only; omega); simp only at h2; unfold encR
 omega
theorem rows_small : ∀ (l : List RecS) (n : Nat), (∀ x ∈ l, (encR x).length ≤ n) → (l.flatMap encR).length ≤ n * l.length
  | [], _, _ => by simp
  | x :: t, n, h => by
    rw [List.flatMap_cons, List.length_append, List.length_cons, Nat.mul_succ]; have h1 := rows_small t n (fun y hy => h y (by simp [hy])); have h2 := h x (by simp)
    omega
theorem encAll_rows : ∀ (l : List (RecS × Value)), encAll l = (l.map (·.1)).flatMap encR
  | [] => rfl
  | x :: t => by
    have := encAll_rows t; unfold encAll at *; rw [List.flatMap_cons, List.map_cons, List.flatMap_cons, this]
structure SmallOk (b : BatS) : Prop where
  fit : ∀ x ∈ b.recs, x.R ∧ recOk x = 0 ∧ x.sum ≤ 1000
  len : b.recs.length ≤ 12
  err : batErr b = 0
  rng : b.R
theorem SmallOk.rows {b : BatS} (h : SmallOk b) : b.rowsB.length ≤ 400000 := by
 have := rows_small b.recs 33000 (fun x hx => encR_small x (h.fit x hx).1 (h.fit x hx).2.2); have h2 := h.len; unfold BatS.rowsB
 omega
theorem SmallOk.recs {b : BatS} (h : SmallOk b) : ∀ x ∈ b.recs, x.R ∧ recOk x = 0 ∧ x.sum ≤ 1000000 := fun x hx => ⟨(h.fit x hx).1, (h.fit x hx).2.1, by have := (h.fit x hx).2.2; omega⟩
theorem SmallOk.back {b : BatS} (h : SmallOk b) (t : Bs) : reBat (b.enc ++ t) = .ok (b, b.enc.length) :=
 reBat_back h.err h.rng h.recs (by have := h.rows; omega) (by have := h.len; omega) t
theorem BatS.enc_len (b : BatS) : b.enc.length = 61 + b.rowsB.length := by unfold BatS.enc; rw [List.length_append, items_len]
theorem SmallOk.elen {b : BatS} (h : SmallOk b) : b.enc.length ≤ 401000 := by rw [b.enc_len]; have := h.rows; omega
theorem SmallOk.of {b : BatS} {l : List (RecS × Value)} (hl : b.recs = l.map (·.1)) (hw : FitW l) (hs : smallB (l.map (·.1)) = true) (he : batErr b = 0) (hR : b.R) : SmallOk b where
 fit := by
  intro x hx; rw [hl] at hx; have hf := hw.fit hs; obtain ⟨y, hy, rfl⟩ := List.mem_map.1 hx; have hr := recsC_ok _ (batErr_zero he).2.2.2; have hss := hs; unfold smallB at hss; simp only [Bool.and_eq_true] at hss; exact ⟨(hf y hy).1, hr y.1 (by rw [hl]; exact hx), smallRec_sum (rAll_mem _ hss.2 y.1 hx)⟩
 len := by rw [hl, List.length_map]; exact smallB_len hs
 err := he
 rng := hR
theorem ints_items {x : PreS} (h : FitsAll x.items) : (⟨[], 0⟩ : OutS).ints x.items = ⟨encInts x.items, 0⟩ := by
 rw [OutS.ints_put _ _ h]
 rfl
theorem SmallOk.preX {b : BatS} (so : SmallOk b) : (Go.Proofs.YtnnnglklgofabaaGreat.preX b.enc).1 = b.pre b.crc ∧ (Go.Proofs.YtnnnglklgofabaaGreat.preX b.enc).2 = 2 ∧ rePre b.enc = .ok (b.pre b.crc) := by
 have hb := so.back []; rw [List.append_nil] at hb; obtain ⟨x, hx, _⟩ := reBat_ok hb; have hrow := so.rows; have hlen := so.len; have hcr := b.crc_lt; have f1 := BatS.fitsAll so.err so.rng b.crc (by omega) (by omega) (by omega); have hp := rePre_enc (b.pre b.crc) f1 (show (49 : Int) ≤ 49 + (b.rowsB.length : Int) by omega) (show (0 : Int) ≤ (b.recs.length : Int) by omega) b.rowsB; have hp : rePre b.enc = .ok (b.pre b.crc) := hp; obtain ⟨_, h2, h3, _⟩ := rePre_ok hp; exact ⟨h2, h3, hp⟩
theorem so_textE (p : Nat) (o : OutS) (s : Bs) (e : Int) (hx : o.text = (s, e)) {W0 w : World} {K : Know} {L : List Res} (h : St W0 w K (.out p o :: L)) :
  Calls Tryz.prog 9 #[outPtr p] w fun en w' => en = .returned (.tuple #[.string (bb s), .int .i64 e]) ∧ St W0 w' K (.out p o :: L) := by
 have := so_text p o h; rw [hx] at this; exact this
theorem prefix_writeE (p : Nat) (o o2 : OutS) (a0 a1 a2 a3 a4 a5 a6 a7 a8 a9 a10 a11 : Int) (hx : PreS.R ⟨a0, a1, a2, a3, a4, a5, a6, a7, a8, a9, a10, a11⟩) (ho : o.ints (PreS.items ⟨a0, a1, a2, a3, a4, a5, a6, a7, a8, a9, a10, a11⟩) = o2) (hr : o.ok 200) {W0 w : World} {K : Know} {L : List Res} (h : St W0 w K (.out p o :: L)) :
  Calls Tryz.prog 127 #[outPtr p, .agg #[.int .i64 a0, .int .i64 a1, .int .i64 a2, .int .i64 a3, .int .i64 a4, .int .i64 a5, .int .i64 a6, .int .i64 a7, .int .i64 a8, .int .i64 a9, .int .i64 a10, .int .i64 a11]] w fun en w' => en = .returned (.tuple #[]) ∧ St W0 w' K (.out p o2 :: L) := by
 subst ho; exact prefix_write p o ⟨a0, a1, a2, a3, a4, a5, a6, a7, a8, a9, a10, a11⟩ hx h hr
set_option maxHeartbeats 1000000 in
set_option maxRecDepth 100000 in
theorem bat_written (a0 a1 a2 a3 a4 a5 a6 a7 a8 a9 a10 a11 : Int) (hx : PreS.R ⟨a0, a1, a2, a3, a4, a5, a6, a7, a8, a9, a10, a11⟩) (o2 : OutS) (s : Bs) (e : Int) (ho : (⟨[], 0⟩ : OutS).ints (PreS.items ⟨a0, a1, a2, a3, a4, a5, a6, a7, a8, a9, a10, a11⟩) = o2) (ht : o2.text = (s, e)) {W0 w : World} {K : Know} {L : List Res} (h : St W0 w K L) :
  Calls Tryz.prog 91 #[.agg #[.int .i64 a0, .int .i64 a1, .int .i64 a2, .int .i64 a3, .int .i64 a4, .int .i64 a5, .int .i64 a6, .int .i64 a7, .int .i64 a8, .int .i64 a9, .int .i64 a10, .int .i64 a11]] w fun en w' => en = .returned (.tuple #[.string (bb s), .int .i64 e]) ∧ St W0 w' K L := by
 have g1 := h.allocRaw #[.int .i64 a0, .int .i64 a1, .int .i64 a2, .int .i64 a3, .int .i64 a4, .int .i64 a5, .int .i64 a6, .int .i64 a7, .int .i64 a8, .int .i64 a9, .int .i64 a10, .int .i64 a11] 154; have g2 := g1.allocOut; obtain ⟨hb, hhb⟩ : ∃ b, w.heap.size = b := ⟨_, rfl⟩; obtain ⟨po, hpo⟩ : ∃ b, hb + 1 = b := ⟨_, rfl⟩; simp only [World.size_alloc, hhb, hpo] at g2; obtain ⟨x0, x1, x2, x3, x4, x5, x6, x7, x8, x9, x10, x11, y0, y1, y2, y3, y4, y5, y6, y7, y8, y9, y10, y11⟩ := raw12 (b := hb) (g2.p1); have H := Lib.hid g2; have HX := Lib.hid hx; have HO := Lib.hid ho; have HT := Lib.hid ht; have HR := Lib.hid (show (⟨[], 0⟩ : OutS).ok 200 by simp [OutS.ok]); clear g1 g2 h hx ho ht; go_enter Tryz.func91, Tryz.ntmps91
 go_wp2_with (first
  | (go_at_call 127; (with_reducible refine (prefix_writeE po _ _ _ _ _ _ _ _ _ _ _ _ _ _ HX.out HO.out HR.out H.out).mono ?_); rintro e_ wn ⟨rfl, h⟩; replace H := Lib.hid h; clear h)
  | (go_at_call 9; (with_reducible refine (so_textE po _ _ _ HT.out H.out).mono ?_); rintro e_ wn ⟨rfl, h⟩; replace H := Lib.hid h; clear h))
 go_ret2; exact ⟨rfl, H.out.drop.drop⟩
set_option maxHeartbeats 1000000 in
set_option maxRecDepth 100000 in
theorem bat_pack (l : List (RecS × Value)) (q : Option Addr) (cap : Nat) (rows : Bs) (hrows : encAll l = rows) (hc : recsC (l.map (·.1)) = 0) (hfit : FitB l) (hll : l.length ≤ 1000) {W0 w : World} {K : Know} {L : List Res} (hk : K.has (Know.recs (.slice q l.length cap) l)) (h : St W0 w K L) :
  Calls Tryz.prog 89 #[.slice q l.length cap] w fun en w' => en = .returned (.tuple #[.string (bb rows), .int .i64 0]) ∧ St W0 w' K L := by
 have g1 := h.allocOut; obtain ⟨po, hpo⟩ : ∃ b, w.heap.size = b := ⟨_, rfl⟩; rw [hpo] at g1; have H := Lib.hid g1; have HK := Lib.hid hk; have HFT := Lib.hid hfit; have HC := Lib.hid hc; have HRW := Lib.hid hrows; have HLL := Lib.hid hll; clear h g1 hk hfit hc hrows hll; go_enter Tryz.func89, Tryz.ntmps89; go_wp2; go_loopw [6, 9] (fun _ iv wr => ∃ k : Nat, k ≤ l.length ∧ iv = .int .i64 k ∧ St W0 wr K (.out po ⟨encAll (l.take k), 0⟩ :: L)) (fun _ iv _ => l.length - (intOf iv).toNat)
 case atStart => exact ⟨0, Nat.zero_le _, rfl, H.out⟩
 case round =>
  obtain ⟨k, hkl, rfl, hst⟩ := hrel; clear H; have H := Lib.hid hst; clear hst
  by_cases hlt : k < l.length
  · have OK := Lib.hid (show (⟨encAll (l.take k), 0⟩ : OutS).ok 40000000 by
     have h1 := encAll_small (l := l.take k) (fun y hy => HFT.out y (List.mem_of_mem_take hy)); have h2 := HLL.out; rw [List.length_take] at h1; unfold OutS.ok; simp only
     omega)
    have hok := recsC_ok _ HC.out l[k].1 (List.mem_map.2 ⟨_, List.getElem_mem hlt, rfl⟩); have het := encAll_take l k hlt; have hll2 := HLL.out; obtain ⟨b, off, hqq⟩ := recs_at HK.out H.out (by omega); subst hqq; obtain ⟨⟨x, vx⟩, hx⟩ : ∃ x, l[k] = x := ⟨_, rfl⟩; have cc := recs_cell HK.out H.out k hlt (x, vx) hx; have hmem : (x, vx) ∈ l := hx ▸ List.getElem_mem hlt; have xf : x.R ∧ HFit x.hdrs ∧ x.sum ≤ 1000000 := HFT.out (x, vx) hmem; have xk : K.has (Know.flat RHdr vx 3 x.hdrs) := recs_hdrs HK.out hmem; obtain ⟨qx, capx, hvx⟩ := flat_form xk H.out; subst hvx; simp only at cc; obtain ⟨c0, c1, c2, c3, c4, c5, c6⟩ := cc; rw [← Nat.add_assoc] at c1 c2 c3 c4 c5 c6; have hx1 : l[k].1 = x := by rw [hx]
    have XF := Lib.hid xf; have XK := Lib.hid xk; have HX := Lib.hid hx1; clear xf xk hx1 hx hmem; obtain ⟨wE, hwE⟩ : ∃ b, wr.heap.size = b := ⟨_, rfl⟩; have hki : (k : Int) < (l.length : Int) := by omega
    have h := H.out.allocRaw #[.int .i64 x.time, .int .i64 x.off, .bool x.key.null, .string (bb x.key.data), .bool x.val.null, .string (bb x.val.data), .slice qx x.hdrs.length capx] 119; rw [hwE] at h; clear H; have H := Lib.hid h; clear h; rw [HX.out] at hok het; have EO := Lib.hid (show (⟨encAll (l.take k), 0⟩ : OutS).putRec x = ⟨encAll (l.take (k + 1)), 0⟩ by rw [putRec_good _ _ hok, het]); have hll3 : (l.length : Int) ≤ 1000 := by omega
    obtain ⟨ec0, ec1, ec2, ec3, ec4, ec5, ec6, ef0, ef1, ef2, ef3, ef4, ef5, ef6⟩ := raw7 (b := wE) (H.out); clear hok het hll2; go_wp2_with (go_at_call 125; (with_reducible refine (rec_write po _ _ x (.slice qx x.hdrs.length capx) XF.out.1 XF.out.2.2 EO.out OK.out XK.out H.out.p1).mono ?_); rintro e_ wn ⟨rfl, h⟩; replace H := Lib.hid h; clear h); go_roundw
    case rel => exact ⟨k + 1, hlt, by go_num, H.out.p1.drop⟩
    case measure => first | (simp [intOf]; done) | (simp [intOf]; omega)
  · obtain rfl : l.length = k := by omega
    have h := H.out; rw [List.take_length, HRW.out] at h; clear H; have H := Lib.hid h; clear h; have HT := Lib.hid (show (⟨rows, 0⟩ : OutS).text = (rows, 0) from rfl); go_wp2_with (go_at_call 9; (with_reducible refine (so_textE po _ _ _ HT.out H.out).mono ?_); rintro e_ wn ⟨rfl, h⟩; replace H := Lib.hid h; clear h); go_ret2; exact ⟨rfl, H.out.drop⟩
set_option maxHeartbeats 1000000 in
set_option maxRecDepth 100000 in
theorem bat_encode_bad (base leader : Int) (app txn ctl : Bool) (last first maxt prod epoch sq : Int) (l : List (RecS × Value)) (q : Option Addr) (cap : Nat) (e : Int) (he : batErr ⟨base, leader, app, txn, ctl, last, first, maxt, prod, epoch, sq, l.map (·.1)⟩ = e) (h0 : e ≠ 0) (hmx : first ≤ 9223372036854775807) (hfit : FitB l) (hll : l.length ≤ 1000) {W0 w : World} {K : Know} {L : List Res} (hk : K.has (Know.recs (.slice q l.length cap) l)) (h : St W0 w K L) :
  Calls Tryz.prog 57 #[.agg #[.int .i64 base, .int .i64 leader, .bool app, .bool txn, .bool ctl, .int .i64 last, .int .i64 first, .int .i64 maxt, .int .i64 prod, .int .i64 epoch, .int .i64 sq, .slice q l.length cap]] w fun en w' => en = .returned (.tuple #[.string ⟨#[]⟩, .int .i64 e]) ∧ St W0 w' K L := by
 have HK := Lib.hid hk; have HFT := Lib.hid hfit; have HLL := Lib.hid (show l.length ≤ 1000000 by omega); have HMX := Lib.hid hmx; have HE := Lib.hid he; have gz : (e == 0) = false := by rw [beq_eq_false_iff_ne]; exact h0
 have h1 := h.allocRaw #[.int .i64 base, .int .i64 leader, .bool app, .bool txn, .bool ctl, .int .i64 last, .int .i64 first, .int .i64 maxt, .int .i64 prod, .int .i64 epoch, .int .i64 sq, .slice q l.length cap] 58; obtain ⟨hb, hhb⟩ : ∃ b, w.heap.size = b := ⟨_, rfl⟩; rw [hhb] at h1; obtain ⟨x0, x1, x2, x3, x4, x5, x6, x7, x8, x9, x10, x11, y0, y1, y2, y3, y4, y5, y6, y7, y8, y9, y10, y11⟩ := raw12 (b := hb) (h1); have H := Lib.hid h1; clear h h1 hk hfit hll hmx he h0; go_enter Tryz.func57, Tryz.ntmps57; go_wp2_with (go_at_call 88; (with_reducible refine (bat_check _ _ _ _ _ _ _ _ _ _ _ l _ _ e HE.out HMX.out HFT.out HLL.out HK.out H.out).mono ?_); rintro e_ wn ⟨rfl, h⟩; replace H := Lib.hid h; clear h; obtain ⟨x0, x1, x2, x3, x4, x5, x6, x7, x8, x9, x10, x11, y0, y1, y2, y3, y4, y5, y6, y7, y8, y9, y10, y11⟩ := raw12 (b := hb) (H.out)); go_ret2; exact ⟨rfl, H.out.drop⟩
set_option maxHeartbeats 2000000 in
set_option maxRecDepth 100000 in
theorem bat_encode_ok (base leader : Int) (app txn ctl : Bool) (last first maxt prod epoch sq : Int) (l : List (RecS × Value)) (q : Option Addr) (cap : Nat) (he : batErr ⟨base, leader, app, txn, ctl, last, first, maxt, prod, epoch, sq, l.map (·.1)⟩ = 0) (hmx : first ≤ 9223372036854775807) (hfit : FitB l) (hll : l.length ≤ 1000) (rows said0 said1 all : Bs) (x : Nat) (at_ : Int) (hrc : recsC (l.map (·.1)) = 0) (hrw : encAll l = rows) (hrl : rows.length ≤ 100000000) (hat : attrN app txn ctl 3 = at_)
    (r0 : PreS.R ⟨base, 49 + rows.length, leader, 0, at_, last, first, maxt, prod, epoch, sq, l.length⟩) (r1 : PreS.R ⟨base, 49 + rows.length, leader, x, at_, last, first, maxt, prod, epoch, sq, l.length⟩) (o0 : (⟨[], 0⟩ : OutS).ints (PreS.items ⟨base, 49 + rows.length, leader, 0, at_, last, first, maxt, prod, epoch, sq, l.length⟩) = ⟨said0, 0⟩) (o1 : (⟨[], 0⟩ : OutS).ints (PreS.items ⟨base, 49 + rows.length, leader, x, at_, last, first, maxt, prod, epoch, sq, l.length⟩) = ⟨said1, 0⟩) (l0 : said0.length = 61) (l1 : said1.length = 61) (hx : (crcMore 0#32 (said0.drop 21 ++ rows)).toNat = x) (hall : said1 ++ rows = all) {W0 w : World} {K : Know} {L : List Res} (hk : K.has (Know.recs (.slice q l.length cap) l)) (h : St W0 w K L) :
    Calls Tryz.prog 57 #[.agg #[.int .i64 base, .int .i64 leader, .bool app, .bool txn, .bool ctl, .int .i64 last, .int .i64 first, .int .i64 maxt, .int .i64 prod, .int .i64 epoch, .int .i64 sq, .slice q l.length cap]] w fun en w' => en = .returned (.tuple #[.string (bb all), .int .i64 0]) ∧ St W0 w' K L := by
  have HK := Lib.hid hk; have HFT := Lib.hid hfit; have HLL := Lib.hid (show l.length ≤ 1000000 by omega); have HL1 := Lib.hid hll; have HMX := Lib.hid hmx; have HE := Lib.hid he; have HRW := Lib.hid hrw; have HRC := Lib.hid hrc; have AT := Lib.hid hat; have HSZ := Lib.hid (show rows.length ≤ 140737488355328 by omega); have R0 := Lib.hid r0; have R1 := Lib.hid r1; have O0 := Lib.hid o0; have O1 := Lib.hid o1; have T0 := Lib.hid (show (⟨said0, 0⟩ : OutS).text = (said0, 0) from rfl); have T1 := Lib.hid (show (⟨said1, 0⟩ : OutS).text = (said1, 0) from rfl); have HX := Lib.hid hx; have HS21 := Lib.hid (show 21 ≤ said0.length by omega); have HS2 := Lib.hid (show said0.length ≤ 140737488355328 by omega); have HR2 := Lib.hid (show rows.length ≤ 140737488355328 by omega); have HALL := Lib.hid hall; have hcat : bb said1 ++ bb rows = bb all := by rw [← hall]; exact bb_append _ _
  have hg : ¬ (9223372036854775807 < said1.length + rows.length) := by omega
  have t1 : True := trivial; have h1 := h.allocRaw #[.int .i64 base, .int .i64 leader, .bool app, .bool txn, .bool ctl, .int .i64 last, .int .i64 first, .int .i64 maxt, .int .i64 prod, .int .i64 epoch, .int .i64 sq, .slice q l.length cap] 58; obtain ⟨hb, hhb⟩ : ∃ b, w.heap.size = b := ⟨_, rfl⟩; rw [hhb] at h1; obtain ⟨x0, x1, x2, x3, x4, x5, x6, x7, x8, x9, x10, x11, y0, y1, y2, y3, y4, y5, y6, y7, y8, y9, y10, y11⟩ := raw12 (b := hb) (h1); have H := Lib.hid h1; clear h h1 hk hfit hll hmx he hrw hrc hat r0 r1 o0 o1 l0 l1 hx hall hrl; go_enter Tryz.func57, Tryz.ntmps57
  go_wp2_with (first
    | (go_at_call 88; (with_reducible refine (bat_check _ _ _ _ _ _ _ _ _ _ _ l _ _ 0 HE.out HMX.out HFT.out HLL.out HK.out H.out).mono ?_); rintro e_ wn ⟨rfl, h⟩; replace H := Lib.hid h; clear h; obtain ⟨x0, x1, x2, x3, x4, x5, x6, x7, x8, x9, x10, x11, y0, y1, y2, y3, y4, y5, y6, y7, y8, y9, y10, y11⟩ := raw12 (b := hb) (H.out))
    | (go_at_call 89; (with_reducible refine (bat_pack l _ _ rows HRW.out HRC.out HFT.out HL1.out HK.out H.out).mono ?_); rintro e_ wn ⟨rfl, h⟩; replace H := Lib.hid h; clear h; obtain ⟨x0, x1, x2, x3, x4, x5, x6, x7, x8, x9, x10, x11, y0, y1, y2, y3, y4, y5, y6, y7, y8, y9, y10, y11⟩ := raw12 (b := hb) (H.out))
    | (go_at_call 90; (with_reducible refine (bat_head _ _ _ _ _ _ _ _ _ _ _ l _ _ rows.length HSZ.out H.out).mono ?_); rw [AT.out]; rintro e_ wn ⟨rfl, h⟩; have h := h.allocRaw #[.int .i64 base, .int .i64 (49 + rows.length), .int .i64 leader, .int .i64 0, .int .i64 at_, .int .i64 last, .int .i64 first, .int .i64 maxt, .int .i64 prod, .int .i64 epoch, .int .i64 sq, .int .i64 l.length] 154; obtain ⟨pb, hpb⟩ : ∃ b, wn.heap.size = b := ⟨_, rfl⟩; rw [hpb] at h; replace H := Lib.hid h; clear h; obtain ⟨p0, p1, p2, p3, p4, p5, p6, p7, p8, p9, p10, p11, u0, u1, u2, u3, u4, u5, u6, u7, u8, u9, u10, u11⟩ := raw12 (b := pb) (H.out))
    | (go_at_call 91; have _t := t1; clear _t; (with_reducible refine (bat_written _ _ _ _ _ _ _ _ _ _ _ _ R0.out _ _ _ O0.out T0.out H.out).mono ?_); rintro e_ wn ⟨rfl, h⟩; replace H := Lib.hid h; clear h; obtain ⟨p0, p1, p2, p3, p4, p5, p6, p7, p8, p9, p10, p11, u0, u1, u2, u3, u4, u5, u6, u7, u8, u9, u10, u11⟩ := raw12 (b := pb) (H.out); have t2 : True := trivial; clear t1)
    | (go_at_call 92; (with_reducible refine (bat_sum said0 rows x HX.out HS21.out HS2.out HR2.out H.out).mono ?_); rintro e_ wn ⟨rfl, h⟩; replace H := Lib.hid h; clear h; obtain ⟨p0, p1, p2, p3, p4, p5, p6, p7, p8, p9, p10, p11, u0, u1, u2, u3, u4, u5, u6, u7, u8, u9, u10, u11⟩ := raw12 (b := pb) (H.out); have h3 : St W0 _ K (.raw pb #[.int .i64 base, .int .i64 (49 + rows.length), .int .i64 leader, .int .i64 x, .int .i64 at_, .int .i64 last, .int .i64 first, .int .i64 maxt, .int .i64 prod, .int .i64 epoch, .int .i64 sq, .int .i64 l.length] 154 :: _) := H.out.rawSet 3 (.int .i64 x); obtain ⟨a0, a1, a2, a3, a4, a5, a6, a7, a8, a9, a10, a11, f0, f1, f2, f3, f4, f5, f6, f7, f8, f9, f10, f11⟩ := raw12 (b := pb) (h3); clear h3)
    | (go_at_call 91; have _t := t2; clear _t; (with_reducible refine (bat_written _ _ _ _ _ _ _ _ _ _ _ _ R1.out _ _ _ O1.out T1.out (H.out.rawSet 3 (.int .i64 x))).mono ?_); rintro e_ wn ⟨rfl, h⟩; replace H := Lib.hid h; clear h; clear t2))
  go_ret2; exact ⟨rfl, H.out.drop.drop⟩
theorem bat_encode_enc (b : BatS) (l : List (RecS × Value)) (q : Option Addr) (cap : Nat) (hl : l.map (·.1) = b.recs) (so : SmallOk b) {W0 w : World} {K : Know} {L : List Res} (hk : K.has (Know.recs (.slice q l.length cap) l)) (h : St W0 w K L) :
  Calls Tryz.prog 57 #[.agg #[.int .i64 b.base, .int .i64 b.leader, .bool b.app, .bool b.txn, .bool b.ctl, .int .i64 b.last, .int .i64 b.first, .int .i64 b.maxt, .int .i64 b.prod, .int .i64 b.epoch, .int .i64 b.seq, .slice q l.length cap]] w fun en w' => en = .returned (.tuple #[.string (bb b.enc), .int .i64 0]) ∧ St W0 w' K L := by
 have hrow := so.rows; have hlen := so.len; have hcr := b.crc_lt; have hml : l.length = b.recs.length := by rw [← hl, List.length_map]
 have f0 := BatS.fitsAll so.err so.rng 0 (by decide) (by omega) (by omega); have f1 := BatS.fitsAll so.err so.rng b.crc (by omega) (by omega) (by omega); have r0 := BatS.pre_R so.err so.rng 0 (by decide) (by omega) (by omega); have r1 := BatS.pre_R so.err so.rng b.crc (by omega) (by omega) (by omega); have hmx : b.first ≤ 9223372036854775807 := by have := so.rng.2.2.2.1.2; omega
 have e0 : b.pre 0 = (⟨b.base, 49 + (b.rowsB.length : Int), b.leader, 0, attrN b.app b.txn b.ctl 3, b.last, b.first, b.maxt, b.prod, b.epoch, b.seq, (l.length : Int)⟩ : PreS) := by unfold BatS.pre; rw [hml]
 have e1 : b.pre b.crc = (⟨b.base, 49 + (b.rowsB.length : Int), b.leader, (b.crc : Int), attrN b.app b.txn b.ctl 3, b.last, b.first, b.maxt, b.prod, b.epoch, b.seq, (l.length : Int)⟩ : PreS) := by unfold BatS.pre; rw [hml]
 have i0 := ints_items f0; have i1 := ints_items f1; have hd0 := b.pre_drop 0; have l0 := items_len (b.pre 0); have l1 := items_len (b.pre b.crc); have he : batErr ⟨b.base, b.leader, b.app, b.txn, b.ctl, b.last, b.first, b.maxt, b.prod, b.epoch, b.seq, l.map (·.1)⟩ = 0 := by rw [hl]; exact so.err
 have hrc : recsC (l.map (·.1)) = 0 := by rw [hl]; exact (batErr_zero so.err).2.2.2
 have hrw : encAll l = b.rowsB := by rw [encAll_rows, hl]; rfl
 have hfb : FitB l := by
  intro x hx; obtain ⟨a, c, d⟩ := so.fit x.1 (by rw [← hl]; exact List.mem_map.2 ⟨x, hx, rfl⟩); have := hsum_fit x.1.hdrs 1000 (by unfold RecS.sum at d; omega); exact ⟨a, fun y hy => by have := this y hy; omega, by omega⟩
 have hall : encInts (b.pre b.crc).items ++ b.rowsB = b.enc := rfl; have hx : (crcMore 0#32 ((encInts (b.pre 0).items).drop 21 ++ b.rowsB)).toNat = b.crc := by rw [hd0]; rfl
 rw [e0] at r0 i0; rw [e1] at r1 i1; obtain ⟨s0, hs0⟩ : ∃ s, encInts (b.pre 0).items = s := ⟨_, rfl⟩; obtain ⟨s1, hs1⟩ : ∃ s, encInts (b.pre b.crc).items = s := ⟨_, rfl⟩; have g0 : encInts (⟨b.base, 49 + (b.rowsB.length : Int), b.leader, 0, attrN b.app b.txn b.ctl 3, b.last, b.first, b.maxt, b.prod, b.epoch, b.seq, (l.length : Int)⟩ : PreS).items = s0 := e0 ▸ hs0; have g1 : encInts (⟨b.base, 49 + (b.rowsB.length : Int), b.leader, (b.crc : Int), attrN b.app b.txn b.ctl 3, b.last, b.first, b.maxt, b.prod, b.epoch, b.seq, (l.length : Int)⟩ : PreS).items = s1 := e1 ▸ hs1; rw [g0] at i0; rw [g1] at i1; rw [hs0] at hx l0; rw [hs1] at hall l1; exact bat_encode_ok b.base b.leader b.app b.txn b.ctl b.last b.first b.maxt b.prod b.epoch b.seq l q cap he hmx hfb (by omega) b.rowsB s0 s1 b.enc b.crc (attrN b.app b.txn b.ctl 3) hrc hrw (by omega) rfl r0 r1 i0 i1 l0 l1 hx hall hk h
def AgreeB (a b : Bs) (first n : Nat) : Prop := b.take 21 = a.take 21 ∧ ∀ i, (i < first ∨ first + n ≤ i) → (bitsOf (a.drop 21)).getD i false = (bitsOf (b.drop 21)).getD i false
theorem AgreeB.refl (a : Bs) (f : Nat) : AgreeB a a f 0 := ⟨rfl, fun _ _ => rfl⟩
theorem AgreeB.step {a b : Bs} {f n : Nat} (h : AgreeB a b f n) : AgreeB a b f (n + 1) := ⟨h.1, fun i hi => h.2 i (by omega)⟩
theorem bat_encode_encE (b : BatS) (s : Bs) (hs : b.enc = s) (l : List (RecS × Value)) (q : Option Addr) (cap : Nat) (hl : l.map (·.1) = b.recs) (so : SmallOk b) {W0 w : World} {K : Know} {L : List Res} (hk : K.has (Know.recs (.slice q l.length cap) l)) (h : St W0 w K L) :
  Calls Tryz.prog 57 #[.agg #[.int .i64 b.base, .int .i64 b.leader, .bool b.app, .bool b.txn, .bool b.ctl, .int .i64 b.last, .int .i64 b.first, .int .i64 b.maxt, .int .i64 b.prod, .int .i64 b.epoch, .int .i64 b.seq, .slice q l.length cap]] w fun en w' => en = .returned (.tuple #[.string (bb s), .int .i64 0]) ∧ St W0 w' K L := by
 subst hs; exact bat_encode_enc b l q cap hl so hk h

end Go.Proofs.YtnnnglklgofabaaGreat
