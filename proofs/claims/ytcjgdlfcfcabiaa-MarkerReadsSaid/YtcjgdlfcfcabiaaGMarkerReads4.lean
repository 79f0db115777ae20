/- Batches: which are small. -/
import Derived.Test.YtcjgdlfcfcabiaaGMarkerReads3
import Derived.Test.YtcjgdlfcfcabiaaRec6
import Derived.Test.YtcjgdlfcfcabiaaCtl3
import Derived.Test.YtcjgdlfcfcabiaaHdr3
/- Batches: the reference: times. -/
namespace Go.Proofs.Ytcjgdlfcfcabiaa
open Go.RowKit

set_option maxHeartbeats 1000000 in
set_option maxRecDepth 100000 in
theorem ref11_times (base leader : Int) (app txn ctl : Bool) (last first maxt prod epoch sq : Int) (l : List (RecS × Value)) (q : Option Addr) (cap : Nat) (G : Int) (hG : rowsC first last (l.map (·.1)) (-1) first = .ok G) (hf : 0 ≤ first ∧ first ≤ 9223372036854775807) (hfit : FitB l) (hll : l.length ≤ 1000000) {W0 w : World} {K : Know} {L : List Res} (hk : K.has (Know.recs (.slice q l.length cap) l)) (h : St W0 w K L) :
    Calls Try.prog 76 #[.agg #[.int .i64 base, .int .i64 leader, .bool app, .bool txn, .bool ctl, .int .i64 last, .int .i64 first, .int .i64 maxt, .int .i64 prod, .int .i64 epoch, .int .i64 sq, .slice q l.length cap]] w fun en w' => en = .returned (.int .i64 G) ∧ St W0 w' K L := by
  have HT := Lib.hid hG
  have HK := Lib.hid hk
  have HFT := Lib.hid hfit
  have HF := Lib.hid hf
  obtain ⟨nf, hnf⟩ : ∃ m, -first = m := ⟨_, rfl⟩
  obtain ⟨mf, hmf⟩ : ∃ m, 9223372036854775807 - first = m := ⟨_, rfl⟩
  have HNF := Lib.hid hnf
  have HMF := Lib.hid hmf
  have n1 : wrap64 (-first) = nf := by rw [← hnf]; unfold wrap64; omega
  have n2 : IntKind.i64.wrap (-first) = nf := by rw [← hnf]; exact IntWalk.i64_in _ (by omega)
  have m1 : wrap64 (9223372036854775807 - first) = mf := by rw [← hmf]; unfold wrap64; omega
  have m2 : IntKind.i64.wrap (9223372036854775807 - first) = mf := by rw [← hmf]; exact IntWalk.i64_in _ (by omega)
  have h1 := h.allocRaw #[.int .i64 base, .int .i64 leader, .bool app, .bool txn, .bool ctl, .int .i64 last, .int .i64 first, .int .i64 maxt, .int .i64 prod, .int .i64 epoch, .int .i64 sq, .slice q l.length cap] 32
  obtain ⟨hb, hhb⟩ : ∃ b, w.heap.size = b := ⟨_, rfl⟩
  rw [hhb] at h1
  obtain ⟨x0, x1, x2, x3, x4, x5, x6, x7, x8, x9, x10, x11, y0, y1, y2, y3, y4, y5, y6, y7, y8, y9, y10, y11⟩ := raw12 (b := hb) (h1)
  have H := Lib.hid h1
  clear h h1 hk hfit hG hnf hmf hf
  go_enter Try.func76, Try.ntmps76
  go_wp2
  clear x0 y0 x1 y1 x2 y2 x3 y3 x4 y4 x5 y5 x6 y6 x7 y7 x8 y8 x9 y9 x10 y10 x11 y11
  go_loopw [3, 4, 5] (fun gv iv _ wr => ∃ (k : Nat) (ah g : Int), k ≤ l.length ∧ gv = .int .i64 g ∧ iv = .int .i64 k ∧ Hid (rowsC first last ((l.map (·.1)).drop k) ah g = .ok G) ∧ St W0 wr K (.raw hb #[.int .i64 base, .int .i64 leader, .bool app, .bool txn, .bool ctl, .int .i64 last, .int .i64 first, .int .i64 maxt, .int .i64 prod, .int .i64 epoch, .int .i64 sq, .slice q l.length cap] 32 :: L)) (fun _ iv _ _ => l.length - (intOf iv).toNat)
  case atStart => exact ⟨0, -1, first, Nat.zero_le _, rfl, rfl, HT, H.out⟩
  case round =>
    obtain ⟨k, ah, g, hkl, rfl, rfl, HC, hst⟩ := hrel
    clear H
    have H := Lib.hid hst
    clear hst
    obtain ⟨x0, x1, x2, x3, x4, x5, x6, x7, x8, x9, x10, x11, y0, y1, y2, y3, y4, y5, y6, y7, y8, y9, y10, y11⟩ := raw12 (b := hb) (H.out)
    by_cases hlt : k < l.length
    · have hd := drop_recs l k hlt _ rfl
      obtain ⟨b, off, hqq⟩ := recs_at HK.out H.out (by omega)
      subst hqq
      obtain ⟨⟨x, vx⟩, hx⟩ : ∃ x, l[k] = x := ⟨_, rfl⟩
      have cc := recs_cell HK.out H.out k hlt (x, vx) hx
      have hmem : (x, vx) ∈ l := hx ▸ List.getElem_mem hlt
      have xf : x.R ∧ HFit x.hdrs ∧ x.sum ≤ 1000000 := HFT.out (x, vx) hmem
      have xk : K.has (Know.flat RHdr vx 3 x.hdrs) := recs_hdrs HK.out hmem
      obtain ⟨qx, capx, hvx⟩ := flat_form xk H.out
      subst hvx
      simp only at cc
      obtain ⟨c0, c1, c2, c3, c4, c5, c6⟩ := cc
      rw [← Nat.add_assoc] at c1 c2 c3 c4 c5 c6
      have hx1 : l[k].1 = x := by rw [hx]
      have XF := Lib.hid xf
      have XK := Lib.hid xk
      have HX := Lib.hid hx1
      clear xf xk hx1 hx hmem
      have hki : (k : Int) < (l.length : Int) := by omega
      rw [HX.out] at hd
      have hc := HC.out
      rw [hd, rowsC_cons] at hc
      by_cases c1 : x.off ≤ ah ∨ last < x.off
      · rw [if_pos c1] at hc; cases hc
      rw [if_neg c1] at hc
      by_cases c3 : x.time < -first ∨ 9223372036854775807 - first < x.time
      · rw [if_pos c3] at hc; cases hc
      rw [if_neg c3] at hc
      have d1 : decide (mf < x.time) = false := by rw [← HMF.out]; exact decide_eq_false (by omega)
      have d2 : decide (x.time < nf) = false := by rw [← HNF.out]; exact decide_eq_false (by omega)
      obtain ⟨ft, hft⟩ : ∃ t, first + x.time = t := ⟨_, rfl⟩
      have f1 : wrap64 (first + x.time) = ft := by have := HF.out; rw [← hft]; unfold wrap64; omega
      have f2 : IntKind.i64.wrap (first + x.time) = ft := by have := HF.out; rw [← hft]; exact IntWalk.i64_in _ (by omega)
      rw [hft] at hc
      by_cases c4 : g < ft
      · have d4 : decide (g < ft) = true := decide_eq_true c4
        have HC2 := Lib.hid (show rowsC first last ((l.map (·.1)).drop (k + 1)) x.off ft = .ok G by rw [Int.max_eq_right (by omega)] at hc; exact hc)
        clear hd hc c1 c3 c4 hft
        go_wp2
        go_roundw
        case rel => exact ⟨k + 1, x.off, ft, hlt, rfl, by go_num, HC2, H.out⟩
        case measure => first | (simp [intOf]; done) | (simp [intOf]; omega)
      · have d4 : decide (g < ft) = false := decide_eq_false c4
        have HC2 := Lib.hid (show rowsC first last ((l.map (·.1)).drop (k + 1)) x.off g = .ok G by rw [Int.max_eq_left (by omega)] at hc; exact hc)
        clear hd hc c1 c3 c4 hft
        go_wp2
        go_roundw
        case rel => exact ⟨k + 1, x.off, g, hlt, rfl, by go_num, HC2, H.out⟩
        case measure => first | (simp [intOf]; done) | (simp [intOf]; omega)
    · obtain rfl : l.length = k := by omega
      have hc := HC.out
      rw [List.drop_of_length_le (by simp)] at hc
      obtain rfl : g = G := by have hc : Except.ok g = Except.ok G := hc; cases hc; rfl
      clear hc
      go_wp2
      go_ret
      exact ⟨rfl, H.out.drop⟩

end Go.Proofs.Ytcjgdlfcfcabiaa

/- Batches: the reference: rows. -/
namespace Go.Proofs.Ytcjgdlfcfcabiaa
open Go.RowKit

def PrevIs (l : List (RecS × Value)) (k : Nat) (ah : Int) : Prop := (k = 0 ∧ ah = -1) ∨ (∃ (j : Nat) (h : j < l.length), k = j + 1 ∧ (l[j]'h).1.off = ah ∧ 0 ≤ ah)
set_option maxHeartbeats 1000000 in
set_option maxRecDepth 100000 in
theorem ref11_orders (base leader : Int) (app txn ctl : Bool) (last first maxt prod epoch sq : Int) (l : List (RecS × Value)) (q : Option Addr) (cap : Nat) (e : Int) (he : BatS.rows ⟨base, leader, app, txn, ctl, last, first, maxt, prod, epoch, sq, l.map (·.1)⟩ = e) (hf : 0 ≤ first ∧ first ≤ 9223372036854775807) (hfit : FitB l) (hll : l.length ≤ 1000000) {W0 w : World} {K : Know} {L : List Res} (hk : K.has (Know.recs (.slice q l.length cap) l)) (h : St W0 w K L) :
    Calls Try.prog 52 #[.agg #[.int .i64 base, .int .i64 leader, .bool app, .bool txn, .bool ctl, .int .i64 last, .int .i64 first, .int .i64 maxt, .int .i64 prod, .int .i64 epoch, .int .i64 sq, .slice q l.length cap]] w fun en w' => en = .returned (.int .i64 e) ∧ St W0 w' K L := by
  obtain ⟨tot, htot⟩ : ∃ t, rowsC first last (l.map (·.1)) (-1) first = t := ⟨_, rfl⟩
  have HE := Lib.hid (show rowsE app maxt tot = e by rw [← he, ← htot]; rfl)
  have HT := Lib.hid htot
  have HLL := Lib.hid hll
  have HK := Lib.hid hk
  have HFT := Lib.hid hfit
  have HF := Lib.hid hf
  obtain ⟨nf, hnf⟩ : ∃ m, -first = m := ⟨_, rfl⟩
  obtain ⟨mf, hmf⟩ : ∃ m, 9223372036854775807 - first = m := ⟨_, rfl⟩
  have HNF := Lib.hid hnf
  have HMF := Lib.hid hmf
  have n1 : wrap64 (-first) = nf := by rw [← hnf]; unfold wrap64; omega
  have n2 : IntKind.i64.wrap (-first) = nf := by rw [← hnf]; exact IntWalk.i64_in _ (by omega)
  have m1 : wrap64 (9223372036854775807 - first) = mf := by rw [← hmf]; unfold wrap64; omega
  have m2 : IntKind.i64.wrap (9223372036854775807 - first) = mf := by rw [← hmf]; exact IntWalk.i64_in _ (by omega)
  have h1 := h.allocRaw #[.int .i64 base, .int .i64 leader, .bool app, .bool txn, .bool ctl, .int .i64 last, .int .i64 first, .int .i64 maxt, .int .i64 prod, .int .i64 epoch, .int .i64 sq, .slice q l.length cap] 32
  obtain ⟨hb, hhb⟩ : ∃ b, w.heap.size = b := ⟨_, rfl⟩
  rw [hhb] at h1
  obtain ⟨x0, x1, x2, x3, x4, x5, x6, x7, x8, x9, x10, x11, y0, y1, y2, y3, y4, y5, y6, y7, y8, y9, y10, y11⟩ := raw12 (b := hb) (h1)
  have H := Lib.hid h1
  have HP := Lib.hid (show PrevIs l 0 (-1) from .inl ⟨rfl, rfl⟩)
  clear h h1 hk hfit he htot hnf hmf hf
  go_enter Try.func52, Try.ntmps52
  go_wp2
  clear x0 y0 x1 y1 x2 y2 x3 y3 x4 y4 x5 y5 x6 y6 x7 y7 x8 y8 x9 y9 x10 y10 x11 y11
  go_loopw [3, 4, 5] (fun iv _ _ wr => ∃ (k : Nat) (ah g : Int), k ≤ l.length ∧ iv = .int .i64 k ∧ Hid (rowsC first last ((l.map (·.1)).drop k) ah g = tot) ∧ Hid (PrevIs l k ah) ∧ St W0 wr K (.raw hb #[.int .i64 base, .int .i64 leader, .bool app, .bool txn, .bool ctl, .int .i64 last, .int .i64 first, .int .i64 maxt, .int .i64 prod, .int .i64 epoch, .int .i64 sq, .slice q l.length cap] 32 :: L)) (fun iv _ _ _ => l.length - (intOf iv).toNat)
  case atStart => exact ⟨0, -1, first, Nat.zero_le _, rfl, HT, HP, H.out⟩
  case round =>
    obtain ⟨k, ah, g, hkl, rfl, HC, PR, hst⟩ := hrel
    clear H
    have H := Lib.hid hst
    clear hst
    obtain ⟨x0, x1, x2, x3, x4, x5, x6, x7, x8, x9, x10, x11, y0, y1, y2, y3, y4, y5, y6, y7, y8, y9, y10, y11⟩ := raw12 (b := hb) (H.out)
    by_cases hlt : k < l.length
    · have hd := drop_recs l k hlt _ rfl
      obtain ⟨b, off, hqq⟩ := recs_at HK.out H.out (by omega)
      subst hqq
      obtain ⟨⟨x, vx⟩, hx⟩ : ∃ x, l[k] = x := ⟨_, rfl⟩
      have cc := recs_cell HK.out H.out k hlt (x, vx) hx
      have hmem : (x, vx) ∈ l := hx ▸ List.getElem_mem hlt
      have xf : x.R ∧ HFit x.hdrs ∧ x.sum ≤ 1000000 := HFT.out (x, vx) hmem
      have xk : K.has (Know.flat RHdr vx 3 x.hdrs) := recs_hdrs HK.out hmem
      obtain ⟨qx, capx, hvx⟩ := flat_form xk H.out
      subst hvx
      simp only at cc
      obtain ⟨c0, c1, c2, c3, c4, c5, c6⟩ := cc
      rw [← Nat.add_assoc] at c1 c2 c3 c4 c5 c6
      have hx1 : l[k].1 = x := by rw [hx]
      have XF := Lib.hid xf
      have XK := Lib.hid xk
      have HX := Lib.hid hx1
      clear xf xk hx1 hx hmem
      have hki : (k : Int) < (l.length : Int) := by omega
      rw [HX.out] at hd
      have hc := HC.out
      rw [hd, rowsC_cons] at hc
      clear hd
      by_cases c2 : last < x.off
      · have d2 : decide (last < x.off) = true := decide_eq_true c2
        rw [if_pos (.inr c2)] at hc
        clear c2
        obtain rfl : 13 = e := by have := HE.out; rw [← hc] at this; exact this
        go_wp2
        go_ret
        exact ⟨rfl, H.out.drop⟩
      · have d2 : decide (last < x.off) = false := decide_eq_false c2
        have PR2 := Lib.hid (show 0 ≤ x.off → PrevIs l (k + 1) x.off from fun h0 => .inr ⟨k, hlt, rfl, by rw [HX.out], h0⟩)
        rcases PR.out with ⟨hk0, rfl⟩ | ⟨j, hj, hk1, hjo, ha0⟩
        · have dk : decide ((0 : Int) < (k : Int)) = false := decide_eq_false (by omega)
          have dk2 : decide (0 < k) = false := decide_eq_false (by omega)
          clear hk0
          by_cases c5 : x.off < 0
          · have d5 : decide (x.off < 0) = true := decide_eq_true c5
            rw [if_pos (.inl (by omega))] at hc
            clear c2 c5
            obtain rfl : 13 = e := by have := HE.out; rw [← hc] at this; exact this
            go_wp2
            go_ret
            exact ⟨rfl, H.out.drop⟩
          · have d5 : decide (x.off < 0) = false := decide_eq_false c5
            rw [if_neg (by omega)] at hc
            replace PR2 := Lib.hid (PR2.out (by omega))
            clear c2 c5
            by_cases c3 : 9223372036854775807 - first < x.time
            · have d3 : decide (mf < x.time) = true := by rw [← HMF.out]; exact decide_eq_true c3
              rw [if_pos (.inr c3)] at hc
              obtain rfl : 11 = e := by have := HE.out; rw [← hc] at this; exact this
              clear c3 hc
              go_wp2
              go_ret
              exact ⟨rfl, H.out.drop⟩
            · have d3 : decide (mf < x.time) = false := by rw [← HMF.out]; exact decide_eq_false c3
              by_cases c4 : x.time < -first
              · have d4 : decide (x.time < nf) = true := by rw [← HNF.out]; exact decide_eq_true c4
                rw [if_pos (.inl c4)] at hc
                obtain rfl : 11 = e := by have := HE.out; rw [← hc] at this; exact this
                clear c3 c4 hc
                go_wp2
                go_ret
                exact ⟨rfl, H.out.drop⟩
              · have d4 : decide (x.time < nf) = false := by rw [← HNF.out]; exact decide_eq_false c4
                rw [if_neg (by omega)] at hc
                have HC2 := Lib.hid hc
                clear c3 c4 hc
                go_wp2
                go_roundw
                case rel => exact ⟨k + 1, x.off, _, hlt, by go_num, HC2, PR2, H.out⟩
                case measure => first | (simp [intOf]; done) | (simp [intOf]; omega)
        · have dk : decide ((0 : Int) < (k : Int)) = true := decide_eq_true (by omega)
          have dk2 : decide (0 < k) = true := decide_eq_true (by omega)
          have kj : (k : Int) - 1 = (j : Int) := by omega
          obtain ⟨⟨y, vy⟩, hy⟩ : ∃ y, l[j] = y := ⟨_, rfl⟩
          have cy := recs_cell HK.out H.out j hj (y, vy) hy
          rw [hy] at hjo
          simp only at cy hjo
          obtain ⟨_, g1, _⟩ := cy
          rw [← Nat.add_assoc, hjo] at g1
          have hjl : (j : Int) < (l.length : Int) := by omega
          have hj0 : (0 : Int) ≤ (j : Int) := by omega
          clear hy hk1 hj
          by_cases c1 : x.off ≤ ah
          · have d1 : decide (x.off ≤ ah) = true := decide_eq_true c1
            rw [if_pos (.inl c1)] at hc
            clear c1 c2
            obtain rfl : 13 = e := by have := HE.out; rw [← hc] at this; exact this
            go_wp2
            go_ret
            exact ⟨rfl, H.out.drop⟩
          · have d1 : decide (x.off ≤ ah) = false := decide_eq_false c1
            have d5 : decide (x.off < 0) = false := decide_eq_false (by omega)
            rw [if_neg (by omega)] at hc
            replace PR2 := Lib.hid (PR2.out (by omega))
            clear c1 c2
            by_cases c3 : 9223372036854775807 - first < x.time
            · have d3 : decide (mf < x.time) = true := by rw [← HMF.out]; exact decide_eq_true c3
              rw [if_pos (.inr c3)] at hc
              obtain rfl : 11 = e := by have := HE.out; rw [← hc] at this; exact this
              clear c3 hc
              go_wp2
              go_ret
              exact ⟨rfl, H.out.drop⟩
            · have d3 : decide (mf < x.time) = false := by rw [← HMF.out]; exact decide_eq_false c3
              by_cases c4 : x.time < -first
              · have d4 : decide (x.time < nf) = true := by rw [← HNF.out]; exact decide_eq_true c4
                rw [if_pos (.inl c4)] at hc
                obtain rfl : 11 = e := by have := HE.out; rw [← hc] at this; exact this
                clear c3 c4 hc
                go_wp2
                go_ret
                exact ⟨rfl, H.out.drop⟩
              · have d4 : decide (x.time < nf) = false := by rw [← HNF.out]; exact decide_eq_false c4
                rw [if_neg (by omega)] at hc
                have HC2 := Lib.hid hc
                clear c3 c4 hc
                go_wp2
                go_roundw
                case rel => exact ⟨k + 1, x.off, _, hlt, by go_num, HC2, PR2, H.out⟩
                case measure => first | (simp [intOf]; done) | (simp [intOf]; omega)
    · obtain rfl : l.length = k := by omega
      have hc := HC.out
      rw [List.drop_of_length_le (by simp)] at hc
      obtain rfl : Except.ok g = tot := hc
      have hee := HE.out
      simp only [rowsE] at hee
      cases app with
      | true =>
        obtain rfl : 0 = e := by rw [← hee]; rfl
        clear hee
        go_upto_region 10 with (fail)
        have hs := H.out.drew
        refine wp_region_held_drew (S := fun w' => w'.cell? ⟨hb, 0, none⟩ = some (.int .i64 base) ∧ w'.cell? ⟨hb, 1, none⟩ = some (.int .i64 leader) ∧ w'.cell? ⟨hb, 2, none⟩ = some (.bool true) ∧ w'.cell? ⟨hb, 3, none⟩ = some (.bool txn) ∧ w'.cell? ⟨hb, 4, none⟩ = some (.bool ctl) ∧ w'.cell? ⟨hb, 5, none⟩ = some (.int .i64 last) ∧ w'.cell? ⟨hb, 6, none⟩ = some (.int .i64 first) ∧ w'.cell? ⟨hb, 7, none⟩ = some (.int .i64 maxt) ∧ w'.cell? ⟨hb, 8, none⟩ = some (.int .i64 prod) ∧ w'.cell? ⟨hb, 9, none⟩ = some (.int .i64 epoch) ∧ w'.cell? ⟨hb, 10, none⟩ = some (.int .i64 sq) ∧ w'.cell? ⟨hb, 11, none⟩ = some (.slice q l.length cap)) (by kernel_rfl) (let ⟨x0, x1, x2, x3, x4, x5, x6, x7, x8, x9, x10, x11, _⟩ := raw12 (b := hb) hs; ⟨x0, x1, x2, x3, x4, x5, x6, x7, x8, x9, x10, x11⟩) (fun hHeld => ?_)
        refine wpAnyH_take (i := 0) (oi := { dst := some 60, op := Op.fieldAddr 32 (Operand.tmp 1) 2, type := 0, pos := "ref.go:60", after := #[], guard := none }) (v := ?_) rfl (by kernel_rfl) (by kernel_rfl) (by kernel_rfl) (fun _ _ _ h => h) (Or.inl ⟨by rfl, ?_⟩) (by assumption) ?_
        rotate_left
        · intro w hSw; (try dsimp only at hSw); go_simp; try with_reducible rfl
        simp only [Act.put, List.setIfInBounds_toArray, List.set_cons_zero, List.set_cons_succ]
        refine wpAnyH_take (i := 1) (oi := { dst := some 61, op := Op.load 4 (Operand.tmp 60), type := 4, pos := "ref.go:60", after := #[{ on := 0, ground := Ground.data }], guard := none }) (v := ?_) rfl (by kernel_rfl) (by kernel_rfl) (by kernel_rfl) (fun _ _ _ h => h) (Or.inl ⟨by rfl, ?_⟩) (by assumption) ?_
        rotate_left
        · intro w hSw; (try dsimp only at hSw); go_simp; try with_reducible rfl
        simp only [Act.put, List.setIfInBounds_toArray, List.set_cons_zero, List.set_cons_succ]
        refine wpAnyH_take (i := 2) (oi := { dst := some 62, op := Op.unOp UnOp.not 4 (Operand.tmp 61), type := 4, pos := "ref.go:60", after := #[{ on := 1, ground := Ground.data }], guard := none }) (v := ?_) rfl (by kernel_rfl) (by kernel_rfl) (by kernel_rfl) (fun _ _ _ h => h) (Or.inl ⟨by rfl, ?_⟩) (by assumption) ?_
        rotate_left
        · intro w hSw; (try dsimp only at hSw); go_simp; try with_reducible rfl
        simp only [Act.put, List.setIfInBounds_toArray, List.set_cons_zero, List.set_cons_succ]
        refine wpAnyH_take (i := 3) (oi := { dst := some 63, op := Op.move (Operand.tmp 62), type := 4, pos := "ref.go:60", after := #[{ on := 2, ground := Ground.data }], guard := none }) (v := ?_) rfl (by kernel_rfl) (by kernel_rfl) (by kernel_rfl) (fun _ _ _ h => h) (Or.inl ⟨by rfl, ?_⟩) (by assumption) ?_
        rotate_left
        · intro w hSw; (try dsimp only at hSw); go_simp; try with_reducible rfl
        simp only [Act.put, List.setIfInBounds_toArray, List.set_cons_zero, List.set_cons_succ]
        refine wpAnyH_take (i := 4) (oi := { dst := some 64, op := Op.load 32 (Operand.tmp 1), type := 32, pos := "ref.go:60", after := #[{ on := 3, ground := Ground.guard }], guard := some (3, true) }) (v := undef) rfl (by kernel_rfl) (by kernel_rfl) (by kernel_rfl) (fun _ _ _ h => h) (Or.inr ⟨by rfl, rfl⟩) (by assumption) ?_
        simp only [Act.put, List.setIfInBounds_toArray, List.set_cons_zero, List.set_cons_succ]
        refine wpAnyH_take (i := 5) (oi := { dst := some 65, op := Op.call { callee := Callee.value (Operand.func 76), args := #[Operand.tmp 64], argTypes := #[32] }, type := 3, pos := "ref.go:60", after := #[{ on := 4, ground := Ground.data }, { on := 3, ground := Ground.chain }, { on := 3, ground := Ground.guard }], guard := some (3, true) }) (v := undef) rfl (by kernel_rfl) (by kernel_rfl) (by kernel_rfl) (fun _ _ _ h => h) (Or.inr ⟨by rfl, rfl⟩) (by assumption) ?_
        simp only [Act.put, List.setIfInBounds_toArray, List.set_cons_zero, List.set_cons_succ]
        refine wpAnyH_take (i := 6) (oi := { dst := some 66, op := Op.fieldAddr 32 (Operand.tmp 1) 7, type := 0, pos := "ref.go:60", after := #[{ on := 3, ground := Ground.guard }], guard := some (3, true) }) (v := undef) rfl (by kernel_rfl) (by kernel_rfl) (by kernel_rfl) (fun _ _ _ h => h) (Or.inr ⟨by rfl, rfl⟩) (by assumption) ?_
        simp only [Act.put, List.setIfInBounds_toArray, List.set_cons_zero, List.set_cons_succ]
        refine wpAnyH_take (i := 7) (oi := { dst := some 67, op := Op.load 3 (Operand.tmp 66), type := 3, pos := "ref.go:60", after := #[{ on := 6, ground := Ground.data }, { on := 3, ground := Ground.guard }], guard := some (3, true) }) (v := undef) rfl (by kernel_rfl) (by kernel_rfl) (by kernel_rfl) (fun _ _ _ h => h) (Or.inr ⟨by rfl, rfl⟩) (by assumption) ?_
        simp only [Act.put, List.setIfInBounds_toArray, List.set_cons_zero, List.set_cons_succ]
        refine wpAnyH_take (i := 8) (oi := { dst := some 68, op := Op.binOp BinOp.neq 3 (Operand.tmp 65) (Operand.tmp 67) 3, type := 4, pos := "ref.go:60", after := #[{ on := 5, ground := Ground.data }, { on := 7, ground := Ground.data }, { on := 3, ground := Ground.guard }], guard := some (3, true) }) (v := undef) rfl (by kernel_rfl) (by kernel_rfl) (by kernel_rfl) (fun _ _ _ h => h) (Or.inr ⟨by rfl, rfl⟩) (by assumption) ?_
        simp only [Act.put, List.setIfInBounds_toArray, List.set_cons_zero, List.set_cons_succ]
        refine wpAnyH_take (i := 9) (oi := { dst := some 69, op := Op.pick (Operand.tmp 63) (Operand.tmp 68) (Operand.const (Value.bool false)), type := 4, pos := "ref.go:60", after := #[{ on := 3, ground := Ground.data }, { on := 8, ground := Ground.data }], guard := none }) (v := ?_) rfl (by kernel_rfl) (by kernel_rfl) (by kernel_rfl) (fun _ _ _ h => h) (Or.inl ⟨by rfl, ?_⟩) (by assumption) ?_
        rotate_left
        · intro w hSw; (try dsimp only at hSw); go_simp; try with_reducible rfl
        simp only [Act.put, List.setIfInBounds_toArray, List.set_cons_zero, List.set_cons_succ]
        refine wpAnyH_done (by kernel_rfl) ?_ _
        clear hHeld
        go_wp2_with fail
        go_ret
        exact ⟨rfl, hs.drop⟩
      | false =>
        have HG := Lib.hid (show rowsC first last (l.map (·.1)) (-1) first = .ok g from HT.out)
        by_cases c1 : maxt = g
        · subst c1
          obtain rfl : 0 = e := by rw [← hee]; simp
          clear hee
          go_upto_region 10 with (fail)
          have hs := H.out.drew
          refine wp_region_held_drew (S := fun w' => w'.cell? ⟨hb, 0, none⟩ = some (.int .i64 base) ∧ w'.cell? ⟨hb, 1, none⟩ = some (.int .i64 leader) ∧ w'.cell? ⟨hb, 2, none⟩ = some (.bool false) ∧ w'.cell? ⟨hb, 3, none⟩ = some (.bool txn) ∧ w'.cell? ⟨hb, 4, none⟩ = some (.bool ctl) ∧ w'.cell? ⟨hb, 5, none⟩ = some (.int .i64 last) ∧ w'.cell? ⟨hb, 6, none⟩ = some (.int .i64 first) ∧ w'.cell? ⟨hb, 7, none⟩ = some (.int .i64 maxt) ∧ w'.cell? ⟨hb, 8, none⟩ = some (.int .i64 prod) ∧ w'.cell? ⟨hb, 9, none⟩ = some (.int .i64 epoch) ∧ w'.cell? ⟨hb, 10, none⟩ = some (.int .i64 sq) ∧ w'.cell? ⟨hb, 11, none⟩ = some (.slice q l.length cap)) (by kernel_rfl) (let ⟨x0, x1, x2, x3, x4, x5, x6, x7, x8, x9, x10, x11, _⟩ := raw12 (b := hb) hs; ⟨x0, x1, x2, x3, x4, x5, x6, x7, x8, x9, x10, x11⟩) (fun hHeld => ?_)
          refine wpAnyH_take (i := 0) (oi := { dst := some 60, op := Op.fieldAddr 32 (Operand.tmp 1) 2, type := 0, pos := "ref.go:60", after := #[], guard := none }) (v := ?_) rfl (by kernel_rfl) (by kernel_rfl) (by kernel_rfl) (fun _ _ _ h => h) (Or.inl ⟨by rfl, ?_⟩) (by assumption) ?_
          rotate_left
          · intro w hSw; (try dsimp only at hSw); go_simp; try with_reducible rfl
          simp only [Act.put, List.setIfInBounds_toArray, List.set_cons_zero, List.set_cons_succ]
          refine wpAnyH_take (i := 1) (oi := { dst := some 61, op := Op.load 4 (Operand.tmp 60), type := 4, pos := "ref.go:60", after := #[{ on := 0, ground := Ground.data }], guard := none }) (v := ?_) rfl (by kernel_rfl) (by kernel_rfl) (by kernel_rfl) (fun _ _ _ h => h) (Or.inl ⟨by rfl, ?_⟩) (by assumption) ?_
          rotate_left
          · intro w hSw; (try dsimp only at hSw); go_simp; try with_reducible rfl
          simp only [Act.put, List.setIfInBounds_toArray, List.set_cons_zero, List.set_cons_succ]
          refine wpAnyH_take (i := 2) (oi := { dst := some 62, op := Op.unOp UnOp.not 4 (Operand.tmp 61), type := 4, pos := "ref.go:60", after := #[{ on := 1, ground := Ground.data }], guard := none }) (v := ?_) rfl (by kernel_rfl) (by kernel_rfl) (by kernel_rfl) (fun _ _ _ h => h) (Or.inl ⟨by rfl, ?_⟩) (by assumption) ?_
          rotate_left
          · intro w hSw; (try dsimp only at hSw); go_simp; try with_reducible rfl
          simp only [Act.put, List.setIfInBounds_toArray, List.set_cons_zero, List.set_cons_succ]
          refine wpAnyH_take (i := 3) (oi := { dst := some 63, op := Op.move (Operand.tmp 62), type := 4, pos := "ref.go:60", after := #[{ on := 2, ground := Ground.data }], guard := none }) (v := ?_) rfl (by kernel_rfl) (by kernel_rfl) (by kernel_rfl) (fun _ _ _ h => h) (Or.inl ⟨by rfl, ?_⟩) (by assumption) ?_
          rotate_left
          · intro w hSw; (try dsimp only at hSw); go_simp; try with_reducible rfl
          simp only [Act.put, List.setIfInBounds_toArray, List.set_cons_zero, List.set_cons_succ]
          refine wpAnyH_take (i := 4) (oi := { dst := some 64, op := Op.load 32 (Operand.tmp 1), type := 32, pos := "ref.go:60", after := #[{ on := 3, ground := Ground.guard }], guard := some (3, true) }) (v := ?_) rfl (by kernel_rfl) (by kernel_rfl) (by kernel_rfl) (fun _ _ _ h => h) (Or.inl ⟨by rfl, ?_⟩) (by assumption) ?_
          rotate_left
          · intro w hSw; (try dsimp only at hSw); go_simp; try with_reducible rfl
          simp only [Act.put, List.setIfInBounds_toArray, List.set_cons_zero, List.set_cons_succ]
          refine wpAnyH_take (i := 6) (oi := { dst := some 66, op := Op.fieldAddr 32 (Operand.tmp 1) 7, type := 0, pos := "ref.go:60", after := #[{ on := 3, ground := Ground.guard }], guard := some (3, true) }) (v := ?_) rfl (by kernel_rfl) (by kernel_rfl) (by kernel_rfl) (fun _ _ _ h => h) (Or.inl ⟨by rfl, ?_⟩) (by assumption) ?_
          rotate_left
          · intro w hSw; (try dsimp only at hSw); go_simp; try with_reducible rfl
          simp only [Act.put, List.setIfInBounds_toArray, List.set_cons_zero, List.set_cons_succ]
          refine wpAnyH_take (i := 7) (oi := { dst := some 67, op := Op.load 3 (Operand.tmp 66), type := 3, pos := "ref.go:60", after := #[{ on := 6, ground := Ground.data }, { on := 3, ground := Ground.guard }], guard := some (3, true) }) (v := ?_) rfl (by kernel_rfl) (by kernel_rfl) (by kernel_rfl) (fun _ _ _ h => h) (Or.inl ⟨by rfl, ?_⟩) (by assumption) ?_
          rotate_left
          · intro w hSw; (try dsimp only at hSw); go_simp; try with_reducible rfl
          simp only [Act.put, List.setIfInBounds_toArray, List.set_cons_zero, List.set_cons_succ]
          refine wpAnyH_ready (rs := [5]) (by kernel_rfl) (by simp) (AllReadyH.cons (o := { dst := some 65, op := Op.call { callee := Callee.value (Operand.func 76), args := #[Operand.tmp 64], argTypes := #[32] }, type := 3, pos := "ref.go:60", after := #[{ on := 4, ground := Ground.data }, { on := 3, ground := Ground.chain }, { on := 3, ground := Ground.guard }], guard := some (3, true) }) rfl (fun KK hK => ?_) AllReadyH.nil)
          · go_simp
            go_at_call 76
            with_reducible refine (ref11_times base leader false txn ctl last first maxt prod epoch sq l _ _ _ HG.out HF.out HFT.out HLL.out HK.out hs).mono ?_
            rintro e wq ⟨rfl, hs⟩
            refine hK.out _ _ (let ⟨x0, x1, x2, x3, x4, x5, x6, x7, x8, x9, x10, x11, _⟩ := raw12 (b := hb) hs; ⟨x0, x1, x2, x3, x4, x5, x6, x7, x8, x9, x10, x11⟩) (fun hHeld => ?_)
            clear hK KK
            try simp only [Act.put, List.setIfInBounds_toArray, List.set_cons_zero, List.set_cons_succ]
            refine wpAnyH_take (i := 8) (oi := { dst := some 68, op := Op.binOp BinOp.neq 3 (Operand.tmp 65) (Operand.tmp 67) 3, type := 4, pos := "ref.go:60", after := #[{ on := 5, ground := Ground.data }, { on := 7, ground := Ground.data }, { on := 3, ground := Ground.guard }], guard := some (3, true) }) (v := ?_) rfl (by kernel_rfl) (by kernel_rfl) (by kernel_rfl) (fun _ _ _ h => h) (Or.inl ⟨by rfl, ?_⟩) (by assumption) ?_
            rotate_left
            · intro w hSw; (try dsimp only at hSw); go_simp; try with_reducible rfl
            simp only [Act.put, List.setIfInBounds_toArray, List.set_cons_zero, List.set_cons_succ]
            refine wpAnyH_take (i := 9) (oi := { dst := some 69, op := Op.pick (Operand.tmp 63) (Operand.tmp 68) (Operand.const (Value.bool false)), type := 4, pos := "ref.go:60", after := #[{ on := 3, ground := Ground.data }, { on := 8, ground := Ground.data }], guard := none }) (v := ?_) rfl (by kernel_rfl) (by kernel_rfl) (by kernel_rfl) (fun _ _ _ h => h) (Or.inl ⟨by rfl, ?_⟩) (by assumption) ?_
            rotate_left
            · intro w hSw; (try dsimp only at hSw); go_simp; try with_reducible rfl
            simp only [Act.put, List.setIfInBounds_toArray, List.set_cons_zero, List.set_cons_succ]
            refine wpAnyH_done (by kernel_rfl) ?_ _
            clear hHeld
            go_wp2_with fail
            go_ret
            exact ⟨rfl, hs.drop⟩
        · obtain rfl : 11 = e := by rw [← hee]; simp [c1]
          have b1 : (g == maxt) = false := by rw [beq_eq_false_iff_ne]; exact fun h => c1 h.symm
          have b2 : (g != maxt) = true := by simp [bne, b1]
          clear hee c1
          go_upto_region 10 with (fail)
          have hs := H.out.drew
          refine wp_region_held_drew (S := fun w' => w'.cell? ⟨hb, 0, none⟩ = some (.int .i64 base) ∧ w'.cell? ⟨hb, 1, none⟩ = some (.int .i64 leader) ∧ w'.cell? ⟨hb, 2, none⟩ = some (.bool false) ∧ w'.cell? ⟨hb, 3, none⟩ = some (.bool txn) ∧ w'.cell? ⟨hb, 4, none⟩ = some (.bool ctl) ∧ w'.cell? ⟨hb, 5, none⟩ = some (.int .i64 last) ∧ w'.cell? ⟨hb, 6, none⟩ = some (.int .i64 first) ∧ w'.cell? ⟨hb, 7, none⟩ = some (.int .i64 maxt) ∧ w'.cell? ⟨hb, 8, none⟩ = some (.int .i64 prod) ∧ w'.cell? ⟨hb, 9, none⟩ = some (.int .i64 epoch) ∧ w'.cell? ⟨hb, 10, none⟩ = some (.int .i64 sq) ∧ w'.cell? ⟨hb, 11, none⟩ = some (.slice q l.length cap)) (by kernel_rfl) (let ⟨x0, x1, x2, x3, x4, x5, x6, x7, x8, x9, x10, x11, _⟩ := raw12 (b := hb) hs; ⟨x0, x1, x2, x3, x4, x5, x6, x7, x8, x9, x10, x11⟩) (fun hHeld => ?_)
          refine wpAnyH_take (i := 0) (oi := { dst := some 60, op := Op.fieldAddr 32 (Operand.tmp 1) 2, type := 0, pos := "ref.go:60", after := #[], guard := none }) (v := ?_) rfl (by kernel_rfl) (by kernel_rfl) (by kernel_rfl) (fun _ _ _ h => h) (Or.inl ⟨by rfl, ?_⟩) (by assumption) ?_
          rotate_left
          · intro w hSw; (try dsimp only at hSw); go_simp; try with_reducible rfl
          simp only [Act.put, List.setIfInBounds_toArray, List.set_cons_zero, List.set_cons_succ]
          refine wpAnyH_take (i := 1) (oi := { dst := some 61, op := Op.load 4 (Operand.tmp 60), type := 4, pos := "ref.go:60", after := #[{ on := 0, ground := Ground.data }], guard := none }) (v := ?_) rfl (by kernel_rfl) (by kernel_rfl) (by kernel_rfl) (fun _ _ _ h => h) (Or.inl ⟨by rfl, ?_⟩) (by assumption) ?_
          rotate_left
          · intro w hSw; (try dsimp only at hSw); go_simp; try with_reducible rfl
          simp only [Act.put, List.setIfInBounds_toArray, List.set_cons_zero, List.set_cons_succ]
          refine wpAnyH_take (i := 2) (oi := { dst := some 62, op := Op.unOp UnOp.not 4 (Operand.tmp 61), type := 4, pos := "ref.go:60", after := #[{ on := 1, ground := Ground.data }], guard := none }) (v := ?_) rfl (by kernel_rfl) (by kernel_rfl) (by kernel_rfl) (fun _ _ _ h => h) (Or.inl ⟨by rfl, ?_⟩) (by assumption) ?_
          rotate_left
          · intro w hSw; (try dsimp only at hSw); go_simp; try with_reducible rfl
          simp only [Act.put, List.setIfInBounds_toArray, List.set_cons_zero, List.set_cons_succ]
          refine wpAnyH_take (i := 3) (oi := { dst := some 63, op := Op.move (Operand.tmp 62), type := 4, pos := "ref.go:60", after := #[{ on := 2, ground := Ground.data }], guard := none }) (v := ?_) rfl (by kernel_rfl) (by kernel_rfl) (by kernel_rfl) (fun _ _ _ h => h) (Or.inl ⟨by rfl, ?_⟩) (by assumption) ?_
          rotate_left
          · intro w hSw; (try dsimp only at hSw); go_simp; try with_reducible rfl
          simp only [Act.put, List.setIfInBounds_toArray, List.set_cons_zero, List.set_cons_succ]
          refine wpAnyH_take (i := 4) (oi := { dst := some 64, op := Op.load 32 (Operand.tmp 1), type := 32, pos := "ref.go:60", after := #[{ on := 3, ground := Ground.guard }], guard := some (3, true) }) (v := ?_) rfl (by kernel_rfl) (by kernel_rfl) (by kernel_rfl) (fun _ _ _ h => h) (Or.inl ⟨by rfl, ?_⟩) (by assumption) ?_
          rotate_left
          · intro w hSw; (try dsimp only at hSw); go_simp; try with_reducible rfl
          simp only [Act.put, List.setIfInBounds_toArray, List.set_cons_zero, List.set_cons_succ]
          refine wpAnyH_take (i := 6) (oi := { dst := some 66, op := Op.fieldAddr 32 (Operand.tmp 1) 7, type := 0, pos := "ref.go:60", after := #[{ on := 3, ground := Ground.guard }], guard := some (3, true) }) (v := ?_) rfl (by kernel_rfl) (by kernel_rfl) (by kernel_rfl) (fun _ _ _ h => h) (Or.inl ⟨by rfl, ?_⟩) (by assumption) ?_
          rotate_left
          · intro w hSw; (try dsimp only at hSw); go_simp; try with_reducible rfl
          simp only [Act.put, List.setIfInBounds_toArray, List.set_cons_zero, List.set_cons_succ]
          refine wpAnyH_take (i := 7) (oi := { dst := some 67, op := Op.load 3 (Operand.tmp 66), type := 3, pos := "ref.go:60", after := #[{ on := 6, ground := Ground.data }, { on := 3, ground := Ground.guard }], guard := some (3, true) }) (v := ?_) rfl (by kernel_rfl) (by kernel_rfl) (by kernel_rfl) (fun _ _ _ h => h) (Or.inl ⟨by rfl, ?_⟩) (by assumption) ?_
          rotate_left
          · intro w hSw; (try dsimp only at hSw); go_simp; try with_reducible rfl
          simp only [Act.put, List.setIfInBounds_toArray, List.set_cons_zero, List.set_cons_succ]
          refine wpAnyH_ready (rs := [5]) (by kernel_rfl) (by simp) (AllReadyH.cons (o := { dst := some 65, op := Op.call { callee := Callee.value (Operand.func 76), args := #[Operand.tmp 64], argTypes := #[32] }, type := 3, pos := "ref.go:60", after := #[{ on := 4, ground := Ground.data }, { on := 3, ground := Ground.chain }, { on := 3, ground := Ground.guard }], guard := some (3, true) }) rfl (fun KK hK => ?_) AllReadyH.nil)
          · go_simp
            go_at_call 76
            with_reducible refine (ref11_times base leader false txn ctl last first maxt prod epoch sq l _ _ _ HG.out HF.out HFT.out HLL.out HK.out hs).mono ?_
            rintro e wq ⟨rfl, hs⟩
            refine hK.out _ _ (let ⟨x0, x1, x2, x3, x4, x5, x6, x7, x8, x9, x10, x11, _⟩ := raw12 (b := hb) hs; ⟨x0, x1, x2, x3, x4, x5, x6, x7, x8, x9, x10, x11⟩) (fun hHeld => ?_)
            clear hK KK
            try simp only [Act.put, List.setIfInBounds_toArray, List.set_cons_zero, List.set_cons_succ]
            refine wpAnyH_take (i := 8) (oi := { dst := some 68, op := Op.binOp BinOp.neq 3 (Operand.tmp 65) (Operand.tmp 67) 3, type := 4, pos := "ref.go:60", after := #[{ on := 5, ground := Ground.data }, { on := 7, ground := Ground.data }, { on := 3, ground := Ground.guard }], guard := some (3, true) }) (v := ?_) rfl (by kernel_rfl) (by kernel_rfl) (by kernel_rfl) (fun _ _ _ h => h) (Or.inl ⟨by rfl, ?_⟩) (by assumption) ?_
            rotate_left
            · intro w hSw; (try dsimp only at hSw); go_simp; try with_reducible rfl
            simp only [Act.put, List.setIfInBounds_toArray, List.set_cons_zero, List.set_cons_succ]
            refine wpAnyH_take (i := 9) (oi := { dst := some 69, op := Op.pick (Operand.tmp 63) (Operand.tmp 68) (Operand.const (Value.bool false)), type := 4, pos := "ref.go:60", after := #[{ on := 3, ground := Ground.data }, { on := 8, ground := Ground.data }], guard := none }) (v := ?_) rfl (by kernel_rfl) (by kernel_rfl) (by kernel_rfl) (fun _ _ _ h => h) (Or.inl ⟨by rfl, ?_⟩) (by assumption) ?_
            rotate_left
            · intro w hSw; (try dsimp only at hSw); go_simp; try with_reducible rfl
            simp only [Act.put, List.setIfInBounds_toArray, List.set_cons_zero, List.set_cons_succ]
            refine wpAnyH_done (by kernel_rfl) ?_ _
            clear hHeld
            go_wp2_with fail
            go_ret
            exact ⟨rfl, hs.drop⟩

end Go.Proofs.Ytcjgdlfcfcabiaa

/- Batches: the reference: producers. -/
namespace Go.Proofs.Ytcjgdlfcfcabiaa
open Go.RowKit

set_option maxHeartbeats 1000000 in
set_option maxRecDepth 100000 in
theorem ref11_int32s (n lo : Int) (r : Bool) (hr : decide (lo ≤ n ∧ n ≤ 2147483647) = r) {W0 w : World} {K : Know} {L : List Res} (h : St W0 w K L) :
    Calls Try.prog 49 #[.int .i64 n, .int .i64 lo] w fun en w' => en = .returned (.bool r) ∧ St W0 w' K L := by
  have H := Lib.hid h
  clear h
  by_cases h1 : lo ≤ n
  · have d1 : decide (lo ≤ n) = true := decide_eq_true h1
    by_cases h2 : n ≤ 2147483647
    · have d2 : decide (n ≤ 2147483647) = true := decide_eq_true h2
      obtain rfl : true = r := (decide_eq_true ⟨h1, h2⟩).symm.trans hr
      clear h1 h2
      go_enter Try.func49, Try.ntmps49
      go_wp2
      go_ret
      exact ⟨rfl, H.out⟩
    · have d2 : decide (n ≤ 2147483647) = false := decide_eq_false h2
      obtain rfl : false = r := (decide_eq_false (fun x => h2 x.2)).symm.trans hr
      clear h1 h2
      go_enter Try.func49, Try.ntmps49
      go_wp2
      go_ret
      exact ⟨rfl, H.out⟩
  · have d1 : decide (lo ≤ n) = false := decide_eq_false h1
    obtain rfl : false = r := (decide_eq_false (fun x => h1 x.1)).symm.trans hr
    clear h1
    go_enter Try.func49, Try.ntmps49
    go_wp2
    go_ret
    exact ⟨rfl, H.out⟩

set_option maxHeartbeats 1000000 in
set_option maxRecDepth 100000 in
theorem ref11_producer (base leader : Int) (app txn ctl : Bool) (last first maxt prod epoch sq : Int) (rv : Value) (r : Bool) (hr : (if prod = -1 then decide (epoch = -1 ∧ sq = -1 ∧ txn = false) else if prod < 0 ∨ ¬ (0 ≤ epoch ∧ epoch ≤ 32767) then false else if ctl then decide (sq = -1) else decide (0 ≤ sq ∧ sq ≤ 2147483647)) = r) {W0 w : World} {K : Know} {L : List Res} (h : St W0 w K L) :
    Calls Try.prog 50 #[.agg #[.int .i64 base, .int .i64 leader, .bool app, .bool txn, .bool ctl, .int .i64 last, .int .i64 first, .int .i64 maxt, .int .i64 prod, .int .i64 epoch, .int .i64 sq, rv]] w fun en w' => en = .returned (.bool r) ∧ St W0 w' K L := by
  have h1 := h.allocRaw #[.int .i64 base, .int .i64 leader, .bool app, .bool txn, .bool ctl, .int .i64 last, .int .i64 first, .int .i64 maxt, .int .i64 prod, .int .i64 epoch, .int .i64 sq, rv] 32
  obtain ⟨hb, hhb⟩ : ∃ b, w.heap.size = b := ⟨_, rfl⟩
  rw [hhb] at h1
  obtain ⟨x0, x1, x2, x3, x4, x5, x6, x7, x8, x9, x10, x11, y0, y1, y2, y3, y4, y5, y6, y7, y8, y9, y10, y11⟩ := raw12 (b := hb) (h1)
  have H := Lib.hid h1
  clear h h1
  by_cases c0 : prod = -1
  · rw [if_pos c0] at hr
    subst c0
    by_cases c1 : epoch = -1
    · subst c1
      by_cases c2 : sq = -1
      · subst c2
        obtain rfl : (!txn) = r := by rw [← hr]; cases txn <;> rfl
        clear hr
        go_enter Try.func50, Try.ntmps50
        go_wp2
        go_ret
        exact ⟨rfl, H.out.drop⟩
      · obtain rfl : false = r := by rw [← hr]; exact (decide_eq_false (fun x => c2 x.2.1)).symm
        have b2 : (sq == -1) = false := by rw [beq_eq_false_iff_ne]; exact c2
        clear hr c2
        go_enter Try.func50, Try.ntmps50
        go_wp2
        go_ret
        exact ⟨rfl, H.out.drop⟩
    · obtain rfl : false = r := by rw [← hr]; exact (decide_eq_false (fun x => c1 x.1)).symm
      have b1 : (epoch == -1) = false := by rw [beq_eq_false_iff_ne]; exact c1
      clear hr c1
      go_enter Try.func50, Try.ntmps50
      go_wp2
      go_ret
      exact ⟨rfl, H.out.drop⟩
  · rw [if_neg c0] at hr
    have b0 : (prod == -1) = false := by rw [beq_eq_false_iff_ne]; exact c0
    by_cases c1 : prod < 0
    · rw [if_pos (.inl c1)] at hr
      subst hr
      have d1 : decide (prod < 0) = true := decide_eq_true c1
      clear c0 c1
      go_enter Try.func50, Try.ntmps50
      go_wp2
      go_ret
      exact ⟨rfl, H.out.drop⟩
    · have d1 : decide (prod < 0) = false := decide_eq_false c1
      by_cases c2 : epoch < 0
      · rw [if_pos (.inr (by omega))] at hr
        subst hr
        have d2 : decide (epoch < 0) = true := decide_eq_true c2
        clear c0 c1 c2
        go_enter Try.func50, Try.ntmps50
        go_wp2
        go_ret
        exact ⟨rfl, H.out.drop⟩
      · have d2 : decide (epoch < 0) = false := decide_eq_false c2
        by_cases c3 : 32767 < epoch
        · rw [if_pos (.inr (by omega))] at hr
          subst hr
          have d3 : decide ((32767 : Int) < epoch) = true := decide_eq_true c3
          clear c0 c1 c2 c3
          go_enter Try.func50, Try.ntmps50
          go_wp2
          go_ret
          exact ⟨rfl, H.out.drop⟩
        · have d3 : decide ((32767 : Int) < epoch) = false := decide_eq_false c3
          rw [if_neg (by rintro (x | x); exact c1 x; exact x (by omega))] at hr
          clear c0 c1 c2 c3
          cases ctl with
          | true =>
            obtain rfl : (sq == -1) = r := by rw [← hr]; rfl
            clear hr
            go_enter Try.func50, Try.ntmps50
            go_wp2
            go_ret
            exact ⟨rfl, H.out.drop⟩
          | false =>
            have HS := Lib.hid (show decide (0 ≤ sq ∧ sq ≤ 2147483647) = r from hr)
            clear hr
            go_enter Try.func50, Try.ntmps50
            go_wp2_with (go_at_call 49; (with_reducible refine (ref11_int32s sq 0 _ HS.out H.out).mono ?_); rintro e_ wn ⟨rfl, h⟩; replace H := Lib.hid h; clear h; obtain ⟨x0, x1, x2, x3, x4, x5, x6, x7, x8, x9, x10, x11, y0, y1, y2, y3, y4, y5, y6, y7, y8, y9, y10, y11⟩ := raw12 (b := hb) (H.out))
            go_ret
            exact ⟨rfl, H.out.drop⟩

end Go.Proofs.Ytcjgdlfcfcabiaa

/- Batches: the reference: which may be. -/
namespace Go.Proofs.Ytcjgdlfcfcabiaa
open Go.RowKit

set_option maxHeartbeats 1000000 in
set_option maxRecDepth 100000 in
theorem ref11_check (base leader : Int) (app txn ctl : Bool) (last first maxt prod epoch sq : Int) (l : List (RecS × Value)) (q : Option Addr) (cap : Nat) (e : Int) (he : batErr ⟨base, leader, app, txn, ctl, last, first, maxt, prod, epoch, sq, l.map (·.1)⟩ = e) (hmx : first ≤ 9223372036854775807) (hb0 : Rn base) (hfit : FitB l) (hll : l.length ≤ 1000000) {W0 w : World} {K : Know} {L : List Res} (hk : K.has (Know.recs (.slice q l.length cap) l)) (h : St W0 w K L) :
    Calls Try.prog 32 #[.agg #[.int .i64 base, .int .i64 leader, .bool app, .bool txn, .bool ctl, .int .i64 last, .int .i64 first, .int .i64 maxt, .int .i64 prod, .int .i64 epoch, .int .i64 sq, .slice q l.length cap]] w fun en w' => en = .returned (.int .i64 e) ∧ St W0 w' K L := by
  have HK := Lib.hid hk
  have HFT := Lib.hid hfit
  have HLL := Lib.hid hll
  unfold Rn at hb0
  have h1 := h.allocRaw #[.int .i64 base, .int .i64 leader, .bool app, .bool txn, .bool ctl, .int .i64 last, .int .i64 first, .int .i64 maxt, .int .i64 prod, .int .i64 epoch, .int .i64 sq, .slice q l.length cap] 32
  obtain ⟨hb, hhb⟩ : ∃ b, w.heap.size = b := ⟨_, rfl⟩
  rw [hhb] at h1
  obtain ⟨x0, x1, x2, x3, x4, x5, x6, x7, x8, x9, x10, x11, y0, y1, y2, y3, y4, y5, y6, y7, y8, y9, y10, y11⟩ := raw12 (b := hb) (h1)
  have H := Lib.hid h1
  clear h h1 hk hfit
  unfold batErr at he
  simp only [List.length_map] at he
  by_cases p1 : BatS.placed ⟨base, leader, app, txn, ctl, last, first, maxt, prod, epoch, sq, l.map (·.1)⟩ = false
  · rw [if_pos p1] at he
    subst he
    by_cases g0 : 0 ≤ base
    case neg =>
      have d0 : decide (base < 0) = true := decide_eq_true (by omega)
      clear g0
      clear p1 hmx hll hb0
      go_enter Try.func32, Try.ntmps32
      go_wp2_with (first
    | (go_at_call 49; (with_reducible refine (ref11_int32s leader (-1) _ HW1.out H.out).mono ?_); rintro e_ wn ⟨rfl, h⟩; replace H := Lib.hid h; clear h; obtain ⟨x0, x1, x2, x3, x4, x5, x6, x7, x8, x9, x10, x11, y0, y1, y2, y3, y4, y5, y6, y7, y8, y9, y10, y11⟩ := raw12 (b := hb) (H.out))
    | (go_at_call 49; (with_reducible refine (ref11_int32s last 0 _ HW2.out H.out).mono ?_); rintro e_ wn ⟨rfl, h⟩; replace H := Lib.hid h; clear h; obtain ⟨x0, x1, x2, x3, x4, x5, x6, x7, x8, x9, x10, x11, y0, y1, y2, y3, y4, y5, y6, y7, y8, y9, y10, y11⟩ := raw12 (b := hb) (H.out)))
      go_ret
      exact ⟨rfl, H.out.drop⟩
    by_cases g1 : -1 ≤ leader ∧ leader ≤ 2147483647
    case neg =>
      have d0 : decide (base < 0) = false := decide_eq_false (by omega)
      have HW1 := Lib.hid (show decide (-1 ≤ leader ∧ leader ≤ 2147483647) = false from decide_eq_false g1)
      clear g0 g1
      clear p1 hmx hll hb0
      go_enter Try.func32, Try.ntmps32
      go_wp2_with (first
    | (go_at_call 49; (with_reducible refine (ref11_int32s leader (-1) _ HW1.out H.out).mono ?_); rintro e_ wn ⟨rfl, h⟩; replace H := Lib.hid h; clear h; obtain ⟨x0, x1, x2, x3, x4, x5, x6, x7, x8, x9, x10, x11, y0, y1, y2, y3, y4, y5, y6, y7, y8, y9, y10, y11⟩ := raw12 (b := hb) (H.out))
    | (go_at_call 49; (with_reducible refine (ref11_int32s last 0 _ HW2.out H.out).mono ?_); rintro e_ wn ⟨rfl, h⟩; replace H := Lib.hid h; clear h; obtain ⟨x0, x1, x2, x3, x4, x5, x6, x7, x8, x9, x10, x11, y0, y1, y2, y3, y4, y5, y6, y7, y8, y9, y10, y11⟩ := raw12 (b := hb) (H.out)))
      go_ret
      exact ⟨rfl, H.out.drop⟩
    by_cases g2 : 0 ≤ last ∧ last ≤ 2147483647
    case neg =>
      have d0 : decide (base < 0) = false := decide_eq_false (by omega)
      have HW1 := Lib.hid (show decide (-1 ≤ leader ∧ leader ≤ 2147483647) = true from decide_eq_true g1)
      have HW2 := Lib.hid (show decide (0 ≤ last ∧ last ≤ 2147483647) = false from decide_eq_false g2)
      clear g0 g1 g2
      clear p1 hmx hll hb0
      go_enter Try.func32, Try.ntmps32
      go_wp2_with (first
    | (go_at_call 49; (with_reducible refine (ref11_int32s leader (-1) _ HW1.out H.out).mono ?_); rintro e_ wn ⟨rfl, h⟩; replace H := Lib.hid h; clear h; obtain ⟨x0, x1, x2, x3, x4, x5, x6, x7, x8, x9, x10, x11, y0, y1, y2, y3, y4, y5, y6, y7, y8, y9, y10, y11⟩ := raw12 (b := hb) (H.out))
    | (go_at_call 49; (with_reducible refine (ref11_int32s last 0 _ HW2.out H.out).mono ?_); rintro e_ wn ⟨rfl, h⟩; replace H := Lib.hid h; clear h; obtain ⟨x0, x1, x2, x3, x4, x5, x6, x7, x8, x9, x10, x11, y0, y1, y2, y3, y4, y5, y6, y7, y8, y9, y10, y11⟩ := raw12 (b := hb) (H.out)))
      go_ret
      exact ⟨rfl, H.out.drop⟩
    by_cases g3 : base ≤ 9223372036854775807 - last
    case neg =>
      have d0 : decide (base < 0) = false := decide_eq_false (by omega)
      have HW1 := Lib.hid (show decide (-1 ≤ leader ∧ leader ≤ 2147483647) = true from decide_eq_true g1)
      have HW2 := Lib.hid (show decide (0 ≤ last ∧ last ≤ 2147483647) = true from decide_eq_true g2)
      obtain ⟨ml, hml⟩ : ∃ ml, 9223372036854775807 - base = ml := ⟨_, rfl⟩
      have wl : wrap64 (9223372036854775807 - base) = ml := by rw [← hml]; unfold wrap64; omega
      have wl2 : IntKind.i64.wrap (9223372036854775807 - base) = ml := by rw [← hml]; exact IntWalk.i64_in _ (by omega)
      have d3 : decide (ml < last) = true := by rw [← hml]; exact decide_eq_true (by omega)
      clear g0 g1 g2 g3 hml
      clear p1 hmx hll hb0
      go_enter Try.func32, Try.ntmps32
      go_wp2_with (first
    | (go_at_call 49; (with_reducible refine (ref11_int32s leader (-1) _ HW1.out H.out).mono ?_); rintro e_ wn ⟨rfl, h⟩; replace H := Lib.hid h; clear h; obtain ⟨x0, x1, x2, x3, x4, x5, x6, x7, x8, x9, x10, x11, y0, y1, y2, y3, y4, y5, y6, y7, y8, y9, y10, y11⟩ := raw12 (b := hb) (H.out))
    | (go_at_call 49; (with_reducible refine (ref11_int32s last 0 _ HW2.out H.out).mono ?_); rintro e_ wn ⟨rfl, h⟩; replace H := Lib.hid h; clear h; obtain ⟨x0, x1, x2, x3, x4, x5, x6, x7, x8, x9, x10, x11, y0, y1, y2, y3, y4, y5, y6, y7, y8, y9, y10, y11⟩ := raw12 (b := hb) (H.out)))
      go_ret
      exact ⟨rfl, H.out.drop⟩
    by_cases g4 : 0 ≤ first
    case neg =>
      have d0 : decide (base < 0) = false := decide_eq_false (by omega)
      have HW1 := Lib.hid (show decide (-1 ≤ leader ∧ leader ≤ 2147483647) = true from decide_eq_true g1)
      have HW2 := Lib.hid (show decide (0 ≤ last ∧ last ≤ 2147483647) = true from decide_eq_true g2)
      obtain ⟨ml, hml⟩ : ∃ ml, 9223372036854775807 - base = ml := ⟨_, rfl⟩
      have wl : wrap64 (9223372036854775807 - base) = ml := by rw [← hml]; unfold wrap64; omega
      have wl2 : IntKind.i64.wrap (9223372036854775807 - base) = ml := by rw [← hml]; exact IntWalk.i64_in _ (by omega)
      have d3 : decide (ml < last) = false := by rw [← hml]; exact decide_eq_false (by omega)
      have d4 : decide (first < 0) = true := decide_eq_true (by omega)
      clear g0 g1 g2 g3 g4 hml
      clear p1 hmx hll hb0
      go_enter Try.func32, Try.ntmps32
      go_wp2_with (first
    | (go_at_call 49; (with_reducible refine (ref11_int32s leader (-1) _ HW1.out H.out).mono ?_); rintro e_ wn ⟨rfl, h⟩; replace H := Lib.hid h; clear h; obtain ⟨x0, x1, x2, x3, x4, x5, x6, x7, x8, x9, x10, x11, y0, y1, y2, y3, y4, y5, y6, y7, y8, y9, y10, y11⟩ := raw12 (b := hb) (H.out))
    | (go_at_call 49; (with_reducible refine (ref11_int32s last 0 _ HW2.out H.out).mono ?_); rintro e_ wn ⟨rfl, h⟩; replace H := Lib.hid h; clear h; obtain ⟨x0, x1, x2, x3, x4, x5, x6, x7, x8, x9, x10, x11, y0, y1, y2, y3, y4, y5, y6, y7, y8, y9, y10, y11⟩ := raw12 (b := hb) (H.out)))
      go_ret
      exact ⟨rfl, H.out.drop⟩
    by_cases g5 : 0 ≤ maxt
    case neg =>
      have d0 : decide (base < 0) = false := decide_eq_false (by omega)
      have HW1 := Lib.hid (show decide (-1 ≤ leader ∧ leader ≤ 2147483647) = true from decide_eq_true g1)
      have HW2 := Lib.hid (show decide (0 ≤ last ∧ last ≤ 2147483647) = true from decide_eq_true g2)
      obtain ⟨ml, hml⟩ : ∃ ml, 9223372036854775807 - base = ml := ⟨_, rfl⟩
      have wl : wrap64 (9223372036854775807 - base) = ml := by rw [← hml]; unfold wrap64; omega
      have wl2 : IntKind.i64.wrap (9223372036854775807 - base) = ml := by rw [← hml]; exact IntWalk.i64_in _ (by omega)
      have d3 : decide (ml < last) = false := by rw [← hml]; exact decide_eq_false (by omega)
      have d4 : decide (first < 0) = false := decide_eq_false (by omega)
      have d5 : decide (maxt < 0) = true := decide_eq_true (by omega)
      clear g0 g1 g2 g3 g4 g5 hml
      clear p1 hmx hll hb0
      go_enter Try.func32, Try.ntmps32
      go_wp2_with (first
    | (go_at_call 49; (with_reducible refine (ref11_int32s leader (-1) _ HW1.out H.out).mono ?_); rintro e_ wn ⟨rfl, h⟩; replace H := Lib.hid h; clear h; obtain ⟨x0, x1, x2, x3, x4, x5, x6, x7, x8, x9, x10, x11, y0, y1, y2, y3, y4, y5, y6, y7, y8, y9, y10, y11⟩ := raw12 (b := hb) (H.out))
    | (go_at_call 49; (with_reducible refine (ref11_int32s last 0 _ HW2.out H.out).mono ?_); rintro e_ wn ⟨rfl, h⟩; replace H := Lib.hid h; clear h; obtain ⟨x0, x1, x2, x3, x4, x5, x6, x7, x8, x9, x10, x11, y0, y1, y2, y3, y4, y5, y6, y7, y8, y9, y10, y11⟩ := raw12 (b := hb) (H.out)))
      go_ret
      exact ⟨rfl, H.out.drop⟩
    exact absurd (show BatS.placed ⟨base, leader, app, txn, ctl, last, first, maxt, prod, epoch, sq, l.map (·.1)⟩ = true from decide_eq_true ⟨g0, g1, g2, g3, g4, g5⟩) (by rw [p1]; decide)
  rw [if_neg p1] at he
  have p2 : BatS.placed ⟨base, leader, app, txn, ctl, last, first, maxt, prod, epoch, sq, l.map (·.1)⟩ = true := by cases hh : BatS.placed ⟨base, leader, app, txn, ctl, last, first, maxt, prod, epoch, sq, l.map (·.1)⟩ with
    | false => exact absurd hh p1
    | true => rfl
  obtain ⟨g0, g1, g2, g3, g4, g5⟩ := of_decide_eq_true (show decide (0 ≤ base ∧ (-1 ≤ leader ∧ leader ≤ 2147483647) ∧ (0 ≤ last ∧ last ≤ 2147483647) ∧ base ≤ 9223372036854775807 - last ∧ 0 ≤ first ∧ 0 ≤ maxt) = true from p2)
  have HFP := Lib.hid (show 0 ≤ first ∧ first ≤ 9223372036854775807 from ⟨g4, hmx⟩)
  have d0 : decide (base < 0) = false := decide_eq_false (by omega)
  have HW1 := Lib.hid (show decide (-1 ≤ leader ∧ leader ≤ 2147483647) = true from decide_eq_true g1)
  have HW2 := Lib.hid (show decide (0 ≤ last ∧ last ≤ 2147483647) = true from decide_eq_true g2)
  obtain ⟨ml, hml⟩ : ∃ ml, 9223372036854775807 - base = ml := ⟨_, rfl⟩
  have wl : wrap64 (9223372036854775807 - base) = ml := by rw [← hml]; unfold wrap64; omega
  have wl2 : IntKind.i64.wrap (9223372036854775807 - base) = ml := by rw [← hml]; exact IntWalk.i64_in _ (by omega)
  have d3 : decide (ml < last) = false := by rw [← hml]; exact decide_eq_false (by omega)
  have d4 : decide (first < 0) = false := decide_eq_false (by omega)
  have d5 : decide (maxt < 0) = false := decide_eq_false (by omega)
  clear g0 g1 g2 g3 g4 g5 hml
  clear p1 p2 hmx hb0
  by_cases c1 : ctl = true ∧ txn = false
  · rw [if_pos c1] at he
    subst he
    obtain ⟨rfl, rfl⟩ := c1
    clear hll
    go_enter Try.func32, Try.ntmps32
    go_wp2_with (first
    | (go_at_call 49; (with_reducible refine (ref11_int32s leader (-1) _ HW1.out H.out).mono ?_); rintro e_ wn ⟨rfl, h⟩; replace H := Lib.hid h; clear h; obtain ⟨x0, x1, x2, x3, x4, x5, x6, x7, x8, x9, x10, x11, y0, y1, y2, y3, y4, y5, y6, y7, y8, y9, y10, y11⟩ := raw12 (b := hb) (H.out))
    | (go_at_call 49; (with_reducible refine (ref11_int32s last 0 _ HW2.out H.out).mono ?_); rintro e_ wn ⟨rfl, h⟩; replace H := Lib.hid h; clear h; obtain ⟨x0, x1, x2, x3, x4, x5, x6, x7, x8, x9, x10, x11, y0, y1, y2, y3, y4, y5, y6, y7, y8, y9, y10, y11⟩ := raw12 (b := hb) (H.out)))
    go_ret
    exact ⟨rfl, H.out.drop⟩
  rw [if_neg c1] at he
  by_cases s1 : BatS.signed ⟨base, leader, app, txn, ctl, last, first, maxt, prod, epoch, sq, l.map (·.1)⟩ = false
  · rw [if_pos s1] at he
    subst he
    have HS := Lib.hid (show (if prod = -1 then decide (epoch = -1 ∧ sq = -1 ∧ txn = false) else if prod < 0 ∨ ¬ (0 ≤ epoch ∧ epoch ≤ 32767) then false else if ctl then decide (sq = -1) else decide (0 ≤ sq ∧ sq ≤ 2147483647)) = false from s1)
    clear s1 hll
    cases ctl with
    | false =>
      go_enter Try.func32, Try.ntmps32
      go_wp2_with (first
    | (go_at_call 49; (with_reducible refine (ref11_int32s leader (-1) _ HW1.out H.out).mono ?_); rintro e_ wn ⟨rfl, h⟩; replace H := Lib.hid h; clear h; obtain ⟨x0, x1, x2, x3, x4, x5, x6, x7, x8, x9, x10, x11, y0, y1, y2, y3, y4, y5, y6, y7, y8, y9, y10, y11⟩ := raw12 (b := hb) (H.out))
    | (go_at_call 49; (with_reducible refine (ref11_int32s last 0 _ HW2.out H.out).mono ?_); rintro e_ wn ⟨rfl, h⟩; replace H := Lib.hid h; clear h; obtain ⟨x0, x1, x2, x3, x4, x5, x6, x7, x8, x9, x10, x11, y0, y1, y2, y3, y4, y5, y6, y7, y8, y9, y10, y11⟩ := raw12 (b := hb) (H.out))
    | (go_at_call 50; (with_reducible refine (ref11_producer _ _ _ _ _ _ _ _ _ _ _ _ _ HS.out H.out).mono ?_); rintro e_ wn ⟨rfl, h⟩; replace H := Lib.hid h; clear h; obtain ⟨x0, x1, x2, x3, x4, x5, x6, x7, x8, x9, x10, x11, y0, y1, y2, y3, y4, y5, y6, y7, y8, y9, y10, y11⟩ := raw12 (b := hb) (H.out)))
      go_ret
      exact ⟨rfl, H.out.drop⟩
    | true =>
      cases txn with
      | false => exact absurd ⟨rfl, rfl⟩ c1
      | true =>
        clear c1
        go_enter Try.func32, Try.ntmps32
        go_wp2_with (first
    | (go_at_call 49; (with_reducible refine (ref11_int32s leader (-1) _ HW1.out H.out).mono ?_); rintro e_ wn ⟨rfl, h⟩; replace H := Lib.hid h; clear h; obtain ⟨x0, x1, x2, x3, x4, x5, x6, x7, x8, x9, x10, x11, y0, y1, y2, y3, y4, y5, y6, y7, y8, y9, y10, y11⟩ := raw12 (b := hb) (H.out))
    | (go_at_call 49; (with_reducible refine (ref11_int32s last 0 _ HW2.out H.out).mono ?_); rintro e_ wn ⟨rfl, h⟩; replace H := Lib.hid h; clear h; obtain ⟨x0, x1, x2, x3, x4, x5, x6, x7, x8, x9, x10, x11, y0, y1, y2, y3, y4, y5, y6, y7, y8, y9, y10, y11⟩ := raw12 (b := hb) (H.out))
    | (go_at_call 50; (with_reducible refine (ref11_producer _ _ _ _ _ _ _ _ _ _ _ _ _ HS.out H.out).mono ?_); rintro e_ wn ⟨rfl, h⟩; replace H := Lib.hid h; clear h; obtain ⟨x0, x1, x2, x3, x4, x5, x6, x7, x8, x9, x10, x11, y0, y1, y2, y3, y4, y5, y6, y7, y8, y9, y10, y11⟩ := raw12 (b := hb) (H.out)))
        go_ret
        exact ⟨rfl, H.out.drop⟩
  rw [if_neg s1] at he
  have s2 : BatS.signed ⟨base, leader, app, txn, ctl, last, first, maxt, prod, epoch, sq, l.map (·.1)⟩ = true := by cases hh : BatS.signed ⟨base, leader, app, txn, ctl, last, first, maxt, prod, epoch, sq, l.map (·.1)⟩ with
    | false => exact absurd hh s1
    | true => rfl
  have HS := Lib.hid (show (if prod = -1 then decide (epoch = -1 ∧ sq = -1 ∧ txn = false) else if prod < 0 ∨ ¬ (0 ≤ epoch ∧ epoch ≤ 32767) then false else if ctl then decide (sq = -1) else decide (0 ≤ sq ∧ sq ≤ 2147483647)) = true from s2)
  clear s1 s2
  cases ctl with
  | false =>
    rw [if_neg (fun h => by cases h.1)] at he
    obtain ⟨tot, htot⟩ : ∃ t, recsC (l.map (·.1)) = t := ⟨_, rfl⟩
    rw [htot] at he
    have HTE := Lib.hid (show tot ≠ 0 → tot = e from fun h => by rw [if_pos h] at he; exact he)
    have HTZ := Lib.hid (show tot = 0 → BatS.rows ⟨base, leader, app, txn, false, last, first, maxt, prod, epoch, sq, l.map (·.1)⟩ = e from fun h => by rw [if_neg (fun x => x h), if_neg (fun h => by cases h.1)] at he; exact he)
    have HT := Lib.hid htot
    clear he htot c1
    go_enter Try.func32, Try.ntmps32
    go_wp2_with (first
        | (go_at_call 49; (with_reducible refine (ref11_int32s leader (-1) _ HW1.out H.out).mono ?_); rintro e_ wn ⟨rfl, h⟩; replace H := Lib.hid h; clear h; obtain ⟨x0, x1, x2, x3, x4, x5, x6, x7, x8, x9, x10, x11, y0, y1, y2, y3, y4, y5, y6, y7, y8, y9, y10, y11⟩ := raw12 (b := hb) (H.out))
        | (go_at_call 49; (with_reducible refine (ref11_int32s last 0 _ HW2.out H.out).mono ?_); rintro e_ wn ⟨rfl, h⟩; replace H := Lib.hid h; clear h; obtain ⟨x0, x1, x2, x3, x4, x5, x6, x7, x8, x9, x10, x11, y0, y1, y2, y3, y4, y5, y6, y7, y8, y9, y10, y11⟩ := raw12 (b := hb) (H.out))
        | (go_at_call 50; (with_reducible refine (ref11_producer _ _ _ _ _ _ _ _ _ _ _ _ _ HS.out H.out).mono ?_); rintro e_ wn ⟨rfl, h⟩; replace H := Lib.hid h; clear h; obtain ⟨x0, x1, x2, x3, x4, x5, x6, x7, x8, x9, x10, x11, y0, y1, y2, y3, y4, y5, y6, y7, y8, y9, y10, y11⟩ := raw12 (b := hb) (H.out)))
    go_loopw [3, 4] (fun iv _ wr => ∃ k : Nat, k ≤ l.length ∧ iv = .int .i64 k ∧ Hid (recsC ((l.map (·.1)).drop k) = tot) ∧ St W0 wr K (.raw hb #[.int .i64 base, .int .i64 leader, .bool app, .bool txn, .bool false, .int .i64 last, .int .i64 first, .int .i64 maxt, .int .i64 prod, .int .i64 epoch, .int .i64 sq, .slice q l.length cap] 32 :: L)) (fun iv _ _ => l.length - (intOf iv).toNat)
    case atStart => exact ⟨0, Nat.zero_le _, rfl, HT, H.out⟩
    case round =>
      clear x0 y0 x1 y1 x2 y2 x3 y3 x4 y4 x5 y5 x6 y6 x7 y7 x8 y8 x9 y9 x10 y10 x11 y11
      obtain ⟨k, hkl, rfl, HC, hst⟩ := hrel
      clear H
      have H := Lib.hid hst
      clear hst
      obtain ⟨x0, x1, x2, x3, x4, x5, x6, x7, x8, x9, x10, x11, y0, y1, y2, y3, y4, y5, y6, y7, y8, y9, y10, y11⟩ := raw12 (b := hb) (H.out)
      by_cases hlt : k < l.length
      · have hd := drop_recs l k hlt _ rfl
        obtain ⟨b, off, hqq⟩ := recs_at HK.out H.out (by omega)
        subst hqq
        obtain ⟨⟨x, vx⟩, hx⟩ : ∃ x, l[k] = x := ⟨_, rfl⟩
        have cc := recs_cell HK.out H.out k hlt (x, vx) hx
        have hmem : (x, vx) ∈ l := hx ▸ List.getElem_mem hlt
        have xf : x.R ∧ HFit x.hdrs ∧ x.sum ≤ 1000000 := HFT.out (x, vx) hmem
        have xk : K.has (Know.flat RHdr vx 3 x.hdrs) := recs_hdrs HK.out hmem
        obtain ⟨qx, capx, hvx⟩ := flat_form xk H.out
        subst hvx
        simp only at cc
        obtain ⟨c0, c1, c2, c3, c4, c5, c6⟩ := cc
        rw [← Nat.add_assoc] at c1 c2 c3 c4 c5 c6
        have hx1 : l[k].1 = x := by rw [hx]
        have XF := Lib.hid xf
        have XK := Lib.hid xk
        have HX := Lib.hid hx1
        clear xf xk hx1 hx hmem
        have hki : (k : Int) < (l.length : Int) := by omega
        rw [HX.out] at hd
        have hc := HC.out
        rw [hd] at hc
        have hc : (if recOk x = 0 then recsC ((l.map (·.1)).drop (k + 1)) else recOk x) = tot := hc
        have XL := Lib.hid (show x.hdrs.length ≤ 9223372036854775807 by have := sum_hdrs XF.out.2.2; omega)
        clear hd
        by_cases c1 : recOk x = 0
        · rw [if_pos c1] at hc
          have HC2 := Lib.hid hc
          have ER := Lib.hid c1
          clear hc c1
          go_wp2_with (go_at_call 51; (with_reducible refine (ref07_right x (.slice qx x.hdrs.length capx) _ ER.out XL.out XK.out H.out).mono ?_); rintro e_ wn ⟨rfl, h⟩; replace H := Lib.hid h; clear h; obtain ⟨x0, x1, x2, x3, x4, x5, x6, x7, x8, x9, x10, x11, y0, y1, y2, y3, y4, y5, y6, y7, y8, y9, y10, y11⟩ := raw12 (b := hb) (H.out))
          go_roundw
          case rel => exact ⟨k + 1, hlt, by go_num, HC2.out, H.out⟩
          case measure => first | (simp [intOf]; done) | (simp [intOf]; omega)
        · rw [if_neg c1] at hc
          have ER := Lib.hid hc
          have gz : (tot == 0) = false := by rw [beq_eq_false_iff_ne, ← hc]; exact c1
          obtain rfl : tot = e := HTE.out (by rw [← hc]; exact c1)
          clear hc c1
          go_wp2_with (go_at_call 51; (with_reducible refine (ref07_right x (.slice qx x.hdrs.length capx) _ ER.out XL.out XK.out H.out).mono ?_); rintro e_ wn ⟨rfl, h⟩; replace H := Lib.hid h; clear h; obtain ⟨x0, x1, x2, x3, x4, x5, x6, x7, x8, x9, x10, x11, y0, y1, y2, y3, y4, y5, y6, y7, y8, y9, y10, y11⟩ := raw12 (b := hb) (H.out))
          go_ret
          exact ⟨rfl, H.out.drop⟩
      · obtain rfl : l.length = k := by omega
        have hc := HC.out
        rw [List.drop_of_length_le (by simp)] at hc
        obtain rfl : 0 = tot := hc
        have HROW := Lib.hid (HTZ.out rfl)
        go_wp2_with (go_at_call 52; (with_reducible refine (ref11_orders _ _ _ _ _ _ _ _ _ _ _ l _ _ _ HROW.out HFP.out HFT.out HLL.out HK.out H.out).mono ?_); rintro e_ wn ⟨rfl, h⟩; replace H := Lib.hid h; clear h)
        go_ret
        exact ⟨rfl, H.out.drop⟩

  | true =>
    cases txn with
    | false => exact absurd ⟨rfl, rfl⟩ c1
    | true =>
      clear c1
      by_cases c2 : l.length = 1
      · rw [if_neg (fun h => h.2 c2)] at he
        have HLEN := Lib.hid c2
        have bl : ((l.length : Int) == 1) = true := by rw [c2]; rfl
        have bl2 : ((l.length : Int) != 1) = false := by rw [c2]; rfl
        obtain ⟨tot, htot⟩ : ∃ t, recsC (l.map (·.1)) = t := ⟨_, rfl⟩
        rw [htot] at he
        have HTE := Lib.hid (show tot ≠ 0 → tot = e from fun h => by rw [if_pos h] at he; exact he)
        have HEN := Lib.hid (show ∀ (x : RecS) (h0 : 0 < l.length), (l[0]'h0).1 = x → ((ctlOf x).2.2 ≠ 0 → tot = 0 → (ctlOf x).2.2 = e) ∧ ((ctlOf x).2.2 = 0 → tot = 0 → BatS.rows ⟨base, leader, app, true, true, last, first, maxt, prod, epoch, sq, l.map (·.1)⟩ = e) from fun x h0 hx => by
          have hm : l.map (·.1) = x :: (l.map (·.1)).drop 1 := by have := drop_recs l 0 (by omega) x hx; simpa using this
          have hens : BatS.ends ⟨base, leader, app, true, true, last, first, maxt, prod, epoch, sq, l.map (·.1)⟩ = (ctlOf x).2.2 := by unfold BatS.ends; simp only; rw [hm]
          rw [hens] at he
          refine ⟨fun h h2 => ?_, fun h h2 => ?_⟩
          · rw [if_neg (fun y => y h2), if_pos ⟨rfl, h⟩] at he; exact he
          · rw [if_neg (fun y => y h2), if_neg (fun y => y.2 h)] at he; exact he)
        have HT := Lib.hid htot
        clear he htot c2
        go_enter Try.func32, Try.ntmps32
        go_wp2_with (first
            | (go_at_call 49; (with_reducible refine (ref11_int32s leader (-1) _ HW1.out H.out).mono ?_); rintro e_ wn ⟨rfl, h⟩; replace H := Lib.hid h; clear h; obtain ⟨x0, x1, x2, x3, x4, x5, x6, x7, x8, x9, x10, x11, y0, y1, y2, y3, y4, y5, y6, y7, y8, y9, y10, y11⟩ := raw12 (b := hb) (H.out))
            | (go_at_call 49; (with_reducible refine (ref11_int32s last 0 _ HW2.out H.out).mono ?_); rintro e_ wn ⟨rfl, h⟩; replace H := Lib.hid h; clear h; obtain ⟨x0, x1, x2, x3, x4, x5, x6, x7, x8, x9, x10, x11, y0, y1, y2, y3, y4, y5, y6, y7, y8, y9, y10, y11⟩ := raw12 (b := hb) (H.out))
            | (go_at_call 50; (with_reducible refine (ref11_producer _ _ _ _ _ _ _ _ _ _ _ _ _ HS.out H.out).mono ?_); rintro e_ wn ⟨rfl, h⟩; replace H := Lib.hid h; clear h; obtain ⟨x0, x1, x2, x3, x4, x5, x6, x7, x8, x9, x10, x11, y0, y1, y2, y3, y4, y5, y6, y7, y8, y9, y10, y11⟩ := raw12 (b := hb) (H.out)))
        go_loopw [3, 4] (fun iv _ wr => ∃ k : Nat, k ≤ l.length ∧ iv = .int .i64 k ∧ Hid (recsC ((l.map (·.1)).drop k) = tot) ∧ St W0 wr K (.raw hb #[.int .i64 base, .int .i64 leader, .bool app, .bool true, .bool true, .int .i64 last, .int .i64 first, .int .i64 maxt, .int .i64 prod, .int .i64 epoch, .int .i64 sq, .slice q l.length cap] 32 :: L)) (fun iv _ _ => l.length - (intOf iv).toNat)
        case atStart => exact ⟨0, Nat.zero_le _, rfl, HT, H.out⟩
        case round =>
          clear x0 y0 x1 y1 x2 y2 x3 y3 x4 y4 x5 y5 x6 y6 x7 y7 x8 y8 x9 y9 x10 y10 x11 y11
          obtain ⟨k, hkl, rfl, HC, hst⟩ := hrel
          clear H
          have H := Lib.hid hst
          clear hst
          obtain ⟨x0, x1, x2, x3, x4, x5, x6, x7, x8, x9, x10, x11, y0, y1, y2, y3, y4, y5, y6, y7, y8, y9, y10, y11⟩ := raw12 (b := hb) (H.out)
          by_cases hlt : k < l.length
          · have hd := drop_recs l k hlt _ rfl
            obtain ⟨b, off, hqq⟩ := recs_at HK.out H.out (by omega)
            subst hqq
            obtain ⟨⟨x, vx⟩, hx⟩ : ∃ x, l[k] = x := ⟨_, rfl⟩
            have cc := recs_cell HK.out H.out k hlt (x, vx) hx
            have hmem : (x, vx) ∈ l := hx ▸ List.getElem_mem hlt
            have xf : x.R ∧ HFit x.hdrs ∧ x.sum ≤ 1000000 := HFT.out (x, vx) hmem
            have xk : K.has (Know.flat RHdr vx 3 x.hdrs) := recs_hdrs HK.out hmem
            obtain ⟨qx, capx, hvx⟩ := flat_form xk H.out
            subst hvx
            simp only at cc
            obtain ⟨c0, c1, c2, c3, c4, c5, c6⟩ := cc
            rw [← Nat.add_assoc] at c1 c2 c3 c4 c5 c6
            have hx1 : l[k].1 = x := by rw [hx]
            have XF := Lib.hid xf
            have XK := Lib.hid xk
            have HX := Lib.hid hx1
            clear xf xk hx1 hx hmem
            have hki : (k : Int) < (l.length : Int) := by omega
            rw [HX.out] at hd
            have hc := HC.out
            rw [hd] at hc
            have hc : (if recOk x = 0 then recsC ((l.map (·.1)).drop (k + 1)) else recOk x) = tot := hc
            have XL := Lib.hid (show x.hdrs.length ≤ 9223372036854775807 by have := sum_hdrs XF.out.2.2; omega)
            clear hd
            by_cases c1 : recOk x = 0
            · rw [if_pos c1] at hc
              have HC2 := Lib.hid hc
              have ER := Lib.hid c1
              clear hc c1
              go_wp2_with (go_at_call 51; (with_reducible refine (ref07_right x (.slice qx x.hdrs.length capx) _ ER.out XL.out XK.out H.out).mono ?_); rintro e_ wn ⟨rfl, h⟩; replace H := Lib.hid h; clear h; obtain ⟨x0, x1, x2, x3, x4, x5, x6, x7, x8, x9, x10, x11, y0, y1, y2, y3, y4, y5, y6, y7, y8, y9, y10, y11⟩ := raw12 (b := hb) (H.out))
              go_roundw
              case rel => exact ⟨k + 1, hlt, by go_num, HC2.out, H.out⟩
              case measure => first | (simp [intOf]; done) | (simp [intOf]; omega)
            · rw [if_neg c1] at hc
              have ER := Lib.hid hc
              have gz : (tot == 0) = false := by rw [beq_eq_false_iff_ne, ← hc]; exact c1
              obtain rfl : tot = e := HTE.out (by rw [← hc]; exact c1)
              clear hc c1
              go_wp2_with (go_at_call 51; (with_reducible refine (ref07_right x (.slice qx x.hdrs.length capx) _ ER.out XL.out XK.out H.out).mono ?_); rintro e_ wn ⟨rfl, h⟩; replace H := Lib.hid h; clear h; obtain ⟨x0, x1, x2, x3, x4, x5, x6, x7, x8, x9, x10, x11, y0, y1, y2, y3, y4, y5, y6, y7, y8, y9, y10, y11⟩ := raw12 (b := hb) (H.out))
              go_ret
              exact ⟨rfl, H.out.drop⟩
          · obtain rfl : l.length = k := by omega
            have hc := HC.out
            rw [List.drop_of_length_le (by simp)] at hc
            obtain rfl : 0 = tot := hc
            obtain ⟨b, off, hqq⟩ := recs_at HK.out H.out (by rw [HLEN.out]; decide)
            subst hqq
            obtain ⟨⟨x, vx⟩, hx⟩ : ∃ x, l[0]'(by rw [HLEN.out]; decide) = x := ⟨_, rfl⟩
            have cc := recs_cell HK.out H.out 0 (by rw [HLEN.out]; decide) (x, vx) hx
            have hmem : (x, vx) ∈ l := hx ▸ List.getElem_mem _
            have xf : x.R ∧ HFit x.hdrs ∧ x.sum ≤ 1000000 := HFT.out (x, vx) hmem
            have xk : K.has (Know.flat RHdr vx 3 x.hdrs) := recs_hdrs HK.out hmem
            obtain ⟨qx, capx, hvx⟩ := flat_form xk H.out
            subst hvx
            simp only [Nat.zero_mul, Nat.zero_add, Nat.add_zero] at cc
            obtain ⟨c0, c1, c2, c3, c4, c5, c6⟩ := cc
            have XD := Lib.hid (sum_data xf.2.2)
            have hl0 : (0 : Int) < (l.length : Int) := by have := HLEN.out; omega
            obtain ⟨⟨i1, i2, i3⟩, hi⟩ : ∃ r, ctlOf x = r := ⟨_, rfl⟩
            have EC := Lib.hid (show ctlRead x.key.null x.val.null x.key.data x.val.data x.hdrs.length x.off = (i1, i2, i3) from hi)
            have hen := HEN.out x (by rw [HLEN.out]; decide) (by rw [hx])
            rw [hi] at hen
            clear hx hmem xf xk hi
            by_cases c9 : i3 = 0
            · subst c9
              have HROW := Lib.hid (hen.2 rfl rfl)
              clear hen
              go_wp2_with (first
            | (go_at_call 40; (with_reducible refine (ref08_read x.time x.off x.key.null x.val.null x.key.data x.val.data qx x.hdrs.length capx (i1, i2, _) EC.out XD.out.1 XD.out.2 H.out).mono ?_); rintro e_ wn ⟨rfl, h⟩; replace H := Lib.hid h; clear h; obtain ⟨x0, x1, x2, x3, x4, x5, x6, x7, x8, x9, x10, x11, y0, y1, y2, y3, y4, y5, y6, y7, y8, y9, y10, y11⟩ := raw12 (b := hb) (H.out))
            | (go_at_call 52; (with_reducible refine (ref11_orders _ _ _ _ _ _ _ _ _ _ _ l _ _ _ HROW.out HFP.out HFT.out HLL.out HK.out H.out).mono ?_); rintro e_ wn ⟨rfl, h⟩; replace H := Lib.hid h; clear h))
              go_ret
              exact ⟨rfl, H.out.drop⟩
            · have gz : (i3 == 0) = false := by rw [beq_eq_false_iff_ne]; exact c9
              obtain rfl : i3 = e := hen.1 c9 rfl
              clear hen c9
              go_wp2_with (go_at_call 40; (with_reducible refine (ref08_read x.time x.off x.key.null x.val.null x.key.data x.val.data qx x.hdrs.length capx (i1, i2, _) EC.out XD.out.1 XD.out.2 H.out).mono ?_); rintro e_ wn ⟨rfl, h⟩; replace H := Lib.hid h; clear h; obtain ⟨x0, x1, x2, x3, x4, x5, x6, x7, x8, x9, x10, x11, y0, y1, y2, y3, y4, y5, y6, y7, y8, y9, y10, y11⟩ := raw12 (b := hb) (H.out))
              go_ret
              exact ⟨rfl, H.out.drop⟩

      · rw [if_pos ⟨rfl, c2⟩] at he
        subst he
        have bl : ((l.length : Int) == 1) = false := by rw [beq_eq_false_iff_ne]; omega
        clear c2 hll
        go_enter Try.func32, Try.ntmps32
        go_wp2_with (first
    | (go_at_call 49; (with_reducible refine (ref11_int32s leader (-1) _ HW1.out H.out).mono ?_); rintro e_ wn ⟨rfl, h⟩; replace H := Lib.hid h; clear h; obtain ⟨x0, x1, x2, x3, x4, x5, x6, x7, x8, x9, x10, x11, y0, y1, y2, y3, y4, y5, y6, y7, y8, y9, y10, y11⟩ := raw12 (b := hb) (H.out))
    | (go_at_call 49; (with_reducible refine (ref11_int32s last 0 _ HW2.out H.out).mono ?_); rintro e_ wn ⟨rfl, h⟩; replace H := Lib.hid h; clear h; obtain ⟨x0, x1, x2, x3, x4, x5, x6, x7, x8, x9, x10, x11, y0, y1, y2, y3, y4, y5, y6, y7, y8, y9, y10, y11⟩ := raw12 (b := hb) (H.out))
    | (go_at_call 50; (with_reducible refine (ref11_producer _ _ _ _ _ _ _ _ _ _ _ _ _ HS.out H.out).mono ?_); rintro e_ wn ⟨rfl, h⟩; replace H := Lib.hid h; clear h; obtain ⟨x0, x1, x2, x3, x4, x5, x6, x7, x8, x9, x10, x11, y0, y1, y2, y3, y4, y5, y6, y7, y8, y9, y10, y11⟩ := raw12 (b := hb) (H.out)))
        go_ret
        exact ⟨rfl, H.out.drop⟩

end Go.Proofs.Ytcjgdlfcfcabiaa

/- Batches: which are small. -/
namespace Go.Proofs.Ytcjgdlfcfcabiaa
open Go.RowKit

set_option maxHeartbeats 1000000 in
set_option maxRecDepth 100000 in
theorem l11_small (base leader : Int) (app txn ctl : Bool) (last first maxt prod epoch sq : Int) (l : List (RecS × Value)) (q : Option Addr) (cap : Nat) (r : Bool) (hr : smallB (l.map (·.1)) = r) (hfit : FitW l) {W0 w : World} {K : Know} {L : List Res} (hk : K.has (Know.recs (.slice q l.length cap) l)) (h : St W0 w K L) :
    Calls Try.prog 31 #[.agg #[.int .i64 base, .int .i64 leader, .bool app, .bool txn, .bool ctl, .int .i64 last, .int .i64 first, .int .i64 maxt, .int .i64 prod, .int .i64 epoch, .int .i64 sq, .slice q l.length cap]] w fun en w' => en = .returned (.int .i64 (if r then 1 else 0)) ∧ St W0 w' K L := by
  have HK := Lib.hid hk
  have HFT := Lib.hid hfit
  have h1 := h.allocRaw #[.int .i64 base, .int .i64 leader, .bool app, .bool txn, .bool ctl, .int .i64 last, .int .i64 first, .int .i64 maxt, .int .i64 prod, .int .i64 epoch, .int .i64 sq, .slice q l.length cap] 32
  obtain ⟨hb, hhb⟩ : ∃ b, w.heap.size = b := ⟨_, rfl⟩
  rw [hhb] at h1
  obtain ⟨x0, x1, x2, x3, x4, x5, x6, x7, x8, x9, x10, x11, y0, y1, y2, y3, y4, y5, y6, y7, y8, y9, y10, y11⟩ := raw12 (b := hb) (h1)
  have H := Lib.hid h1
  clear h h1 hk hfit
  unfold smallB at hr
  rw [List.length_map] at hr
  by_cases hl : 12 < l.length
  · have dl : decide ((12 : Int) < (l.length : Int)) = true := decide_eq_true (by omega)
    obtain rfl : false = r := by rw [← hr, decide_eq_false (by omega)]; rfl
    clear hr hl
    go_enter Try.func31, Try.ntmps31
    go_wp2
    go_ret
    exact ⟨rfl, H.out.drop⟩
  have dl : decide ((12 : Int) < (l.length : Int)) = false := decide_eq_false (by omega)
  have hll : (l.length : Int) ≤ 12 := by omega
  rw [decide_eq_true (by omega), Bool.true_and] at hr
  have HR := Lib.hid hr
  clear hr hl
  go_enter Try.func31, Try.ntmps31
  go_wp2
  clear x0 y0 x1 y1 x2 y2 x3 y3 x4 y4 x5 y5 x6 y6 x7 y7 x8 y8 x9 y9 x10 y10 x11 y11
  go_loopw [4, 6, 14] (fun _ _ iv wr => ∃ k : Nat, k ≤ l.length ∧ iv = .int .i64 k ∧ Hid (rAll ((l.map (·.1)).drop k) = r) ∧ St W0 wr K (.raw hb #[.int .i64 base, .int .i64 leader, .bool app, .bool txn, .bool ctl, .int .i64 last, .int .i64 first, .int .i64 maxt, .int .i64 prod, .int .i64 epoch, .int .i64 sq, .slice q l.length cap] 32 :: L)) (fun _ _ iv _ => l.length - (intOf iv).toNat)
  case atStart => exact ⟨0, Nat.zero_le _, rfl, HR, H.out⟩
  case round =>
    obtain ⟨k, hkl, rfl, HC, hst⟩ := hrel
    clear H
    have H := Lib.hid hst
    clear hst
    by_cases hlt : k < l.length
    · have hd := drop_recs l k hlt _ rfl
      obtain ⟨b, off, hqq⟩ := recs_at HK.out H.out (by omega)
      subst hqq
      obtain ⟨⟨x, vx⟩, hx⟩ : ∃ x, l[k] = x := ⟨_, rfl⟩
      have cc := recs_cell HK.out H.out k hlt (x, vx) hx
      have hmem : (x, vx) ∈ l := hx ▸ List.getElem_mem hlt
      have xf : x.R ∧ x.hdrs.length ≤ 9223372036854775807 ∧ HFit x.hdrs ∧ x.key.data.length ≤ 140737488351232 ∧ x.val.data.length ≤ 140737488351232 := HFT.out (x, vx) hmem
      have xk : K.has (Know.flat RHdr vx 3 x.hdrs) := recs_hdrs HK.out hmem
      obtain ⟨qx, capx, hvx⟩ := flat_form xk H.out
      subst hvx
      simp only at cc
      obtain ⟨c0, c1, c2, c3, c4, c5, c6⟩ := cc
      rw [← Nat.add_assoc] at c1 c2 c3 c4 c5 c6
      have hx1 : l[k].1 = x := by rw [hx]
      have XF := Lib.hid xf
      have XK := Lib.hid xk
      have HX := Lib.hid hx1
      clear xf xk hx1 hx hmem
      obtain ⟨wE, hwE⟩ : ∃ b, wr.heap.size = b := ⟨_, rfl⟩
      have hki : (k : Int) < (l.length : Int) := by omega
      have h := H.out.allocRaw #[.int .i64 x.time, .int .i64 x.off, .bool x.key.null, .string (bb x.key.data), .bool x.val.null, .string (bb x.val.data), .slice qx x.hdrs.length capx] 64
      rw [hwE] at h
      clear H
      have H := Lib.hid h
      clear h
      rw [HX.out] at hd
      have hc := HC.out
      rw [hd] at hc
      have hc : (smallRec x && rAll ((l.map (·.1)).drop (k + 1))) = r := hc
      unfold smallRec at hc
      obtain ⟨ec0, ec1, ec2, ec3, ec4, ec5, ec6, ef0, ef1, ef2, ef3, ef4, ef5, ef6⟩ := raw7 (b := wE) (H.out)
      have xf2 := XF.out
      obtain ⟨_, hxl, _, hkl2, hvl2⟩ := xf2
      have ws : wrap64 ((x.key.data.length : Int) + (x.val.data.length : Int)) = (x.key.data.length : Int) + (x.val.data.length : Int) := by unfold wrap64; omega
      clear hd hxl hkl2 hvl2
      by_cases c1 : 100 < x.key.data.length + x.val.data.length
      · have d1 : decide ((100 : Int) < (x.key.data.length : Int) + (x.val.data.length : Int)) = true := decide_eq_true (by omega)
        have hfin : false = r := by rw [← hc, decide_eq_false (by omega)]; rfl
        clear hc c1
        obtain rfl : false = r := hfin
        go_wp2
        go_ret
        exact ⟨rfl, H.out.drop.drop⟩
      have d1 : decide ((100 : Int) < (x.key.data.length : Int) + (x.val.data.length : Int)) = false := decide_eq_false (by omega)
      rw [decide_eq_true (by omega), Bool.true_and] at hc
      by_cases c2 : 6 < x.hdrs.length
      · have d2 : decide ((6 : Int) < (x.hdrs.length : Int)) = true := decide_eq_true (by omega)
        have hfin : false = r := by rw [← hc, decide_eq_false (by omega)]; rfl
        clear hc c1 c2
        obtain rfl : false = r := hfin
        go_wp2
        go_ret
        exact ⟨rfl, H.out.drop.drop⟩
      have d2 : decide ((6 : Int) < (x.hdrs.length : Int)) = false := decide_eq_false (by omega)
      rw [decide_eq_true (by omega), Bool.true_and] at hc
      have hh6 : (x.hdrs.length : Int) ≤ 6 := by omega
      have HC1 := Lib.hid hc
      clear hc c1 c2
      go_wp2
      clear ec0 ef0 ec1 ef1 ec2 ef2 ec3 ef3 ec4 ef4 ec5 ef5 ec6 ef6 c0 c3 c4 c5 c6
      go_loopw [6, 37] (fun _ iv wr => ∃ j : Nat, j ≤ x.hdrs.length ∧ iv = .int .i64 j ∧ Hid ((hAll (x.hdrs.drop j) && rAll ((l.map (·.1)).drop (k + 1))) = r) ∧ St W0 wr K (.raw wE #[.int .i64 x.time, .int .i64 x.off, .bool x.key.null, .string (bb x.key.data), .bool x.val.null, .string (bb x.val.data), .slice qx x.hdrs.length capx] 64 :: .raw hb #[.int .i64 base, .int .i64 leader, .bool app, .bool txn, .bool ctl, .int .i64 last, .int .i64 first, .int .i64 maxt, .int .i64 prod, .int .i64 epoch, .int .i64 sq, .slice (some ⟨b, off, none⟩) l.length cap] 32 :: L)) (fun _ iv _ => x.hdrs.length - (intOf iv).toNat)
      case atStart => exact ⟨0, Nat.zero_le _, rfl, HC1, H.out⟩
      case round =>
        obtain ⟨j, hjl, rfl, HJ, hst⟩ := hrel
        clear H
        have H := Lib.hid hst
        clear hst
        by_cases hjt : j < x.hdrs.length
        · obtain ⟨bh, oh, hqh, g0, g1, g2⟩ := hdr_cells XK.out H.out j hjt
          subst hqh
          have hhf := XF.out.2.2.1 _ (List.getElem_mem hjt)
          obtain ⟨⟨hk, ⟨hu, hv⟩⟩, hx⟩ : ∃ y, x.hdrs[j] = y := ⟨_, rfl⟩
          have hj := HJ.out
          rw [drop_hdrs _ _ hjt] at hj
          rw [hx] at g0 g1 g2 hhf hj
          have hj : ((decide (hk.length + hv.length ≤ 100) && hAll (x.hdrs.drop (j + 1))) && rAll ((l.map (·.1)).drop (k + 1))) = r := hj
          simp only at g0 g1 g2 hhf
          obtain ⟨b1, b2⟩ := hhf
          have hji : (j : Int) < (x.hdrs.length : Int) := by omega
          have ws2 : wrap64 ((hk.length : Int) + (hv.length : Int)) = (hk.length : Int) + (hv.length : Int) := by unfold wrap64; omega
          clear b1 b2
          have h := H.out.allocRaw #[.string (bb hk), .bool hu, .string (bb hv)] 96
          obtain ⟨wH, hwH⟩ : ∃ b, wr.heap.size = b := ⟨_, rfl⟩
          rw [hwH] at h
          have u0 := h.rawCell 0; have u1 := h.rawCell 1; have u2 := h.rawCell 2
          simp at u0 u1 u2
          clear H
          have H := Lib.hid h
          clear h hx
          by_cases c1 : 100 < hk.length + hv.length
          · have d1 : decide ((100 : Int) < (hk.length : Int) + (hv.length : Int)) = true := decide_eq_true (by omega)
            have hfin : false = r := by rw [← hj, decide_eq_false (by omega)]; rfl
            clear hj c1
            obtain rfl : false = r := hfin
            go_wp2
            go_ret
            exact ⟨rfl, H.out.drop.drop.drop⟩
          · have d1 : decide ((100 : Int) < (hk.length : Int) + (hv.length : Int)) = false := decide_eq_false (by omega)
            rw [decide_eq_true (by omega), Bool.true_and] at hj
            have HJ2 := Lib.hid hj
            clear hj c1
            go_wp2
            go_roundw
            case rel => exact ⟨j + 1, hjt, by go_num, HJ2, H.out.drop⟩
            case measure => first | (simp [intOf]; done) | (simp [intOf]; omega)
        · obtain rfl : x.hdrs.length = j := by omega
          have hj := HJ.out
          rw [List.drop_of_length_le (Nat.le_refl _)] at hj
          have HC2 := Lib.hid (show rAll ((l.map (·.1)).drop (k + 1)) = r from hj)
          clear hj
          go_wp2
          go_roundw
          case rel => exact ⟨k + 1, hlt, by go_num, HC2, H.out.drop⟩
          case measure => first | (simp [intOf]; done) | (simp [intOf]; omega)
    · obtain rfl : l.length = k := by omega
      have hc := HC.out
      rw [List.drop_of_length_le (by simp)] at hc
      obtain rfl : true = r := hc
      go_wp2
      go_ret
      exact ⟨rfl, H.out.drop⟩

end Go.Proofs.Ytcjgdlfcfcabiaa
