/- Batches, one behind the other, are read again, one behind the other, and two are one just if all of their fields are: proved of every row of batches. -/
import Derived.Test.YtcjgdlfcfcabiaaGBatchRows9
import Derived.Test.YtcjgdlfcfcabiaaGBatchRows11
import Derived.Test.YtcjgdlfcfcabiaaGBatchRows10
import Derived.Test.YtcjgdlfcfcabiaaGBatchRows12
import Derived.Deep.RegionHeld3
import Derived.Deep.DeepCutAuto
import Derived.Test.YtcjgdlfcfcabiaaArgs
import Derived.SizedLaws
import Derived.Deep.Slices
import Derived.Test.YtcjgdlfcfcabiaaL06F
import Derived.Test.YtcjgdlfcfcabiaaRec6
import Derived.Test.YtcjgdlfcfcabiaaRec8
import Derived.Lib.SmallJoins
import Derived.Test.YtcjgdlfcfcabiaaGBatchRows1
/- Layer 11, walked: BatchRows. -/
namespace Go.Proofs.Ytcjgdlfcfcabiaa
open Go.RowKit

set_option maxHeartbeats 1000000 in
set_option maxRecDepth 100000 in
theorem batchRows_long (l : List BatR) (q : Option Addr) (cap : Nat) (hl : 8 < l.length) {W0 w : World} {K : Know} (hk : K.has (Know.bats (.slice q l.length cap) l)) (h : St W0 w K []) :
    Calls Try.prog 9 #[.slice q l.length cap] w fun en w' => en = .returned (.bool true) ∧ Below W0.heap.size W0 w' := by
  have H := Lib.hid h
  have hlen : decide ((8 : Int) < (l.length : Int)) = true := decide_eq_true (by omega)
  clear h hk hl
  go_enter Try.func9, Try.ntmps9
  go_wp2_with (first
    | (go_at_call 29; (with_reducible refine (speaks11 H.out).mono ?_); rintro e_ wn ⟨rfl, K2, hk2, h⟩; clear hk2; replace H := Lib.hid h; clear h))
  go_ret
  exact ⟨rfl, H.out.below⟩

set_option maxHeartbeats 4000000 in
set_option maxRecDepth 100000 in
theorem batchRows_main (l : List BatR) (q : Option Addr) (cap : Nat) (hf : ∀ x ∈ l, x.Fit) (hl : l.length ≤ 8) {W0 w : World} {K : Know} (hk : K.has (Know.bats (.slice q l.length cap) l)) (h : St W0 w K []) :
    Calls Try.prog 9 #[.slice q l.length cap] w fun en w' => en = .returned (.bool true) ∧ Below W0.heap.size W0 w' := by
  have H := Lib.hid h
  have HK := Lib.hid hk
  have HFT := Lib.hid hf
  have hlen : decide ((8 : Int) < (l.length : Int)) = false := decide_eq_false (by omega)
  have HL8 := Lib.hid hl
  obtain ⟨K0, hK0⟩ : ∃ K0, K = K0 := ⟨_, rfl⟩
  clear h hk hf hl
  go_enter Try.func9, Try.ntmps9
  go_wp2_with (first
    | (go_at_call 29; (with_reducible refine (speaks11 H.out).mono ?_); rintro e_ wn ⟨rfl, K2, hk2, h⟩; have HK3 := Lib.hid (Know.has_trans hk2 HK.out); clear hk2 HK; have HK := HK3; clear HK3; replace H := Lib.hid h; clear h))
  go_loopw [3, 5, 19] (fun wv _ iv wr => ∃ (k : Nat) (e : Int), k ≤ l.length ∧ iv = .int .i64 k ∧ wv = .int .i64 e ∧ Hid (errB (l.take k) = e) ∧ Hid (∀ x ∈ l.take k, smallB (x.l.map (·.1)) = true) ∧ St W0 wr K2 []) (fun _ _ iv _ => l.length - (intOf iv).toNat)
  case atStart => exact ⟨0, 0, Nat.zero_le _, rfl, rfl, Lib.hid rfl, Lib.hid (fun x hx => by simp at hx), H.out⟩
  case round =>
    obtain ⟨k, e, hkl, rfl, rfl, her, hsm, hst⟩ := hrel
    clear H
    have H := Lib.hid hst
    clear hst
    by_cases hlt : k < l.length
    · have hl8 : (l.length : Int) ≤ 8 := by have := HL8.out; omega
      have hstep := fun h0 => errB_step l k hlt h0
      have hstep2 := fun h0 => errB_step_ne l k hlt h0
      obtain ⟨b, off, hqq⟩ := bats_at HK.out H.out (by omega)
      subst hqq
      obtain ⟨x, hx⟩ : ∃ x, l[k] = x := ⟨_, rfl⟩
      have cc := bats_cell HK.out H.out k hlt x hx
      have hmem : x ∈ l := hx ▸ List.getElem_mem hlt
      have XF := Lib.hid (HFT.out x hmem)
      have XR2 := Lib.hid XF.out.2.1
      have XR3 := Lib.hid XF.out.2.2
      have XK := Lib.hid (bats_recs HK.out hmem)
      obtain ⟨c0, c1, c2, c3, c4, c5, c6, c7, c8, c9, c10, c11⟩ := cc
      obtain ⟨wE, hwE⟩ : ∃ b, wr.heap.size = b := ⟨_, rfl⟩
      have hki : (k : Int) < (l.length : Int) := by omega
      have h := H.out.allocRaw #[.int .i64 x.b.base, .int .i64 x.b.leader, .bool x.b.app, .bool x.b.txn, .bool x.b.ctl, .int .i64 x.b.last, .int .i64 x.b.first, .int .i64 x.b.maxt, .int .i64 x.b.prod, .int .i64 x.b.epoch, .int .i64 x.b.seq, .slice x.q x.l.length x.cap] 32
      rw [hwE] at h
      clear H
      have H := Lib.hid h
      clear h
      rw [hx] at hstep
      have HRB := Lib.hid XF.out.1.1
      have HMX := Lib.hid (show x.b.first ≤ 9223372036854775807 by have := XF.out.1.2.2.2.1.2; omega)
      obtain ⟨x0, x1, x2, x3, x4, x5, x6, x7, x8, x9, x10, x11, y0, y1, y2, y3, y4, y5, y6, y7, y8, y9, y10, y11⟩ := raw12 (b := wE) (H.out)
      cases hs : smallB (x.l.map (·.1)) with
      | false =>
        as_aux_lemma =>
        have HSX := Lib.hid hs
        clear hs hstep hstep2 hx hmem
        go_wp2_with (first
    | (go_at_call 31; clear x0 y0 x1 y1 x2 y2 x3 y3 x4 y4 x5 y5 x6 y6 x7 y7 x8 y8 x9 y9 x10 y10 x11 y11; (with_reducible refine (l11_small _ _ _ _ _ _ _ _ _ _ _ x.l _ _ false HSX.out XR2.out XK.out H.out).mono ?_); rintro e_ wn ⟨rfl, h⟩; replace H := Lib.hid h; clear h; obtain ⟨x0, x1, x2, x3, x4, x5, x6, x7, x8, x9, x10, x11, y0, y1, y2, y3, y4, y5, y6, y7, y8, y9, y10, y11⟩ := raw12 (b := wE) (H.out)))
        go_ret
        exact ⟨rfl, H.out.below⟩
      | true =>
        as_aux_lemma =>
        have HSX := Lib.hid hs
        have HFB := Lib.hid (FitW.fit XF.out.2.1 hs)
        have HLLX := Lib.hid (show x.l.length ≤ 1000000 by have := smallB_len hs; omega)
        have NS := Lib.hid (show ∀ y ∈ l.take (k + 1), smallB (y.l.map (·.1)) = true by
          intro y hy
          rw [List.take_succ_eq_append_getElem hlt, hx] at hy
          rcases List.mem_append.1 hy with hy | hy
          · exact hsm.out y hy
          · simp at hy; subst hy; exact hs)
        by_cases h0 : e = 0
        · subst h0
          obtain ⟨e2, he2⟩ : ∃ e, batErr x.b = e := ⟨_, rfl⟩
          have NE := Lib.hid (show errB (l.take (k + 1)) = e2 by rw [hstep her.out]; exact he2)
          have HE := Lib.hid (show batErr ⟨x.b.base, x.b.leader, x.b.app, x.b.txn, x.b.ctl, x.b.last, x.b.first, x.b.maxt, x.b.prod, x.b.epoch, x.b.seq, x.l.map (·.1)⟩ = e2 by rw [XF.out.2.2]; exact he2)
          clear hs hstep hstep2 hx hmem he2
          go_wp2_with (first
    | (go_at_call 31; clear x0 y0 x1 y1 x2 y2 x3 y3 x4 y4 x5 y5 x6 y6 x7 y7 x8 y8 x9 y9 x10 y10 x11 y11; (with_reducible refine (l11_small _ _ _ _ _ _ _ _ _ _ _ x.l _ _ true HSX.out XR2.out XK.out H.out).mono ?_); rintro e_ wn ⟨rfl, h⟩; replace H := Lib.hid h; clear h; obtain ⟨x0, x1, x2, x3, x4, x5, x6, x7, x8, x9, x10, x11, y0, y1, y2, y3, y4, y5, y6, y7, y8, y9, y10, y11⟩ := raw12 (b := wE) (H.out))
    | (go_at_call 32; clear x0 y0 x1 y1 x2 y2 x3 y3 x4 y4 x5 y5 x6 y6 x7 y7 x8 y8 x9 y9 x10 y10 x11 y11; (with_reducible refine (ref11_check _ _ _ _ _ _ _ _ _ _ _ x.l _ _ e2 HE.out HMX.out HRB.out HFB.out HLLX.out XK.out H.out).mono ?_); rintro e_ wn ⟨rfl, h⟩; replace H := Lib.hid h; clear h; obtain ⟨x0, x1, x2, x3, x4, x5, x6, x7, x8, x9, x10, x11, y0, y1, y2, y3, y4, y5, y6, y7, y8, y9, y10, y11⟩ := raw12 (b := wE) (H.out)))
          go_roundw
          case rel => exact ⟨k + 1, e2, hlt, by go_num, rfl, NE, NS, H.out.drop⟩
          case measure => first | (simp [intOf]; done) | (simp [intOf]; omega)
        · have NE := Lib.hid (show errB (l.take (k + 1)) = e by rw [hstep2 (by rw [her.out]; exact h0)]; exact her.out)
          have g1 : (e == 0) = false := by rw [beq_eq_false_iff_ne]; exact h0
          have g2 : (e != 0) = true := by simp [bne, g1]
          clear hs hstep hstep2 hx hmem h0
          go_wp2_with (first
    | (go_at_call 31; clear x0 y0 x1 y1 x2 y2 x3 y3 x4 y4 x5 y5 x6 y6 x7 y7 x8 y8 x9 y9 x10 y10 x11 y11; (with_reducible refine (l11_small _ _ _ _ _ _ _ _ _ _ _ x.l _ _ true HSX.out XR2.out XK.out H.out).mono ?_); rintro e_ wn ⟨rfl, h⟩; replace H := Lib.hid h; clear h; obtain ⟨x0, x1, x2, x3, x4, x5, x6, x7, x8, x9, x10, x11, y0, y1, y2, y3, y4, y5, y6, y7, y8, y9, y10, y11⟩ := raw12 (b := wE) (H.out)))
          go_roundw
          case rel => exact ⟨k + 1, e, hlt, by go_num, rfl, NE, NS, H.out.drop⟩
          case measure => first | (simp [intOf]; done) | (simp [intOf]; omega)
    · obtain rfl : k = l.length := by omega
      have her2 := her.out
      have hsm2 := hsm.out
      rw [List.take_length] at her2 hsm2
      have HSMA := Lib.hid hsm2
      have HER := Lib.hid her2
      have HLL := Lib.hid (show l.length ≤ 20 by have := HL8.out; omega)
      clear her hsm her2 hsm2
      by_cases h0 : e = 0
      rotate_left
      · as_aux_lemma =>
        obtain ⟨e2, he2⟩ : ∃ e2, e = e2 := ⟨_, rfl⟩
        subst he2
        have g1 : (e == 0) = false := by rw [beq_eq_false_iff_ne]; exact h0
        have g2 : (e != 0) = true := by simp [bne, g1]
        have g3 : (e == e) = true := beq_self_eq_true _
        have HSE := Lib.hid (show allB l = ([], e) by unfold allB; rw [if_neg (by rw [HER.out]; exact h0), HER.out])
        clear h0
        go_wp2_with (first
    | (go_at_call 34; (with_reducible refine (bat_all l _ _ [] e HSE.out HFT.out HSMA.out HLL.out HK.out H.out).mono ?_); rintro e_ wn ⟨rfl, h⟩; replace H := Lib.hid h; clear h))
        go_ret
        exact ⟨rfl, H.out.below⟩
      · subst h0
        obtain ⟨s, hs⟩ : ∃ s, encB l = s := ⟨_, rfl⟩
        have HSE := Lib.hid (show allB l = (s, 0) by unfold allB; rw [if_pos HER.out, hs])
        have HSL := Lib.hid (show s.length ≤ 140737488355328 by
          have h1 := encB_le l (fun y hy => (BatR.small (HFT.out y hy) (HSMA.out y hy) (errB_mem _ HER.out y hy)).elen)
          have h2 := HL8.out
          rw [hs] at h1
          omega)
        have HSL2 := Lib.hid (show s.length ≤ 1000000 by
          have h1 := encB_le2 l HFT.out HSMA.out
          have h2 := HL8.out
          rw [hs] at h1
          omega)
        have HSS := Lib.hid hs
        clear hs
        go_wp2_with (first
    | (go_at_call 34; (with_reducible refine (bat_all l _ _ s 0 HSE.out HFT.out HSMA.out HLL.out HK.out H.out).mono ?_); rintro e_ wn ⟨rfl, h⟩; replace H := Lib.hid h; clear h)
    | (go_at_call 22; (with_reducible refine (s_new s HSL.out H.out).mono ?_); rintro e_ wn ⟨bi, rfl, h⟩; replace H := Lib.hid h; clear h))
        go_loopw [9, 10, 11, 49] (fun _ _ _ iv wr => ∃ k : Nat, k ≤ l.length ∧ iv = .int .i64 k ∧ St W0 wr K2 [.inp bi ⟨s, (encB (l.take k)).length, 0⟩]) (fun _ _ _ iv _ => l.length - (intOf iv).toNat)
        case atStart => exact ⟨0, Nat.zero_le _, rfl, H.out⟩
        case round =>
          obtain ⟨k, hkl2, rfl, hst⟩ := hrel
          clear H
          have H := Lib.hid hst
          clear hst
          by_cases hlt : k < l.length
          · as_aux_lemma =>
            have SO := Lib.hid (BatR.small (HFT.out l[k] (List.getElem_mem hlt)) (HSMA.out l[k] (List.getElem_mem hlt)) (errB_mem _ HER.out l[k] (List.getElem_mem hlt)))
            have hnx := encB_next l k hlt SO.out
            have hnp := encB_take l k hlt
            have hple := encB_take_le l k
            obtain ⟨b, off, hqq⟩ := bats_at HK.out H.out (by omega)
            subst hqq
            obtain ⟨x, hx⟩ : ∃ x, l[k] = x := ⟨_, rfl⟩
            obtain ⟨z, hz⟩ : ∃ z, l[0]'(by omega) = z := ⟨_, rfl⟩
            have cc := bats_cell HK.out H.out k hlt x hx
            have hmem : x ∈ l := hx ▸ List.getElem_mem hlt
            have hmz : z ∈ l := hz ▸ List.getElem_mem _
            have XF := Lib.hid (HFT.out x hmem)
            have ZF := Lib.hid (HFT.out z hmz)
            have XR3 := Lib.hid XF.out.2.2
            have ZR3 := Lib.hid ZF.out.2.2
            have XK := Lib.hid (bats_recs HK.out hmem)
            have ZK := Lib.hid (bats_recs HK.out hmz)
            have HFX := Lib.hid (show ∀ y ∈ x.l, y.1.hdrs.length ≤ 9223372036854775807 from fun y hy => (XF.out.2.1 y hy).2.1)
            have HFZ := Lib.hid (show ∀ y ∈ z.l, y.1.hdrs.length ≤ 9223372036854775807 from fun y hy => (ZF.out.2.1 y hy).2.1)
            rw [hx] at hnx hnp SO
            have HN2 := Lib.hid (len_of_recs SO.out XF.out.2.2)
            obtain ⟨n, hn⟩ : ∃ n, x.b.enc.length = n := ⟨_, rfl⟩
            rw [hn] at hnx
            rw [HSS.out] at hnx hple
            have NX := Lib.hid hnx
            have HPP := Lib.hid hple
            have NP := Lib.hid (show (encB (l.take k)).length + n = (encB (l.take (k + 1))).length by rw [hnp, List.length_append, hn])
            obtain ⟨c0, c1, c2, c3, c4, c5, c6, c7, c8, c9, c10, c11⟩ := cc
            obtain ⟨wE, hwE⟩ : ∃ b, wr.heap.size = b := ⟨_, rfl⟩
            have hki : (k : Int) < (l.length : Int) := by omega
            obtain ⟨b0, hb0⟩ : ∃ b0, decide (x.b = z.b) = b0 := ⟨_, rfl⟩
            have HB := Lib.hid hb0
            have HZ := Lib.hid hz
            have HXX := Lib.hid hx
            have h := (H.out.allocRaw #[.int .i64 x.b.base, .int .i64 x.b.leader, .bool x.b.app, .bool x.b.txn, .bool x.b.ctl, .int .i64 x.b.last, .int .i64 x.b.first, .int .i64 x.b.maxt, .int .i64 x.b.prod, .int .i64 x.b.epoch, .int .i64 x.b.seq, .slice x.q x.l.length x.cap] 32).p1
            rw [hwE] at h
            clear H
            have H := Lib.hid h
            have hl0 : (0 : Int) < (l.length : Int) := by omega
            have hl1 : 0 < l.length := by omega
            have hk0 : (0 : Int) ≤ (k : Int) := Int.natCast_nonneg _
            have hl8 : (l.length : Int) ≤ 8 := by have := HL8.out; omega
            clear h hx hmem hz hmz hb0 hnx hnp hple hn
            go_wp2_with (go_at_call 35; (with_reducible refine (bat_read_good bi s _ HSL2.out HPP.out x.b n NX.out H.out).mono ?_); rintro e_ wn ⟨q1, l1, cap1, rfl, hl1, h⟩; rw [NP.out] at h; obtain ⟨wX, hwX⟩ : ∃ b, wn.heap.size = b := ⟨_, rfl⟩; have h := h.allocRaw #[.int .i64 x.b.base, .int .i64 x.b.leader, .bool x.b.app, .bool x.b.txn, .bool x.b.ctl, .int .i64 x.b.last, .int .i64 x.b.first, .int .i64 x.b.maxt, .int .i64 x.b.prod, .int .i64 x.b.epoch, .int .i64 x.b.seq, .slice q1 l1.length cap1] 32; rw [hwX] at h; have HL1 := Lib.hid hl1; have HF1 := Lib.hid (fit_of_recs SO.out hl1); have HN1 := Lib.hid (len_of_recs SO.out hl1); clear hl1; replace H := Lib.hid h; clear h)
            have hs := H.out.drew
            have hkeep : ∀ w', St W0 w' (K2.and (Know.recs (.slice q1 l1.length cap1) l1)) [.raw wX #[.int .i64 x.b.base, .int .i64 x.b.leader, .bool x.b.app, .bool x.b.txn, .bool x.b.ctl, .int .i64 x.b.last, .int .i64 x.b.first, .int .i64 x.b.maxt, .int .i64 x.b.prod, .int .i64 x.b.epoch, .int .i64 x.b.seq, .slice q1 l1.length cap1] 32, .inp bi ⟨s, (encB (l.take (k + 1))).length, 0⟩, .raw wE #[.int .i64 x.b.base, .int .i64 x.b.leader, .bool x.b.app, .bool x.b.txn, .bool x.b.ctl, .int .i64 x.b.last, .int .i64 x.b.first, .int .i64 x.b.maxt, .int .i64 x.b.prod, .int .i64 x.b.epoch, .int .i64 x.b.seq, .slice x.q x.l.length x.cap] 32] → ((w'.cell? ⟨wX, 0, none⟩ = some (.int .i64 x.b.base) ∧ w'.cell? ⟨wX, 1, none⟩ = some (.int .i64 x.b.leader) ∧ w'.cell? ⟨wX, 2, none⟩ = some (.bool x.b.app) ∧ w'.cell? ⟨wX, 3, none⟩ = some (.bool x.b.txn) ∧ w'.cell? ⟨wX, 4, none⟩ = some (.bool x.b.ctl) ∧ w'.cell? ⟨wX, 5, none⟩ = some (.int .i64 x.b.last) ∧ w'.cell? ⟨wX, 6, none⟩ = some (.int .i64 x.b.first) ∧ w'.cell? ⟨wX, 7, none⟩ = some (.int .i64 x.b.maxt) ∧ w'.cell? ⟨wX, 8, none⟩ = some (.int .i64 x.b.prod) ∧ w'.cell? ⟨wX, 9, none⟩ = some (.int .i64 x.b.epoch) ∧ w'.cell? ⟨wX, 10, none⟩ = some (.int .i64 x.b.seq) ∧ w'.cell? ⟨wX, 11, none⟩ = some (.slice q1 l1.length cap1)) ∧ (w'.cell? ⟨wE, 0, none⟩ = some (.int .i64 x.b.base) ∧ w'.cell? ⟨wE, 1, none⟩ = some (.int .i64 x.b.leader) ∧ w'.cell? ⟨wE, 2, none⟩ = some (.bool x.b.app) ∧ w'.cell? ⟨wE, 3, none⟩ = some (.bool x.b.txn) ∧ w'.cell? ⟨wE, 4, none⟩ = some (.bool x.b.ctl) ∧ w'.cell? ⟨wE, 5, none⟩ = some (.int .i64 x.b.last) ∧ w'.cell? ⟨wE, 6, none⟩ = some (.int .i64 x.b.first) ∧ w'.cell? ⟨wE, 7, none⟩ = some (.int .i64 x.b.maxt) ∧ w'.cell? ⟨wE, 8, none⟩ = some (.int .i64 x.b.prod) ∧ w'.cell? ⟨wE, 9, none⟩ = some (.int .i64 x.b.epoch) ∧ w'.cell? ⟨wE, 10, none⟩ = some (.int .i64 x.b.seq) ∧ w'.cell? ⟨wE, 11, none⟩ = some (.slice x.q x.l.length x.cap)) ∧ (w'.cell? ⟨b, off + k * 12, none⟩ = some (.int .i64 x.b.base) ∧ w'.cell? ⟨b, off + k * 12 + 1, none⟩ = some (.int .i64 x.b.leader) ∧ w'.cell? ⟨b, off + k * 12 + 2, none⟩ = some (.bool x.b.app) ∧ w'.cell? ⟨b, off + k * 12 + 3, none⟩ = some (.bool x.b.txn) ∧ w'.cell? ⟨b, off + k * 12 + 4, none⟩ = some (.bool x.b.ctl) ∧ w'.cell? ⟨b, off + k * 12 + 5, none⟩ = some (.int .i64 x.b.last) ∧ w'.cell? ⟨b, off + k * 12 + 6, none⟩ = some (.int .i64 x.b.first) ∧ w'.cell? ⟨b, off + k * 12 + 7, none⟩ = some (.int .i64 x.b.maxt) ∧ w'.cell? ⟨b, off + k * 12 + 8, none⟩ = some (.int .i64 x.b.prod) ∧ w'.cell? ⟨b, off + k * 12 + 9, none⟩ = some (.int .i64 x.b.epoch) ∧ w'.cell? ⟨b, off + k * 12 + 10, none⟩ = some (.int .i64 x.b.seq) ∧ w'.cell? ⟨b, off + k * 12 + 11, none⟩ = some (.slice x.q x.l.length x.cap)) ∧ (w'.cell? ⟨b, off, none⟩ = some (.int .i64 z.b.base) ∧ w'.cell? ⟨b, off + 1, none⟩ = some (.int .i64 z.b.leader) ∧ w'.cell? ⟨b, off + 2, none⟩ = some (.bool z.b.app) ∧ w'.cell? ⟨b, off + 3, none⟩ = some (.bool z.b.txn) ∧ w'.cell? ⟨b, off + 4, none⟩ = some (.bool z.b.ctl) ∧ w'.cell? ⟨b, off + 5, none⟩ = some (.int .i64 z.b.last) ∧ w'.cell? ⟨b, off + 6, none⟩ = some (.int .i64 z.b.first) ∧ w'.cell? ⟨b, off + 7, none⟩ = some (.int .i64 z.b.maxt) ∧ w'.cell? ⟨b, off + 8, none⟩ = some (.int .i64 z.b.prod) ∧ w'.cell? ⟨b, off + 9, none⟩ = some (.int .i64 z.b.epoch) ∧ w'.cell? ⟨b, off + 10, none⟩ = some (.int .i64 z.b.seq) ∧ w'.cell? ⟨b, off + 11, none⟩ = some (.slice z.q z.l.length z.cap))) := fun w' hs => by
              have r1 := bats_cell (Know.has_left HK.out) hs k hlt x HXX.out
              have r2 := bats_cell (Know.has_left HK.out) hs 0 hl1 z HZ.out
              simp only [Nat.zero_mul, Nat.zero_add, Nat.add_zero] at r1 r2
              exact ⟨⟨hs.rawCell 0, hs.rawCell 1, hs.rawCell 2, hs.rawCell 3, hs.rawCell 4, hs.rawCell 5, hs.rawCell 6, hs.rawCell 7, hs.rawCell 8, hs.rawCell 9, hs.rawCell 10, hs.rawCell 11⟩, ⟨hs.p2.rawCell 0, hs.p2.rawCell 1, hs.p2.rawCell 2, hs.p2.rawCell 3, hs.p2.rawCell 4, hs.p2.rawCell 5, hs.p2.rawCell 6, hs.p2.rawCell 7, hs.p2.rawCell 8, hs.p2.rawCell 9, hs.p2.rawCell 10, hs.p2.rawCell 11⟩, r1, r2⟩
            have HKP := Lib.hid hkeep
            clear hkeep
            refine wp_region_held_drew (S := fun w' => (w'.cell? ⟨wX, 0, none⟩ = some (.int .i64 x.b.base) ∧ w'.cell? ⟨wX, 1, none⟩ = some (.int .i64 x.b.leader) ∧ w'.cell? ⟨wX, 2, none⟩ = some (.bool x.b.app) ∧ w'.cell? ⟨wX, 3, none⟩ = some (.bool x.b.txn) ∧ w'.cell? ⟨wX, 4, none⟩ = some (.bool x.b.ctl) ∧ w'.cell? ⟨wX, 5, none⟩ = some (.int .i64 x.b.last) ∧ w'.cell? ⟨wX, 6, none⟩ = some (.int .i64 x.b.first) ∧ w'.cell? ⟨wX, 7, none⟩ = some (.int .i64 x.b.maxt) ∧ w'.cell? ⟨wX, 8, none⟩ = some (.int .i64 x.b.prod) ∧ w'.cell? ⟨wX, 9, none⟩ = some (.int .i64 x.b.epoch) ∧ w'.cell? ⟨wX, 10, none⟩ = some (.int .i64 x.b.seq) ∧ w'.cell? ⟨wX, 11, none⟩ = some (.slice q1 l1.length cap1)) ∧ (w'.cell? ⟨wE, 0, none⟩ = some (.int .i64 x.b.base) ∧ w'.cell? ⟨wE, 1, none⟩ = some (.int .i64 x.b.leader) ∧ w'.cell? ⟨wE, 2, none⟩ = some (.bool x.b.app) ∧ w'.cell? ⟨wE, 3, none⟩ = some (.bool x.b.txn) ∧ w'.cell? ⟨wE, 4, none⟩ = some (.bool x.b.ctl) ∧ w'.cell? ⟨wE, 5, none⟩ = some (.int .i64 x.b.last) ∧ w'.cell? ⟨wE, 6, none⟩ = some (.int .i64 x.b.first) ∧ w'.cell? ⟨wE, 7, none⟩ = some (.int .i64 x.b.maxt) ∧ w'.cell? ⟨wE, 8, none⟩ = some (.int .i64 x.b.prod) ∧ w'.cell? ⟨wE, 9, none⟩ = some (.int .i64 x.b.epoch) ∧ w'.cell? ⟨wE, 10, none⟩ = some (.int .i64 x.b.seq) ∧ w'.cell? ⟨wE, 11, none⟩ = some (.slice x.q x.l.length x.cap)) ∧ (w'.cell? ⟨b, off + k * 12, none⟩ = some (.int .i64 x.b.base) ∧ w'.cell? ⟨b, off + k * 12 + 1, none⟩ = some (.int .i64 x.b.leader) ∧ w'.cell? ⟨b, off + k * 12 + 2, none⟩ = some (.bool x.b.app) ∧ w'.cell? ⟨b, off + k * 12 + 3, none⟩ = some (.bool x.b.txn) ∧ w'.cell? ⟨b, off + k * 12 + 4, none⟩ = some (.bool x.b.ctl) ∧ w'.cell? ⟨b, off + k * 12 + 5, none⟩ = some (.int .i64 x.b.last) ∧ w'.cell? ⟨b, off + k * 12 + 6, none⟩ = some (.int .i64 x.b.first) ∧ w'.cell? ⟨b, off + k * 12 + 7, none⟩ = some (.int .i64 x.b.maxt) ∧ w'.cell? ⟨b, off + k * 12 + 8, none⟩ = some (.int .i64 x.b.prod) ∧ w'.cell? ⟨b, off + k * 12 + 9, none⟩ = some (.int .i64 x.b.epoch) ∧ w'.cell? ⟨b, off + k * 12 + 10, none⟩ = some (.int .i64 x.b.seq) ∧ w'.cell? ⟨b, off + k * 12 + 11, none⟩ = some (.slice x.q x.l.length x.cap)) ∧ (w'.cell? ⟨b, off, none⟩ = some (.int .i64 z.b.base) ∧ w'.cell? ⟨b, off + 1, none⟩ = some (.int .i64 z.b.leader) ∧ w'.cell? ⟨b, off + 2, none⟩ = some (.bool z.b.app) ∧ w'.cell? ⟨b, off + 3, none⟩ = some (.bool z.b.txn) ∧ w'.cell? ⟨b, off + 4, none⟩ = some (.bool z.b.ctl) ∧ w'.cell? ⟨b, off + 5, none⟩ = some (.int .i64 z.b.last) ∧ w'.cell? ⟨b, off + 6, none⟩ = some (.int .i64 z.b.first) ∧ w'.cell? ⟨b, off + 7, none⟩ = some (.int .i64 z.b.maxt) ∧ w'.cell? ⟨b, off + 8, none⟩ = some (.int .i64 z.b.prod) ∧ w'.cell? ⟨b, off + 9, none⟩ = some (.int .i64 z.b.epoch) ∧ w'.cell? ⟨b, off + 10, none⟩ = some (.int .i64 z.b.seq) ∧ w'.cell? ⟨b, off + 11, none⟩ = some (.slice z.q z.l.length z.cap))) (by kernel_rfl) (HKP.out _ hs) (fun hHeld => ?_)
            refine wpAnyH_take (i := 0) (oi := { dst := some 56, op := Op.load 32 (Operand.tmp 11), type := 32, pos := "law.go:156", after := #[], guard := none }) (v := ?_) rfl (by kernel_rfl) (by kernel_rfl) (by kernel_rfl) (fun _ _ _ h => h) (Or.inl ⟨by rfl, ?_⟩) (by assumption) ?_
            rotate_left
            · intro w hSw; (try dsimp only at hSw); go_simp; try with_reducible rfl
            simp only [Act.put, List.setIfInBounds_toArray, List.set_cons_zero, List.set_cons_succ]
            refine wpAnyH_take (i := 1) (oi := { dst := some 57, op := Op.load 32 (Operand.tmp 10), type := 32, pos := "law.go:156", after := #[], guard := none }) (v := ?_) rfl (by kernel_rfl) (by kernel_rfl) (by kernel_rfl) (fun _ _ _ h => h) (Or.inl ⟨by rfl, ?_⟩) (by assumption) ?_
            rotate_left
            · intro w hSw; (try dsimp only at hSw); go_simp; try with_reducible rfl
            simp only [Act.put, List.setIfInBounds_toArray, List.set_cons_zero, List.set_cons_succ]
            refine wpAnyH_ready (rs := [2]) (by kernel_rfl) (by simp) (AllReadyH.cons (o := { dst := some 58, op := Op.call { callee := Callee.value (Operand.func 36), args := #[Operand.tmp 56, Operand.tmp 57], argTypes := #[32, 32] }, type := 4, pos := "law.go:156", after := #[{ on := 0, ground := Ground.data }, { on := 1, ground := Ground.data }], guard := none }) rfl (fun KK hK => ?_) AllReadyH.nil)
            · go_simp
              go_at_call 36
              with_reducible refine (ref11_sameT x.b l1 x.l _ _ _ _ HN1.out HL1.out XR3.out HF1.out HFX.out (Know.has_right (Know.has_refl _)) (Know.has_left XK.out) hs).mono ?_
              rintro e wq ⟨rfl, hs⟩
              refine hK.out _ _ (HKP.out _ hs) (fun hHeld => ?_)
              clear hK KK
              try simp only [Act.put, List.setIfInBounds_toArray, List.set_cons_zero, List.set_cons_succ]
              refine wpAnyH_take (i := 3) (oi := { dst := some 59, op := Op.unOp UnOp.not 4 (Operand.tmp 58), type := 4, pos := "law.go:156", after := #[{ on := 2, ground := Ground.data }], guard := none }) (v := ?_) rfl (by kernel_rfl) (by kernel_rfl) (by kernel_rfl) (fun _ _ _ h => h) (Or.inl ⟨by rfl, ?_⟩) (by assumption) ?_
              rotate_left
              · intro w hSw; (try dsimp only at hSw); go_simp; try with_reducible rfl
              simp only [Act.put, List.setIfInBounds_toArray, List.set_cons_zero, List.set_cons_succ]
              refine wpAnyH_take (i := 4) (oi := { dst := some 60, op := Op.move (Operand.tmp 59), type := 4, pos := "law.go:156", after := #[{ on := 3, ground := Ground.data }, { on := 2, ground := Ground.chain }], guard := none }) (v := ?_) rfl (by kernel_rfl) (by kernel_rfl) (by kernel_rfl) (fun _ _ _ h => h) (Or.inl ⟨by rfl, ?_⟩) (by assumption) ?_
              rotate_left
              · intro w hSw; (try dsimp only at hSw); go_simp; try with_reducible rfl
              simp only [Act.put, List.setIfInBounds_toArray, List.set_cons_zero, List.set_cons_succ]
              refine wpAnyH_take (i := 5) (oi := { dst := some 61, op := Op.load 32 (Operand.tmp 11), type := 32, pos := "law.go:156", after := #[{ on := 4, ground := Ground.guard }], guard := some (4, false) }) (v := ?_) rfl (by kernel_rfl) (by kernel_rfl) (by kernel_rfl) (fun _ _ _ h => h) (Or.inl ⟨by rfl, ?_⟩) (by assumption) ?_
              rotate_left
              · intro w hSw; (try dsimp only at hSw); go_simp; try with_reducible rfl
              simp only [Act.put, List.setIfInBounds_toArray, List.set_cons_zero, List.set_cons_succ]
              refine wpAnyH_take (i := 6) (oi := { dst := some 62, op := Op.move (Operand.tmp 0), type := 69, pos := "law.go:156", after := #[{ on := 4, ground := Ground.guard }], guard := some (4, false) }) (v := ?_) rfl (by kernel_rfl) (by kernel_rfl) (by kernel_rfl) (fun _ _ _ h => h) (Or.inl ⟨by rfl, ?_⟩) (by assumption) ?_
              rotate_left
              · intro w hSw; (try dsimp only at hSw); go_simp; try with_reducible rfl
              simp only [Act.put, List.setIfInBounds_toArray, List.set_cons_zero, List.set_cons_succ]
              refine wpAnyH_take (i := 7) (oi := { dst := some 63, op := Op.indexAddr 69 (Operand.tmp 62) (Operand.const (Value.int IntKind.i64 0)), type := 0, pos := "law.go:156", after := #[{ on := 6, ground := Ground.data }, { on := 4, ground := Ground.guard }], guard := some (4, false) }) (v := ?_) rfl (by kernel_rfl) (by kernel_rfl) (by kernel_rfl) (fun _ _ _ h => h) (Or.inl ⟨by rfl, ?_⟩) (by assumption) ?_
              rotate_left
              · intro w hSw; (try dsimp only at hSw); go_simp; try with_reducible rfl
              simp only [Act.put, List.setIfInBounds_toArray, List.set_cons_zero, List.set_cons_succ]
              refine wpAnyH_take (i := 8) (oi := { dst := some 64, op := Op.load 32 (Operand.tmp 63), type := 32, pos := "law.go:156", after := #[{ on := 7, ground := Ground.data }, { on := 4, ground := Ground.guard }], guard := some (4, false) }) (v := ?_) rfl (by kernel_rfl) (by kernel_rfl) (by kernel_rfl) (fun _ _ _ h => h) (Or.inl ⟨by rfl, ?_⟩) (by assumption) ?_
              rotate_left
              · intro w hSw; (try dsimp only at hSw); go_simp; try with_reducible rfl
              simp only [Act.put, List.setIfInBounds_toArray, List.set_cons_zero, List.set_cons_succ]
              refine wpAnyH_take (i := 10) (oi := { dst := some 66, op := Op.move (Operand.tmp 0), type := 69, pos := "law.go:156", after := #[{ on := 4, ground := Ground.guard }], guard := some (4, false) }) (v := ?_) rfl (by kernel_rfl) (by kernel_rfl) (by kernel_rfl) (fun _ _ _ h => h) (Or.inl ⟨by rfl, ?_⟩) (by assumption) ?_
              rotate_left
              · intro w hSw; (try dsimp only at hSw); go_simp; try with_reducible rfl
              simp only [Act.put, List.setIfInBounds_toArray, List.set_cons_zero, List.set_cons_succ]
              refine wpAnyH_take (i := 11) (oi := { dst := some 67, op := Op.move (Operand.tmp 9), type := 3, pos := "law.go:156", after := #[{ on := 4, ground := Ground.guard }], guard := some (4, false) }) (v := ?_) rfl (by kernel_rfl) (by kernel_rfl) (by kernel_rfl) (fun _ _ _ h => h) (Or.inl ⟨by rfl, ?_⟩) (by assumption) ?_
              rotate_left
              · intro w hSw; (try dsimp only at hSw); go_simp; try with_reducible rfl
              simp only [Act.put, List.setIfInBounds_toArray, List.set_cons_zero, List.set_cons_succ]
              refine wpAnyH_take (i := 12) (oi := { dst := some 68, op := Op.indexAddr 69 (Operand.tmp 66) (Operand.tmp 67), type := 0, pos := "law.go:156", after := #[{ on := 10, ground := Ground.data }, { on := 11, ground := Ground.data }, { on := 4, ground := Ground.guard }], guard := some (4, false) }) (v := ?_) rfl (by kernel_rfl) (by kernel_rfl) (by kernel_rfl) (fun _ _ _ h => h) (Or.inl ⟨by rfl, ?_⟩) (by assumption) ?_
              rotate_left
              · intro w hSw; (try dsimp only at hSw); go_simp; try with_reducible rfl
              simp only [Act.put, List.setIfInBounds_toArray, List.set_cons_zero, List.set_cons_succ]
              refine wpAnyH_take (i := 13) (oi := { dst := some 69, op := Op.load 32 (Operand.tmp 68), type := 32, pos := "law.go:156", after := #[{ on := 12, ground := Ground.data }, { on := 4, ground := Ground.guard }], guard := some (4, false) }) (v := ?_) rfl (by kernel_rfl) (by kernel_rfl) (by kernel_rfl) (fun _ _ _ h => h) (Or.inl ⟨by rfl, ?_⟩) (by assumption) ?_
              rotate_left
              · intro w hSw; (try dsimp only at hSw); go_simp; try with_reducible rfl
              simp only [Act.put, List.setIfInBounds_toArray, List.set_cons_zero, List.set_cons_succ]
              refine wpAnyH_take (i := 14) (oi := { dst := some 70, op := Op.move (Operand.tmp 0), type := 69, pos := "law.go:156", after := #[{ on := 4, ground := Ground.guard }], guard := some (4, false) }) (v := ?_) rfl (by kernel_rfl) (by kernel_rfl) (by kernel_rfl) (fun _ _ _ h => h) (Or.inl ⟨by rfl, ?_⟩) (by assumption) ?_
              rotate_left
              · intro w hSw; (try dsimp only at hSw); go_simp; try with_reducible rfl
              simp only [Act.put, List.setIfInBounds_toArray, List.set_cons_zero, List.set_cons_succ]
              refine wpAnyH_take (i := 15) (oi := { dst := some 71, op := Op.indexAddr 69 (Operand.tmp 70) (Operand.const (Value.int IntKind.i64 0)), type := 0, pos := "law.go:156", after := #[{ on := 14, ground := Ground.data }, { on := 4, ground := Ground.guard }], guard := some (4, false) }) (v := ?_) rfl (by kernel_rfl) (by kernel_rfl) (by kernel_rfl) (fun _ _ _ h => h) (Or.inl ⟨by rfl, ?_⟩) (by assumption) ?_
              rotate_left
              · intro w hSw; (try dsimp only at hSw); go_simp; try with_reducible rfl
              simp only [Act.put, List.setIfInBounds_toArray, List.set_cons_zero, List.set_cons_succ]
              refine wpAnyH_take (i := 16) (oi := { dst := some 72, op := Op.load 32 (Operand.tmp 71), type := 32, pos := "law.go:156", after := #[{ on := 15, ground := Ground.data }, { on := 4, ground := Ground.guard }], guard := some (4, false) }) (v := ?_) rfl (by kernel_rfl) (by kernel_rfl) (by kernel_rfl) (fun _ _ _ h => h) (Or.inl ⟨by rfl, ?_⟩) (by assumption) ?_
              rotate_left
              · intro w hSw; (try dsimp only at hSw); go_simp; try with_reducible rfl
              simp only [Act.put, List.setIfInBounds_toArray, List.set_cons_zero, List.set_cons_succ]
              refine wpAnyH_ready (rs := [9]) (by kernel_rfl) (by simp) (AllReadyH.cons (o := { dst := some 65, op := Op.call { callee := Callee.value (Operand.func 37), args := #[Operand.tmp 61, Operand.tmp 64], argTypes := #[32, 32] }, type := 4, pos := "law.go:156", after := #[{ on := 5, ground := Ground.data }, { on := 8, ground := Ground.data }, { on := 4, ground := Ground.chain }, { on := 4, ground := Ground.guard }], guard := some (4, false) }) rfl (fun KK hK => ?_) AllReadyH.nil)
              · go_simp
                go_at_call 37
                with_reducible refine (bat_sameB x.b z.b l1 z.l _ _ _ _ HN1.out HL1.out ZR3.out b0 HB.out HF1.out HFZ.out (Know.has_right (Know.has_refl _)) (Know.has_left ZK.out) hs).mono ?_
                rintro e wq ⟨rfl, hs⟩
                refine hK.out _ _ (HKP.out _ hs) (fun hHeld => ?_)
                clear hK KK
                try simp only [Act.put, List.setIfInBounds_toArray, List.set_cons_zero, List.set_cons_succ]
                refine wpAnyH_ready (rs := [17]) (by kernel_rfl) (by simp) (AllReadyH.cons (o := { dst := some 73, op := Op.call { callee := Callee.value (Operand.func 36), args := #[Operand.tmp 69, Operand.tmp 72], argTypes := #[32, 32] }, type := 4, pos := "law.go:156", after := #[{ on := 13, ground := Ground.data }, { on := 16, ground := Ground.data }, { on := 9, ground := Ground.chain }, { on := 4, ground := Ground.guard }], guard := some (4, false) }) rfl (fun KK hK => ?_) AllReadyH.nil)
                · go_simp
                  go_at_call 36
                  with_reducible refine (ref11_sameB x.b z.b x.l z.l _ _ _ _ HN2.out XR3.out ZR3.out b0 HB.out HFX.out HFZ.out (Know.has_left XK.out) (Know.has_left ZK.out) hs).mono ?_
                  rintro e wq ⟨rfl, hs⟩
                  refine hK.out _ _ (HKP.out _ hs) (fun hHeld => ?_)
                  clear hK KK
                  try simp only [Act.put, List.setIfInBounds_toArray, List.set_cons_zero, List.set_cons_succ]
                  refine wpAnyH_take (i := 18) (oi := { dst := some 74, op := Op.binOp BinOp.neq 4 (Operand.tmp 65) (Operand.tmp 73) 4, type := 4, pos := "law.go:156", after := #[{ on := 9, ground := Ground.data }, { on := 17, ground := Ground.data }, { on := 4, ground := Ground.guard }], guard := some (4, false) }) (v := ?_) rfl (by kernel_rfl) (by kernel_rfl) (by kernel_rfl) (fun _ _ _ h => h) (Or.inl ⟨by rfl, ?_⟩) (by assumption) ?_
                  rotate_left
                  · intro w hSw; (try dsimp only at hSw); go_simp; try with_reducible rfl
                  simp only [Act.put, List.setIfInBounds_toArray, List.set_cons_zero, List.set_cons_succ]
                  refine wpAnyH_take (i := 19) (oi := { dst := some 75, op := Op.pick (Operand.tmp 60) (Operand.const (Value.bool true)) (Operand.tmp 74), type := 4, pos := "law.go:156", after := #[{ on := 4, ground := Ground.data }, { on := 18, ground := Ground.data }], guard := none }) (v := ?_) rfl (by kernel_rfl) (by kernel_rfl) (by kernel_rfl) (fun _ _ _ h => h) (Or.inl ⟨by rfl, ?_⟩) (by assumption) ?_
                  rotate_left
                  · intro w hSw; (try dsimp only at hSw); go_simp; try with_reducible rfl
                  simp only [Act.put, List.setIfInBounds_toArray, List.set_cons_zero, List.set_cons_succ]
                  refine wpAnyH_done (by kernel_rfl) ?_ _
                  go_wp2_with fail
                  go_roundw
                  case rel => exact ⟨k + 1, hlt, by go_num, (hs.drop.p1.drop).know (Know.has_left (Know.has_refl _))⟩
                  case measure => first | (simp [intOf]; done) | (simp [intOf]; omega)
          · as_aux_lemma =>
            obtain rfl : k = l.length := by omega
            have EC := Lib.hid (show (⟨s, (encB (l.take l.length)).length, 0⟩ : InS).close = ⟨s, s.length, 0⟩ by
              rw [List.take_length, HSS.out]
              unfold InS.close
              rw [if_neg (by simp only [InS.left]; omega)])
            go_wp2_with (go_at_call 25; refine (s_close bi _ H.out).mono ?_; rw [EC.out]; rintro e wn ⟨rfl, h⟩; replace H := Lib.hid h; clear h)
            go_ret
            exact ⟨rfl, H.out.below⟩

end Go.Proofs.Ytcjgdlfcfcabiaa

/- Lists of cells. -/
namespace Go.Proofs.Ytcjgdlfcfcabiaa
open Go.RowKit

theorem cells_u8 : Try.prog.cellsOf 5 = 1 := by kernel_rfl
theorem cells_int : Try.prog.cellsOf 3 = 1 := by kernel_rfl
theorem cells_str : Try.prog.cellsOf 9 = 1 := by kernel_rfl
theorem len2 {α : Type} {l : List α} (h : l.length = 2) : ∃ a b, l = [a, b] := by
  match l, h with
  | [a, b], _ => exact ⟨a, b, rfl⟩
theorem len3 {α : Type} {l : List α} (h : l.length = 3) : ∃ a b c, l = [a, b, c] := by
  match l, h with
  | [a, b, c], _ => exact ⟨a, b, c, rfl⟩
theorem len4 {α : Type} {l : List α} (h : l.length = 4) : ∃ a b c d, l = [a, b, c, d] := by
  match l, h with
  | [a, b, c, d], _ => exact ⟨a, b, c, d, rfl⟩

end Go.Proofs.Ytcjgdlfcfcabiaa

/- What arguments are made of, with the reach of each part. -/
namespace Go.Proofs.Ytcjgdlfcfcabiaa
open Go.RowKit
open Go.ChangeShapes Go.WideShapes Go.ChangeAt Go.Deep

/-- No part is beyond all reach. -/
def Light {H : Type} (t : TypeId) (d : DataW H) : Prop := ∀ k ∈ d.weights Try.prog t, k ≤ reachBytes
theorem reach_eq : reachBytes = 140737488351232 := rfl

section
variable {H : Type} {enc : TypeId × Value → H} {w : World} {spare : Nat → Bool} {held : Bool}

theorem light_arg {ts : List TypeId} {ds : List (DataW H)} (h : (DataW.weightsEach Try.prog ts ds).all (· ≤ reachBytes) = true) {j : Nat} {t : TypeId} {d : DataW H} (ht : ts[j]? = some t) (hd : ds[j]? = some d) : Light t d := by
  intro k hk
  have := List.all_eq_true.1 h k (DataW.weights_mem_each ht hd k hk)
  simpa using this

theorem opens_field {t : TypeId} {fs : Array Field} {n N : Nat} {cs : List Value} {y : DataW H × List MemPlace} (ht : Try.prog.underlying t = some (.struct fs)) (h : DataW.trod enc Try.prog w 0 spare held n t cs = some y) (hl : Light t y.1) (hN : ∀ x ∈ y.2, x.block < N) :
    cs.length = Try.prog.cellsOf t ∧ ∃ m, ∀ (i : Nat) (f : Field), fs[i]? = some f → ∃ z, DataW.trod enc Try.prog w 0 spare held m f.type ((cs.drop f.offset).take (Try.prog.cellsOf f.type)) = some z ∧ Light f.type z.1 ∧ ∀ x ∈ z.2, x.block < N := by
  obtain ⟨xs, m, _, rfl, hc, hxl, hg⟩ := DataW.trod_struct ht h
  refine ⟨hc, m, fun i f hf => ?_⟩
  have hi : i < fs.size := (Array.getElem?_eq_some_iff.1 hf).1
  have hx : xs[i]? = some (xs[i]'(by omega)) := List.getElem?_eq_getElem (by omega)
  refine ⟨_, (hg i f hf).trans hx, ?_, fun x hxx => hN x (List.mem_flatMap.2 ⟨_, List.getElem_mem _, hxx⟩)⟩
  intro k hk
  refine hl k ?_
  simp only [DataW.weights, ht]
  exact DataW.weights_mem_each (j := i) (by rw [List.getElem?_map, Array.getElem?_toList, hf]; rfl) (by rw [List.getElem?_map, hx]; rfl) k hk

theorem opens_str {t : TypeId} {n : Nat} {cs : List Value} {y : DataW H × List MemPlace} (ht : Try.prog.underlying t = some .string) (h : DataW.trod enc Try.prog w 0 spare held n t cs = some y) (hl : Light t y.1) : ∃ s : Bs, cs = [.string (bb s)] ∧ s.length ≤ 140737488351232 := by
  obtain ⟨s, e, e2, q⟩ := DataW.trod_string ht h
  refine ⟨s.data.toList, e, ?_⟩
  subst e2
  have := hl s.data.toList.length (by simp [DataW.weights])
  rw [reach_eq] at this
  exact this
theorem opens_i64 {t : TypeId} {n : Nat} {cs : List Value} {y : DataW H × List MemPlace} (ht : Try.prog.underlying t = some (.int .i64)) (h : DataW.trod enc Try.prog w 0 spare held n t cs = some y) : ∃ x : Int, cs = [.int .i64 x] ∧ -9223372036854775808 ≤ x ∧ x < 9223372036854775808 := by
  obtain ⟨x, e, _, q⟩ := DataW.trod_int ht h
  exact ⟨x, e, wf_i64 q⟩
theorem opens_bool {t : TypeId} {n : Nat} {cs : List Value} {y : DataW H × List MemPlace} (ht : Try.prog.underlying t = some .bool) (h : DataW.trod enc Try.prog w 0 spare held n t cs = some y) : ∃ x : Bool, cs = [.bool x] := by
  obtain ⟨x, e, _⟩ := DataW.trod_bool ht h
  exact ⟨x, e⟩

theorem weightsAll_mem' {P : Program} {e : TypeId} : ∀ {l : List (DataW H)} {d : DataW H}, d ∈ l → ∀ k ∈ d.weights P e, k ∈ DataW.weightsAll P e l
  | a :: l, d, hd, k, hk => by
    simp only [DataW.weightsAll, List.mem_append]
    rcases List.mem_cons.1 hd with rfl | hd
    · exact .inl hk
    · exact .inr (weightsAll_mem' hd k hk)

theorem opens_rows {α : Type} {R : World → List Value → α → Prop} {t e : TypeId} {sz N : Nat} (ht : Try.prog.underlying t = some (.slice e)) (hC : Try.prog.cellsOf e = sz) (hsz : 0 < sz)
    (hR : ∀ n cs y, DataW.trod enc Try.prog w 0 spare held n e cs = some y → Light e y.1 → (∀ x ∈ y.2, x.block < N) → ∃ x, R w cs x)
    {fuel : Nat} {cs : List Value} {x : DataW H × List MemPlace} (h : DataW.trod enc Try.prog w 0 spare held fuel t cs = some x) (hl : Light t x.1) (hlt : ∀ y ∈ x.2, y.block < N) (hN : N ≤ w.heap.size) :
    ∃ v l, cs = [v] ∧ RowsOf R (· < N) w v sz l ∧ l.length * Try.prog.bytesOf e ≤ 140737488351232 ∧ l.length ≤ maxLen := by
  rcases open_slice ht h with ⟨rfl, rfl⟩ | ⟨a, len, cap, m, n, D, Pl, rfl, hb, hlc, hm, hmm, hx, hi⟩
  · exact ⟨_, [], rfl, ⟨none, 0, rfl, fun h => absurd h (by simp)⟩, by simp, by simp⟩
  · have hlm : len ≤ m := by rw [hmm]; split <;> omega
    have hp2 : x.2 = MemPlace.row a (m * Try.prog.cellsOf e) ++ (List.range m).flatMap Pl := by rw [hx]
    have hx1 : x.1 = .slice ((List.range len).map D) ((List.range (m - len)).map fun j => D (len + j)) := by rw [hx]
    have hsum : len * Try.prog.bytesOf e ≤ 140737488351232 := by
      have := hl (((List.range len).map D).length * Try.prog.bytesOf e + ((List.range (m - len)).map fun j => D (len + j)).length * Try.prog.bytesOf e) (by rw [hx1]; simp [DataW.weights, ht, Nat.add_mul])
      rw [reach_eq] at this
      simp only [List.length_map, List.length_range] at this
      omega
    have hle : ∀ i, i < len → Light e (D i) := by
      intro i hil k hk
      refine hl k ?_
      rw [hx1]
      simp only [DataW.weights, ht, List.mem_cons, List.mem_append]
      exact .inr (.inl (weightsAll_mem' (List.mem_map.2 ⟨i, List.mem_range.2 hil, rfl⟩) k hk))
    have key : ∀ i, i < len → ∃ y : α, ∃ cs', cs'.length = sz ∧ R w cs' y ∧ (∀ f u, cs'[f]? = some u → w.cell? ((a.add (i * sz)).add f) = some u) := by
      intro i hil
      obtain ⟨cs', hc, htr⟩ := hi i (by omega)
      obtain ⟨_, hcl, hat⟩ := World.cells?_some hc
      obtain ⟨y, hy⟩ := hR n cs' _ htr (hle i hil) (fun z hz => hlt z (by rw [hp2, List.mem_append]; exact .inr (List.mem_flatMap.2 ⟨i, by simp; omega, hz⟩)))
      rw [hC] at hcl hat
      refine ⟨y, cs', hcl, hy, fun f u hu => ?_⟩
      have hf : f < sz := by rw [← hcl]; exact (List.getElem?_eq_some_iff.1 hu).1
      rw [hat f hf, hu]
    obtain ⟨l, hll, hq⟩ := list_of len _ key
    refine ⟨_, l, rfl, ⟨some a, cap, by rw [hll], fun h0 => ?_⟩, by rw [hll]; exact hsum, by omega⟩
    obtain ⟨cs0, h1, h2, h3⟩ := hq 0 h0
    have hc0 : w.cell? a = some (cs0[0]'(by omega)) := by
      have := h3 0 _ (List.getElem?_eq_getElem (by omega))
      simpa [Addr.add] using this
    have hsp : a.spot = none := by
      cases hs : a.spot with
      | none => rfl
      | some s =>
        unfold World.cell? at hc0
        split at hc0 <;> simp_all
    obtain ⟨ab, ao, asp⟩ := a
    simp only at hsp
    subst hsp
    have hlt0 : ab < N := hlt (.cell ab ao) (by
      rw [hp2, List.mem_append]
      left
      simp only [MemPlace.row, List.mem_map, List.mem_range]
      exact ⟨0, by rw [hC]; exact Nat.mul_pos (by omega) hsz, by simp⟩)
    refine ⟨ab, ao, rfl, hlt0, Nat.lt_of_lt_of_le hlt0 hN, fun i hi => ?_⟩
    obtain ⟨cs', g1, g2, g3⟩ := hq i hi
    refine ⟨cs', g1, g2, fun f u hu => ?_⟩
    have := g3 f u hu
    have e1 : ∀ (o q : Nat), (⟨ab, o, none⟩ : Addr).add q = ⟨ab, o + q, none⟩ := by intro o q; unfold Addr.add; split <;> simp_all
    rw [e1, e1, Nat.add_assoc] at this
    exact this
end

/-- Of a row's things, what is said of each, apart. -/
theorem RowsOf.part {α : Type} {R : World → List Value → α → Prop} {Q : α → Prop} {D : Nat → Prop} {w : World} {v : Value} {sz : Nat} {l : List α} (h : RowsOf (fun w cs x => R w cs x ∧ Q x) D w v sz l) : RowsOf R D w v sz l ∧ ∀ x ∈ l, Q x := by
  refine ⟨h.mono (fun _ _ h => h) (fun _ _ h => h.1), fun x hx => ?_⟩
  obtain ⟨i, hi, rfl⟩ := List.mem_iff_getElem.1 hx
  obtain ⟨p, cap, rfl, h⟩ := h
  obtain ⟨b, off, rfl, _, _, hc⟩ := h (by omega)
  obtain ⟨cs, _, h2, _⟩ := hc i hi
  exact h2.2

end Go.Proofs.Ytcjgdlfcfcabiaa

/- The elements of arguments, opened: headers. -/
namespace Go.Proofs.Ytcjgdlfcfcabiaa
open Go.RowKit

open Go.ChangeShapes Go.WideShapes Go.ChangeAt Go.Deep

theorem cells_hdr : Try.prog.cellsOf 96 = 3 := by kernel_rfl
theorem cells_blob : Try.prog.cellsOf 61 = 2 := by kernel_rfl
theorem cells_bool : Try.prog.cellsOf 4 = 1 := by kernel_rfl
section
variable {H : Type} {enc : TypeId × Value → H} {w : World} {spare : Nat → Bool} {held : Bool}
set_option maxRecDepth 100000 in
theorem blob_open : ∀ n a b y, DataW.trod enc Try.prog w 0 spare held n 61 [a, b] = some y → ∃ (nl : Bool) (d : ByteArray), a = .bool nl ∧ b = .string d ∧ d.size ≤ maxLen := by
  intro n a b y h
  obtain ⟨xs, n', _, hx, hl, hxl, hg⟩ := DataW.trod_struct Try.underlying61 h
  have g0 : DataW.trod enc Try.prog w 0 spare held n' 4 (List.take (Try.prog.cellsOf 4) (List.drop 0 [a, b])) = xs[0]? := hg 0 _ rfl
  have g1 : DataW.trod enc Try.prog w 0 spare held n' 9 (List.take (Try.prog.cellsOf 9) (List.drop 1 [a, b])) = xs[1]? := hg 1 _ rfl
  rw [cells_bool] at g0
  rw [cells_str] at g1
  obtain ⟨y0, y1, rfl⟩ := len2 hxl
  obtain ⟨x0, e0, _⟩ := DataW.trod_bool Try.underlying4 g0
  obtain ⟨x1, e1, _, q1⟩ := DataW.trod_string Try.underlying9 g1
  simp at e0 e1
  exact ⟨x0, x1, e0, e1, q1⟩
set_option maxRecDepth 100000 in
theorem rhdr_open {N : Nat} : ∀ n cs y, DataW.trod enc Try.prog w 0 spare held n 96 cs = some y → (∀ x ∈ y.2, x.block < N) → ∃ x : HdrS, RHdr cs x := by
  intro n cs y h _
  obtain ⟨xs, n', _, hx, hl, hxl, hg⟩ := DataW.trod_struct Try.underlying96 h
  rw [cells_hdr] at hl
  obtain ⟨a, b, c, rfl⟩ := len3 hl
  have g0 : DataW.trod enc Try.prog w 0 spare held n' 9 (List.take (Try.prog.cellsOf 9) (List.drop 0 [a, b, c])) = xs[0]? := hg 0 _ rfl
  have g1 : DataW.trod enc Try.prog w 0 spare held n' 61 (List.take (Try.prog.cellsOf 61) (List.drop 1 [a, b, c])) = xs[1]? := hg 1 _ rfl
  rw [cells_str] at g0
  rw [cells_blob] at g1
  obtain ⟨y0, y1, rfl⟩ := len2 hxl
  obtain ⟨x0, e0, _, q0⟩ := DataW.trod_string Try.underlying9 g0
  obtain ⟨nl, d, e1, e2, _⟩ := blob_open _ _ _ _ g1
  simp at e0
  subst e0 e1 e2
  exact ⟨⟨x0.data.toList, ⟨nl, d.data.toList⟩⟩, rfl⟩
end

end Go.Proofs.Ytcjgdlfcfcabiaa

/- The elements of arguments, opened, with their reach: headers. -/
namespace Go.Proofs.Ytcjgdlfcfcabiaa
open Go.RowKit
open Go.ChangeShapes Go.WideShapes Go.ChangeAt Go.Deep

section
variable {H : Type} {enc : TypeId × Value → H} {w : World} {spare : Nat → Bool} {held : Bool}
set_option maxRecDepth 100000 in
theorem blob_opens {N : Nat} : ∀ n cs y, DataW.trod enc Try.prog w 0 spare held n 61 cs = some y → Light 61 y.1 → (∀ x ∈ y.2, x.block < N) → ∃ x : BlobS, cs = [.bool x.null, .string (bb x.data)] ∧ x.data.length ≤ 140737488351232 := by
  intro n cs y h hl hN
  obtain ⟨hc, m, hf⟩ := opens_field Try.underlying61 h hl hN
  rw [cells_blob] at hc
  obtain ⟨a, b, rfl⟩ := len2 hc
  obtain ⟨z0, g0, l0, _⟩ := hf 0 _ rfl
  obtain ⟨z1, g1, l1, _⟩ := hf 1 _ rfl
  have g0 : DataW.trod enc Try.prog w 0 spare held m 4 (List.take (Try.prog.cellsOf 4) (List.drop 0 [a, b])) = some z0 := g0
  have g1 : DataW.trod enc Try.prog w 0 spare held m 9 (List.take (Try.prog.cellsOf 9) (List.drop 1 [a, b])) = some z1 := g1
  rw [cells_bool] at g0
  rw [cells_str] at g1
  obtain ⟨x, e0⟩ := opens_bool Try.underlying4 g0
  obtain ⟨s, e1, hs⟩ := opens_str Try.underlying9 g1 l1
  simp at e0 e1
  subst e0 e1
  exact ⟨⟨x, s⟩, rfl, hs⟩
set_option maxRecDepth 100000 in
theorem rhdr_opens {N : Nat} : ∀ n cs y, DataW.trod enc Try.prog w 0 spare held n 96 cs = some y → Light 96 y.1 → (∀ x ∈ y.2, x.block < N) → ∃ x : HdrS, RHdr cs x ∧ (x.key.length ≤ 140737488351232 ∧ x.val.data.length ≤ 140737488351232) := by
  intro n cs y h hl hN
  obtain ⟨hc, m, hf⟩ := opens_field Try.underlying96 h hl hN
  rw [cells_hdr] at hc
  obtain ⟨a, b, c, rfl⟩ := len3 hc
  obtain ⟨z0, g0, l0, n0⟩ := hf 0 _ rfl
  obtain ⟨z1, g1, l1, n1⟩ := hf 1 _ rfl
  have g0 : DataW.trod enc Try.prog w 0 spare held m 9 (List.take (Try.prog.cellsOf 9) (List.drop 0 [a, b, c])) = some z0 := g0
  have g1 : DataW.trod enc Try.prog w 0 spare held m 61 (List.take (Try.prog.cellsOf 61) (List.drop 1 [a, b, c])) = some z1 := g1
  rw [cells_str] at g0
  rw [cells_blob] at g1
  obtain ⟨s, e0, hs⟩ := opens_str Try.underlying9 g0 l0
  obtain ⟨x, e1, hx⟩ := blob_opens _ _ _ g1 l1 n1
  simp at e0 e1
  obtain ⟨e1, e2⟩ := e1
  subst e0 e1 e2
  exact ⟨⟨s, x⟩, rfl, hs, hx⟩
end

end Go.Proofs.Ytcjgdlfcfcabiaa

/- Contracts: writing a record, by the document. -/
namespace Go.Proofs.Ytcjgdlfcfcabiaa
open Go.RowKit

theorem raw7S {W0 w : World} {K : Know} {L : List Res} {b : Nat} {T : TypeId} {v0 v1 v2 v3 v4 v5 v6 : Value} (h : St W0 w K (.raw b #[v0, v1, v2, v3, v4, v5, v6] T :: L)) :
    (w.cell? ⟨b, 0, none⟩ = some v0 ∧ w.cell? ⟨b, 1, none⟩ = some v1 ∧ w.cell? ⟨b, 2, none⟩ = some v2 ∧ w.cell? ⟨b, 3, none⟩ = some v3 ∧ w.cell? ⟨b, 4, none⟩ = some v4 ∧ w.cell? ⟨b, 5, none⟩ = some v5 ∧ w.cell? ⟨b, 6, none⟩ = some v6) ∧ St W0 w K (.raw b #[v0, v1, v2, v3, v4, v5, v6] T :: L) :=
  ⟨⟨h.rawCell 0, h.rawCell 1, h.rawCell 2, h.rawCell 3, h.rawCell 4, h.rawCell 5, h.rawCell 6⟩, h⟩
theorem conv_zero {W0 w : World} {K : Know} {L : List Res} {b : Nat} {T : TypeId} (h : St W0 w K (.raw b #[.int .u8 0] T :: L)) :
    (convert 36 9 (.slice (some ⟨b, 0, none⟩) 1 1)).run Try.prog w = .ok (.string ⟨#[0]⟩) w := by
  refine run_convert_bytes_back (P := Try.prog) w 36 9 5 ⟨b, 0, none⟩ 1 [0] Try.underlying36 Try.underlying5 Try.underlying9 (fun j hj => ?_)
  have hj : j = 0 := by simp at hj; exact hj
  subst hj
  exact h.rawCell 0
end Go.Proofs.Ytcjgdlfcfcabiaa

/- Layer 7, walked: RecordEncodes. -/
namespace Go.Proofs.Ytcjgdlfcfcabiaa
open Go.RowKit

end Go.Proofs.Ytcjgdlfcfcabiaa

/- The elements of arguments, opened, with their reach: a record. -/
namespace Go.Proofs.Ytcjgdlfcfcabiaa
open Go.Joins Go.RowKit
open Go.ChangeShapes Go.WideShapes Go.ChangeAt Go.Deep

theorem cells_rec : Try.prog.cellsOf 64 = 7 := by kernel_rfl
theorem cells_hdrs : Try.prog.cellsOf 62 = 1 := by kernel_rfl
section
variable {H : Type} {enc : TypeId × Value → H} {w : World} {spare : Nat → Bool} {held : Bool}
set_option maxHeartbeats 1000000 in
set_option maxRecDepth 100000 in
theorem rec_open {r : Reach} {b0 N : Nat} {v : Value} {d : DataW H} {p : List MemPlace} (hv : Value.okWide Try.prog w r b0 64 v) (h : DataW.Trod enc Try.prog w 0 spare held 64 v d p) (hl : Light 64 d) (hN : ∀ x ∈ p, x.block < N) (hNw : N ≤ w.heap.size) :
    ∃ (x : RecS) (v6 : Value), v = .agg #[.int .i64 x.time, .int .i64 x.off, .bool x.key.null, .string (bb x.key.data), .bool x.val.null, .string (bb x.val.data), v6] ∧ x.R ∧ RowsOf (fun _ cs x => RHdr cs x) (· < N) w v6 3 x.hdrs ∧ x.hdrs.length ≤ maxLen ∧ HFit x.hdrs ∧ x.key.data.length ≤ 140737488351232 ∧ x.val.data.length ≤ 140737488351232 := by
  obtain ⟨cs, rfl, hsz⟩ := okWide_struct Try.underlying64 hv
  obtain ⟨l⟩ := cs
  match l, hsz.trans cells_rec with
  | [c0, c1, c2, c3, c4, c5, c6], _ =>
    obtain ⟨fuel, hf⟩ := h
    obtain ⟨hc, m, hg⟩ := opens_field Try.underlying64 hf hl hN
    obtain ⟨z0, g0, l0, n0⟩ := hg 0 _ rfl
    have g0 : DataW.trod enc Try.prog w 0 spare held m 3 (List.take (Try.prog.cellsOf 3) (List.drop 0 [c0, c1, c2, c3, c4, c5, c6])) = some z0 := g0
    rw [cells_int] at g0
    obtain ⟨z1, g1, l1, n1⟩ := hg 1 _ rfl
    have g1 : DataW.trod enc Try.prog w 0 spare held m 3 (List.take (Try.prog.cellsOf 3) (List.drop 1 [c0, c1, c2, c3, c4, c5, c6])) = some z1 := g1
    rw [cells_int] at g1
    obtain ⟨z2, g2, l2, n2⟩ := hg 2 _ rfl
    have g2 : DataW.trod enc Try.prog w 0 spare held m 61 (List.take (Try.prog.cellsOf 61) (List.drop 2 [c0, c1, c2, c3, c4, c5, c6])) = some z2 := g2
    rw [cells_blob] at g2
    obtain ⟨z3, g3, l3, n3⟩ := hg 3 _ rfl
    have g3 : DataW.trod enc Try.prog w 0 spare held m 61 (List.take (Try.prog.cellsOf 61) (List.drop 4 [c0, c1, c2, c3, c4, c5, c6])) = some z3 := g3
    rw [cells_blob] at g3
    obtain ⟨z4, g4, l4, n4⟩ := hg 4 _ rfl
    have g4 : DataW.trod enc Try.prog w 0 spare held m 62 (List.take (Try.prog.cellsOf 62) (List.drop 6 [c0, c1, c2, c3, c4, c5, c6])) = some z4 := g4
    rw [cells_hdrs] at g4
    obtain ⟨x0, e0, r0⟩ := opens_i64 Try.underlying3 g0
    obtain ⟨x1, e1, r1⟩ := opens_i64 Try.underlying3 g1
    obtain ⟨x2, e2, s2⟩ := blob_opens _ _ _ g2 l2 n2
    obtain ⟨x3, e3, s3⟩ := blob_opens _ _ _ g3 l3 n3
    obtain ⟨v6, x4, e4, hr, _, hm⟩ := opens_rows (R := fun w cs x => (fun _ cs x => RHdr cs x) w cs x ∧ (fun x : HdrS => x.key.length ≤ 140737488351232 ∧ x.val.data.length ≤ 140737488351232) x) (N := N) Try.underlying62 cells_hdr (by decide) rhdr_opens g4 l4 n4 hNw
    obtain ⟨hr1, hq⟩ := hr.part
    simp at e0 e1 e2 e3 e4
    obtain ⟨e2a, e2b⟩ := e2
    obtain ⟨e3a, e3b⟩ := e3
    subst e0 e1 e2a e2b e3a e3b e4
    exact ⟨⟨x0, x1, x2, x3, x4⟩, _, rfl, ⟨r0, r1⟩, hr1, hm, hq, s2, s3⟩
end
end Go.Proofs.Ytcjgdlfcfcabiaa

/- Layer 7, walked: RecordRows: what it stands on. -/
namespace Go.Proofs.Ytcjgdlfcfcabiaa
open Go.RowKit

def GoodR (l : List (RecS × Value)) : Prop := ∀ x ∈ l, smallR x.1 = 1 ∧ recOk x.1 = 0
theorem GoodR.nil : GoodR [] := fun _ h => by cases h
theorem GoodR.snoc {l : List (RecS × Value)} {k : Nat} (h : GoodR (l.take k)) (hk : k < l.length) (h1 : smallR l[k].1 = 1) (h2 : recOk l[k].1 = 0) : GoodR (l.take (k + 1)) := by
  intro x hx
  rw [List.take_succ_eq_append_getElem hk] at hx
  rcases List.mem_append.1 hx with hx | hx
  · exact h x hx
  · simp at hx; subst hx; exact ⟨h1, h2⟩
/-- What is known of records that came in. -/
def FitR (l : List (RecS × Value)) : Prop := ∀ x ∈ l, x.1.R ∧ x.1.hdrs.length ≤ 9223372036854775807 ∧ HFit x.1.hdrs ∧ x.1.key.data.length ≤ 140737488351232 ∧ x.1.val.data.length ≤ 140737488351232
theorem smallR_sum {x : RecS} (h : smallR x = 1) : x.sum ≤ 3000 := by
  unfold smallR at h
  split at h
  · cases h
  · unfold smallN at h
    split at h
    · unfold RecS.sum; omega
    · cases h
theorem smallR_one (x : RecS) (h : ¬ smallR x = 1) : smallR x = 0 := by
  unfold smallR at *
  split
  · rfl
  · rename_i h1
    rw [if_neg h1] at h
    unfold smallN at *
    split
    · rename_i h2; rw [if_pos h2] at h; exact absurd rfl h
    · rfl
theorem putRec_ok (o : Bs) (x : RecS) (h : recOk x = 0) : (⟨o, 0⟩ : OutS).putRec x = ⟨o ++ encR x, 0⟩ := by
  unfold OutS.putRec
  rw [if_pos h]
  rfl

end Go.Proofs.Ytcjgdlfcfcabiaa

/- The elements of arguments, opened, with their reach: rows of records. -/
namespace Go.Proofs.Ytcjgdlfcfcabiaa
open Go.Joins Go.RowKit
open Go.ChangeShapes Go.WideShapes Go.ChangeAt Go.Deep

/-- What is known of a record that came in. -/
def QRec (W : World) (x : RecS × Value) : Prop := RowsOf (fun _ cs x => RHdr cs x) (· < W.heap.size) W x.2 3 x.1.hdrs ∧ x.1.R ∧ x.1.hdrs.length ≤ 9223372036854775807 ∧ HFit x.1.hdrs ∧ x.1.key.data.length ≤ 140737488351232 ∧ x.1.val.data.length ≤ 140737488351232
theorem QRec.fit {W : World} {l : List (RecS × Value)} (h : ∀ x ∈ l, QRec W x) : FitR l := fun x hx => (h x hx).2
theorem QRec.start {W : World} {v : Value} {l : List (RecS × Value)} (hr : RowsOf (fun _ cs x => RRec cs x) (· < W.heap.size) W v 7 l) (h : ∀ x ∈ l, QRec W x) : St W W (Know.recs v l) [] := St.start ⟨hr, fun x hx => (h x hx).1⟩
section
variable {H : Type} {enc : TypeId × Value → H} {w : World} {spare : Nat → Bool} {held : Bool}
set_option maxHeartbeats 1000000 in
set_option maxRecDepth 100000 in
theorem rrec_opens : ∀ n cs y, DataW.trod enc Try.prog w 0 spare held n 64 cs = some y → Light 64 y.1 → (∀ x ∈ y.2, x.block < w.heap.size) → ∃ x : RecS × Value, RRec cs x ∧ QRec w x := by
  intro n cs y hf hl hN
  have hNw : w.heap.size ≤ w.heap.size := Nat.le_refl _
  obtain ⟨hc, m, hg⟩ := opens_field Try.underlying64 hf hl hN
  rw [cells_rec] at hc
  match cs, hc with
  | [c0, c1, c2, c3, c4, c5, c6], _ =>
    obtain ⟨z0, g0, l0, n0⟩ := hg 0 _ rfl
    have g0 : DataW.trod enc Try.prog w 0 spare held m 3 (List.take (Try.prog.cellsOf 3) (List.drop 0 [c0, c1, c2, c3, c4, c5, c6])) = some z0 := g0
    rw [cells_int] at g0
    obtain ⟨z1, g1, l1, n1⟩ := hg 1 _ rfl
    have g1 : DataW.trod enc Try.prog w 0 spare held m 3 (List.take (Try.prog.cellsOf 3) (List.drop 1 [c0, c1, c2, c3, c4, c5, c6])) = some z1 := g1
    rw [cells_int] at g1
    obtain ⟨z2, g2, l2, n2⟩ := hg 2 _ rfl
    have g2 : DataW.trod enc Try.prog w 0 spare held m 61 (List.take (Try.prog.cellsOf 61) (List.drop 2 [c0, c1, c2, c3, c4, c5, c6])) = some z2 := g2
    rw [cells_blob] at g2
    obtain ⟨z3, g3, l3, n3⟩ := hg 3 _ rfl
    have g3 : DataW.trod enc Try.prog w 0 spare held m 61 (List.take (Try.prog.cellsOf 61) (List.drop 4 [c0, c1, c2, c3, c4, c5, c6])) = some z3 := g3
    rw [cells_blob] at g3
    obtain ⟨z4, g4, l4, n4⟩ := hg 4 _ rfl
    have g4 : DataW.trod enc Try.prog w 0 spare held m 62 (List.take (Try.prog.cellsOf 62) (List.drop 6 [c0, c1, c2, c3, c4, c5, c6])) = some z4 := g4
    rw [cells_hdrs] at g4
    obtain ⟨x0, e0, r0⟩ := opens_i64 Try.underlying3 g0
    obtain ⟨x1, e1, r1⟩ := opens_i64 Try.underlying3 g1
    obtain ⟨x2, e2, s2⟩ := blob_opens _ _ _ g2 l2 n2
    obtain ⟨x3, e3, s3⟩ := blob_opens _ _ _ g3 l3 n3
    obtain ⟨v6, x4, e4, hr, _, hm⟩ := opens_rows (R := fun w cs x => (fun _ cs x => RHdr cs x) w cs x ∧ (fun x : HdrS => x.key.length ≤ 140737488351232 ∧ x.val.data.length ≤ 140737488351232) x) (N := w.heap.size) Try.underlying62 cells_hdr (by decide) rhdr_opens g4 l4 n4 hNw
    obtain ⟨hr1, hq⟩ := hr.part
    simp at e0 e1 e2 e3 e4
    obtain ⟨e2a, e2b⟩ := e2
    obtain ⟨e3a, e3b⟩ := e3
    subst e0 e1 e2a e2b e3a e3b e4
    have hm2 : x4.length ≤ 9223372036854775807 := hm
    exact ⟨(⟨x0, x1, x2, x3, x4⟩, _), rfl, hr1, ⟨r0, r1⟩, hm2, hq, s2, s3⟩
end
end Go.Proofs.Ytcjgdlfcfcabiaa

/- The elements of arguments, opened, with their reach: a batch. -/
namespace Go.Proofs.Ytcjgdlfcfcabiaa
open Go.Joins Go.RowKit
open Go.ChangeShapes Go.WideShapes Go.ChangeAt Go.Deep

theorem cells_bat : Try.prog.cellsOf 32 = 12 := by kernel_rfl
theorem cells_recs : Try.prog.cellsOf 30 = 1 := by kernel_rfl
section
variable {H : Type} {enc : TypeId × Value → H} {w : World} {spare : Nat → Bool} {held : Bool}
set_option maxHeartbeats 2000000 in
set_option maxRecDepth 100000 in
theorem bat_opens : ∀ n cs y, DataW.trod enc Try.prog w 0 spare held n 32 cs = some y → Light 32 y.1 → (∀ x ∈ y.2, x.block < w.heap.size) →
    ∃ (base leader : Int) (app txn ctl : Bool) (last first maxt prod epoch sq : Int) (l : List (RecS × Value)) (rv : Value), cs = [.int .i64 base, .int .i64 leader, .bool app, .bool txn, .bool ctl, .int .i64 last, .int .i64 first, .int .i64 maxt, .int .i64 prod, .int .i64 epoch, .int .i64 sq, rv] ∧
      BatS.R ⟨base, leader, app, txn, ctl, last, first, maxt, prod, epoch, sq, l.map (·.1)⟩ ∧ RowsOf (fun _ cs x => RRec cs x) (· < w.heap.size) w rv 7 l ∧ (∀ x ∈ l, QRec w x) := by
  intro n cs y hf hl hN
  obtain ⟨hc, m, hg⟩ := opens_field Try.underlying32 hf hl hN
  rw [cells_bat] at hc
  match cs, hc with
  | [c0, c1, c2, c3, c4, c5, c6, c7, c8, c9, c10, c11], _ =>
    obtain ⟨z0, g0, l0, n0⟩ := hg 0 _ rfl
    have g0 : DataW.trod enc Try.prog w 0 spare held m 3 (List.take (Try.prog.cellsOf 3) (List.drop 0 [c0, c1, c2, c3, c4, c5, c6, c7, c8, c9, c10, c11])) = some z0 := g0
    rw [cells_int] at g0
    obtain ⟨z1, g1, l1, n1⟩ := hg 1 _ rfl
    have g1 : DataW.trod enc Try.prog w 0 spare held m 3 (List.take (Try.prog.cellsOf 3) (List.drop 1 [c0, c1, c2, c3, c4, c5, c6, c7, c8, c9, c10, c11])) = some z1 := g1
    rw [cells_int] at g1
    obtain ⟨z2, g2, l2, n2⟩ := hg 2 _ rfl
    have g2 : DataW.trod enc Try.prog w 0 spare held m 4 (List.take (Try.prog.cellsOf 4) (List.drop 2 [c0, c1, c2, c3, c4, c5, c6, c7, c8, c9, c10, c11])) = some z2 := g2
    rw [cells_bool] at g2
    obtain ⟨z3, g3, l3, n3⟩ := hg 3 _ rfl
    have g3 : DataW.trod enc Try.prog w 0 spare held m 4 (List.take (Try.prog.cellsOf 4) (List.drop 3 [c0, c1, c2, c3, c4, c5, c6, c7, c8, c9, c10, c11])) = some z3 := g3
    rw [cells_bool] at g3
    obtain ⟨z4, g4, l4, n4⟩ := hg 4 _ rfl
    have g4 : DataW.trod enc Try.prog w 0 spare held m 4 (List.take (Try.prog.cellsOf 4) (List.drop 4 [c0, c1, c2, c3, c4, c5, c6, c7, c8, c9, c10, c11])) = some z4 := g4
    rw [cells_bool] at g4
    obtain ⟨z5, g5, l5, n5⟩ := hg 5 _ rfl
    have g5 : DataW.trod enc Try.prog w 0 spare held m 3 (List.take (Try.prog.cellsOf 3) (List.drop 5 [c0, c1, c2, c3, c4, c5, c6, c7, c8, c9, c10, c11])) = some z5 := g5
    rw [cells_int] at g5
    obtain ⟨z6, g6, l6, n6⟩ := hg 6 _ rfl
    have g6 : DataW.trod enc Try.prog w 0 spare held m 3 (List.take (Try.prog.cellsOf 3) (List.drop 6 [c0, c1, c2, c3, c4, c5, c6, c7, c8, c9, c10, c11])) = some z6 := g6
    rw [cells_int] at g6
    obtain ⟨z7, g7, l7, n7⟩ := hg 7 _ rfl
    have g7 : DataW.trod enc Try.prog w 0 spare held m 3 (List.take (Try.prog.cellsOf 3) (List.drop 7 [c0, c1, c2, c3, c4, c5, c6, c7, c8, c9, c10, c11])) = some z7 := g7
    rw [cells_int] at g7
    obtain ⟨z8, g8, l8, n8⟩ := hg 8 _ rfl
    have g8 : DataW.trod enc Try.prog w 0 spare held m 3 (List.take (Try.prog.cellsOf 3) (List.drop 8 [c0, c1, c2, c3, c4, c5, c6, c7, c8, c9, c10, c11])) = some z8 := g8
    rw [cells_int] at g8
    obtain ⟨z9, g9, l9, n9⟩ := hg 9 _ rfl
    have g9 : DataW.trod enc Try.prog w 0 spare held m 3 (List.take (Try.prog.cellsOf 3) (List.drop 9 [c0, c1, c2, c3, c4, c5, c6, c7, c8, c9, c10, c11])) = some z9 := g9
    rw [cells_int] at g9
    obtain ⟨z10, g10, l10, n10⟩ := hg 10 _ rfl
    have g10 : DataW.trod enc Try.prog w 0 spare held m 3 (List.take (Try.prog.cellsOf 3) (List.drop 10 [c0, c1, c2, c3, c4, c5, c6, c7, c8, c9, c10, c11])) = some z10 := g10
    rw [cells_int] at g10
    obtain ⟨z11, g11, l11, n11⟩ := hg 11 _ rfl
    have g11 : DataW.trod enc Try.prog w 0 spare held m 30 (List.take (Try.prog.cellsOf 30) (List.drop 11 [c0, c1, c2, c3, c4, c5, c6, c7, c8, c9, c10, c11])) = some z11 := g11
    rw [cells_recs] at g11
    obtain ⟨x0, e0, r0⟩ := opens_i64 Try.underlying3 g0
    obtain ⟨x1, e1, r1⟩ := opens_i64 Try.underlying3 g1
    obtain ⟨x2, e2⟩ := opens_bool Try.underlying4 g2
    obtain ⟨x3, e3⟩ := opens_bool Try.underlying4 g3
    obtain ⟨x4, e4⟩ := opens_bool Try.underlying4 g4
    obtain ⟨x5, e5, r5⟩ := opens_i64 Try.underlying3 g5
    obtain ⟨x6, e6, r6⟩ := opens_i64 Try.underlying3 g6
    obtain ⟨x7, e7, r7⟩ := opens_i64 Try.underlying3 g7
    obtain ⟨x8, e8, r8⟩ := opens_i64 Try.underlying3 g8
    obtain ⟨x9, e9, r9⟩ := opens_i64 Try.underlying3 g9
    obtain ⟨x10, e10, r10⟩ := opens_i64 Try.underlying3 g10
    obtain ⟨v11, x11, e11, hrq, _, _⟩ := opens_rows (R := fun w' cs x => (fun _ cs x => RRec cs x) w' cs x ∧ QRec w x) (N := w.heap.size) Try.underlying30 cells_rec (by decide) rrec_opens g11 l11 n11 (Nat.le_refl _)
    obtain ⟨hr, hq⟩ := hrq.part
    simp at e0 e1 e2 e3 e4 e5 e6 e7 e8 e9 e10 e11
    subst e0 e1 e2 e3 e4 e5 e6 e7 e8 e9 e10 e11
    exact ⟨x0, x1, x2, x3, x4, x5, x6, x7, x8, x9, x10, x11, _, rfl, ⟨r0, r1, r5, r6, r7, r8, r9, r10⟩, hr, hq⟩
set_option maxHeartbeats 2000000 in
set_option maxRecDepth 100000 in
theorem bat_open {r : Reach} {b0 : Nat} {v : Value} {d : DataW H} {p : List MemPlace} (hv : Value.okWide Try.prog w r b0 32 v) (h : DataW.Trod enc Try.prog w 0 spare held 32 v d p) (hl : Light 32 d) (hN : ∀ x ∈ p, x.block < w.heap.size) :
    ∃ (base leader : Int) (app txn ctl : Bool) (last first maxt prod epoch sq : Int) (l : List (RecS × Value)) (q : Option Addr) (cap : Nat), v = .agg #[.int .i64 base, .int .i64 leader, .bool app, .bool txn, .bool ctl, .int .i64 last, .int .i64 first, .int .i64 maxt, .int .i64 prod, .int .i64 epoch, .int .i64 sq, .slice q l.length cap] ∧
      BatS.R ⟨base, leader, app, txn, ctl, last, first, maxt, prod, epoch, sq, l.map (·.1)⟩ ∧ FitW l ∧ St w w (Know.recs (.slice q l.length cap) l) [] := by
  obtain ⟨cs, rfl, hsz⟩ := okWide_struct Try.underlying32 hv
  obtain ⟨fuel, hf⟩ := h
  obtain ⟨base, leader, app, txn, ctl, last, first, maxt, prod, epoch, sq, l, rv, e, hR, hr, hq⟩ := bat_opens _ _ _ hf hl hN
  obtain ⟨c⟩ := cs
  have e : c = _ := e
  subst e
  obtain ⟨q, cap, hrv⟩ : ∃ q cap, rv = .slice q l.length cap := by obtain ⟨p, cap, hv, _⟩ := hr; exact ⟨p, cap, hv⟩
  subst hrv
  exact ⟨_, _, _, _, _, _, _, _, _, _, _, l, q, cap, rfl, hR, fun x hx => (hq x hx).2, QRec.start hr hq⟩
end
end Go.Proofs.Ytcjgdlfcfcabiaa

/- The elements of arguments, opened: rows of batches. -/
namespace Go.Proofs.Ytcjgdlfcfcabiaa
open Go.RowKit

/-- What is known of a batch that came in. -/
def QBat (W : World) (x : BatR) : Prop := (RowsOf (fun _ cs x => RRec cs x) (· < W.heap.size) W (.slice x.q x.l.length x.cap) 7 x.l ∧ ∀ y ∈ x.l, QRec W y) ∧ x.Fit
theorem QBat.fit {W : World} {l : List BatR} (h : ∀ x ∈ l, QBat W x) : ∀ x ∈ l, x.Fit := fun x hx => (h x hx).2
theorem QBat.start {W : World} {v : Value} {l : List BatR} (hr : RowsOf (fun _ cs x => RBat cs x) (· < W.heap.size) W v 12 l) (h : ∀ x ∈ l, QBat W x) : St W W (Know.bats v l) [] := St.start ⟨hr, fun x hx => ⟨(h x hx).1.1, fun y hy => ((h x hx).1.2 y hy).1⟩⟩
section
variable {H : Type} {enc : TypeId × Value → H} {w : World} {spare : Nat → Bool} {held : Bool}
theorem rbat_opens : ∀ n cs y, DataW.trod enc Try.prog w 0 spare held n 32 cs = some y → Light 32 y.1 → (∀ x ∈ y.2, x.block < w.heap.size) → ∃ x : BatR, RBat cs x ∧ QBat w x := by
  intro n cs y hf hl hN
  obtain ⟨base, leader, app, txn, ctl, last, first, maxt, prod, epoch, sq, l, rv, e, hR, hr, hq⟩ := bat_opens n cs y hf hl hN
  obtain ⟨q, cap, hrv⟩ : ∃ q cap, rv = .slice q l.length cap := by obtain ⟨p, cap, hv, _⟩ := hr; exact ⟨p, cap, hv⟩
  subst hrv
  exact ⟨⟨⟨base, leader, app, txn, ctl, last, first, maxt, prod, epoch, sq, l.map (·.1)⟩, l, q, cap⟩, e, ⟨hr, hq⟩, hR, fun x hx => (hq x hx).2, rfl⟩
end

end Go.Proofs.Ytcjgdlfcfcabiaa

/- Layer 11, walked: BatchRows, any. -/
namespace Go.Proofs.Ytcjgdlfcfcabiaa
open Go.RowKit

theorem batchRows_any (l : List BatR) (v : Value) (w : World) (hf : ∀ x ∈ l, x.Fit) (h : St w w (Know.bats v l) []) :
    Calls Try.prog 9 #[v] w fun en w' => en = .returned (.bool true) ∧ Below w.heap.size w w' := by
  obtain ⟨F, hF, _⟩ := h.get
  obtain ⟨q, cap, hv, _⟩ := (bats_flat (Know.has_refl (Know.bats v l)) _ _ hF).at
  subst hv
  by_cases hl : 8 < l.length
  · exact batchRows_long l q cap hl (Know.has_refl _) h
  · exact batchRows_main l q cap hf (by omega) (Know.has_refl _) h

end Go.Proofs.Ytcjgdlfcfcabiaa

/- Batches, one behind the other, are read again, one behind the other, and two are one just if all of their fields are: proved of every row of batches. -/
namespace Go.Proofs.Ytcjgdlfcfcabiaa
open Go.ChangeShapes Go.WideShapes Go.ChangeAt Go.ChangeMaps Go.RowKit

set_option maxRecDepth 100000 in
theorem batchRows_lifted (os : Os) (started : os.Started) (H : Type) (enc : TypeId × Value → H) :
    ReturnsInHanded {} Try.checked os 9 .any (Rows.batchRowsSpec.pre6 enc Try.prog Try.f9 Rows.batchRowsRow.domain false) (Rows.batchRowsSpec.post enc Try.prog Try.f9 false true false false) := by
  refine returnsInHanded_of_change_sized (C := Try.checked) Try.own started (by as_aux_lemma => kernel_rfl) Try.func9
    (ChangeSpec.witness6 (enc := enc) (C := Try.checked) false ⟨#[], #[.slice none 0 0], []⟩ 8 (by as_aux_lemma => kernel_rfl) (by as_aux_lemma => kernel_rfl) (by as_aux_lemma => kernel_rfl) (by as_aux_lemma => kernel_rfl)) ?_
  intro W base args ds gs before hval0 hW hcnd hsz0 _
  have hval : ∀ (j : Nat) t v, Try.f9.params[j]? = some t → args[j]? = some v → Value.okWide Try.prog W .any base t v := hval0
  clear hval0
  refine law_contract (n := 1) (tb := 4) rfl rfl rfl Try.underlying4 (by intro ds h; match ds, h with | [d0], _ => rfl) (by as_aux_lemma => kernel_rfl) hW ?_
  intro p hA0 hlt
  have hA : DataW.TrodAll enc Try.prog W 0 (fun _ => true) true Try.f9.params.toList args.toList ds p := hA0
  clear hA0
  rw [Try.params9] at hA hval
  obtain ⟨v0, d0, rfl, rfl, h0⟩ := trodAll_one hA
  have hsz : (DataW.weightsEach Try.prog (Try.f9.params.toList ++ Rows.batchRowsSpec.plain.varTypes Try.prog) ([d0] ++ gs)).all (· ≤ reachBytes) = true := hsz0
  rw [Try.params9] at hsz
  obtain ⟨c0, e0, k0, rfl⟩ := okWide_slice Try.underlying69 (hval 0 69 v0 rfl rfl)
  have lg0 : Light 69 d0 := light_arg hsz (j := 0) rfl rfl
  obtain ⟨fuel0, hf0⟩ := h0
  obtain ⟨w0, l0, hw0, hrq0, hbl0, hl0⟩ := opens_rows (R := fun w cs x => (fun _ cs x => RBat cs x) w cs x ∧ QBat W x) (N := W.heap.size) Try.underlying69 cells_bat (by decide) rbat_opens hf0 lg0 (fun y hy => hlt y (by simp [hy])) (Nat.le_refl _)
  obtain ⟨hr0, hq0⟩ := hrq0.part
  obtain rfl : w0 = Value.slice c0 e0 k0 := by simpa [Value.cells] using hw0.symm
  exact batchRows_any l0 _ W (QBat.fit hq0) (QBat.start hr0 hq0)

theorem batchRows_holds : Rows.BatchRowsSaid :=
  OpenClaim.holds_of_wide 9 Try.f9 rfl rfl rfl rfl rfl rfl rfl ⟨rfl, rfl, rfl, rfl, rfl⟩ rfl rfl rfl rfl rfl (by as_aux_lemma => kernel_rfl) Try.func9 (by as_aux_lemma => kernel_rfl)
    (of_decide_eq_true (by as_aux_lemma => kernel_rfl)) (by as_aux_lemma => (unfold Func.isWrapper; rw [if_neg (by as_aux_lemma => decide +kernel)]; exact ⟨rfl, rfl⟩))
    (fun os started H enc _ => batchRows_lifted os started H enc)

end Go.Proofs.Ytcjgdlfcfcabiaa
