/- Layer 7, walked: RecordRows. -/
import Derived.Test.YtkenneeejdngaaaL07R
import Derived.Test.YtkenneeejdngaaaSel
import Derived.Deep.RegionHeld3
import Derived.Deep.DeepCutAuto
namespace Go.Proofs.Ytkenneeejdngaaa
open Go.RowKit

set_option maxHeartbeats 1000000 in
set_option maxRecDepth 100000 in
theorem recordRows_main (l : List (RecS × Value)) (q : Option Addr) (cap : Nat) (hf : FitR l) (hl : l.length ≤ 20) {W0 w : World} {K : Know} (hk : K.has (Know.recs (.slice q l.length cap) l)) (h : St W0 w K []) :
    Calls Try.prog 10 #[.slice q l.length cap] w fun en w' => en = .returned (.bool true) ∧ Below W0.heap.size W0 w' := by
  have H := Lib.hid h
  have HK := Lib.hid hk
  have HFT := Lib.hid hf
  have hlen : decide ((20 : Int) < (l.length : Int)) = false := decide_eq_false (by omega)
  clear h hk hf
  go_enter Try.func10, Try.ntmps10
  go_wp2_with ((go_at_call 34; refine (speaks07 H.out).mono ?_; rintro e wn ⟨rfl, h⟩; obtain ⟨po, hpo⟩ : ∃ b, wn.heap.size = b := ⟨_, rfl⟩; have h := h.allocOut; rw [hpo] at h; replace H := Lib.hid h; clear h))
  go_loopw [5, 19] (fun _ iv wr => ∃ k : Nat, k ≤ l.length ∧ iv = .int .i64 k ∧ GoodR (l.take k) ∧ St W0 wr K [.out po ⟨encAll (l.take k), 0⟩]) (fun _ iv _ => l.length - (intOf iv).toNat)
  case atStart => exact ⟨0, Nat.zero_le _, rfl, GoodR.nil, H.out⟩
  case round =>
    obtain ⟨k, hkl, rfl, hgd, hst⟩ := hrel
    have HG := Lib.hid hgd
    clear H hgd
    have H := Lib.hid hst
    clear hst
    by_cases hlt : k < l.length
    · have HOK := Lib.hid (show (encAll (l.take k)).length ≤ 4000000 by
        have h1 := encAll_le (l.take k) (fun y hy => encR_le y.1 (HFT.out y (List.mem_of_mem_take hy)).1 (smallR_sum (HG.out y hy).1))
        rw [List.length_take] at h1
        omega)
      obtain ⟨b, off, hqq⟩ := recs_at HK.out H.out (by omega)
      subst hqq
      obtain ⟨⟨x, vx⟩, hx⟩ : ∃ x, l[k] = x := ⟨_, rfl⟩
      have cc := recs_cell HK.out H.out k hlt (x, vx) hx
      have hmem : (x, vx) ∈ l := hx ▸ List.getElem_mem hlt
      have xf : x.R ∧ x.hdrs.length ≤ 9223372036854775807 ∧ HFit x.hdrs ∧ x.key.data.length ≤ 140737488351232 ∧ x.val.data.length ≤ 140737488351232 := HFT.out (x, vx) hmem
      have xk : K.has (Know.flat RHdr vx 3 x.hdrs) := recs_hdrs HK.out hmem
      obtain ⟨qx, capx, hvx⟩ := flat_form xk H.out
      subst hvx
      simp only at cc
      obtain ⟨c0, c1, c2, c3, c4, c5, c6⟩ := cc
      rw [← Nat.add_assoc] at c1 c2 c3 c4 c5 c6
      have hx1 : l[k].1 = x := by rw [hx]
      have XF := Lib.hid xf
      have XK := Lib.hid xk
      have HX := Lib.hid hx1
      clear xf xk hx1
      obtain ⟨wE, hwE⟩ : ∃ b, wr.heap.size = b := ⟨_, rfl⟩
      have hki : (k : Int) < (l.length : Int) := by omega
      have h := H.out.allocRaw #[.int .i64 x.time, .int .i64 x.off, .bool x.key.null, .string (bb x.key.data), .bool x.val.null, .string (bb x.val.data), .slice qx x.hdrs.length capx] 62
      rw [hwE] at h
      clear H
      have H := Lib.hid h
      clear h hx hmem
      obtain ⟨ec0, ec1, ec2, ec3, ec4, ec5, ec6, ef0, ef1, ef2, ef3, ef4, ef5, ef6⟩ := raw7 (b := wE) (H.out)
      by_cases hs : smallR x = 1
      · have ES := Lib.hid hs
        by_cases he : recOk x = 0
        · have ER := Lib.hid he
          have XS := Lib.hid (show x.sum ≤ 1000000 by have := smallR_sum hs; omega)
          have EO := Lib.hid (show (⟨encAll (l.take k), 0⟩ : OutS).putRec x = ⟨encAll (l.take (k + 1)), 0⟩ by rw [putRec_ok _ _ he, encAll_take l k hlt, HX.out])
          have OK := Lib.hid (show (⟨encAll (l.take k), 0⟩ : OutS).ok 40000000 by have := HOK.out; unfold OutS.ok; simp only; omega)
          have HG2 := Lib.hid (HG.out.snoc hlt (by rw [HX.out]; exact hs) (by rw [HX.out]; exact he))
          clear hs he
          go_wp2_with (first
            | (go_at_call 35; refine (l07_small x (.slice qx x.hdrs.length capx) XF.out.2.1 XF.out.2.2.1 XF.out.2.2.2.1 XF.out.2.2.2.2 XK.out H.out).mono ?_; rw [ES.out]; rintro e wn ⟨rfl, h⟩; replace H := Lib.hid h; clear h; obtain ⟨ec0, ec1, ec2, ec3, ec4, ec5, ec6, ef0, ef1, ef2, ef3, ef4, ef5, ef6⟩ := raw7 (b := wE) (H.out))
            | (go_at_call 37; refine (ref07_right x (.slice qx x.hdrs.length capx) 0 ER.out XF.out.2.1 XK.out H.out).mono ?_; rintro e wn ⟨rfl, h⟩; replace H := Lib.hid h; clear h; obtain ⟨ec0, ec1, ec2, ec3, ec4, ec5, ec6, ef0, ef1, ef2, ef3, ef4, ef5, ef6⟩ := raw7 (b := wE) (H.out))
            | (go_at_call 45; refine (rec_write po _ _ x (.slice qx x.hdrs.length capx) XF.out.1 XS.out EO.out OK.out XK.out H.out.p1).mono ?_; rintro e wn ⟨rfl, h⟩; replace H := Lib.hid h; clear h))
          go_roundw
          case rel => exact ⟨k + 1, hlt, by go_num, HG2.out, H.out.p1.drop⟩
          case measure => first | (simp [intOf]; done) | (simp [intOf]; omega)
        · obtain ⟨e, hee⟩ : ∃ e, recOk x = e := ⟨_, rfl⟩
          have ER := Lib.hid hee
          have hb : (e != 0) = true := bne_iff_ne.2 (hee ▸ he)
          clear hs he hee
          go_wp2_with (first
            | (go_at_call 35; refine (l07_small x (.slice qx x.hdrs.length capx) XF.out.2.1 XF.out.2.2.1 XF.out.2.2.2.1 XF.out.2.2.2.2 XK.out H.out).mono ?_; rw [ES.out]; rintro e wn ⟨rfl, h⟩; replace H := Lib.hid h; clear h; obtain ⟨ec0, ec1, ec2, ec3, ec4, ec5, ec6, ef0, ef1, ef2, ef3, ef4, ef5, ef6⟩ := raw7 (b := wE) (H.out))
            | (go_at_call 37; refine (ref07_right x (.slice qx x.hdrs.length capx) e ER.out XF.out.2.1 XK.out H.out).mono ?_; rintro e wn ⟨rfl, h⟩; replace H := Lib.hid h; clear h; obtain ⟨ec0, ec1, ec2, ec3, ec4, ec5, ec6, ef0, ef1, ef2, ef3, ef4, ef5, ef6⟩ := raw7 (b := wE) (H.out)))
          go_ret
          exact ⟨rfl, H.out.below⟩
      · have ES := Lib.hid (smallR_one x hs)
        clear hs
        go_wp2_with ((go_at_call 35; refine (l07_small x (.slice qx x.hdrs.length capx) XF.out.2.1 XF.out.2.2.1 XF.out.2.2.2.1 XF.out.2.2.2.2 XK.out H.out).mono ?_; rw [ES.out]; rintro e wn ⟨rfl, h⟩; replace H := Lib.hid h; clear h; obtain ⟨ec0, ec1, ec2, ec3, ec4, ec5, ec6, ef0, ef1, ef2, ef3, ef4, ef5, ef6⟩ := raw7 (b := wE) (H.out)))
        go_ret
        exact ⟨rfl, H.out.below⟩
    · obtain rfl : k = l.length := by omega
      have HG := Lib.hid (show GoodR l from by have := HG.out; rwa [List.take_length] at this)
      obtain ⟨s, hs⟩ : ∃ s, encAll l = s := ⟨_, rfl⟩
      have h := H.out
      rw [List.take_length, hs] at h
      clear H
      have H := Lib.hid h
      clear h
      have HSS := Lib.hid hs
      have ET := Lib.hid (show (⟨s, 0⟩ : OutS).text = (s, 0) from rfl)
      have HSL := Lib.hid (show s.length ≤ 140737488355328 by
        have h1 := encAll_le l (fun y hy => encR_le y.1 (HFT.out y hy).1 (smallR_sum (HG.out y hy).1))
        rw [hs] at h1
        omega)
      clear hs
      go_wp2_with (first
        | (go_at_call 23; refine (so_text po _ H.out).mono ?_; rw [ET.out]; rintro e wn ⟨rfl, h⟩; replace H := Lib.hid h; clear h)
        | (go_at_call 25; refine (s_new s HSL.out H.out).mono ?_; rintro e wn ⟨bi, rfl, h⟩; replace H := Lib.hid h.p1.drop; clear h))
      go_loopw [9, 10, 11, 42] (fun _ _ _ iv wr => ∃ k : Nat, k ≤ l.length ∧ iv = .int .i64 k ∧ St W0 wr K [.inp bi ⟨s, (encAll (l.take k)).length, 0⟩]) (fun _ _ _ iv _ => l.length - (intOf iv).toNat)
      case atStart => exact ⟨0, Nat.zero_le _, rfl, H.out⟩
      case round =>
        obtain ⟨k, hkl2, rfl, hst⟩ := hrel
        clear H
        have H := Lib.hid hst
        clear hst
        by_cases hlt : k < l.length
        · have hgk := HG.out l[k] (List.getElem_mem hlt)
          have hfk := HFT.out l[k] (List.getElem_mem hlt)
          have hnx := record_next l k hlt hfk.1 hgk.2 (by have := smallR_sum hgk.1; omega)
          obtain ⟨b, off, hqq⟩ := recs_at HK.out H.out (by omega)
          subst hqq
          obtain ⟨⟨x, vx⟩, hx⟩ : ∃ x, l[k] = x := ⟨_, rfl⟩
          have cc := recs_cell HK.out H.out k hlt (x, vx) hx
          have hmem : (x, vx) ∈ l := hx ▸ List.getElem_mem hlt
          have xf : x.R ∧ x.hdrs.length ≤ 9223372036854775807 ∧ HFit x.hdrs ∧ x.key.data.length ≤ 140737488351232 ∧ x.val.data.length ≤ 140737488351232 := HFT.out (x, vx) hmem
          have xk : K.has (Know.flat RHdr vx 3 x.hdrs) := recs_hdrs HK.out hmem
          obtain ⟨qx, capx, hvx⟩ := flat_form xk H.out
          subst hvx
          simp only at cc
          obtain ⟨c0, c1, c2, c3, c4, c5, c6⟩ := cc
          rw [← Nat.add_assoc] at c1 c2 c3 c4 c5 c6
          have hx1 : l[k].1 = x := by rw [hx]
          have XF := Lib.hid xf
          have XK := Lib.hid xk
          have HX := Lib.hid hx1
          clear xf xk hx1
          obtain ⟨wE, hwE⟩ : ∃ b, wr.heap.size = b := ⟨_, rfl⟩
          have hki : (k : Int) < (l.length : Int) := by omega
          rw [HSS.out, HX.out] at hnx
          have NX := Lib.hid hnx
          clear hgk hfk hnx
          obtain ⟨⟨z, vz⟩, hz⟩ : ∃ x, l[0]'(by omega) = x := ⟨_, rfl⟩
          have dd := recs_cell HK.out H.out 0 (by omega) (z, vz) hz
          have hmz : (z, vz) ∈ l := hz ▸ List.getElem_mem (by omega)
          have zf : z.R ∧ z.hdrs.length ≤ 9223372036854775807 ∧ HFit z.hdrs ∧ z.key.data.length ≤ 140737488351232 ∧ z.val.data.length ≤ 140737488351232 := HFT.out (z, vz) hmz
          have zk : K.has (Know.flat RHdr vz 3 z.hdrs) := recs_hdrs HK.out hmz
          obtain ⟨qz, capz, hvz⟩ := flat_form zk H.out
          subst hvz
          have ZF := Lib.hid zf
          have ZK := Lib.hid zk
          obtain ⟨b0, hb0⟩ : ∃ b0, decide (x = z) = b0 := ⟨_, rfl⟩
          have HB := Lib.hid hb0
          have HZ := Lib.hid hz
          have HXX := Lib.hid hx
          have h := (H.out.allocRaw #[.int .i64 x.time, .int .i64 x.off, .bool x.key.null, .string (bb x.key.data), .bool x.val.null, .string (bb x.val.data), .slice qx x.hdrs.length capx] 62).p1
          rw [hwE] at h
          clear H
          have H := Lib.hid h
          have hl0 : (0 : Int) < (l.length : Int) := by omega
          have hl1 : 0 < l.length := by omega
          have hk0 : (0 : Int) ≤ (k : Int) := by omega
          clear h hx hmem hz hmz zf zk hb0 dd
          go_wp2_with ((go_at_call 43; refine (rec_readQ bi _ x ⟨s, (encAll (l.take (k + 1))).length, 0⟩ NX.out H.out).mono ?_; rintro e wn ⟨v1, rfl, h⟩; obtain ⟨q1, c1, hv1⟩ := flat_form (Know.has_right (Know.has_refl _)) h; subst hv1; obtain ⟨wX, hwX⟩ : ∃ b, wn.heap.size = b := ⟨_, rfl⟩; have h := h.allocRaw #[.int .i64 x.time, .int .i64 x.off, .bool x.key.null, .string (bb x.key.data), .bool x.val.null, .string (bb x.val.data), .slice q1 x.hdrs.length c1] 62; rw [hwX] at h; replace H := Lib.hid h; clear h))
          have hs := H.out.drew
          have hkeep : ∀ w', St W0 w' (K.and (Know.flat RHdr (.slice q1 x.hdrs.length c1) 3 x.hdrs)) [.raw wX #[.int .i64 x.time, .int .i64 x.off, .bool x.key.null, .string (bb x.key.data), .bool x.val.null, .string (bb x.val.data), .slice q1 x.hdrs.length c1] 62, .inp bi ⟨s, (encAll (l.take (k + 1))).length, 0⟩, .raw wE #[.int .i64 x.time, .int .i64 x.off, .bool x.key.null, .string (bb x.key.data), .bool x.val.null, .string (bb x.val.data), .slice qx x.hdrs.length capx] 62] → (w'.cell? ⟨wX, 0, none⟩ = some (.int .i64 x.time) ∧ w'.cell? ⟨wX, 1, none⟩ = some (.int .i64 x.off) ∧ w'.cell? ⟨wX, 2, none⟩ = some (.bool x.key.null) ∧ w'.cell? ⟨wX, 3, none⟩ = some (.string (bb x.key.data)) ∧ w'.cell? ⟨wX, 4, none⟩ = some (.bool x.val.null) ∧ w'.cell? ⟨wX, 5, none⟩ = some (.string (bb x.val.data)) ∧ w'.cell? ⟨wX, 6, none⟩ = some (.slice q1 x.hdrs.length c1)) ∧ (w'.cell? ⟨wE, 0, none⟩ = some (.int .i64 x.time) ∧ w'.cell? ⟨wE, 1, none⟩ = some (.int .i64 x.off) ∧ w'.cell? ⟨wE, 2, none⟩ = some (.bool x.key.null) ∧ w'.cell? ⟨wE, 3, none⟩ = some (.string (bb x.key.data)) ∧ w'.cell? ⟨wE, 4, none⟩ = some (.bool x.val.null) ∧ w'.cell? ⟨wE, 5, none⟩ = some (.string (bb x.val.data)) ∧ w'.cell? ⟨wE, 6, none⟩ = some (.slice qx x.hdrs.length capx)) ∧ (w'.cell? ⟨b, off + k * 7, none⟩ = some (.int .i64 x.time) ∧ w'.cell? ⟨b, off + k * 7 + 1, none⟩ = some (.int .i64 x.off) ∧ w'.cell? ⟨b, off + k * 7 + 2, none⟩ = some (.bool x.key.null) ∧ w'.cell? ⟨b, off + k * 7 + 3, none⟩ = some (.string (bb x.key.data)) ∧ w'.cell? ⟨b, off + k * 7 + 4, none⟩ = some (.bool x.val.null) ∧ w'.cell? ⟨b, off + k * 7 + 5, none⟩ = some (.string (bb x.val.data)) ∧ w'.cell? ⟨b, off + k * 7 + 6, none⟩ = some (.slice qx x.hdrs.length capx)) ∧ (w'.cell? ⟨b, off, none⟩ = some (.int .i64 z.time) ∧ w'.cell? ⟨b, off + 1, none⟩ = some (.int .i64 z.off) ∧ w'.cell? ⟨b, off + 2, none⟩ = some (.bool z.key.null) ∧ w'.cell? ⟨b, off + 3, none⟩ = some (.string (bb z.key.data)) ∧ w'.cell? ⟨b, off + 4, none⟩ = some (.bool z.val.null) ∧ w'.cell? ⟨b, off + 5, none⟩ = some (.string (bb z.val.data)) ∧ w'.cell? ⟨b, off + 6, none⟩ = some (.slice qz z.hdrs.length capz)) := fun w' hs => by
            have r1 := recs_cell (Know.has_left HK.out) hs k hlt (x, .slice qx x.hdrs.length capx) HXX.out
            have r2 := recs_cell (Know.has_left HK.out) hs 0 hl1 (z, .slice qz z.hdrs.length capz) HZ.out
            simp only [Nat.zero_mul, Nat.zero_add, Nat.add_zero] at r1 r2
            simp only [← Nat.add_assoc] at r1
            exact ⟨⟨hs.rawCell 0, hs.rawCell 1, hs.rawCell 2, hs.rawCell 3, hs.rawCell 4, hs.rawCell 5, hs.rawCell 6⟩, ⟨hs.p2.rawCell 0, hs.p2.rawCell 1, hs.p2.rawCell 2, hs.p2.rawCell 3, hs.p2.rawCell 4, hs.p2.rawCell 5, hs.p2.rawCell 6⟩, r1, r2⟩
          have HKP := Lib.hid hkeep
          clear hkeep
          refine wp_region_held_drew (S := fun w' => (w'.cell? ⟨wX, 0, none⟩ = some (.int .i64 x.time) ∧ w'.cell? ⟨wX, 1, none⟩ = some (.int .i64 x.off) ∧ w'.cell? ⟨wX, 2, none⟩ = some (.bool x.key.null) ∧ w'.cell? ⟨wX, 3, none⟩ = some (.string (bb x.key.data)) ∧ w'.cell? ⟨wX, 4, none⟩ = some (.bool x.val.null) ∧ w'.cell? ⟨wX, 5, none⟩ = some (.string (bb x.val.data)) ∧ w'.cell? ⟨wX, 6, none⟩ = some (.slice q1 x.hdrs.length c1)) ∧ (w'.cell? ⟨wE, 0, none⟩ = some (.int .i64 x.time) ∧ w'.cell? ⟨wE, 1, none⟩ = some (.int .i64 x.off) ∧ w'.cell? ⟨wE, 2, none⟩ = some (.bool x.key.null) ∧ w'.cell? ⟨wE, 3, none⟩ = some (.string (bb x.key.data)) ∧ w'.cell? ⟨wE, 4, none⟩ = some (.bool x.val.null) ∧ w'.cell? ⟨wE, 5, none⟩ = some (.string (bb x.val.data)) ∧ w'.cell? ⟨wE, 6, none⟩ = some (.slice qx x.hdrs.length capx)) ∧ (w'.cell? ⟨b, off + k * 7, none⟩ = some (.int .i64 x.time) ∧ w'.cell? ⟨b, off + k * 7 + 1, none⟩ = some (.int .i64 x.off) ∧ w'.cell? ⟨b, off + k * 7 + 2, none⟩ = some (.bool x.key.null) ∧ w'.cell? ⟨b, off + k * 7 + 3, none⟩ = some (.string (bb x.key.data)) ∧ w'.cell? ⟨b, off + k * 7 + 4, none⟩ = some (.bool x.val.null) ∧ w'.cell? ⟨b, off + k * 7 + 5, none⟩ = some (.string (bb x.val.data)) ∧ w'.cell? ⟨b, off + k * 7 + 6, none⟩ = some (.slice qx x.hdrs.length capx)) ∧ (w'.cell? ⟨b, off, none⟩ = some (.int .i64 z.time) ∧ w'.cell? ⟨b, off + 1, none⟩ = some (.int .i64 z.off) ∧ w'.cell? ⟨b, off + 2, none⟩ = some (.bool z.key.null) ∧ w'.cell? ⟨b, off + 3, none⟩ = some (.string (bb z.key.data)) ∧ w'.cell? ⟨b, off + 4, none⟩ = some (.bool z.val.null) ∧ w'.cell? ⟨b, off + 5, none⟩ = some (.string (bb z.val.data)) ∧ w'.cell? ⟨b, off + 6, none⟩ = some (.slice qz z.hdrs.length capz))) (by kernel_rfl) (HKP.out _ hs) (fun hHeld => ?_)
          refine wpAnyH_take (i := 0) (oi := { dst := some 49, op := Op.load 62 (Operand.tmp 11), type := 62, pos := "law.go:94", after := #[], guard := none }) (v := ?_) rfl (by kernel_rfl) (by kernel_rfl) (by kernel_rfl) (fun _ _ _ h => h) (Or.inl ⟨by rfl, ?_⟩) (by assumption) ?_
          rotate_left
          · intro w hSw; (try dsimp only at hSw); go_simp; try with_reducible rfl
          simp only [Act.put, List.setIfInBounds_toArray, List.set_cons_zero, List.set_cons_succ]
          refine wpAnyH_take (i := 1) (oi := { dst := some 50, op := Op.load 62 (Operand.tmp 10), type := 62, pos := "law.go:94", after := #[], guard := none }) (v := ?_) rfl (by kernel_rfl) (by kernel_rfl) (by kernel_rfl) (fun _ _ _ h => h) (Or.inl ⟨by rfl, ?_⟩) (by assumption) ?_
          rotate_left
          · intro w hSw; (try dsimp only at hSw); go_simp; try with_reducible rfl
          simp only [Act.put, List.setIfInBounds_toArray, List.set_cons_zero, List.set_cons_succ]
          refine wpAnyH_ready (rs := [2]) (by kernel_rfl) (by simp) (AllReadyH.cons (o := { dst := some 51, op := Op.call { callee := Callee.value (Operand.func 41), args := #[Operand.tmp 49, Operand.tmp 50], argTypes := #[62, 62] }, type := 4, pos := "law.go:94", after := #[{ on := 0, ground := Ground.data }, { on := 1, ground := Ground.data }], guard := none }) rfl (fun KK hK => ?_) AllReadyH.nil)
          · go_simp
            go_at_call 41
            with_reducible refine (ref07_sameV x x (.slice q1 x.hdrs.length c1) (.slice qx x.hdrs.length capx) true (decide_eq_true rfl) XF.out.2.1 XF.out.2.1 (Know.has_right (Know.has_refl _)) (Know.has_trans (Know.has_left (Know.has_refl _)) XK.out) hs).mono ?_
            rintro e wq ⟨rfl, hs⟩
            refine hK.out _ _ (HKP.out _ hs) (fun hHeld => ?_)
            clear hK KK
            try simp only [Act.put, List.setIfInBounds_toArray, List.set_cons_zero, List.set_cons_succ]
            refine wpAnyH_take (i := 3) (oi := { dst := some 52, op := Op.unOp UnOp.not 4 (Operand.tmp 51), type := 4, pos := "law.go:94", after := #[{ on := 2, ground := Ground.data }], guard := none }) (v := ?_) rfl (by kernel_rfl) (by kernel_rfl) (by kernel_rfl) (fun _ _ _ h => h) (Or.inl ⟨by rfl, ?_⟩) (by assumption) ?_
            rotate_left
            · intro w hSw; (try dsimp only at hSw); go_simp; try with_reducible rfl
            simp only [Act.put, List.setIfInBounds_toArray, List.set_cons_zero, List.set_cons_succ]
            refine wpAnyH_take (i := 4) (oi := { dst := some 53, op := Op.move (Operand.tmp 52), type := 4, pos := "law.go:94", after := #[{ on := 3, ground := Ground.data }, { on := 2, ground := Ground.chain }], guard := none }) (v := ?_) rfl (by kernel_rfl) (by kernel_rfl) (by kernel_rfl) (fun _ _ _ h => h) (Or.inl ⟨by rfl, ?_⟩) (by assumption) ?_
            rotate_left
            · intro w hSw; (try dsimp only at hSw); go_simp; try with_reducible rfl
            simp only [Act.put, List.setIfInBounds_toArray, List.set_cons_zero, List.set_cons_succ]
            refine wpAnyH_take (i := 5) (oi := { dst := some 54, op := Op.load 62 (Operand.tmp 11), type := 62, pos := "law.go:94", after := #[{ on := 4, ground := Ground.guard }], guard := some (4, false) }) (v := ?_) rfl (by kernel_rfl) (by kernel_rfl) (by kernel_rfl) (fun _ _ _ h => h) (Or.inl ⟨by rfl, ?_⟩) (by assumption) ?_
            rotate_left
            · intro w hSw; (try dsimp only at hSw); go_simp; try with_reducible rfl
            simp only [Act.put, List.setIfInBounds_toArray, List.set_cons_zero, List.set_cons_succ]
            refine wpAnyH_take (i := 6) (oi := { dst := some 55, op := Op.move (Operand.tmp 0), type := 75, pos := "law.go:94", after := #[{ on := 4, ground := Ground.guard }], guard := some (4, false) }) (v := ?_) rfl (by kernel_rfl) (by kernel_rfl) (by kernel_rfl) (fun _ _ _ h => h) (Or.inl ⟨by rfl, ?_⟩) (by assumption) ?_
            rotate_left
            · intro w hSw; (try dsimp only at hSw); go_simp; try with_reducible rfl
            simp only [Act.put, List.setIfInBounds_toArray, List.set_cons_zero, List.set_cons_succ]
            refine wpAnyH_take (i := 7) (oi := { dst := some 56, op := Op.indexAddr 75 (Operand.tmp 55) (Operand.const (Value.int IntKind.i64 0)), type := 0, pos := "law.go:94", after := #[{ on := 6, ground := Ground.data }, { on := 4, ground := Ground.guard }], guard := some (4, false) }) (v := ?_) rfl (by kernel_rfl) (by kernel_rfl) (by kernel_rfl) (fun _ _ _ h => h) (Or.inl ⟨by rfl, ?_⟩) (by assumption) ?_
            rotate_left
            · intro w hSw; (try dsimp only at hSw); go_simp; try with_reducible rfl
            simp only [Act.put, List.setIfInBounds_toArray, List.set_cons_zero, List.set_cons_succ]
            refine wpAnyH_take (i := 8) (oi := { dst := some 57, op := Op.load 62 (Operand.tmp 56), type := 62, pos := "law.go:94", after := #[{ on := 7, ground := Ground.data }, { on := 4, ground := Ground.guard }], guard := some (4, false) }) (v := ?_) rfl (by kernel_rfl) (by kernel_rfl) (by kernel_rfl) (fun _ _ _ h => h) (Or.inl ⟨by rfl, ?_⟩) (by assumption) ?_
            rotate_left
            · intro w hSw; (try dsimp only at hSw); go_simp; try with_reducible rfl
            simp only [Act.put, List.setIfInBounds_toArray, List.set_cons_zero, List.set_cons_succ]
            refine wpAnyH_take (i := 10) (oi := { dst := some 59, op := Op.move (Operand.tmp 0), type := 75, pos := "law.go:94", after := #[{ on := 4, ground := Ground.guard }], guard := some (4, false) }) (v := ?_) rfl (by kernel_rfl) (by kernel_rfl) (by kernel_rfl) (fun _ _ _ h => h) (Or.inl ⟨by rfl, ?_⟩) (by assumption) ?_
            rotate_left
            · intro w hSw; (try dsimp only at hSw); go_simp; try with_reducible rfl
            simp only [Act.put, List.setIfInBounds_toArray, List.set_cons_zero, List.set_cons_succ]
            refine wpAnyH_take (i := 11) (oi := { dst := some 60, op := Op.move (Operand.tmp 9), type := 3, pos := "law.go:94", after := #[{ on := 4, ground := Ground.guard }], guard := some (4, false) }) (v := ?_) rfl (by kernel_rfl) (by kernel_rfl) (by kernel_rfl) (fun _ _ _ h => h) (Or.inl ⟨by rfl, ?_⟩) (by assumption) ?_
            rotate_left
            · intro w hSw; (try dsimp only at hSw); go_simp; try with_reducible rfl
            simp only [Act.put, List.setIfInBounds_toArray, List.set_cons_zero, List.set_cons_succ]
            refine wpAnyH_take (i := 12) (oi := { dst := some 61, op := Op.indexAddr 75 (Operand.tmp 59) (Operand.tmp 60), type := 0, pos := "law.go:94", after := #[{ on := 10, ground := Ground.data }, { on := 11, ground := Ground.data }, { on := 4, ground := Ground.guard }], guard := some (4, false) }) (v := ?_) rfl (by kernel_rfl) (by kernel_rfl) (by kernel_rfl) (fun _ _ _ h => h) (Or.inl ⟨by rfl, ?_⟩) (by assumption) ?_
            rotate_left
            · intro w hSw; (try dsimp only at hSw); go_simp; try with_reducible rfl
            simp only [Act.put, List.setIfInBounds_toArray, List.set_cons_zero, List.set_cons_succ]
            refine wpAnyH_take (i := 13) (oi := { dst := some 62, op := Op.load 62 (Operand.tmp 61), type := 62, pos := "law.go:94", after := #[{ on := 12, ground := Ground.data }, { on := 4, ground := Ground.guard }], guard := some (4, false) }) (v := ?_) rfl (by kernel_rfl) (by kernel_rfl) (by kernel_rfl) (fun _ _ _ h => h) (Or.inl ⟨by rfl, ?_⟩) (by assumption) ?_
            rotate_left
            · intro w hSw; (try dsimp only at hSw); go_simp; try with_reducible rfl
            simp only [Act.put, List.setIfInBounds_toArray, List.set_cons_zero, List.set_cons_succ]
            refine wpAnyH_take (i := 14) (oi := { dst := some 63, op := Op.move (Operand.tmp 0), type := 75, pos := "law.go:94", after := #[{ on := 4, ground := Ground.guard }], guard := some (4, false) }) (v := ?_) rfl (by kernel_rfl) (by kernel_rfl) (by kernel_rfl) (fun _ _ _ h => h) (Or.inl ⟨by rfl, ?_⟩) (by assumption) ?_
            rotate_left
            · intro w hSw; (try dsimp only at hSw); go_simp; try with_reducible rfl
            simp only [Act.put, List.setIfInBounds_toArray, List.set_cons_zero, List.set_cons_succ]
            refine wpAnyH_take (i := 15) (oi := { dst := some 64, op := Op.indexAddr 75 (Operand.tmp 63) (Operand.const (Value.int IntKind.i64 0)), type := 0, pos := "law.go:94", after := #[{ on := 14, ground := Ground.data }, { on := 4, ground := Ground.guard }], guard := some (4, false) }) (v := ?_) rfl (by kernel_rfl) (by kernel_rfl) (by kernel_rfl) (fun _ _ _ h => h) (Or.inl ⟨by rfl, ?_⟩) (by assumption) ?_
            rotate_left
            · intro w hSw; (try dsimp only at hSw); go_simp; try with_reducible rfl
            simp only [Act.put, List.setIfInBounds_toArray, List.set_cons_zero, List.set_cons_succ]
            refine wpAnyH_take (i := 16) (oi := { dst := some 65, op := Op.load 62 (Operand.tmp 64), type := 62, pos := "law.go:94", after := #[{ on := 15, ground := Ground.data }, { on := 4, ground := Ground.guard }], guard := some (4, false) }) (v := ?_) rfl (by kernel_rfl) (by kernel_rfl) (by kernel_rfl) (fun _ _ _ h => h) (Or.inl ⟨by rfl, ?_⟩) (by assumption) ?_
            rotate_left
            · intro w hSw; (try dsimp only at hSw); go_simp; try with_reducible rfl
            simp only [Act.put, List.setIfInBounds_toArray, List.set_cons_zero, List.set_cons_succ]
            refine wpAnyH_ready (rs := [9]) (by kernel_rfl) (by simp) (AllReadyH.cons (o := { dst := some 58, op := Op.call { callee := Callee.value (Operand.func 42), args := #[Operand.tmp 54, Operand.tmp 57], argTypes := #[62, 62] }, type := 4, pos := "law.go:94", after := #[{ on := 5, ground := Ground.data }, { on := 8, ground := Ground.data }, { on := 4, ground := Ground.chain }, { on := 4, ground := Ground.guard }], guard := some (4, false) }) rfl (fun KK hK => ?_) AllReadyH.nil)
            · go_simp
              go_at_call 42
              with_reducible refine (rec_sameV x z (.slice q1 x.hdrs.length c1) (.slice qz z.hdrs.length capz) b0 HB.out XF.out.2.1 ZF.out.2.1 (Know.has_right (Know.has_refl _)) (Know.has_trans (Know.has_left (Know.has_refl _)) ZK.out) hs).mono ?_
              rintro e wq ⟨rfl, hs⟩
              refine hK.out _ _ (HKP.out _ hs) (fun hHeld => ?_)
              clear hK KK
              try simp only [Act.put, List.setIfInBounds_toArray, List.set_cons_zero, List.set_cons_succ]
              refine wpAnyH_ready (rs := [17]) (by kernel_rfl) (by simp) (AllReadyH.cons (o := { dst := some 66, op := Op.call { callee := Callee.value (Operand.func 41), args := #[Operand.tmp 62, Operand.tmp 65], argTypes := #[62, 62] }, type := 4, pos := "law.go:94", after := #[{ on := 13, ground := Ground.data }, { on := 16, ground := Ground.data }, { on := 9, ground := Ground.chain }, { on := 4, ground := Ground.guard }], guard := some (4, false) }) rfl (fun KK hK => ?_) AllReadyH.nil)
              · go_simp
                go_at_call 41
                with_reducible refine (ref07_sameV x z (.slice qx x.hdrs.length capx) (.slice qz z.hdrs.length capz) b0 HB.out XF.out.2.1 ZF.out.2.1 (Know.has_trans (Know.has_left (Know.has_refl _)) XK.out) (Know.has_trans (Know.has_left (Know.has_refl _)) ZK.out) hs).mono ?_
                rintro e wq ⟨rfl, hs⟩
                refine hK.out _ _ (HKP.out _ hs) (fun hHeld => ?_)
                clear hK KK
                try simp only [Act.put, List.setIfInBounds_toArray, List.set_cons_zero, List.set_cons_succ]
                refine wpAnyH_take (i := 18) (oi := { dst := some 67, op := Op.binOp BinOp.neq 4 (Operand.tmp 58) (Operand.tmp 66) 4, type := 4, pos := "law.go:94", after := #[{ on := 9, ground := Ground.data }, { on := 17, ground := Ground.data }, { on := 4, ground := Ground.guard }], guard := some (4, false) }) (v := ?_) rfl (by kernel_rfl) (by kernel_rfl) (by kernel_rfl) (fun _ _ _ h => h) (Or.inl ⟨by rfl, ?_⟩) (by assumption) ?_
                rotate_left
                · intro w hSw; (try dsimp only at hSw); go_simp; try with_reducible rfl
                simp only [Act.put, List.setIfInBounds_toArray, List.set_cons_zero, List.set_cons_succ]
                refine wpAnyH_take (i := 19) (oi := { dst := some 68, op := Op.pick (Operand.tmp 53) (Operand.const (Value.bool true)) (Operand.tmp 67), type := 4, pos := "law.go:94", after := #[{ on := 4, ground := Ground.data }, { on := 18, ground := Ground.data }], guard := none }) (v := ?_) rfl (by kernel_rfl) (by kernel_rfl) (by kernel_rfl) (fun _ _ _ h => h) (Or.inl ⟨by rfl, ?_⟩) (by assumption) ?_
                rotate_left
                · intro w hSw; (try dsimp only at hSw); go_simp; try with_reducible rfl
                simp only [Act.put, List.setIfInBounds_toArray, List.set_cons_zero, List.set_cons_succ]
                refine wpAnyH_done (by kernel_rfl) ?_ _
                go_wp2_with fail
                go_roundw
                case rel => exact ⟨k + 1, hlt, by go_num, (hs.drop.p1.drop).know (Know.has_left (Know.has_refl _))⟩
                case measure => first | (simp [intOf]; done) | (simp [intOf]; omega)
        · obtain rfl : k = l.length := by omega
          have EC := Lib.hid (show (⟨s, (encAll (l.take l.length)).length, 0⟩ : InS).close = ⟨s, s.length, 0⟩ by
            rw [List.take_length, HSS.out]
            unfold InS.close
            rw [if_neg (by simp only [InS.left]; omega)])
          go_wp2_with (go_at_call 29; refine (s_close bi _ H.out).mono ?_; rw [EC.out]; rintro e wn ⟨rfl, h⟩; replace H := Lib.hid h; clear h)
          go_ret
          exact ⟨rfl, H.out.below⟩
theorem recordRows_any (l : List (RecS × Value)) (v : Value) (w : World) (hf : FitR l) (h : St w w (Know.recs v l) []) :
    Calls Try.prog 10 #[v] w fun en w' => en = .returned (.bool true) ∧ Below w.heap.size w w' := by
  obtain ⟨q, cap, rfl⟩ := recs_form (Know.has_refl _) h
  by_cases hl : 20 < l.length
  · exact recordRows_long l q cap hf hl (Know.has_refl _) h
  · exact recordRows_main l q cap hf (by omega) (Know.has_refl _) h

end Go.Proofs.Ytkenneeejdngaaa
