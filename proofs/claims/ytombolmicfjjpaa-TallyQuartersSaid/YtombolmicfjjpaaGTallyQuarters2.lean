/- Layer 24, walked: TallyQuarters, any. -/
import Derived.Test.YtombolmicfjjpaaGTallyQuarters1
import Derived.Deep.RegionHeld3
import Derived.Deep.DeepCutAuto
import Derived.Lib.SmallJoins
import Derived.Laws.IdiomArrays
import Derived.Test.YtombolmicfjjpaaArgs
import Derived.SizedLaws
import Derived.Deep.Slices
import Derived.Test.YtombolmicfjjpaaBlobP
import Derived.Test.YtombolmicfjjpaaSep
import Derived.Test.YtombolmicfjjpaaHdr1
import Derived.Test.YtombolmicfjjpaaBlob1
import Derived.Test.YtombolmicfjjpaaBlob2
/- Layer 24, walked: TallyQuarters. -/
namespace Go.Proofs.Ytombolmicfjjpaa
open Go.RowKit

set_option maxHeartbeats 4000000 in
set_option maxRecDepth 100000 in
theorem tq_main (l : List Int) (q : Option Addr) (cap : Nat) (k a b : Int) {W0 w : World} {K : Know} (hl : l.length ≤ 200) (hr : ∀ x ∈ l, -2147483648 ≤ x ∧ x < 2147483648) (ha : -2147483648 ≤ a ∧ a < 2147483648) (hb : -2147483648 ≤ b ∧ b < 2147483648) (hk : K.has (Know.flat RI32 (.slice q l.length cap) 1 l)) (h : St W0 w K []) :
    Calls Try.prog 12 #[.slice q l.length cap, .int .i64 k, .agg #[.int .i32 a, .int .i32 b]] w fun en w' => en = .returned (.bool true) ∧ Below W0.heap.size W0 w' := by
  obtain ⟨zb, hzb⟩ : ∃ b, w.heap.size = b := ⟨_, rfl⟩
  have h1 := h.allocRaw #[.int .i32 a, .int .i32 b] 103
  rw [hzb] at h1
  have H := Lib.hid h1
  have HK := Lib.hid hk
  have HR := Lib.hid hr
  have HA := Lib.hid ha
  have HB := Lib.hid hb
  have HL200 := Lib.hid hl
  have hlen : decide ((200 : Int) < (l.length : Int)) = false := decide_eq_false (by omega)
  clear h h1 hl hr ha hb hk
  go_enter Try.func12, Try.ntmps12
  go_wp2_with (go_at_call 62; (with_reducible refine (speaks24 H.out).mono ?_); rintro e_ wn ⟨rfl, K2, hk2, h⟩; obtain ⟨sb, hsb⟩ : ∃ b, wn.heap.size = b := ⟨_, rfl⟩; have h := (h.allocRaw #[.int .i64 0, .int .i64 0, .int .i64 0, .int .i64 0] 104); rw [hsb] at h; have HK2 := Lib.hid (Know.has_trans hk2 HK.out); clear hk2; replace H := Lib.hid h; clear h)
  go_loopw [7, 9, 10, 30] (fun lv _ _ iv wr => ∃ (i : Nat) (t : Nat → Int) (acc : List Int), i ≤ l.length ∧ iv = .int .i64 i ∧ Hid (acc = (cutL l).take i) ∧ Hid (∀ p, p < 4 → t p = sm (cutL l) p i) ∧ St W0 wr K2 [.row lv 3 1 acc.length (acc.flatMap fun x => [.int .i64 x]), .raw sb (cells4 t) 104, .raw zb #[.int .i32 a, .int .i32 b] 103]) (fun _ _ _ iv _ => l.length - (intOf iv).toNat)
  case atStart => exact ⟨0, fun _ => 0, [], Nat.zero_le _, rfl, Lib.hid rfl, Lib.hid (fun p _ => rfl), H.out.nilRow 3 1⟩
  case round =>
    obtain ⟨i, t, acc, hi, rfl, HACC, HT, hst⟩ := hrel
    clear H
    have H := Lib.hid hst
    clear hst
    by_cases hlt : i < l.length
    · obtain ⟨bl, off, hqq⟩ := fi_at HK2.out H.out (by omega)
      subst hqq
      obtain ⟨cs, hR, hc⟩ := fi_cell HK2.out H.out i hlt
      obtain ⟨s, hs⟩ : ∃ s, l[i] = s := ⟨_, rfl⟩
      rw [hs] at hR
      unfold RI32 at hR
      subst hR
      have c0 := hc 0 _ rfl
      rw [Nat.mul_one, Nat.add_zero] at c0
      have hsr := HR.out s (hs ▸ List.getElem_mem hlt)
      have hsv := cutL_getD l i hlt
      have hl200 := HL200.out
      rw [hs] at hsv
      have hvl := tmod_lim s
      obtain ⟨v, hv⟩ : ∃ v, s.tmod 1073741824 = v := ⟨_, rfl⟩
      rw [hv] at hsv hvl
      obtain ⟨c, hcc0⟩ : ∃ c, i % 4 = c := ⟨_, rfl⟩
      have hc4 : c < 4 := by omega
      have HC4 := Lib.hid hc4
      have hc4i : (c : Int) < 4 := by omega
      have hc0i : (0 : Int) ≤ (c : Int) := by omega
      have hm4 : (i : Int).tmod 4 = (c : Int) := by rw [tmod4_nat, hcc0]
      have htc := sm_lim (cutL l) (cutL_lim l) c i (by omega)
      rw [← HT.out c hc4] at htc
      have hadd1 : wrap64 (t c + v) = t c + v := by unfold wrap64; omega
      have hadd2 : IntKind.i64.wrap (t c + v) = t c + v := IntWalk.i64_in _ (by omega)
      have NT := Lib.hid (show ∀ p, p < 4 → (fun j => if j = c then t c + v else t j) p = sm (cutL l) p (i + 1) by
        intro p hp
        show (if p = c then t c + v else t p) = sm (cutL l) p i + if i % 4 = p then (cutL l).getD i 0 else 0
        rw [hsv, hcc0]
        by_cases hpc : p = c
        · subst hpc; rw [if_pos rfl, if_pos rfl, HT.out p hp]
        · rw [if_neg hpc, if_neg (fun h => hpc h.symm), HT.out p hp]; omega)
      have NA := Lib.hid (show acc ++ [v] = (cutL l).take (i + 1) by
        rw [List.take_succ_eq_append_getElem (by rw [cutL_len]; exact hlt), cutL_get l i hlt, hs, hv, HACC.out])
      have HAL := Lib.hid (show acc.length ≤ 200 by rw [HACC.out, List.length_take]; omega)
      have hii : (i : Int) < (l.length : Int) := by omega
      have hl2i : (l.length : Int) ≤ 200 := by omega
      clear hc hs hsv hvl hcc0 hc4 htc hl200
      go_wp2_with (at_builtin; refine wpl_app1_st rfl _ _ 49 rfl 3 Try.underlying49 elem_int _ _ _ rfl H.out [.int .i64 v] 3 rfl rfl (by simp [Value.oneCell']) (by have := HAL.out; unfold maxLen; omega) (by have := HAL.out; omega) ?_; intro v' w' h; have hcc := (h.p1.rawCell c).trans (cells4_get t c HC4.out); have hff := h.p1.rawFree c; replace H := Lib.hid h; clear h)
      go_roundw
      case rel => exact ⟨i + 1, _, acc ++ [v], hlt, by go_num, NA, NT, by
        have h3 := (H.out.p1.rawSet c (.int .i64 (t c + v))).p1
        rw [cells4_set t c HC4.out] at h3
        rw [List.length_append, List.flatMap_append]
        exact h3⟩
      case measure => first | (simp [intOf]; done) | (simp [intOf]; omega)
    · obtain rfl : i = l.length := by omega
      have hac : acc = cutL l := by rw [HACC.out, List.take_of_length_le (by rw [cutL_len]; exact Nat.le_refl _)]
      subst hac
      obtain ⟨p0, cap0, hlv⟩ := H.out.rowAny
      subst hlv
      have h2 := H.out.freezeRow (R := RIt) (fun x _ => ⟨rfl, rfl⟩)
      rw [cutL_len] at h2
      have HK3 := Lib.hid (show (K2.and (Know.flat RIt (.slice p0 l.length cap0) 1 (cutL l))).has (Know.flat RIt (.slice p0 l.length cap0) 1 (cutL l)) from Know.has_right (Know.has_refl _))
      obtain ⟨K3, hK3⟩ : ∃ K3, K2.and (Know.flat RIt (.slice p0 l.length cap0) 1 (cutL l)) = K3 := ⟨_, rfl⟩
      rw [hK3] at h2 HK3
      have HCL := Lib.hid (cutL_len l)
      have HLM := Lib.hid (cutL_lim l)
      have HN2 := Lib.hid (show l.length ≤ 1000 by have := HL200.out; omega)
      simp only [cutL_len]
      clear H HACC hK3
      have H := Lib.hid h2
      clear h2
      have hstc : ∀ (a : Addr) (x y : Nat) (m : Mode) (w : World), (store a (.complex .f64 x y) m).run Try.prog w = stored Try.prog w a (.complex .f64 x y) m := fun a x y m w => run_store Try.prog w a _ m rfl
      go_wp2_with (go_at_call 63; (with_reducible refine (tal_quartersN (cutL l) l.length HCL.out p0 cap0 HLM.out HN2.out HK3.out H.out).mono ?_); rintro e_ wn ⟨z, rfl, hz, h⟩; obtain ⟨fb, hfb⟩ : ∃ b, wn.heap.size = b := ⟨_, rfl⟩; have h := h.allocRaw #[.complex .f64 (z 0).1 (z 0).2, .complex .f64 (z 1).1 (z 1).2, .complex .f64 (z 2).1 (z 2).2, .complex .f64 (z 3).1 (z 3).2] 106; rw [hfb] at h; have HZ := Lib.hid hz; clear hz; replace H := Lib.hid h; clear h)
      clear hstc
      go_loopw [12, 13, 14, 15, 16, 17, 18, 53, 58] (fun _ _ _ _ _ _ _ iv _ wr => ∃ i : Nat, i ≤ 4 ∧ iv = .int .i64 i ∧ St W0 wr K3 [.raw fb #[.complex .f64 (z 0).1 (z 0).2, .complex .f64 (z 1).1 (z 1).2, .complex .f64 (z 2).1 (z 2).2, .complex .f64 (z 3).1 (z 3).2] 106, .raw sb (cells4 t) 104, .raw zb #[.int .i32 a, .int .i32 b] 103]) (fun _ _ _ _ _ _ _ iv _ _ => 4 - (intOf iv).toNat)
      case atStart => exact ⟨0, by decide, rfl, H.out⟩
      case round =>
        obtain ⟨i, hi, rfl, hst⟩ := hrel
        clear H
        have H := Lib.hid hst
        clear hst
        by_cases hlt : i < 4
        · as_aux_lemma =>
          have hii : (i : Int) < 4 := by omega
          have hi0 : (0 : Int) ≤ (i : Int) := by omega
          have hl200 : (l.length : Int) ≤ 200 := by have := HL200.out; omega
          go_wp2
          go_loopw [13, 14, 15, 16, 17, 18, 58] (fun xv yv _ _ _ _ kv wr => ∃ j : Nat, j ≤ l.length ∧ kv = .int .i64 j ∧ xv = .int .i64 (qa i (cutL l) j).1 ∧ yv = .int .i64 (qa i (cutL l) j).2 ∧ St W0 wr K3 [.raw fb #[.complex .f64 (z 0).1 (z 0).2, .complex .f64 (z 1).1 (z 1).2, .complex .f64 (z 2).1 (z 2).2, .complex .f64 (z 3).1 (z 3).2] 106, .raw sb (cells4 t) 104, .raw zb #[.int .i32 a, .int .i32 b] 103]) (fun _ _ _ _ _ _ kv _ => l.length - (intOf kv).toNat)
          case atStart => exact ⟨0, Nat.zero_le _, rfl, rfl, rfl, H.out⟩
          case round =>
            obtain ⟨j, hj, rfl, rfl, rfl, hst⟩ := hrel
            clear H
            have H := Lib.hid hst
            clear hst
            by_cases hlj : j < l.length
            · have hgl : j < (cutL l).length := by rw [cutL_len]; exact hlj
              obtain ⟨bl, off, hqq⟩ := fi_at HK3.out H.out (by omega)
              subst hqq
              obtain ⟨cs, hR, hc⟩ := fi_cell HK3.out H.out j hgl
              obtain ⟨s, hs⟩ : ∃ s, (cutL l)[j] = s := ⟨_, rfl⟩
              rw [hs] at hR
              unfold RIt at hR
              subst hR
              have c0 := hc 0 _ rfl
              rw [Nat.mul_one, Nat.add_zero] at c0
              have hsM := HLM.out s (hs ▸ List.getElem_mem hgl)
              have hgd : (cutL l).getD j 0 = s := by rw [List.getD_eq_getElem?_getD, List.getElem?_eq_getElem hgl, hs]; rfl
              obtain ⟨r, hr⟩ : ∃ r : Nat, ((i : Int) * (j : Int)) % 4 = (r : Int) := ⟨(((i : Int) * (j : Int)) % 4).toNat, by omega⟩
              have hij : (i : Int) * (j : Int) = ((i * j : Nat) : Int) := by rw [Int.natCast_mul]
              have hijl : i * j ≤ 4 * 200 := Nat.mul_le_mul (by omega) (by omega)
              obtain ⟨q2, hq2⟩ : ∃ q2, (i : Int) * (j : Int) = q2 := ⟨_, rfl⟩
              have hw1 : IntKind.i64.wrap ((i : Int) * (j : Int)) = q2 := by rw [hq2]; exact IntWalk.i64_in _ (by rw [← hq2, hij]; omega)
              have hw2 : wrap64 ((i : Int) * (j : Int)) = q2 := by rw [hq2]; unfold wrap64; rw [← hq2, hij]; omega
              have HQ2 := Lib.hid (show q2 % 4 = (r : Int) by rw [← hq2]; exact hr)
              have hq1 : (qa i (cutL l) (j + 1)).1 = (qa i (cutL l) j).1 + (turnI (r : Int) s 0).1 := by rw [← hr, ← hgd]; rfl
              have hq2' : (qa i (cutL l) (j + 1)).2 = (qa i (cutL l) j).2 + (turnI (r : Int) s 0).2 := by rw [← hr, ← hgd]; rfl
              have hw := qa_lim i 2147483648 (cutL l) HLM.out (by decide) (j + 1)
              rw [hq1, hq2'] at hw
              obtain ⟨x, hx⟩ : ∃ x, (qa i (cutL l) j).1 = x := ⟨_, rfl⟩
              obtain ⟨y, hy⟩ : ∃ y, (qa i (cutL l) j).2 = y := ⟨_, rfl⟩
              obtain ⟨⟨ta, tb⟩, hta⟩ : ∃ z, turnI (r : Int) s 0 = z := ⟨_, rfl⟩
              rw [hx] at hq1 hw
              rw [hy] at hq2' hw
              rw [hta] at hq1 hq2' hw
              simp only at hq1 hq2' hw
              have a1 : wrap64 (x + ta) = x + ta := by unfold wrap64; omega
              have a2 : IntKind.i64.wrap (x + ta) = x + ta := IntWalk.i64_in _ (by omega)
              have a3 : wrap64 (y + tb) = y + tb := by unfold wrap64; omega
              have a4 : IntKind.i64.wrap (y + tb) = y + tb := IntWalk.i64_in _ (by omega)
              have HTA := Lib.hid hta
              have HQ1 := Lib.hid hq1
              have HQ3 := Lib.hid hq2'
              have HSM := Lib.hid (show -1099511627776 ≤ s ∧ s ≤ 1099511627776 by omega)
              have hji : (j : Int) < (l.length : Int) := by omega
              simp only [hx, hy]
              clear hc hs hsM hgd hr hij hijl hq2 hq1 hq2' hw hta hx hy
              go_wp2_with (go_at_call 64; (with_reducible refine (l24_turned s 0 q2 r HQ2.out HSM.out (by decide) H.out).mono ?_); rw [HTA.out]; rintro e_ wn ⟨rfl, h⟩; replace H := Lib.hid h; clear h)
              go_roundw
              case rel => exact ⟨j + 1, hlj, by go_num, by rw [HQ1.out], by rw [HQ3.out], H.out⟩
              case measure => first | (simp [intOf]; done) | (simp [intOf]; omega)
            · obtain rfl : j = l.length := by omega
              obtain ⟨x, hx⟩ : ∃ x, (qa i (cutL l) l.length).1 = x := ⟨_, rfl⟩
              obtain ⟨y, hy⟩ : ∃ y, (qa i (cutL l) l.length).2 = y := ⟨_, rfl⟩
              have FZ := Lib.hid (HZ.out i hlt)
              have hw := qa_wh i (cutL l) HLM.out l.length (by have := HL200.out; omega)
              rw [hx, hy] at hw
              have FX := FI.conv x hw.1
              have FY := FI.conv y hw.2
              have fz := FZ.out
              rw [hx, hy] at fz
              have cn1 := cne_run 105 fz.1 fz.2 FX FY false (by simp)
              simp only [hx, hy]
              have hs := H.out.drew
              have hkeep : ∀ w', St W0 w' K3 [.raw fb #[.complex .f64 (z 0).1 (z 0).2, .complex .f64 (z 1).1 (z 1).2, .complex .f64 (z 2).1 (z 2).2, .complex .f64 (z 3).1 (z 3).2] 106, .raw sb (cells4 t) 104, .raw zb #[.int .i32 a, .int .i32 b] 103] → w'.cell? ⟨fb, i, none⟩ = some (.complex .f64 (z i).1 (z i).2) := fun w' hs => (hs.rawCell i).trans (cellsC_get z i hlt)
              have HKP := Lib.hid hkeep
              clear hkeep hx hy hw FX FY fz
              go_wp2_with fail
              refine wp_region_held_drew (S := fun w' => w'.cell? ⟨fb, i, none⟩ = some (.complex .f64 (z i).1 (z i).2)) (by kernel_rfl) (HKP.out _ hs) (fun hHeld => ?_)
              refine wpAnyH_take (i := 0) (oi := { dst := some 78, op := Op.move (Operand.tmp 12), type := 3, pos := "law.go:76", after := #[], guard := none }) (v := ?_) rfl (by kernel_rfl) (by kernel_rfl) (by kernel_rfl) (fun _ _ _ h => h) (Or.inl ⟨by rfl, ?_⟩) (by assumption) ?_
              rotate_left
              · intro w hSw; (try dsimp only at hSw); go_simp; try with_reducible rfl
              simp only [Act.put, List.setIfInBounds_toArray, List.set_cons_zero, List.set_cons_succ]
              refine wpAnyH_take (i := 1) (oi := { dst := some 79, op := Op.indexAddr 106 (Operand.tmp 11) (Operand.tmp 78), type := 0, pos := "law.go:76", after := #[{ on := 0, ground := Ground.data }], guard := none }) (v := ?_) rfl (by kernel_rfl) (by kernel_rfl) (by kernel_rfl) (fun _ _ _ h => h) (Or.inl ⟨by rfl, ?_⟩) (by assumption) ?_
              rotate_left
              · intro w hSw; (try dsimp only at hSw); go_simp; try with_reducible rfl
              simp only [Act.put, List.setIfInBounds_toArray, List.set_cons_zero, List.set_cons_succ]
              refine wpAnyH_take (i := 2) (oi := { dst := some 80, op := Op.load 105 (Operand.tmp 79), type := 105, pos := "law.go:76", after := #[{ on := 1, ground := Ground.data }], guard := none }) (v := ?_) rfl (by kernel_rfl) (by kernel_rfl) (by kernel_rfl) (fun _ _ _ h => h) (Or.inl ⟨by rfl, ?_⟩) (by assumption) ?_
              rotate_left
              · intro w hSw; (try dsimp only at hSw); go_simp; try with_reducible rfl
              simp only [Act.put, List.setIfInBounds_toArray, List.set_cons_zero, List.set_cons_succ]
              refine wpAnyH_take (i := 3) (oi := { dst := some 81, op := Op.move (Operand.tmp 13), type := 3, pos := "law.go:76", after := #[], guard := none }) (v := ?_) rfl (by kernel_rfl) (by kernel_rfl) (by kernel_rfl) (fun _ _ _ h => h) (Or.inl ⟨by rfl, ?_⟩) (by assumption) ?_
              rotate_left
              · intro w hSw; (try dsimp only at hSw); go_simp; try with_reducible rfl
              simp only [Act.put, List.setIfInBounds_toArray, List.set_cons_zero, List.set_cons_succ]
              refine wpAnyH_take (i := 4) (oi := { dst := some 82, op := Op.move (Operand.tmp 14), type := 3, pos := "law.go:76", after := #[], guard := none }) (v := ?_) rfl (by kernel_rfl) (by kernel_rfl) (by kernel_rfl) (fun _ _ _ h => h) (Or.inl ⟨by rfl, ?_⟩) (by assumption) ?_
              rotate_left
              · intro w hSw; (try dsimp only at hSw); go_simp; try with_reducible rfl
              simp only [Act.put, List.setIfInBounds_toArray, List.set_cons_zero, List.set_cons_succ]
              refine wpAnyH_ready (rs := [5]) (by kernel_rfl) (by simp) (AllReadyH.cons (o := { dst := some 83, op := Op.call { callee := Callee.value (Operand.func 65), args := #[Operand.tmp 81, Operand.tmp 82], argTypes := #[3, 3] }, type := 105, pos := "law.go:76", after := #[{ on := 3, ground := Ground.data }, { on := 4, ground := Ground.data }], guard := none }) rfl (fun KK hK => ?_) AllReadyH.nil)
              · go_simp
                go_at_call 65
                with_reducible refine (l24_whole x y hs).mono ?_
                rintro e wq ⟨rfl, hs⟩
                refine hK.out _ _ (HKP.out _ hs) (fun hHeld => ?_)
                clear hK KK
                try simp only [Act.put, List.setIfInBounds_toArray, List.set_cons_zero, List.set_cons_succ]
                refine wpAnyH_take (i := 6) (oi := { dst := some 84, op := Op.binOp BinOp.neq 105 (Operand.tmp 80) (Operand.tmp 83) 105, type := 4, pos := "law.go:76", after := #[{ on := 2, ground := Ground.data }, { on := 5, ground := Ground.data }], guard := none }) (v := ?_) rfl (by kernel_rfl) (by kernel_rfl) (by kernel_rfl) (fun _ _ _ h => h) (Or.inl ⟨by rfl, ?_⟩) (by assumption) ?_
                rotate_left
                · intro w hSw; (try dsimp only at hSw); go_simp; try with_reducible rfl
                simp only [Act.put, List.setIfInBounds_toArray, List.set_cons_zero, List.set_cons_succ]
                refine wpAnyH_take (i := 7) (oi := { dst := some 85, op := Op.move (Operand.tmp 84), type := 4, pos := "law.go:76", after := #[{ on := 6, ground := Ground.data }, { on := 5, ground := Ground.chain }], guard := none }) (v := ?_) rfl (by kernel_rfl) (by kernel_rfl) (by kernel_rfl) (fun _ _ _ h => h) (Or.inl ⟨by rfl, ?_⟩) (by assumption) ?_
                rotate_left
                · intro w hSw; (try dsimp only at hSw); go_simp; try with_reducible rfl
                simp only [Act.put, List.setIfInBounds_toArray, List.set_cons_zero, List.set_cons_succ]
                refine wpAnyH_take (i := 8) (oi := { dst := some 86, op := Op.move (Operand.tmp 12), type := 3, pos := "law.go:76", after := #[{ on := 7, ground := Ground.guard }], guard := some (7, false) }) (v := ?_) rfl (by kernel_rfl) (by kernel_rfl) (by kernel_rfl) (fun _ _ _ h => h) (Or.inl ⟨by rfl, ?_⟩) (by assumption) ?_
                rotate_left
                · intro w hSw; (try dsimp only at hSw); go_simp; try with_reducible rfl
                simp only [Act.put, List.setIfInBounds_toArray, List.set_cons_zero, List.set_cons_succ]
                refine wpAnyH_take (i := 9) (oi := { dst := some 87, op := Op.move (Operand.tmp 7), type := 49, pos := "law.go:76", after := #[{ on := 7, ground := Ground.guard }], guard := some (7, false) }) (v := ?_) rfl (by kernel_rfl) (by kernel_rfl) (by kernel_rfl) (fun _ _ _ h => h) (Or.inl ⟨by rfl, ?_⟩) (by assumption) ?_
                rotate_left
                · intro w hSw; (try dsimp only at hSw); go_simp; try with_reducible rfl
                simp only [Act.put, List.setIfInBounds_toArray, List.set_cons_zero, List.set_cons_succ]
                refine wpAnyH_take (i := 11) (oi := { dst := some 89, op := Op.move (Operand.tmp 12), type := 3, pos := "law.go:76", after := #[{ on := 7, ground := Ground.guard }], guard := some (7, false) }) (v := ?_) rfl (by kernel_rfl) (by kernel_rfl) (by kernel_rfl) (fun _ _ _ h => h) (Or.inl ⟨by rfl, ?_⟩) (by assumption) ?_
                rotate_left
                · intro w hSw; (try dsimp only at hSw); go_simp; try with_reducible rfl
                simp only [Act.put, List.setIfInBounds_toArray, List.set_cons_zero, List.set_cons_succ]
                refine wpAnyH_take (i := 12) (oi := { dst := some 90, op := Op.indexAddr 106 (Operand.tmp 11) (Operand.tmp 89), type := 0, pos := "law.go:76", after := #[{ on := 11, ground := Ground.data }, { on := 7, ground := Ground.guard }], guard := some (7, false) }) (v := ?_) rfl (by kernel_rfl) (by kernel_rfl) (by kernel_rfl) (fun _ _ _ h => h) (Or.inl ⟨by rfl, ?_⟩) (by assumption) ?_
                rotate_left
                · intro w hSw; (try dsimp only at hSw); go_simp; try with_reducible rfl
                simp only [Act.put, List.setIfInBounds_toArray, List.set_cons_zero, List.set_cons_succ]
                refine wpAnyH_take (i := 13) (oi := { dst := some 91, op := Op.load 105 (Operand.tmp 90), type := 105, pos := "law.go:76", after := #[{ on := 12, ground := Ground.data }, { on := 7, ground := Ground.guard }], guard := some (7, false) }) (v := ?_) rfl (by kernel_rfl) (by kernel_rfl) (by kernel_rfl) (fun _ _ _ h => h) (Or.inl ⟨by rfl, ?_⟩) (by assumption) ?_
                rotate_left
                · intro w hSw; (try dsimp only at hSw); go_simp; try with_reducible rfl
                simp only [Act.put, List.setIfInBounds_toArray, List.set_cons_zero, List.set_cons_succ]
                refine wpAnyH_ready (rs := [10]) (by kernel_rfl) (by simp) (AllReadyH.cons (o := { dst := some 88, op := Op.call { callee := Callee.value (Operand.func 66), args := #[Operand.tmp 86, Operand.tmp 87], argTypes := #[3, 49] }, type := 105, pos := "law.go:76", after := #[{ on := 8, ground := Ground.data }, { on := 9, ground := Ground.data }, { on := 7, ground := Ground.chain }, { on := 7, ground := Ground.guard }], guard := some (7, false) }) rfl (fun KK hK => ?_) AllReadyH.nil)
                · go_simp
                  go_at_call 66
                  with_reducible refine (tal_quarterN i (cutL l) l.length HCL.out p0 cap0 HLM.out HN2.out HK3.out hs).mono ?_
                  rintro e wq ⟨x2, y2, rfl, hx2, hy2, hs⟩
                  refine hK.out _ _ (HKP.out _ hs) (fun hHeld => ?_)
                  clear hK KK
                  try simp only [Act.put, List.setIfInBounds_toArray, List.set_cons_zero, List.set_cons_succ]
                  have cn2 := cne_run 105 hx2 hy2 FZ.out.1 FZ.out.2 false (by simp)
                  refine wpAnyH_take (i := 14) (oi := { dst := some 92, op := Op.binOp BinOp.neq 105 (Operand.tmp 88) (Operand.tmp 91) 105, type := 4, pos := "law.go:76", after := #[{ on := 10, ground := Ground.data }, { on := 13, ground := Ground.data }, { on := 7, ground := Ground.guard }], guard := some (7, false) }) (v := ?_) rfl (by kernel_rfl) (by kernel_rfl) (by kernel_rfl) (fun _ _ _ h => h) (Or.inl ⟨by rfl, ?_⟩) (by assumption) ?_
                  rotate_left
                  · intro w hSw; (try dsimp only at hSw); go_simp; try with_reducible rfl
                  simp only [Act.put, List.setIfInBounds_toArray, List.set_cons_zero, List.set_cons_succ]
                  refine wpAnyH_take (i := 15) (oi := { dst := some 93, op := Op.pick (Operand.tmp 85) (Operand.const (Value.bool true)) (Operand.tmp 92), type := 4, pos := "law.go:76", after := #[{ on := 7, ground := Ground.data }, { on := 14, ground := Ground.data }], guard := none }) (v := ?_) rfl (by kernel_rfl) (by kernel_rfl) (by kernel_rfl) (fun _ _ _ h => h) (Or.inl ⟨by rfl, ?_⟩) (by assumption) ?_
                  rotate_left
                  · intro w hSw; (try dsimp only at hSw); go_simp; try with_reducible rfl
                  simp only [Act.put, List.setIfInBounds_toArray, List.set_cons_zero, List.set_cons_succ]
                  refine wpAnyH_done (by kernel_rfl) ?_ _
                  clear cn1 cn2
                  go_wp2_with fail
                  go_roundw
                  case rel => exact ⟨i + 1, hlt, by go_num, hs⟩
                  case measure => first | (simp [intOf]; done) | (simp [intOf]; omega)
        · as_aux_lemma =>
          obtain rfl : i = 4 := by omega
          obtain ⟨r1, hr1⟩ : ∃ r : Nat, (k.tmod 4) % 4 = (r : Int) := ⟨((k.tmod 4) % 4).toNat, by omega⟩
          obtain ⟨kq, hkq⟩ : ∃ kq, k.tmod 4 = kq := ⟨_, rfl⟩
          have HKR := Lib.hid (show kq % 4 = (r1 : Int) by rw [← hkq]; exact hr1)
          have HR1 := Lib.hid (show k % 4 = (r1 : Int) by rw [← hr1, tmod4_emod])
          have hal := HA.out
          have hbl := HB.out
          have HA2 := Lib.hid (show -1099511627776 ≤ a ∧ a ≤ 1099511627776 by omega)
          have HB2 := Lib.hid (show -1099511627776 ≤ b ∧ b ≤ 1099511627776 by omega)
          have hte := turnI_le (r1 : Int) a b 2147483648 (by omega) (by omega)
          have hte3 := turnI_le 3 a b 2147483648 (by omega) (by omega)
          obtain ⟨⟨u1, v1⟩, huv1⟩ : ∃ z, turnI (r1 : Int) a b = z := ⟨_, rfl⟩
          obtain ⟨⟨u2, v2⟩, huv2⟩ : ∃ z, turnI 3 a b = z := ⟨_, rfl⟩
          have HUV1 := Lib.hid huv1
          have HUV2 := Lib.hid huv2
          rw [huv1] at hte
          rw [huv2] at hte3
          have FA := Lib.hid (FI.conv a (by unfold Wh; omega))
          have FB := Lib.hid (FI.conv b (by unfold Wh; omega))
          have FU1 := Lib.hid (show FI (floatOfInt .f64 u1) (turnI (r1 : Int) a b).1 by rw [huv1]; exact FI.conv u1 (by unfold Wh; omega))
          have FV1 := Lib.hid (show FI (floatOfInt .f64 v1) (turnI (r1 : Int) a b).2 by rw [huv1]; exact FI.conv v1 (by unfold Wh; omega))
          have FU2 := Lib.hid (FI.conv u2 (by unfold Wh; omega))
          have FV2 := Lib.hid (FI.conv v2 (by unfold Wh; omega))
          have HTC := Lib.hid (show cells4 (fun p => sm (cutL l) p l.length) = #[.int .i64 (t 0), .int .i64 (t 1), .int .i64 (t 2), .int .i64 (t 3)] by
            unfold cells4
            rw [HT.out 0 (by decide), HT.out 1 (by decide), HT.out 2 (by decide), HT.out 3 (by decide)])
          have he4 := eq4_run (t 0) (t 1) (t 2) (t 3)
          have z0 : wr.cell? ⟨zb, 0, none⟩ = some (.int .i32 a) := H.out.p2.rawCell 0
          have z1 : wr.cell? ⟨zb, 1, none⟩ = some (.int .i32 b) := H.out.p2.rawCell 1
          clear hr1 huv1 huv2 hte hte3
          have tk : True := trivial
          go_wp2_with (first
            | (go_at_call 64; (with_reducible refine (l24_turned a b kq r1 HKR.out HA2.out HB2.out H.out).mono ?_); rw [HUV1.out]; rintro e_ wn ⟨rfl, h⟩; have z0 : wn.cell? ⟨zb, 0, none⟩ = some (.int .i32 a) := h.p2.rawCell 0; have z1 : wn.cell? ⟨zb, 1, none⟩ = some (.int .i32 b) := h.p2.rawCell 1; replace H := Lib.hid h; clear h)
            | (go_at_call 64; (with_reducible refine (l24_turned a b 3 3 (by decide) HA2.out HB2.out H.out).mono ?_); rw [show turnI ((3 : Nat) : Int) a b = (u2, v2) from HUV2.out]; rintro e_ wn ⟨rfl, h⟩; replace H := Lib.hid h; clear h))
          clear z0 z1 hkq
          have wa : IntKind.i64.wrap a = a := IntWalk.i64_in _ (by have := HA2.out; omega)
          have wb : IntKind.i64.wrap b = b := IntWalk.i64_in _ (by have := HB2.out; omega)
          have hs := H.out.drew
          have hkeep : ∀ w', St W0 w' K3 [.raw fb #[.complex .f64 (z 0).1 (z 0).2, .complex .f64 (z 1).1 (z 1).2, .complex .f64 (z 2).1 (z 2).2, .complex .f64 (z 3).1 (z 3).2] 106, .raw sb (cells4 t) 104, .raw zb #[.int .i32 a, .int .i32 b] 103] → (w'.cell? ⟨fb, 0, none⟩ = some (.complex .f64 (z 0).1 (z 0).2) ∧ w'.cell? ⟨fb, 1, none⟩ = some (.complex .f64 (z 1).1 (z 1).2) ∧ w'.cell? ⟨fb, 2, none⟩ = some (.complex .f64 (z 2).1 (z 2).2) ∧ w'.cell? ⟨fb, 3, none⟩ = some (.complex .f64 (z 3).1 (z 3).2) ∧ w'.cell? ⟨sb, 0, none⟩ = some (.int .i64 (t 0)) ∧ w'.cell? ⟨sb, 1, none⟩ = some (.int .i64 (t 1)) ∧ w'.cell? ⟨sb, 2, none⟩ = some (.int .i64 (t 2)) ∧ w'.cell? ⟨sb, 3, none⟩ = some (.int .i64 (t 3)) ∧ w'.cell? ⟨zb, 0, none⟩ = some (.int .i32 a) ∧ w'.cell? ⟨zb, 1, none⟩ = some (.int .i32 b)) := fun w' hs => ⟨hs.rawCell 0, hs.rawCell 1, hs.rawCell 2, hs.rawCell 3, hs.p1.rawCell 0, hs.p1.rawCell 1, hs.p1.rawCell 2, hs.p1.rawCell 3, hs.p2.rawCell 0, hs.p2.rawCell 1⟩
          have HKP := Lib.hid hkeep
          clear hkeep
          refine wp_region_held_drew (S := fun w' => w'.cell? ⟨fb, 0, none⟩ = some (.complex .f64 (z 0).1 (z 0).2) ∧ w'.cell? ⟨fb, 1, none⟩ = some (.complex .f64 (z 1).1 (z 1).2) ∧ w'.cell? ⟨fb, 2, none⟩ = some (.complex .f64 (z 2).1 (z 2).2) ∧ w'.cell? ⟨fb, 3, none⟩ = some (.complex .f64 (z 3).1 (z 3).2) ∧ w'.cell? ⟨sb, 0, none⟩ = some (.int .i64 (t 0)) ∧ w'.cell? ⟨sb, 1, none⟩ = some (.int .i64 (t 1)) ∧ w'.cell? ⟨sb, 2, none⟩ = some (.int .i64 (t 2)) ∧ w'.cell? ⟨sb, 3, none⟩ = some (.int .i64 (t 3)) ∧ w'.cell? ⟨zb, 0, none⟩ = some (.int .i32 a) ∧ w'.cell? ⟨zb, 1, none⟩ = some (.int .i32 b)) (by kernel_rfl) (HKP.out _ hs) (fun hHeld => ?_)
          refine wpAnyH_take (i := 0) (oi := { dst := some 117, op := Op.load 106 (Operand.tmp 11), type := 106, pos := "law.go:82", after := #[], guard := none }) (v := ?_) rfl (by kernel_rfl) (by kernel_rfl) (by kernel_rfl) (fun _ _ _ h => h) (Or.inl ⟨by rfl, ?_⟩) (by assumption) ?_
          rotate_left
          · intro w hSw; (try dsimp only at hSw); go_simp; try with_reducible rfl
          simp only [Act.put, List.setIfInBounds_toArray, List.set_cons_zero, List.set_cons_succ]
          refine wpAnyH_take (i := 2) (oi := { dst := some 119, op := Op.load 104 (Operand.tmp 8), type := 104, pos := "law.go:82", after := #[], guard := none }) (v := ?_) rfl (by kernel_rfl) (by kernel_rfl) (by kernel_rfl) (fun _ _ _ h => h) (Or.inl ⟨by rfl, ?_⟩) (by assumption) ?_
          rotate_left
          · intro w hSw; (try dsimp only at hSw); go_simp; try with_reducible rfl
          simp only [Act.put, List.setIfInBounds_toArray, List.set_cons_zero, List.set_cons_succ]
          refine wpAnyH_ready (rs := [1]) (by kernel_rfl) (by simp) (AllReadyH.cons (o := { dst := some 118, op := Op.call { callee := Callee.value (Operand.func 67), args := #[Operand.tmp 117], argTypes := #[106] }, type := 104, pos := "law.go:82", after := #[{ on := 0, ground := Ground.data }], guard := none }) rfl (fun KK hK => ?_) AllReadyH.nil)
          · go_simp
            go_at_call 67
            with_reducible refine (tal_backN (cutL l) l.length HCL.out z _ HTC.out HLM.out HN2.out HZ.out hs).mono ?_
            rintro e wq ⟨rfl, hs⟩
            refine hK.out _ _ (HKP.out _ hs) (fun hHeld => ?_)
            clear hK KK
            try simp only [Act.put, List.setIfInBounds_toArray, List.set_cons_zero, List.set_cons_succ]
            refine wpAnyH_take (i := 3) (oi := { dst := some 120, op := Op.binOp BinOp.eql 104 (Operand.tmp 118) (Operand.tmp 119) 104, type := 4, pos := "law.go:82", after := #[{ on := 1, ground := Ground.data }, { on := 2, ground := Ground.data }], guard := none }) (v := ?_) rfl (by kernel_rfl) (by kernel_rfl) (by kernel_rfl) (fun _ _ _ h => h) (Or.inl ⟨by rfl, ?_⟩) (by assumption) ?_
            rotate_left
            · intro w hSw; (try dsimp only at hSw); go_simp; try with_reducible rfl
            simp only [Act.put, List.setIfInBounds_toArray, List.set_cons_zero, List.set_cons_succ]
            refine wpAnyH_take (i := 4) (oi := { dst := some 121, op := Op.move (Operand.tmp 120), type := 4, pos := "law.go:82", after := #[{ on := 3, ground := Ground.data }, { on := 1, ground := Ground.chain }], guard := none }) (v := ?_) rfl (by kernel_rfl) (by kernel_rfl) (by kernel_rfl) (fun _ _ _ h => h) (Or.inl ⟨by rfl, ?_⟩) (by assumption) ?_
            rotate_left
            · intro w hSw; (try dsimp only at hSw); go_simp; try with_reducible rfl
            simp only [Act.put, List.setIfInBounds_toArray, List.set_cons_zero, List.set_cons_succ]
            refine wpAnyH_take (i := 5) (oi := { dst := some 122, op := Op.indexAddr 103 (Operand.tmp 5) (Operand.const (Value.int IntKind.i64 0)), type := 0, pos := "law.go:82", after := #[{ on := 4, ground := Ground.guard }], guard := some (4, true) }) (v := ?_) rfl (by kernel_rfl) (by kernel_rfl) (by kernel_rfl) (fun _ _ _ h => h) (Or.inl ⟨by rfl, ?_⟩) (by assumption) ?_
            rotate_left
            · intro w hSw; (try dsimp only at hSw); go_simp; try with_reducible rfl
            simp only [Act.put, List.setIfInBounds_toArray, List.set_cons_zero, List.set_cons_succ]
            refine wpAnyH_take (i := 6) (oi := { dst := some 123, op := Op.load 21 (Operand.tmp 122), type := 21, pos := "law.go:82", after := #[{ on := 5, ground := Ground.data }, { on := 4, ground := Ground.guard }], guard := some (4, true) }) (v := ?_) rfl (by kernel_rfl) (by kernel_rfl) (by kernel_rfl) (fun _ _ _ h => h) (Or.inl ⟨by rfl, ?_⟩) (by assumption) ?_
            rotate_left
            · intro w hSw; (try dsimp only at hSw); go_simp; try with_reducible rfl
            simp only [Act.put, List.setIfInBounds_toArray, List.set_cons_zero, List.set_cons_succ]
            refine wpAnyH_take (i := 7) (oi := { dst := some 124, op := Op.convert 21 3 (Operand.tmp 123), type := 3, pos := "law.go:82", after := #[{ on := 6, ground := Ground.data }, { on := 4, ground := Ground.guard }], guard := some (4, true) }) (v := ?_) rfl (by kernel_rfl) (by kernel_rfl) (by kernel_rfl) (fun _ _ _ h => h) (Or.inl ⟨by rfl, ?_⟩) (by assumption) ?_
            rotate_left
            · intro w hSw; (try dsimp only at hSw); go_simp; try with_reducible rfl
            simp only [Act.put, List.setIfInBounds_toArray, List.set_cons_zero, List.set_cons_succ]
            refine wpAnyH_take (i := 8) (oi := { dst := some 125, op := Op.indexAddr 103 (Operand.tmp 5) (Operand.const (Value.int IntKind.i64 1)), type := 0, pos := "law.go:82", after := #[{ on := 4, ground := Ground.guard }], guard := some (4, true) }) (v := ?_) rfl (by kernel_rfl) (by kernel_rfl) (by kernel_rfl) (fun _ _ _ h => h) (Or.inl ⟨by rfl, ?_⟩) (by assumption) ?_
            rotate_left
            · intro w hSw; (try dsimp only at hSw); go_simp; try with_reducible rfl
            simp only [Act.put, List.setIfInBounds_toArray, List.set_cons_zero, List.set_cons_succ]
            refine wpAnyH_take (i := 9) (oi := { dst := some 126, op := Op.load 21 (Operand.tmp 125), type := 21, pos := "law.go:82", after := #[{ on := 8, ground := Ground.data }, { on := 4, ground := Ground.guard }], guard := some (4, true) }) (v := ?_) rfl (by kernel_rfl) (by kernel_rfl) (by kernel_rfl) (fun _ _ _ h => h) (Or.inl ⟨by rfl, ?_⟩) (by assumption) ?_
            rotate_left
            · intro w hSw; (try dsimp only at hSw); go_simp; try with_reducible rfl
            simp only [Act.put, List.setIfInBounds_toArray, List.set_cons_zero, List.set_cons_succ]
            refine wpAnyH_take (i := 10) (oi := { dst := some 127, op := Op.convert 21 3 (Operand.tmp 126), type := 3, pos := "law.go:82", after := #[{ on := 9, ground := Ground.data }, { on := 4, ground := Ground.guard }], guard := some (4, true) }) (v := ?_) rfl (by kernel_rfl) (by kernel_rfl) (by kernel_rfl) (fun _ _ _ h => h) (Or.inl ⟨by rfl, ?_⟩) (by assumption) ?_
            rotate_left
            · intro w hSw; (try dsimp only at hSw); go_simp; try with_reducible rfl
            simp only [Act.put, List.setIfInBounds_toArray, List.set_cons_zero, List.set_cons_succ]
            refine wpAnyH_take (i := 12) (oi := { dst := some 129, op := Op.move (Operand.tmp 1), type := 3, pos := "law.go:82", after := #[{ on := 4, ground := Ground.guard }], guard := some (4, true) }) (v := ?_) rfl (by kernel_rfl) (by kernel_rfl) (by kernel_rfl) (fun _ _ _ h => h) (Or.inl ⟨by rfl, ?_⟩) (by assumption) ?_
            rotate_left
            · intro w hSw; (try dsimp only at hSw); go_simp; try with_reducible rfl
            simp only [Act.put, List.setIfInBounds_toArray, List.set_cons_zero, List.set_cons_succ]
            refine wpAnyH_take (i := 14) (oi := { dst := some 131, op := Op.move (Operand.tmp 19), type := 3, pos := "law.go:82", after := #[{ on := 4, ground := Ground.guard }], guard := some (4, true) }) (v := ?_) rfl (by kernel_rfl) (by kernel_rfl) (by kernel_rfl) (fun _ _ _ h => h) (Or.inl ⟨by rfl, ?_⟩) (by assumption) ?_
            rotate_left
            · intro w hSw; (try dsimp only at hSw); go_simp; try with_reducible rfl
            simp only [Act.put, List.setIfInBounds_toArray, List.set_cons_zero, List.set_cons_succ]
            refine wpAnyH_take (i := 15) (oi := { dst := some 132, op := Op.move (Operand.tmp 20), type := 3, pos := "law.go:82", after := #[{ on := 4, ground := Ground.guard }], guard := some (4, true) }) (v := ?_) rfl (by kernel_rfl) (by kernel_rfl) (by kernel_rfl) (fun _ _ _ h => h) (Or.inl ⟨by rfl, ?_⟩) (by assumption) ?_
            rotate_left
            · intro w hSw; (try dsimp only at hSw); go_simp; try with_reducible rfl
            simp only [Act.put, List.setIfInBounds_toArray, List.set_cons_zero, List.set_cons_succ]
            refine wpAnyH_ready (rs := [11]) (by kernel_rfl) (by simp) (AllReadyH.cons (o := { dst := some 128, op := Op.call { callee := Callee.value (Operand.func 65), args := #[Operand.tmp 124, Operand.tmp 127], argTypes := #[3, 3] }, type := 105, pos := "law.go:82", after := #[{ on := 7, ground := Ground.data }, { on := 10, ground := Ground.data }, { on := 4, ground := Ground.chain }, { on := 4, ground := Ground.guard }], guard := some (4, true) }) rfl (fun KK hK => ?_) AllReadyH.nil)
            · go_simp
              go_at_call 65
              with_reducible refine (l24_whole a b hs).mono ?_
              rintro e wq ⟨rfl, hs⟩
              refine hK.out _ _ (HKP.out _ hs) (fun hHeld => ?_)
              clear hK KK
              try simp only [Act.put, List.setIfInBounds_toArray, List.set_cons_zero, List.set_cons_succ]
              refine wpAnyH_ready (rs := [13]) (by kernel_rfl) (by simp) (AllReadyH.cons (o := { dst := some 130, op := Op.call { callee := Callee.value (Operand.func 68), args := #[Operand.tmp 128, Operand.tmp 129], argTypes := #[105, 3] }, type := 105, pos := "law.go:82", after := #[{ on := 11, ground := Ground.data }, { on := 12, ground := Ground.data }, { on := 11, ground := Ground.chain }, { on := 4, ground := Ground.guard }], guard := some (4, true) }) rfl (fun KK hK => ?_) AllReadyH.nil)
              · go_simp
                go_at_call 68
                with_reducible refine (tal_turn _ _ a b FA.out FB.out k r1 HR1.out hs).mono ?_
                rintro e wq ⟨x1, y1, rfl, hx1, hy1, hs⟩
                refine hK.out _ _ (HKP.out _ hs) (fun hHeld => ?_)
                clear hK KK
                try simp only [Act.put, List.setIfInBounds_toArray, List.set_cons_zero, List.set_cons_succ]
                have cq1 := ceq_run 105 hx1 hy1 FU1.out FV1.out true (by simp)
                clear hx1 hy1
                refine wpAnyH_ready (rs := [16]) (by kernel_rfl) (by simp) (AllReadyH.cons (o := { dst := some 133, op := Op.call { callee := Callee.value (Operand.func 65), args := #[Operand.tmp 131, Operand.tmp 132], argTypes := #[3, 3] }, type := 105, pos := "law.go:82", after := #[{ on := 14, ground := Ground.data }, { on := 15, ground := Ground.data }, { on := 13, ground := Ground.chain }, { on := 4, ground := Ground.guard }], guard := some (4, true) }) rfl (fun KK hK => ?_) AllReadyH.nil)
                · go_simp
                  go_at_call 65
                  with_reducible refine (l24_whole u1 v1 hs).mono ?_
                  rintro e wq ⟨rfl, hs⟩
                  refine hK.out _ _ (HKP.out _ hs) (fun hHeld => ?_)
                  clear hK KK
                  try simp only [Act.put, List.setIfInBounds_toArray, List.set_cons_zero, List.set_cons_succ]
                  refine wpAnyH_take (i := 17) (oi := { dst := some 134, op := Op.binOp BinOp.eql 105 (Operand.tmp 130) (Operand.tmp 133) 105, type := 4, pos := "law.go:82", after := #[{ on := 13, ground := Ground.data }, { on := 16, ground := Ground.data }, { on := 4, ground := Ground.guard }], guard := some (4, true) }) (v := ?_) rfl (by kernel_rfl) (by kernel_rfl) (by kernel_rfl) (fun _ _ _ h => h) (Or.inl ⟨by rfl, ?_⟩) (by assumption) ?_
                  rotate_left
                  · intro w hSw; (try dsimp only at hSw); go_simp; try with_reducible rfl
                  simp only [Act.put, List.setIfInBounds_toArray, List.set_cons_zero, List.set_cons_succ]
                  refine wpAnyH_take (i := 18) (oi := { dst := some 135, op := Op.pick (Operand.tmp 121) (Operand.tmp 134) (Operand.const (Value.bool false)), type := 4, pos := "law.go:82", after := #[{ on := 4, ground := Ground.data }, { on := 17, ground := Ground.data }], guard := none }) (v := ?_) rfl (by kernel_rfl) (by kernel_rfl) (by kernel_rfl) (fun _ _ _ h => h) (Or.inl ⟨by rfl, ?_⟩) (by assumption) ?_
                  rotate_left
                  · intro w hSw; (try dsimp only at hSw); go_simp; try with_reducible rfl
                  simp only [Act.put, List.setIfInBounds_toArray, List.set_cons_zero, List.set_cons_succ]
                  refine wpAnyH_take (i := 19) (oi := { dst := some 136, op := Op.move (Operand.tmp 135), type := 4, pos := "law.go:82", after := #[{ on := 18, ground := Ground.data }, { on := 16, ground := Ground.chain }], guard := none }) (v := ?_) rfl (by kernel_rfl) (by kernel_rfl) (by kernel_rfl) (fun _ _ _ h => h) (Or.inl ⟨by rfl, ?_⟩) (by assumption) ?_
                  rotate_left
                  · intro w hSw; (try dsimp only at hSw); go_simp; try with_reducible rfl
                  simp only [Act.put, List.setIfInBounds_toArray, List.set_cons_zero, List.set_cons_succ]
                  refine wpAnyH_take (i := 20) (oi := { dst := some 137, op := Op.indexAddr 103 (Operand.tmp 5) (Operand.const (Value.int IntKind.i64 0)), type := 0, pos := "law.go:82", after := #[{ on := 19, ground := Ground.guard }], guard := some (19, true) }) (v := ?_) rfl (by kernel_rfl) (by kernel_rfl) (by kernel_rfl) (fun _ _ _ h => h) (Or.inl ⟨by rfl, ?_⟩) (by assumption) ?_
                  rotate_left
                  · intro w hSw; (try dsimp only at hSw); go_simp; try with_reducible rfl
                  simp only [Act.put, List.setIfInBounds_toArray, List.set_cons_zero, List.set_cons_succ]
                  refine wpAnyH_take (i := 21) (oi := { dst := some 138, op := Op.load 21 (Operand.tmp 137), type := 21, pos := "law.go:82", after := #[{ on := 20, ground := Ground.data }, { on := 19, ground := Ground.guard }], guard := some (19, true) }) (v := ?_) rfl (by kernel_rfl) (by kernel_rfl) (by kernel_rfl) (fun _ _ _ h => h) (Or.inl ⟨by rfl, ?_⟩) (by assumption) ?_
                  rotate_left
                  · intro w hSw; (try dsimp only at hSw); go_simp; try with_reducible rfl
                  simp only [Act.put, List.setIfInBounds_toArray, List.set_cons_zero, List.set_cons_succ]
                  refine wpAnyH_take (i := 22) (oi := { dst := some 139, op := Op.convert 21 3 (Operand.tmp 138), type := 3, pos := "law.go:82", after := #[{ on := 21, ground := Ground.data }, { on := 19, ground := Ground.guard }], guard := some (19, true) }) (v := ?_) rfl (by kernel_rfl) (by kernel_rfl) (by kernel_rfl) (fun _ _ _ h => h) (Or.inl ⟨by rfl, ?_⟩) (by assumption) ?_
                  rotate_left
                  · intro w hSw; (try dsimp only at hSw); go_simp; try with_reducible rfl
                  simp only [Act.put, List.setIfInBounds_toArray, List.set_cons_zero, List.set_cons_succ]
                  refine wpAnyH_take (i := 23) (oi := { dst := some 140, op := Op.indexAddr 103 (Operand.tmp 5) (Operand.const (Value.int IntKind.i64 1)), type := 0, pos := "law.go:82", after := #[{ on := 19, ground := Ground.guard }], guard := some (19, true) }) (v := ?_) rfl (by kernel_rfl) (by kernel_rfl) (by kernel_rfl) (fun _ _ _ h => h) (Or.inl ⟨by rfl, ?_⟩) (by assumption) ?_
                  rotate_left
                  · intro w hSw; (try dsimp only at hSw); go_simp; try with_reducible rfl
                  simp only [Act.put, List.setIfInBounds_toArray, List.set_cons_zero, List.set_cons_succ]
                  refine wpAnyH_take (i := 24) (oi := { dst := some 141, op := Op.load 21 (Operand.tmp 140), type := 21, pos := "law.go:82", after := #[{ on := 23, ground := Ground.data }, { on := 19, ground := Ground.guard }], guard := some (19, true) }) (v := ?_) rfl (by kernel_rfl) (by kernel_rfl) (by kernel_rfl) (fun _ _ _ h => h) (Or.inl ⟨by rfl, ?_⟩) (by assumption) ?_
                  rotate_left
                  · intro w hSw; (try dsimp only at hSw); go_simp; try with_reducible rfl
                  simp only [Act.put, List.setIfInBounds_toArray, List.set_cons_zero, List.set_cons_succ]
                  refine wpAnyH_take (i := 25) (oi := { dst := some 142, op := Op.convert 21 3 (Operand.tmp 141), type := 3, pos := "law.go:82", after := #[{ on := 24, ground := Ground.data }, { on := 19, ground := Ground.guard }], guard := some (19, true) }) (v := ?_) rfl (by kernel_rfl) (by kernel_rfl) (by kernel_rfl) (fun _ _ _ h => h) (Or.inl ⟨by rfl, ?_⟩) (by assumption) ?_
                  rotate_left
                  · intro w hSw; (try dsimp only at hSw); go_simp; try with_reducible rfl
                  simp only [Act.put, List.setIfInBounds_toArray, List.set_cons_zero, List.set_cons_succ]
                  refine wpAnyH_take (i := 29) (oi := { dst := some 146, op := Op.move (Operand.tmp 21), type := 3, pos := "law.go:82", after := #[{ on := 19, ground := Ground.guard }], guard := some (19, true) }) (v := ?_) rfl (by kernel_rfl) (by kernel_rfl) (by kernel_rfl) (fun _ _ _ h => h) (Or.inl ⟨by rfl, ?_⟩) (by assumption) ?_
                  rotate_left
                  · intro w hSw; (try dsimp only at hSw); go_simp; try with_reducible rfl
                  simp only [Act.put, List.setIfInBounds_toArray, List.set_cons_zero, List.set_cons_succ]
                  refine wpAnyH_take (i := 30) (oi := { dst := some 147, op := Op.move (Operand.tmp 22), type := 3, pos := "law.go:82", after := #[{ on := 19, ground := Ground.guard }], guard := some (19, true) }) (v := ?_) rfl (by kernel_rfl) (by kernel_rfl) (by kernel_rfl) (fun _ _ _ h => h) (Or.inl ⟨by rfl, ?_⟩) (by assumption) ?_
                  rotate_left
                  · intro w hSw; (try dsimp only at hSw); go_simp; try with_reducible rfl
                  simp only [Act.put, List.setIfInBounds_toArray, List.set_cons_zero, List.set_cons_succ]
                  refine wpAnyH_ready (rs := [26]) (by kernel_rfl) (by simp) (AllReadyH.cons (o := { dst := some 143, op := Op.call { callee := Callee.value (Operand.func 65), args := #[Operand.tmp 139, Operand.tmp 142], argTypes := #[3, 3] }, type := 105, pos := "law.go:82", after := #[{ on := 22, ground := Ground.data }, { on := 25, ground := Ground.data }, { on := 19, ground := Ground.chain }, { on := 19, ground := Ground.guard }], guard := some (19, true) }) rfl (fun KK hK => ?_) AllReadyH.nil)
                  · go_simp
                    go_at_call 65
                    with_reducible refine (l24_whole a b hs).mono ?_
                    rintro e wq ⟨rfl, hs⟩
                    refine hK.out _ _ (HKP.out _ hs) (fun hHeld => ?_)
                    clear hK KK
                    try simp only [Act.put, List.setIfInBounds_toArray, List.set_cons_zero, List.set_cons_succ]
                    refine wpAnyH_ready (rs := [27]) (by kernel_rfl) (by simp) (AllReadyH.cons (o := { dst := some 144, op := Op.call { callee := Callee.value (Operand.func 68), args := #[Operand.tmp 143, Operand.const (Value.int IntKind.i64 3)], argTypes := #[105, 3] }, type := 105, pos := "law.go:82", after := #[{ on := 26, ground := Ground.data }, { on := 26, ground := Ground.chain }, { on := 19, ground := Ground.guard }], guard := some (19, true) }) rfl (fun KK hK => ?_) AllReadyH.nil)
                    · go_simp
                      go_at_call 68
                      with_reducible refine (tal_turn _ _ a b FA.out FB.out 3 3 (by decide) hs).mono ?_
                      rintro e wq ⟨x3, y3, rfl, hx3, hy3, hs⟩
                      refine hK.out _ _ (HKP.out _ hs) (fun hHeld => ?_)
                      clear hK KK
                      try simp only [Act.put, List.setIfInBounds_toArray, List.set_cons_zero, List.set_cons_succ]
                      refine wpAnyH_ready (rs := [28]) (by kernel_rfl) (by simp) (AllReadyH.cons (o := { dst := some 145, op := Op.call { callee := Callee.value (Operand.func 68), args := #[Operand.tmp 144, Operand.const (Value.int IntKind.i64 (-3))], argTypes := #[105, 3] }, type := 105, pos := "law.go:82", after := #[{ on := 27, ground := Ground.data }, { on := 27, ground := Ground.chain }, { on := 19, ground := Ground.guard }], guard := some (19, true) }) rfl (fun KK hK => ?_) AllReadyH.nil)
                      · go_simp
                        go_at_call 68
                        with_reducible refine (tal_turn _ _ _ _ hx3 hy3 (-3) 1 (by decide) hs).mono ?_
                        rintro e wq ⟨x4, y4, rfl, hx4, hy4, hs⟩
                        refine hK.out _ _ (HKP.out _ hs) (fun hHeld => ?_)
                        clear hK KK
                        try simp only [Act.put, List.setIfInBounds_toArray, List.set_cons_zero, List.set_cons_succ]
                        refine wpAnyH_ready (rs := [31]) (by kernel_rfl) (by simp) (AllReadyH.cons (o := { dst := some 148, op := Op.call { callee := Callee.value (Operand.func 65), args := #[Operand.tmp 146, Operand.tmp 147], argTypes := #[3, 3] }, type := 105, pos := "law.go:82", after := #[{ on := 29, ground := Ground.data }, { on := 30, ground := Ground.data }, { on := 28, ground := Ground.chain }, { on := 19, ground := Ground.guard }], guard := some (19, true) }) rfl (fun KK hK => ?_) AllReadyH.nil)
                        · go_simp
                          go_at_call 65
                          with_reducible refine (l24_whole u2 v2 hs).mono ?_
                          rintro e wq ⟨rfl, hs⟩
                          refine hK.out _ _ (HKP.out _ hs) (fun hHeld => ?_)
                          clear hK KK
                          try simp only [Act.put, List.setIfInBounds_toArray, List.set_cons_zero, List.set_cons_succ]
                          refine wpAnyH_ready (rs := [32]) (by kernel_rfl) (by simp) (AllReadyH.cons (o := { dst := some 149, op := Op.call { callee := Callee.value (Operand.func 68), args := #[Operand.tmp 148, Operand.const (Value.int IntKind.i64 1)], argTypes := #[105, 3] }, type := 105, pos := "law.go:82", after := #[{ on := 31, ground := Ground.data }, { on := 31, ground := Ground.chain }, { on := 19, ground := Ground.guard }], guard := some (19, true) }) rfl (fun KK hK => ?_) AllReadyH.nil)
                          · go_simp
                            go_at_call 68
                            with_reducible refine (tal_turn _ _ u2 v2 FU2.out FV2.out 1 1 (by decide) hs).mono ?_
                            rintro e wq ⟨x5, y5, rfl, hx5, hy5, hs⟩
                            refine hK.out _ _ (HKP.out _ hs) (fun hHeld => ?_)
                            clear hK KK
                            try simp only [Act.put, List.setIfInBounds_toArray, List.set_cons_zero, List.set_cons_succ]
                            have cq2 := ceq_run 105 hx4 hy4 hx5 hy5 true (by rw [HUV2.out]; simp)
                            refine wpAnyH_take (i := 33) (oi := { dst := some 150, op := Op.binOp BinOp.eql 105 (Operand.tmp 145) (Operand.tmp 149) 105, type := 4, pos := "law.go:82", after := #[{ on := 28, ground := Ground.data }, { on := 32, ground := Ground.data }, { on := 19, ground := Ground.guard }], guard := some (19, true) }) (v := ?_) rfl (by kernel_rfl) (by kernel_rfl) (by kernel_rfl) (fun _ _ _ h => h) (Or.inl ⟨by rfl, ?_⟩) (by assumption) ?_
                            rotate_left
                            · intro w hSw; (try dsimp only at hSw); go_simp; try with_reducible rfl
                            simp only [Act.put, List.setIfInBounds_toArray, List.set_cons_zero, List.set_cons_succ]
                            refine wpAnyH_take (i := 34) (oi := { dst := some 151, op := Op.pick (Operand.tmp 136) (Operand.tmp 150) (Operand.const (Value.bool false)), type := 4, pos := "law.go:82", after := #[{ on := 19, ground := Ground.data }, { on := 33, ground := Ground.data }], guard := none }) (v := ?_) rfl (by kernel_rfl) (by kernel_rfl) (by kernel_rfl) (fun _ _ _ h => h) (Or.inl ⟨by rfl, ?_⟩) (by assumption) ?_
                            rotate_left
                            · intro w hSw; (try dsimp only at hSw); go_simp; try with_reducible rfl
                            simp only [Act.put, List.setIfInBounds_toArray, List.set_cons_zero, List.set_cons_succ]
                            refine wpAnyH_take (i := 35) (oi := { dst := some 6, op := Op.assign (Operand.tmp 151), type := 4, pos := "law.go:82", after := #[{ on := 34, ground := Ground.data }, { on := 32, ground := Ground.chain }, { on := 0, ground := Ground.phase }, { on := 1, ground := Ground.phase }, { on := 2, ground := Ground.phase }, { on := 3, ground := Ground.phase }, { on := 4, ground := Ground.phase }, { on := 5, ground := Ground.phase }, { on := 6, ground := Ground.phase }, { on := 7, ground := Ground.phase }, { on := 8, ground := Ground.phase }, { on := 9, ground := Ground.phase }, { on := 10, ground := Ground.phase }, { on := 11, ground := Ground.phase }, { on := 12, ground := Ground.phase }, { on := 13, ground := Ground.phase }, { on := 14, ground := Ground.phase }, { on := 15, ground := Ground.phase }, { on := 16, ground := Ground.phase }, { on := 17, ground := Ground.phase }, { on := 18, ground := Ground.phase }, { on := 19, ground := Ground.phase }, { on := 20, ground := Ground.phase }, { on := 21, ground := Ground.phase }, { on := 22, ground := Ground.phase }, { on := 23, ground := Ground.phase }, { on := 24, ground := Ground.phase }, { on := 25, ground := Ground.phase }, { on := 26, ground := Ground.phase }, { on := 27, ground := Ground.phase }, { on := 28, ground := Ground.phase }, { on := 29, ground := Ground.phase }, { on := 30, ground := Ground.phase }, { on := 31, ground := Ground.phase }, { on := 32, ground := Ground.phase }, { on := 33, ground := Ground.phase }, { on := 34, ground := Ground.phase }], guard := none }) (v := ?_) rfl (by kernel_rfl) (by kernel_rfl) (by kernel_rfl) (fun _ _ _ h => h) (Or.inl ⟨by rfl, ?_⟩) (by assumption) ?_
                            rotate_left
                            · intro w hSw; (try dsimp only at hSw); go_simp; try with_reducible rfl
                            simp only [Act.put, List.setIfInBounds_toArray, List.set_cons_zero, List.set_cons_succ]
                            refine wpAnyH_done (by kernel_rfl) ?_ _
                            go_wp2_with fail
                            go_ret
                            exact ⟨rfl, hs.below⟩

end Go.Proofs.Ytombolmicfjjpaa

/- Arrays of two numbers, by value. -/
namespace Go.Proofs.Ytombolmicfjjpaa
open Go.Joins Go.ChangeShapes Go.WideShapes Go.RowKit Go.Deep
section
variable {H : Type} {enc : TypeId × Value → H} {P : Program} {w : World} {base : Nat} {spare : Nat → Bool} {held : Bool}
theorem trod_array2' {t e : TypeId} {fuel : Nat} {c0 c1 : Value} {x : DataW H × List MemPlace} (ht : P.underlying t = some (.array 2 e)) (hce : P.cellsOf e = 1)
    (h : DataW.trod enc P w base spare held fuel t [c0, c1] = some x) :
    ∃ y0 y1 n, DataW.trod enc P w base spare held n e [c0] = some y0 ∧ DataW.trod enc P w base spare held n e [c1] = some y1 ∧ x = (.agg [y0.1, y1.1], y0.2 ++ y1.2) := by
  cases fuel with
  | zero => simp [DataW.trod] at h
  | succ n =>
    unfold DataW.trod at h
    rw [ht] at h
    have r2 : List.range 2 = [0, 1] := rfl
    simp [r2, hce] at h
    obtain ⟨_, h⟩ := h
    cases h0 : DataW.trod enc P w base spare held n e [c0] with
    | none => simp [h0] at h
    | some y0 =>
      cases h1 : DataW.trod enc P w base spare held n e [c1] with
      | none => simp [h0, h1] at h
      | some y1 =>
        simp [h0, h1] at h
        exact ⟨y0, y1, n, h0, h1, h.symm⟩
theorem open_ints2 {r : Reach} {b0 : Nat} {t e : TypeId} {v : Value} {d : DataW H} {p : List MemPlace} (ht : P.underlying t = some (.array 2 e)) (he : P.underlying e = some (.int .i64)) (hce : P.cellsOf e = 1) (hC : P.cellsOf t = 2)
    (hv : Value.okWide P w r b0 t v) (h : DataW.Trod enc P w base spare held t v d p) : ∃ x0 x1 : Int, v = .agg #[.int .i64 x0, .int .i64 x1] ∧ (-9223372036854775808 ≤ x0 ∧ x0 < 9223372036854775808) ∧ (-9223372036854775808 ≤ x1 ∧ x1 < 9223372036854775808) := by
  unfold Value.okWide at hv
  rw [ht] at hv
  obtain ⟨cs, rfl, hsz, _⟩ := hv
  obtain ⟨l⟩ := cs
  match l, hsz.trans hC with
  | [c0, c1], _ =>
    obtain ⟨fuel, hf⟩ := h
    obtain ⟨y0, y1, n, h0, h1, _⟩ := trod_array2' ht hce hf
    obtain ⟨x0, e0, _, f0⟩ := DataW.trod_int he h0
    obtain ⟨x1, e1, _, f1⟩ := DataW.trod_int he h1
    simp at e0 e1
    subst e0 e1
    exact ⟨x0, x1, rfl, wf_i64 f0, wf_i64 f1⟩
end
end Go.Proofs.Ytombolmicfjjpaa

/- Lists of cells. -/
namespace Go.Proofs.Ytombolmicfjjpaa
open Go.RowKit

theorem cells_u8 : Try.prog.cellsOf 5 = 1 := by kernel_rfl
theorem cells_int : Try.prog.cellsOf 3 = 1 := by kernel_rfl
theorem cells_str : Try.prog.cellsOf 9 = 1 := by kernel_rfl
theorem len2 {α : Type} {l : List α} (h : l.length = 2) : ∃ a b, l = [a, b] := by
  match l, h with
  | [a, b], _ => exact ⟨a, b, rfl⟩
theorem len3 {α : Type} {l : List α} (h : l.length = 3) : ∃ a b c, l = [a, b, c] := by
  match l, h with
  | [a, b, c], _ => exact ⟨a, b, c, rfl⟩
theorem len4 {α : Type} {l : List α} (h : l.length = 4) : ∃ a b c d, l = [a, b, c, d] := by
  match l, h with
  | [a, b, c, d], _ => exact ⟨a, b, c, d, rfl⟩

end Go.Proofs.Ytombolmicfjjpaa

/- What arguments are made of, with the reach of each part. -/
namespace Go.Proofs.Ytombolmicfjjpaa
open Go.RowKit
open Go.ChangeShapes Go.WideShapes Go.ChangeAt Go.Deep

/-- No part is beyond all reach. -/
def Light {H : Type} (t : TypeId) (d : DataW H) : Prop := ∀ k ∈ d.weights Try.prog t, k ≤ reachBytes
theorem reach_eq : reachBytes = 140737488351232 := rfl

section
variable {H : Type} {enc : TypeId × Value → H} {w : World} {spare : Nat → Bool} {held : Bool}

theorem light_arg {ts : List TypeId} {ds : List (DataW H)} (h : (DataW.weightsEach Try.prog ts ds).all (· ≤ reachBytes) = true) {j : Nat} {t : TypeId} {d : DataW H} (ht : ts[j]? = some t) (hd : ds[j]? = some d) : Light t d := by
  intro k hk
  have := List.all_eq_true.1 h k (DataW.weights_mem_each ht hd k hk)
  simpa using this

theorem opens_field {t : TypeId} {fs : Array Field} {n N : Nat} {cs : List Value} {y : DataW H × List MemPlace} (ht : Try.prog.underlying t = some (.struct fs)) (h : DataW.trod enc Try.prog w 0 spare held n t cs = some y) (hl : Light t y.1) (hN : ∀ x ∈ y.2, x.block < N) :
    cs.length = Try.prog.cellsOf t ∧ ∃ m, ∀ (i : Nat) (f : Field), fs[i]? = some f → ∃ z, DataW.trod enc Try.prog w 0 spare held m f.type ((cs.drop f.offset).take (Try.prog.cellsOf f.type)) = some z ∧ Light f.type z.1 ∧ ∀ x ∈ z.2, x.block < N := by
  obtain ⟨xs, m, _, rfl, hc, hxl, hg⟩ := DataW.trod_struct ht h
  refine ⟨hc, m, fun i f hf => ?_⟩
  have hi : i < fs.size := (Array.getElem?_eq_some_iff.1 hf).1
  have hx : xs[i]? = some (xs[i]'(by omega)) := List.getElem?_eq_getElem (by omega)
  refine ⟨_, (hg i f hf).trans hx, ?_, fun x hxx => hN x (List.mem_flatMap.2 ⟨_, List.getElem_mem _, hxx⟩)⟩
  intro k hk
  refine hl k ?_
  simp only [DataW.weights, ht]
  exact DataW.weights_mem_each (j := i) (by rw [List.getElem?_map, Array.getElem?_toList, hf]; rfl) (by rw [List.getElem?_map, hx]; rfl) k hk

theorem opens_str {t : TypeId} {n : Nat} {cs : List Value} {y : DataW H × List MemPlace} (ht : Try.prog.underlying t = some .string) (h : DataW.trod enc Try.prog w 0 spare held n t cs = some y) (hl : Light t y.1) : ∃ s : Bs, cs = [.string (bb s)] ∧ s.length ≤ 140737488351232 := by
  obtain ⟨s, e, e2, q⟩ := DataW.trod_string ht h
  refine ⟨s.data.toList, e, ?_⟩
  subst e2
  have := hl s.data.toList.length (by simp [DataW.weights])
  rw [reach_eq] at this
  exact this
theorem opens_i64 {t : TypeId} {n : Nat} {cs : List Value} {y : DataW H × List MemPlace} (ht : Try.prog.underlying t = some (.int .i64)) (h : DataW.trod enc Try.prog w 0 spare held n t cs = some y) : ∃ x : Int, cs = [.int .i64 x] ∧ -9223372036854775808 ≤ x ∧ x < 9223372036854775808 := by
  obtain ⟨x, e, _, q⟩ := DataW.trod_int ht h
  exact ⟨x, e, wf_i64 q⟩
theorem opens_bool {t : TypeId} {n : Nat} {cs : List Value} {y : DataW H × List MemPlace} (ht : Try.prog.underlying t = some .bool) (h : DataW.trod enc Try.prog w 0 spare held n t cs = some y) : ∃ x : Bool, cs = [.bool x] := by
  obtain ⟨x, e, _⟩ := DataW.trod_bool ht h
  exact ⟨x, e⟩

theorem weightsAll_mem' {P : Program} {e : TypeId} : ∀ {l : List (DataW H)} {d : DataW H}, d ∈ l → ∀ k ∈ d.weights P e, k ∈ DataW.weightsAll P e l
  | a :: l, d, hd, k, hk => by
    simp only [DataW.weightsAll, List.mem_append]
    rcases List.mem_cons.1 hd with rfl | hd
    · exact .inl hk
    · exact .inr (weightsAll_mem' hd k hk)

theorem opens_rows {α : Type} {R : World → List Value → α → Prop} {t e : TypeId} {sz N : Nat} (ht : Try.prog.underlying t = some (.slice e)) (hC : Try.prog.cellsOf e = sz) (hsz : 0 < sz)
    (hR : ∀ n cs y, DataW.trod enc Try.prog w 0 spare held n e cs = some y → Light e y.1 → (∀ x ∈ y.2, x.block < N) → ∃ x, R w cs x)
    {fuel : Nat} {cs : List Value} {x : DataW H × List MemPlace} (h : DataW.trod enc Try.prog w 0 spare held fuel t cs = some x) (hl : Light t x.1) (hlt : ∀ y ∈ x.2, y.block < N) (hN : N ≤ w.heap.size) :
    ∃ v l, cs = [v] ∧ RowsOf R (· < N) w v sz l ∧ l.length * Try.prog.bytesOf e ≤ 140737488351232 ∧ l.length ≤ maxLen := by
  rcases open_slice ht h with ⟨rfl, rfl⟩ | ⟨a, len, cap, m, n, D, Pl, rfl, hb, hlc, hm, hmm, hx, hi⟩
  · exact ⟨_, [], rfl, ⟨none, 0, rfl, fun h => absurd h (by simp)⟩, by simp, by simp⟩
  · have hlm : len ≤ m := by rw [hmm]; split <;> omega
    have hp2 : x.2 = MemPlace.row a (m * Try.prog.cellsOf e) ++ (List.range m).flatMap Pl := by rw [hx]
    have hx1 : x.1 = .slice ((List.range len).map D) ((List.range (m - len)).map fun j => D (len + j)) := by rw [hx]
    have hsum : len * Try.prog.bytesOf e ≤ 140737488351232 := by
      have := hl (((List.range len).map D).length * Try.prog.bytesOf e + ((List.range (m - len)).map fun j => D (len + j)).length * Try.prog.bytesOf e) (by rw [hx1]; simp [DataW.weights, ht, Nat.add_mul])
      rw [reach_eq] at this
      simp only [List.length_map, List.length_range] at this
      omega
    have hle : ∀ i, i < len → Light e (D i) := by
      intro i hil k hk
      refine hl k ?_
      rw [hx1]
      simp only [DataW.weights, ht, List.mem_cons, List.mem_append]
      exact .inr (.inl (weightsAll_mem' (List.mem_map.2 ⟨i, List.mem_range.2 hil, rfl⟩) k hk))
    have key : ∀ i, i < len → ∃ y : α, ∃ cs', cs'.length = sz ∧ R w cs' y ∧ (∀ f u, cs'[f]? = some u → w.cell? ((a.add (i * sz)).add f) = some u) := by
      intro i hil
      obtain ⟨cs', hc, htr⟩ := hi i (by omega)
      obtain ⟨_, hcl, hat⟩ := World.cells?_some hc
      obtain ⟨y, hy⟩ := hR n cs' _ htr (hle i hil) (fun z hz => hlt z (by rw [hp2, List.mem_append]; exact .inr (List.mem_flatMap.2 ⟨i, by simp; omega, hz⟩)))
      rw [hC] at hcl hat
      refine ⟨y, cs', hcl, hy, fun f u hu => ?_⟩
      have hf : f < sz := by rw [← hcl]; exact (List.getElem?_eq_some_iff.1 hu).1
      rw [hat f hf, hu]
    obtain ⟨l, hll, hq⟩ := list_of len _ key
    refine ⟨_, l, rfl, ⟨some a, cap, by rw [hll], fun h0 => ?_⟩, by rw [hll]; exact hsum, by omega⟩
    obtain ⟨cs0, h1, h2, h3⟩ := hq 0 h0
    have hc0 : w.cell? a = some (cs0[0]'(by omega)) := by
      have := h3 0 _ (List.getElem?_eq_getElem (by omega))
      simpa [Addr.add] using this
    have hsp : a.spot = none := by
      cases hs : a.spot with
      | none => rfl
      | some s =>
        unfold World.cell? at hc0
        split at hc0 <;> simp_all
    obtain ⟨ab, ao, asp⟩ := a
    simp only at hsp
    subst hsp
    have hlt0 : ab < N := hlt (.cell ab ao) (by
      rw [hp2, List.mem_append]
      left
      simp only [MemPlace.row, List.mem_map, List.mem_range]
      exact ⟨0, by rw [hC]; exact Nat.mul_pos (by omega) hsz, by simp⟩)
    refine ⟨ab, ao, rfl, hlt0, Nat.lt_of_lt_of_le hlt0 hN, fun i hi => ?_⟩
    obtain ⟨cs', g1, g2, g3⟩ := hq i hi
    refine ⟨cs', g1, g2, fun f u hu => ?_⟩
    have := g3 f u hu
    have e1 : ∀ (o q : Nat), (⟨ab, o, none⟩ : Addr).add q = ⟨ab, o + q, none⟩ := by intro o q; unfold Addr.add; split <;> simp_all
    rw [e1, e1, Nat.add_assoc] at this
    exact this
end

/-- Of a row's things, what is said of each, apart. -/
theorem RowsOf.part {α : Type} {R : World → List Value → α → Prop} {Q : α → Prop} {D : Nat → Prop} {w : World} {v : Value} {sz : Nat} {l : List α} (h : RowsOf (fun w cs x => R w cs x ∧ Q x) D w v sz l) : RowsOf R D w v sz l ∧ ∀ x ∈ l, Q x := by
  refine ⟨h.mono (fun _ _ h => h) (fun _ _ h => h.1), fun x hx => ?_⟩
  obtain ⟨i, hi, rfl⟩ := List.mem_iff_getElem.1 hx
  obtain ⟨p, cap, rfl, h⟩ := h
  obtain ⟨b, off, rfl, _, _, hc⟩ := h (by omega)
  obtain ⟨cs, _, h2, _⟩ := hc i hi
  exact h2.2

end Go.Proofs.Ytombolmicfjjpaa

/- Fields, one behind the other, read again, and cut (pure). -/
namespace Go.Proofs.Ytombolmicfjjpaa
open Go.RowKit

/-- What was read, and what went wrong but for too few bytes, stays so where more bytes follow. -/
structure Ext {α : Type} (p : Bs → Except Int (α × Nat)) : Prop where
  ok : ∀ (t r : Bs) (x : α × Nat), p t = .ok x → p (t ++ r) = .ok x
  err : ∀ (t r : Bs) (e : Int), p t = .error e → e ≠ 1 → p (t ++ r) = .error e
  le : ∀ (t : Bs) (x : α) (k : Nat), p t = .ok (x, k) → k ≤ t.length
theorem Ext.short {α : Type} {p : Bs → Except Int (α × Nat)} (h : Ext p) {e : Bs} {x : α} (hb : p e = .ok (x, e.length)) (j : Nat) (hj : j < e.length) : p (e.take j) = .error 1 := by
  have hs : e.take j ++ e.drop j = e := List.take_append_drop _ _
  cases hp : p (e.take j) with
  | ok y =>
    obtain ⟨y, k⟩ := y
    have h1 := h.ok _ (e.drop j) _ hp
    rw [hs, hb] at h1
    cases h1
    have h2 := h.le _ _ _ hp
    rw [List.length_take] at h2
    omega
  | error f =>
    by_cases hf : f = 1
    · rw [hf]
    · have h1 := h.err _ (e.drop j) _ hp hf
      rw [hs, hb] at h1
      cases h1
theorem ext_vgetF (top : Nat) : ∀ (t : Bs) (f r n : Nat) (rest : Bs), (∀ x, vgetF top f r n t = .ok x → vgetF top f r n (t ++ rest) = .ok x) ∧ (∀ e, vgetF top f r n t = .error e → e ≠ 1 → vgetF top f r n (t ++ rest) = .error e)
  | [], f, r, n, rest => ⟨fun x h => (by rw [vg_none] at h; cases h), fun e h h1 => (by rw [vg_none] at h; cases h; exact absurd rfl h1)⟩
  | c :: t, 0, r, n, rest => ⟨fun x h => (by cases h), fun e h h1 => (by cases h; rfl)⟩
  | c :: t, f + 1, r, n, rest => by
    have ih := ext_vgetF top t f (r + 1) (n + c.toNat % 128 * 128 ^ r) rest
    constructor
    · intro x h
      simp only [vgetF, List.cons_append] at h ⊢
      split at h
      · cases h
      · rename_i h1
        rw [if_neg h1]
        split at h
        · rename_i h2
          rw [if_pos h2]
          exact ih.1 x h
        · rename_i h2
          rw [if_neg h2]
          exact h
    · intro e h he
      simp only [vgetF, List.cons_append] at h ⊢
      split at h
      · rename_i h1
        rw [if_pos h1]
        exact h
      · rename_i h1
        rw [if_neg h1]
        split at h
        · rename_i h2
          rw [if_pos h2]
          exact ih.2 e h he
        · cases h
theorem ext_vgetL : Ext vgetL := by
  refine ⟨fun t r x h => ?_, fun t r e h he => ?_, fun t x k h => (vgetL_one h).2.2.1⟩
  · unfold vgetL at h ⊢
    cases hv : vgetF 1 10 0 0 t with
    | error e => rw [hv] at h; cases h
    | ok y => rw [hv] at h; rw [(ext_vgetF 1 t 10 0 0 r).1 _ hv]; exact h
  · unfold vgetL at h ⊢
    cases hv : vgetF 1 10 0 0 t with
    | error e2 => rw [hv] at h; cases h; rw [(ext_vgetF 1 t 10 0 0 r).2 _ hv he]
    | ok y => rw [hv] at h; cases h
theorem ext_vgetI : Ext vgetI := by
  refine ⟨fun t r x h => ?_, fun t r e h he => ?_, fun t x k h => (vgetI_one h).2.2.1⟩
  · unfold vgetI at h ⊢
    cases hv : vgetF 15 5 0 0 t with
    | error e => rw [hv] at h; cases h
    | ok y => rw [hv] at h; rw [(ext_vgetF 15 t 5 0 0 r).1 _ hv]; exact h
  · unfold vgetI at h ⊢
    cases hv : vgetF 15 5 0 0 t with
    | error e2 => rw [hv] at h; cases h; rw [(ext_vgetF 15 t 5 0 0 r).2 _ hv he]
    | ok y => rw [hv] at h; cases h
theorem gotS_ok {t : Bs} {k : Nat} {n : Int} {x : BlobS × Nat} (hk : k ≤ t.length) (h : gotS t k n = .ok x) (r : Bs) : gotS (t ++ r) k n = .ok x ∧ x.2 ≤ t.length := by
  unfold gotS at h ⊢
  by_cases h1 : n = -1
  · rw [if_pos h1] at h ⊢; cases h; exact ⟨rfl, hk⟩
  rw [if_neg h1] at h ⊢
  by_cases h2 : n < 0
  · rw [if_pos h2] at h; cases h
  rw [if_neg h2] at h ⊢
  by_cases h3 : (t.length : Int) - k < n
  · rw [if_pos h3] at h; cases h
  rw [if_neg h3] at h
  cases h
  rw [if_neg (by rw [List.length_append]; omega)]
  refine ⟨?_, by simp only; omega⟩
  rw [List.drop_append_of_le_length hk, List.take_append_of_le_length (by rw [List.length_drop]; omega)]
theorem gotS_er {t : Bs} {k : Nat} {n : Int} {e : Int} (h : gotS t k n = .error e) (he : e ≠ 1) (r : Bs) : gotS (t ++ r) k n = .error e := by
  unfold gotS at h ⊢
  by_cases h1 : n = -1
  · rw [if_pos h1] at h; cases h
  rw [if_neg h1] at h ⊢
  by_cases h2 : n < 0
  · rw [if_pos h2] at h ⊢; exact h
  rw [if_neg h2] at h
  by_cases h3 : (t.length : Int) - k < n
  · rw [if_pos h3] at h; cases h; exact absurd rfl he
  · rw [if_neg h3] at h; cases h
theorem ext_varied : Ext revaried := by
  refine ⟨fun t r x h => ?_, fun t r e h he => ?_, fun t x k h => ?_⟩
  · unfold revaried at h ⊢
    cases hv : vgetI t with
    | error e => rw [hv] at h; cases h
    | ok y => rw [hv] at h; rw [ext_vgetI.ok _ r _ hv]; exact (gotS_ok (ext_vgetI.le _ _ _ hv) h r).1
  · unfold revaried at h ⊢
    cases hv : vgetI t with
    | error e2 => rw [hv] at h; cases h; rw [ext_vgetI.err _ r _ hv he]
    | ok y => rw [hv] at h; rw [ext_vgetI.ok _ r _ hv]; exact gotS_er h he r
  · unfold revaried at h
    cases hv : vgetI t with
    | error e => rw [hv] at h; cases h
    | ok y => rw [hv] at h; exact (gotS_ok (ext_vgetI.le _ _ _ hv) h []).2
theorem ext_fixed (size : Nat) : Ext (refixed size) := by
  refine ⟨fun t r x h => ?_, fun t r e h he => ?_, fun t x k h => ?_⟩
  · unfold refixed at h ⊢
    by_cases h1 : t.length < size
    · rw [if_pos h1] at h; cases h
    · rw [if_neg h1] at h
      rw [if_neg (by rw [List.length_append]; omega), List.take_append_of_le_length (by omega)]
      exact (gotS_ok (by omega) h r).1
  · unfold refixed at h ⊢
    by_cases h1 : t.length < size
    · rw [if_pos h1] at h; cases h; exact absurd rfl he
    · rw [if_neg h1] at h
      rw [if_neg (by rw [List.length_append]; omega), List.take_append_of_le_length (by omega)]
      exact gotS_er h he r
  · unfold refixed at h
    by_cases h1 : t.length < size
    · rw [if_pos h1] at h; cases h
    · rw [if_neg h1] at h
      exact (gotS_ok (by omega) h []).2

/-- What the text says is read: whether each is what it was, and where it stands. -/
def rdL (z : Bool × InS) (n : Int) : Bool × InS := (decide (z.2.vlong.1 = n) && z.1, z.2.vlong.2)
def rdV (z : Bool × InS) (b : BlobS) : Bool × InS := (decide (z.2.varied.1 = b) && z.1, z.2.varied.2)
def rdF (z : Bool × InS) (b : BlobS) : Bool × InS := (decide ((z.2.fixed 2).1 = b) && z.1, (z.2.fixed 2).2)
def rdB (z : Bool × InS) (b : BlobS) : Bool × InS := rdF (rdV z b) b
def rdAll (ns : List Int) (l : List BlobS) (i : InS) : Bool × InS := l.foldl rdB (ns.foldl rdL (rdL (true, i) (-1)))
def encN (n : Int) : Bs := putU (foldN n)
def encB (b : BlobS) : Bs := encV b ++ encF 2 b
def encNs (ns : List Int) : Bs := ns.flatMap encN
def encBs (l : List BlobS) : Bs := l.flatMap encB
/-- Where a reader stands behind just so many of the bytes: they are cut at c. -/
def At (s : Bs) (c : Nat) (z : Bool × InS) (a : Nat) : Prop := (a ≤ c ∧ z.2 = ⟨s.take c, a, 0⟩ ∧ (z.1 = true)) ∨ (c < a ∧ z.2.err = 1)
theorem At.read {α : Type} [DecidableEq α] {f : InS → α × InS} {p : Bs → Except Int (α × Nat)} {d : α} (hr : Rds f p d) (he : Ext p) {s r : Bs} {c a : Nat} {z : Bool × InS} (hc : c ≤ s.length) (h : At s c z a) {e : Bs} {x : α} (hp : p e = .ok (x, e.length)) (hs : s.drop a = e ++ r) :
    At s c (decide ((f z.2).1 = x) && z.1, (f z.2).2) (a + e.length) := by
  have hl : (s.take c).length = c := by rw [List.length_take]; omega
  rcases h with ⟨h1, h2, h3⟩ | ⟨h1, h2⟩
  · rw [h2, h3]
    have hd : (s.take c).drop a = (e ++ r).take (c - a) := by rw [← hs, List.drop_take]
    by_cases hlt : a + e.length ≤ c
    · have h4 : p ((s.take c).drop a) = .ok (x, e.length) := by
        rw [hd, List.take_append, List.take_of_length_le (by omega)]
        exact he.ok _ _ _ hp
      have h5 := (hr.ok (s.take c) a x e.length (by omega) h4).2
      rw [h5]
      exact .inl ⟨hlt, rfl, by simp⟩
    · have h4 : p ((s.take c).drop a) = .error 1 := by
        rw [hd, List.take_append_of_le_length (by omega)]
        exact he.short hp _ (by omega)
      obtain ⟨_, q, _, h5⟩ := hr.err (s.take c) a 1 (by omega) h4
      rw [h5]
      exact .inr ⟨by omega, rfl⟩
  · have h4 := hr.stuck z.2 (by rw [h2]; decide)
    rw [h4]
    exact .inr ⟨by omega, h2⟩
theorem At.long {s r : Bs} {c a : Nat} {z : Bool × InS} (hc : c ≤ s.length) (h : At s c z a) (n : Int) (h0 : -9223372036854775808 ≤ n) (h1 : n < 9223372036854775808) (hs : s.drop a = encN n ++ r) : At s c (rdL z n) (a + (encN n).length) := by
  have hp : vgetL (encN n) = .ok (n, (encN n).length) := by
    have := vgetL_put n h0 h1 []
    rwa [List.append_nil] at this
  exact At.read rds_long ext_vgetL hc h hp hs
theorem At.varied {s r : Bs} {c a : Nat} {z : Bool × InS} (hc : c ≤ s.length) (h : At s c z a) (b : BlobS) (hb : b.right = true) (hl : b.data.length ≤ 2147483647) (hs : s.drop a = encV b ++ r) : At s c (rdV z b) (a + (encV b).length) := by
  have hp : revaried (encV b) = .ok (b, (encV b).length) := by
    have := revaried_back b hb hl []
    rwa [List.append_nil] at this
  exact At.read rds_varied ext_varied hc h hp hs
theorem At.fixed {s r : Bs} {c a : Nat} {z : Bool × InS} (hc : c ≤ s.length) (h : At s c z a) (b : BlobS) (hb : b.right = true) (hf : fits b.len 2) (hs : s.drop a = encF 2 b ++ r) : At s c (rdF z b) (a + (encF 2 b).length) := by
  have hp : refixed 2 (encF 2 b) = .ok (b, (encF 2 b).length) := by
    have := refixed_back 2 b hb hf []
    rwa [List.append_nil] at this
  exact At.read (rds_fixed 2 (by decide) (by decide)) (ext_fixed 2) hc h hp hs
def BOk (b : BlobS) : Prop := b.right = true ∧ b.data.length ≤ 200
theorem BOk.fits {b : BlobS} (h : BOk b) : fits b.len 2 := by
  have h128 : half 2 = 32768 := by decide
  have hl := h.2
  refine ⟨by decide, by decide, ?_, ?_⟩ <;> unfold BlobS.len <;> split <;> simp [h128] <;> omega
theorem At.blob {s r : Bs} {c a : Nat} {z : Bool × InS} (hc : c ≤ s.length) (h : At s c z a) (b : BlobS) (hb : BOk b) (hs : s.drop a = encB b ++ r) : At s c (rdB z b) (a + (encB b).length) := by
  unfold encB at hs ⊢
  rw [List.append_assoc] at hs
  have h1 := h.varied hc b hb.1 (by have := hb.2; omega) hs
  have h2 : s.drop (a + (encV b).length) = encF 2 b ++ r := by rw [← List.drop_drop, hs, List.drop_left]
  have h3 := h1.fixed hc b hb.1 hb.fits h2
  rw [List.length_append, ← Nat.add_assoc]
  exact h3
theorem At.longs {s : Bs} {c : Nat} (hc : c ≤ s.length) : ∀ (ns : List Int) (r : Bs) (a : Nat) (z : Bool × InS), (∀ n ∈ ns, -9223372036854775808 ≤ n ∧ n < 9223372036854775808) → At s c z a → s.drop a = encNs ns ++ r → At s c (ns.foldl rdL z) (a + (encNs ns).length)
  | [], r, a, z, _, h, _ => h
  | n :: t, r, a, z, hn, h, hs => by
    have e1 : encNs (n :: t) = encN n ++ encNs t := rfl
    rw [e1, List.append_assoc] at hs
    have h1 := h.long hc n (hn n (by simp)).1 (hn n (by simp)).2 hs
    have h2 : s.drop (a + (encN n).length) = encNs t ++ r := by rw [← List.drop_drop, hs, List.drop_left]
    have h3 := At.longs hc t r _ _ (fun m hm => hn m (by simp [hm])) h1 h2
    rw [e1, List.length_append, ← Nat.add_assoc]
    exact h3
theorem At.blobs {s : Bs} {c : Nat} (hc : c ≤ s.length) : ∀ (l : List BlobS) (r : Bs) (a : Nat) (z : Bool × InS), (∀ b ∈ l, BOk b) → At s c z a → s.drop a = encBs l ++ r → At s c (l.foldl rdB z) (a + (encBs l).length)
  | [], r, a, z, _, h, _ => h
  | b :: t, r, a, z, hn, h, hs => by
    have e1 : encBs (b :: t) = encB b ++ encBs t := rfl
    rw [e1, List.append_assoc] at hs
    have h1 := h.blob hc b (hn b (by simp)) hs
    have h2 : s.drop (a + (encB b).length) = encBs t ++ r := by rw [← List.drop_drop, hs, List.drop_left]
    have h3 := At.blobs hc t r _ _ (fun m hm => hn m (by simp [hm])) h1 h2
    rw [e1, List.length_append, ← Nat.add_assoc]
    exact h3
def encFld (ns : List Int) (l : List BlobS) : Bs := encN (-1) ++ (encNs ns ++ encBs l)
theorem fields_at (ns : List Int) (l : List BlobS) (hn : ∀ n ∈ ns, -9223372036854775808 ≤ n ∧ n < 9223372036854775808) (hb : ∀ b ∈ l, BOk b) (c : Nat) (hc : c ≤ (encFld ns l).length) : At (encFld ns l) c (rdAll ns l ⟨(encFld ns l).take c, 0, 0⟩) (encFld ns l).length := by
  have h0 : At (encFld ns l) c (true, ⟨(encFld ns l).take c, 0, 0⟩) 0 := .inl ⟨Nat.zero_le _, rfl, rfl⟩
  have h1 := h0.long (r := encNs ns ++ encBs l) hc (-1) (by decide) (by decide) (by rw [List.drop_zero]; rfl)
  have e1 : (encFld ns l).drop (0 + (encN (-1)).length) = encNs ns ++ encBs l := by rw [Nat.zero_add]; unfold encFld; rw [List.drop_left]
  have h2 := At.longs hc ns (encBs l) _ _ hn h1 e1
  have e2 : (encFld ns l).drop (0 + (encN (-1)).length + (encNs ns).length) = encBs l ++ [] := by rw [← List.drop_drop, e1, List.drop_left, List.append_nil]
  have h3 := At.blobs hc l [] _ _ hb h2 e2
  have e3 : 0 + (encN (-1)).length + (encNs ns).length + (encBs l).length = (encFld ns l).length := by unfold encFld; simp only [List.length_append]; omega
  rw [e3] at h3
  exact h3
theorem fields_all (ns : List Int) (l : List BlobS) (hn : ∀ n ∈ ns, -9223372036854775808 ≤ n ∧ n < 9223372036854775808) (hb : ∀ b ∈ l, BOk b) : rdAll ns l ⟨encFld ns l, 0, 0⟩ = (true, ⟨encFld ns l, (encFld ns l).length, 0⟩) := by
  have h := fields_at ns l hn hb _ (Nat.le_refl _)
  rw [List.take_length] at h
  rcases h with ⟨_, h2, h3⟩ | ⟨h1, _⟩
  · rw [List.take_length] at h2
    exact Prod.ext h3 h2
  · omega
theorem fields_cut (ns : List Int) (l : List BlobS) (hn : ∀ n ∈ ns, -9223372036854775808 ≤ n ∧ n < 9223372036854775808) (hb : ∀ b ∈ l, BOk b) (c : Nat) (hc : c < (encFld ns l).length) : (rdAll ns l ⟨(encFld ns l).take c, 0, 0⟩).2.err = 1 := by
  rcases fields_at ns l hn hb c (by omega) with ⟨h1, _⟩ | ⟨_, h2⟩
  · omega
  · exact h2

end Go.Proofs.Ytombolmicfjjpaa

/- Things of one's own, picked. -/
namespace Go.Proofs.Ytombolmicfjjpaa
open Go.RowKit

/-- Some of the things, in another order: each index is one into what is left. -/
def selL {α : Type} : List Nat → List α → List α
  | [], _ => []
  | i :: t, L => match L[i]? with
    | some x => x :: selL t (L.eraseIdx i)
    | none => selL t L
theorem erase_perm {α : Type} : ∀ (L : List α) (i : Nat) (hi : i < L.length), L.Perm (L[i] :: L.eraseIdx i)
  | [], _, hi => absurd hi (by simp)
  | x :: t, 0, _ => List.Perm.refl _
  | x :: t, i + 1, hi => ((erase_perm t i (by simpa using hi)).cons x).trans (List.Perm.swap _ _ _)
theorem Holds.perm {w : World} {L L' : List Res} (p : L.Perm L') : ∀ {S : Nat → Prop}, Holds L w S → Holds L' w S := by
  induction p with
  | nil => exact fun h => h
  | cons x _ ih => exact fun h => h.cons fun _ => ih
  | swap x y l => exact fun h => Holds.swap h
  | trans _ _ ih1 ih2 => exact fun h => ih2 (ih1 h)
theorem Holds.sel {w : World} : ∀ (ix : List Nat) {L : List Res} {S : Nat → Prop}, Holds L w S → ∃ S', Holds (selL ix L) w S' ∧ ∀ k, S' k → S k
  | [], _, _, _ => ⟨fun _ => False, fun _ h => h, fun _ h => h.elim⟩
  | i :: t, L, S, h => by
    unfold selL
    by_cases hi : i < L.length
    · rw [List.getElem?_eq_getElem hi]
      obtain ⟨S1, S2, h1, h2, h3, h4⟩ := Holds.perm (erase_perm L i hi) h
      obtain ⟨S', g1, g2⟩ := Holds.sel t h2
      exact ⟨fun k => S1 k ∨ S' k, ⟨S1, S', h1, g1, fun k a b => h3 k a (g2 k b), fun _ => Iff.rfl⟩, fun k hk => (h4 k).2 (hk.imp id (g2 k))⟩
    · rw [List.getElem?_eq_none (by omega)]
      exact Holds.sel t h
theorem St.sel {W0 w : World} {K : Know} {L : List Res} (h : St W0 w K L) (ix : List Nat) : St W0 w K (selL ix L) := by
  obtain ⟨a, S, F, b, c, d, e⟩ := h
  obtain ⟨S', g1, g2⟩ := Holds.sel ix b
  exact ⟨a, S', F, g1, fun k hk => c k (g2 k hk), d, fun k hk => ⟨(e k hk).1, fun h => (e k hk).2 (g2 k h)⟩⟩

end Go.Proofs.Ytombolmicfjjpaa

/- Fields, one behind the other, read: what it stands on. -/
namespace Go.Proofs.Ytombolmicfjjpaa
open Go.RowKit

def RI (cs : List Value) (x : Int) : Prop := cs = [.int .i64 x]
def RB (cs : List Value) (x : BlobS) : Prop := cs = [.bool x.null, .string (bb x.data)]
theorem flat_at {α : Type} {R : List Value → α → Prop} {sz n cap : Nat} {q : Option Addr} {l : List α} {W0 w : World} {K : Know} {L : List Res} (hk : K.has (Know.flat R (.slice q n cap) sz l)) (h : St W0 w K L) (h0 : 0 < l.length) : ∃ b off, q = some ⟨b, off, none⟩ := by
  obtain ⟨F, hF, _⟩ := h.get
  obtain ⟨q2, cap2, hv, hr⟩ := (hk _ _ hF).at
  obtain ⟨b, off, hq, _⟩ := hr h0
  simp at hv
  exact ⟨b, off, hv.1.trans hq⟩
theorem flat_cell {α : Type} {R : List Value → α → Prop} {sz n cap b off : Nat} {l : List α} {W0 w : World} {K : Know} {L : List Res} (hk : K.has (Know.flat R (.slice (some ⟨b, off, none⟩) n cap) sz l)) (h : St W0 w K L) (i : Nat) (hi : i < l.length) : ∃ cs, R cs l[i] ∧ ∀ f u, cs[f]? = some u → w.cell? ⟨b, off + (i * sz + f), none⟩ = some u := by
  obtain ⟨F, hF, _⟩ := h.get
  obtain ⟨q2, cap2, hv, hr⟩ := (hk _ _ hF).at
  obtain ⟨b2, off2, hq, hc⟩ := hr (by omega)
  rw [hq] at hv
  simp at hv
  obtain ⟨⟨rfl, rfl⟩, _, _⟩ := hv
  obtain ⟨cs, _, h1, h2⟩ := hc i hi
  exact ⟨cs, h1, h2⟩
theorem blob_fixed2Q (p : Nat) (i : InS) (n : Bool) (d : Bs) (j : InS) (hx : i.fixed 2 = (⟨n, d⟩, j)) {W0 w : World} {K : Know} {L : List Res} (h : St W0 w K (.inp p i :: L)) :
    Calls Try.prog 111 #[inPtr p, .int .i64 2] w fun en w' => en = .returned (.agg #[.bool n, .string (bb d)]) ∧ St W0 w' K (.inp p j :: L) := by
  have := blob_fixed p i 2 h; rw [hx] at this; exact this
end Go.Proofs.Ytombolmicfjjpaa

/- The elements of arguments, opened, with their reach: numbers, and Blobs. -/
namespace Go.Proofs.Ytombolmicfjjpaa
open Go.RowKit
open Go.ChangeShapes Go.WideShapes Go.ChangeAt Go.Deep

theorem cells_blob : Try.prog.cellsOf 64 = 2 := by kernel_rfl
theorem cells_bool : Try.prog.cellsOf 4 = 1 := by kernel_rfl
section
variable {H : Type} {enc : TypeId × Value → H} {w : World} {spare : Nat → Bool} {held : Bool}
set_option maxRecDepth 100000 in
theorem blob_opens {N : Nat} : ∀ n cs y, DataW.trod enc Try.prog w 0 spare held n 64 cs = some y → Light 64 y.1 → (∀ x ∈ y.2, x.block < N) → ∃ x : BlobS, cs = [.bool x.null, .string (bb x.data)] ∧ x.data.length ≤ 140737488351232 := by
  intro n cs y h hl hN
  obtain ⟨hc, m, hf⟩ := opens_field Try.underlying64 h hl hN
  rw [cells_blob] at hc
  obtain ⟨a, b, rfl⟩ := len2 hc
  obtain ⟨z0, g0, l0, _⟩ := hf 0 _ rfl
  obtain ⟨z1, g1, l1, _⟩ := hf 1 _ rfl
  have g0 : DataW.trod enc Try.prog w 0 spare held m 4 (List.take (Try.prog.cellsOf 4) (List.drop 0 [a, b])) = some z0 := g0
  have g1 : DataW.trod enc Try.prog w 0 spare held m 9 (List.take (Try.prog.cellsOf 9) (List.drop 1 [a, b])) = some z1 := g1
  rw [cells_bool] at g0
  rw [cells_str] at g1
  obtain ⟨x, e0⟩ := opens_bool Try.underlying4 g0
  obtain ⟨s, e1, hs⟩ := opens_str Try.underlying9 g1 l1
  simp at e0 e1
  subst e0 e1
  exact ⟨⟨x, s⟩, rfl, hs⟩
theorem rb_opens {N : Nat} : ∀ n cs y, DataW.trod enc Try.prog w 0 spare held n 64 cs = some y → Light 64 y.1 → (∀ x ∈ y.2, x.block < N) → ∃ x : BlobS, RB cs x ∧ x.data.length ≤ 140737488351232 := blob_opens
theorem ri_opens {N : Nat} : ∀ n cs y, DataW.trod enc Try.prog w 0 spare held n 3 cs = some y → Light 3 y.1 → (∀ x ∈ y.2, x.block < N) → ∃ x : Int, RI cs x ∧ (-9223372036854775808 ≤ x ∧ x < 9223372036854775808) := fun n cs y h _ _ => opens_i64 Try.underlying3 h
end
end Go.Proofs.Ytombolmicfjjpaa

/- Layer 24, walked: TallyQuarters, any. -/
namespace Go.Proofs.Ytombolmicfjjpaa
open Go.RowKit

theorem wf_i32 {n : Int} (h : (Lit.int .i32 n).wf = true) : -2147483648 ≤ n ∧ n < 2147483648 := by
  simp [Lit.wf] at h
  have h1 : IntKind.i32.min = -2147483648 := rfl
  have h2 : IntKind.i32.max = 2147483647 := rfl
  omega
theorem cells_i32 : Try.prog.cellsOf 21 = 1 := by kernel_rfl
section
variable {H : Type} {enc : TypeId × Value → H} {w : World} {spare : Nat → Bool} {held : Bool} {P : Program} {base : Nat}
theorem ri32_opens {N : Nat} : ∀ n cs y, DataW.trod enc Try.prog w 0 spare held n 21 cs = some y → Light 21 y.1 → (∀ x ∈ y.2, x.block < N) → ∃ x : Int, RI32 cs x ∧ (-2147483648 ≤ x ∧ x < 2147483648) := fun n cs y h _ _ => by
  obtain ⟨x, e, _, q⟩ := DataW.trod_int Try.underlying21 h
  exact ⟨x, e, wf_i32 q⟩
theorem open_i32s2 {r : Reach} {b0 : Nat} {t e : TypeId} {v : Value} {d : DataW H} {p : List MemPlace} (ht : P.underlying t = some (.array 2 e)) (he : P.underlying e = some (.int .i32)) (hce : P.cellsOf e = 1) (hC : P.cellsOf t = 2)
    (hv : Value.okWide P w r b0 t v) (h : DataW.Trod enc P w base spare held t v d p) : ∃ x0 x1 : Int, v = .agg #[.int .i32 x0, .int .i32 x1] ∧ (-2147483648 ≤ x0 ∧ x0 < 2147483648) ∧ (-2147483648 ≤ x1 ∧ x1 < 2147483648) := by
  unfold Value.okWide at hv
  rw [ht] at hv
  obtain ⟨cs, rfl, hsz, _⟩ := hv
  obtain ⟨l⟩ := cs
  match l, hsz.trans hC with
  | [c0, c1], _ =>
    obtain ⟨fuel, hf⟩ := h
    obtain ⟨y0, y1, n, h0, h1, _⟩ := trod_array2' ht hce hf
    obtain ⟨x0, e0, _, f0⟩ := DataW.trod_int he h0
    obtain ⟨x1, e1, _, f1⟩ := DataW.trod_int he h1
    simp at e0 e1
    subst e0 e1
    exact ⟨x0, x1, rfl, wf_i32 f0, wf_i32 f1⟩
end
theorem tallyQuarters_any (l : List Int) (v : Value) (k a b : Int) (W : World) (hr : ∀ x ∈ l, -2147483648 ≤ x ∧ x < 2147483648) (ha : -2147483648 ≤ a ∧ a < 2147483648) (hb : -2147483648 ≤ b ∧ b < 2147483648) (hv : RowsOf (fun _ cs x => RI32 cs x) (· < W.heap.size) W v 1 l) :
    Calls Try.prog 12 #[v, .int .i64 k, .agg #[.int .i32 a, .int .i32 b]] W fun en w' => en = .returned (.bool true) ∧ Below W.heap.size W w' := by
  have h : St W W (Know.flat RI32 v 1 l) [] := St.start hv
  obtain ⟨q, cap, hv2, _⟩ := hv
  subst hv2
  by_cases hl : 200 < l.length
  · exact tq_long l q cap k a b hl h
  · exact tq_main l q cap k a b (by omega) hr ha hb (Know.has_refl _) h

end Go.Proofs.Ytombolmicfjjpaa
