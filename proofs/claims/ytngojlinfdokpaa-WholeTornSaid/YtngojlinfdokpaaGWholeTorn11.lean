/- Torn anywhere: batches that may be, written one behind the other, cut at any byte, in any chunks: just those that are whole come back, their bytes are counted, and scanned again all is clean: proved of every row of batches, every row of sizes and every cut. -/
import Derived.Test.YtngojlinfdokpaaGWholeTorn10
import Derived.Test.YtngojlinfdokpaaGWholeTorn9
import Derived.Test.YtngojlinfdokpaaGWholeTorn6
import Derived.Test.YtngojlinfdokpaaGWholeTorn7
import Derived.Test.YtngojlinfdokpaaGWholeTorn3
import Derived.RegionTactic
import Derived.Deep.RegionHeld3
import Derived.Deep.DeepCutAuto
import Derived.WalkMore
import Derived.Test.YtngojlinfdokpaaGWholeTorn1
import Derived.Lib.SmallJoins
import Derived.Test.YtngojlinfdokpaaArgs
import Derived.Test.YtngojlinfdokpaaBatP
/- A text. -/
namespace Go.Proofs.Ytngojlinfdokpaa
open Go.RowKit

set_option maxHeartbeats 8000000 in
set_option maxRecDepth 100000 in
theorem wt_main (l : List BatR) (q : Option Addr) (cap : Nat) (ns : List Int) (q2 : Option Addr) (cap2 : Nat) (e : Int) (hf : ∀ x ∈ l, x.Fit) (hl : l.length ≤ 6) (hcap : l.length ≤ cap) (hns : ∀ x ∈ ns, 0 ≤ x ∧ x < 256) (hnl : ns.length ≤ 200) (he : 0 ≤ e ∧ e < 65536) {W0 w : World} {K : Know} (hk : K.has (Know.bats (.slice q l.length cap) l)) (hk2 : K.has (Know.flat RU8 (.slice q2 ns.length cap2) 1 ns)) (h : St W0 w K []) :
  Calls Try.prog 4 #[.slice q l.length cap, .slice q2 ns.length cap2, .int .u16 e] w fun en w' => en = .returned (.bool true) ∧ Below W0.heap.size W0 w' := by
 have H := Lib.hid h
 have HK := Lib.hid hk
 have HN := Lib.hid hk2
 have HFT := Lib.hid hf
 have HL6 := Lib.hid hl
 have HCAP := Lib.hid hcap
 have HNS := Lib.hid hns
 have HNL := Lib.hid (show ns.length ≤ 1000 by omega)
 have HNLEN := Lib.hid hnl
 have HE16 := Lib.hid he
 have c1 : ¬ (6 : Int) < (l.length : Int) := by omega
 have c2 : ¬ (200 : Int) < (ns.length : Int) := by omega
 have hwe : IntKind.i64.wrap e = e := by rw [IntKind.wrap_i64]; omega
 clear h hk hk2 hf hl hcap hns hnl he
 go_enter Try.func4, Try.ntmps4
 go_wp2_with (go_at_call 10; (with_reducible refine (top_none H.out).mono ?_); rintro e_ wn ⟨sN, rfl, h⟩; have h := h.alloc (.cells #[.int .i64 0, .int .i64 0, .bool false, .bool false, .bool false, .int .i64 0, .int .i64 0, .int .i64 0, .int .i64 (-1), .int .i64 (-1), .int .i64 (-1), .slice none 0 0] 37 (0, 0)); replace H := Lib.hid h; clear h)
 go_loopw [11, 38] (fun _ iv wr => ∃ k : Nat, k ≤ l.length ∧ iv = .int .i64 k ∧ Hid (errB (l.take k) = 0) ∧ Hid (∀ x ∈ l.take k, smallB (x.l.map (·.1)) = true) ∧ St W0 wr K []) (fun _ iv _ => l.length - (intOf iv).toNat)
 case atStart => exact ⟨0, Nat.zero_le _, rfl, Lib.hid rfl, Lib.hid (fun x hx => by simp at hx), H.out⟩
 case round =>
  obtain ⟨k, hkl, rfl, her, hsm, hst⟩ := hrel
  clear H
  have H := Lib.hid hst
  clear hst
  by_cases hlt : k < l.length
  · have hl6 : (l.length : Int) ≤ 6 := by have := HL6.out; omega
    have hstep := errB_step l k hlt her.out
    obtain ⟨b, off, hqq⟩ := bats_at HK.out H.out (by omega)
    subst hqq
    obtain ⟨x, hx⟩ : ∃ x, l[k] = x := ⟨_, rfl⟩
    have cc := bats_cell HK.out H.out k hlt x hx
    have hmem : x ∈ l := hx ▸ List.getElem_mem hlt
    have XF := Lib.hid (HFT.out x hmem)
    have XR2 := Lib.hid XF.out.2.1
    have XR3 := Lib.hid XF.out.2.2
    have XK := Lib.hid (bats_recs HK.out hmem)
    obtain ⟨c0, c1, c2, c3, c4, c5, c6, c7, c8, c9, c10, c11⟩ := cc
    obtain ⟨wE, hwE⟩ : ∃ b, wr.heap.size = b := ⟨_, rfl⟩
    have hki : (k : Int) < (l.length : Int) := by omega
    have h := H.out.allocRaw #[.int .i64 x.b.base, .int .i64 x.b.leader, .bool x.b.app, .bool x.b.txn, .bool x.b.ctl, .int .i64 x.b.last, .int .i64 x.b.first, .int .i64 x.b.maxt, .int .i64 x.b.prod, .int .i64 x.b.epoch, .int .i64 x.b.seq, .slice x.q x.l.length x.cap] 37
    rw [hwE] at h
    clear H
    have H := Lib.hid h
    clear h
    rw [hx] at hstep
    have HMX := Lib.hid (show x.b.first ≤ 9223372036854775807 by have := XF.out.1.2.2.2.1.2; omega)
    obtain ⟨x0, x1, x2, x3, x4, x5, x6, x7, x8, x9, x10, x11, y0, y1, y2, y3, y4, y5, y6, y7, y8, y9, y10, y11⟩ := raw12 (b := wE) (H.out)
    cases hs : smallB (x.l.map (·.1)) with
    | false =>
      as_aux_lemma =>
      have HSX := Lib.hid hs
      clear hs hstep hx hmem
      go_wp2_with (first
  | (go_at_call 11; clear x0 y0 x1 y1 x2 y2 x3 y3 x4 y4 x5 y5 x6 y6 x7 y7 x8 y8 x9 y9 x10 y10 x11 y11; (with_reducible refine (l11_small _ _ _ _ _ _ _ _ _ _ _ x.l _ _ false HSX.out XR2.out XK.out H.out).mono ?_); rintro e_ wn ⟨rfl, h⟩; replace H := Lib.hid h; clear h; obtain ⟨x0, x1, x2, x3, x4, x5, x6, x7, x8, x9, x10, x11, y0, y1, y2, y3, y4, y5, y6, y7, y8, y9, y10, y11⟩ := raw12 (b := wE) (H.out)))
      go_ret
      exact ⟨rfl, H.out.below⟩
    | true =>
      have HSX := Lib.hid hs
      have HFB := Lib.hid (FitW.fit XF.out.2.1 hs)
      have HLLX := Lib.hid (show x.l.length ≤ 1000000 by have := smallB_len hs; omega)
      have NS := Lib.hid (show ∀ y ∈ l.take (k + 1), smallB (y.l.map (·.1)) = true by
        intro y hy
        rw [List.take_succ_eq_append_getElem hlt, hx] at hy
        rcases List.mem_append.1 hy with hy | hy
        · exact hsm.out y hy
        · simp at hy; subst hy; exact hs)
      obtain ⟨e2, he2⟩ : ∃ e, batErr x.b = e := ⟨_, rfl⟩
      have NE := Lib.hid (show errB (l.take (k + 1)) = e2 by rw [hstep]; exact he2)
      have HE := Lib.hid (show batErr ⟨x.b.base, x.b.leader, x.b.app, x.b.txn, x.b.ctl, x.b.last, x.b.first, x.b.maxt, x.b.prod, x.b.epoch, x.b.seq, x.l.map (·.1)⟩ = e2 by rw [XF.out.2.2]; exact he2)
      by_cases h0 : e2 = 0
      · as_aux_lemma =>
        subst h0
        clear hs hstep hx hmem he2
        go_wp2_with (first
  | (go_at_call 11; clear x0 y0 x1 y1 x2 y2 x3 y3 x4 y4 x5 y5 x6 y6 x7 y7 x8 y8 x9 y9 x10 y10 x11 y11; (with_reducible refine (l11_small _ _ _ _ _ _ _ _ _ _ _ x.l _ _ true HSX.out XR2.out XK.out H.out).mono ?_); rintro e_ wn ⟨rfl, h⟩; replace H := Lib.hid h; clear h; obtain ⟨x0, x1, x2, x3, x4, x5, x6, x7, x8, x9, x10, x11, y0, y1, y2, y3, y4, y5, y6, y7, y8, y9, y10, y11⟩ := raw12 (b := wE) (H.out))
  | (go_at_call 12; clear x0 y0 x1 y1 x2 y2 x3 y3 x4 y4 x5 y5 x6 y6 x7 y7 x8 y8 x9 y9 x10 y10 x11 y11; (with_reducible refine (bat_check _ _ _ _ _ _ _ _ _ _ _ x.l _ _ 0 HE.out HMX.out HFB.out HLLX.out XK.out H.out).mono ?_); rintro e_ wn ⟨rfl, h⟩; replace H := Lib.hid h; clear h; obtain ⟨x0, x1, x2, x3, x4, x5, x6, x7, x8, x9, x10, x11, y0, y1, y2, y3, y4, y5, y6, y7, y8, y9, y10, y11⟩ := raw12 (b := wE) (H.out)))
        go_roundw
        case rel => exact ⟨k + 1, hlt, by go_num, NE, NS, H.out.drop⟩
        case measure => first | (simp [intOf]; done) | (simp [intOf]; omega)
      · as_aux_lemma =>
        have g1 : (e2 == 0) = false := by rw [beq_eq_false_iff_ne]; exact h0
        have g2 : (e2 != 0) = true := by simp [bne, g1]
        clear hs hstep hx hmem he2 h0
        go_wp2_with (first
  | (go_at_call 11; clear x0 y0 x1 y1 x2 y2 x3 y3 x4 y4 x5 y5 x6 y6 x7 y7 x8 y8 x9 y9 x10 y10 x11 y11; (with_reducible refine (l11_small _ _ _ _ _ _ _ _ _ _ _ x.l _ _ true HSX.out XR2.out XK.out H.out).mono ?_); rintro e_ wn ⟨rfl, h⟩; replace H := Lib.hid h; clear h; obtain ⟨x0, x1, x2, x3, x4, x5, x6, x7, x8, x9, x10, x11, y0, y1, y2, y3, y4, y5, y6, y7, y8, y9, y10, y11⟩ := raw12 (b := wE) (H.out))
  | (go_at_call 12; clear x0 y0 x1 y1 x2 y2 x3 y3 x4 y4 x5 y5 x6 y6 x7 y7 x8 y8 x9 y9 x10 y10 x11 y11; (with_reducible refine (bat_check _ _ _ _ _ _ _ _ _ _ _ x.l _ _ e2 HE.out HMX.out HFB.out HLLX.out XK.out H.out).mono ?_); rintro e_ wn ⟨rfl, h⟩; replace H := Lib.hid h; clear h; obtain ⟨x0, x1, x2, x3, x4, x5, x6, x7, x8, x9, x10, x11, y0, y1, y2, y3, y4, y5, y6, y7, y8, y9, y10, y11⟩ := raw12 (b := wE) (H.out)))
        go_ret
        exact ⟨rfl, H.out.below⟩
  · obtain rfl : k = l.length := by omega
    have her2 := her.out
    have hsm2 := hsm.out
    rw [List.take_length] at her2 hsm2
    obtain ⟨A, hA2⟩ : ∃ A, encB l = A := ⟨_, rfl⟩
    have HAE := Lib.hid hA2
    have HSMA := Lib.hid hsm2
    have HSE := Lib.hid (show allB l = (A, 0) by unfold allB; rw [if_pos her2, hA2])
    have HLL := Lib.hid (show l.length ≤ 20 by have := HL6.out; omega)
    have HSO := Lib.hid (show ∀ x ∈ l, SmallOk x.b from fun x hx => BatR.small (HFT.out x hx) (hsm2 x hx) (errB_mem _ her2 x hx))
    have HLR := Lib.hid (show ∀ x ∈ l, LiteR x from fun x hx => liteR_of (HFT.out x hx) (HSO.out x hx))
    have hAl : A.length ≤ 84000 := by
      have h1 := encB_le2 l HFT.out hsm2
      have h2 := HL6.out
      rw [hA2] at h1
      omega
    have HAL := Lib.hid hAl
    have he := HE16.out
    obtain ⟨kk, hkk⟩ : ∃ kk : Nat, Int.tmod e ((A.length : Int) + 1) = (kk : Nat) := ⟨(Int.tmod e ((A.length : Int) + 1)).toNat, by rw [Int.toNat_of_nonneg (Int.tmod_nonneg _ he.1)]⟩
    have hka : kk ≤ A.length := by
      have h7 := Int.tmod_lt_of_pos e (show (0 : Int) < (A.length : Int) + 1 by omega)
      rw [hkk] at h7
      omega
    have HKA := Lib.hid hka
    have hw1 : IntKind.i64.wrap ((A.length : Int) + 1) = (A.length : Int) + 1 := by rw [IntKind.wrap_i64]; omega
    have hw2 : IntKind.i64.wrap (kk : Int) = (kk : Int) := by rw [IntKind.wrap_i64]; omega
    have hd1 : ¬ ((A.length : Int) + 1 = 0) := by omega
    have hd2 : ((A.length : Int) + 1 == 0) = false := by rw [beq_eq_false_iff_ne]; omega
    have hki : (kk : Int) ≤ (A.length : Int) := by omega
    have HTL := Lib.hid (show (A.take kk).length ≤ 90000 by rw [List.length_take]; omega)
    have HCL := Lib.hid (show (cutS (A.take kk) ns).length ≤ 1000000 by rw [cutS_len]; have := HNLEN.out; omega)
    obtain ⟨n, hnl, hn1, hn2⟩ := cut_at l kk (by rw [hA2]; exact hka)
    obtain ⟨V, hV⟩ : ∃ V, (encB (l.take n)).length = V := ⟨_, rfl⟩
    have HV := Lib.hid hV
    obtain ⟨rest, hfin, hrest⟩ := fin_cut l HSO.out kk n (by rw [hA2]; exact hka) hnl hn1 (fun hh => hn2 hh)
    rw [hA2, hV] at hfin
    rw [hV] at hn1 hrest
    have HF := Lib.hid hfin
    obtain ⟨ps, hps⟩ : ∃ ps, stopS rest 0 = ps := ⟨_, rfl⟩
    have HPS := Lib.hid hps
    clear hA2 her2 hsm2 hAl her hsm he hka HNLEN hfin
    go_upto_region 17 with (first
  | (go_at_call 8; (with_reducible refine (bat_all l _ _ A 0 HSE.out HFT.out HSMA.out HLL.out HK.out H.out).mono ?_); rintro e_ wn ⟨rfl, h⟩; replace H := Lib.hid h; clear h)
  | (go_at_call 13; (with_reducible refine (law22_cut (A.take kk) ns HTL.out HNS.out HNL.out q2 cap2 HN.out H.out).mono ?_); rintro e_ wn ⟨q2c, cap2c, rfl, h⟩; replace H := Lib.hid h; clear h)
  | (go_at_call 7; (with_reducible refine (scan_any (cutS (A.take kk) ns) (A.take kk) (cutS_flat ns (A.take kk)) ((l.take n).map BatR.b) V rest 0 ps HF.out HPS.out HTL.out q2c cap2c HCL.out (Know.has_right (Know.has_refl _)) H.out).mono ?_); rintro e_ wn ⟨qa, capa, la, rfl, hma, hla, hca, hqa, h⟩; have HMa := Lib.hid hma; have HLa := Lib.hid hla; have HCa := Lib.hid hca; have HQa := Lib.hid hqa; clear hma hla hca hqa; have h := h.know (Know.has_and (Know.has_left (Know.has_left (Know.has_refl _))) (Know.has_right (Know.has_refl _))); obtain ⟨px, hpx⟩ : ∃ b, wn.heap.size = b := ⟨_, rfl⟩; have h := h.allocRaw #[.int .i64 V, .int .i64 ps, .int .i64 0] 26; rw [hpx] at h; have px0 := h.rawCell 0; have px1 := h.rawCell 1; have px2 := h.rawCell 2; simp at px0 px1 px2; replace H := Lib.hid h; clear h))
    have hk1 := congrArg List.length HMa.out
    rw [List.length_map, List.length_map, List.length_take] at hk1
    obtain rfl : n = la.length := by omega
    have HTN := Lib.hid (show (l.take la.length).length = la.length by rw [List.length_take]; omega)
    have HMA := Lib.hid (show la.map BatR.b = (l.take la.length).map BatR.b from HMa.out)
    have HLT := Lib.hid (show ∀ x ∈ l.take la.length, LiteR x from fun x hx => HLR.out x (List.mem_of_mem_take hx))
    have HLB := Lib.hid (show la.length ≤ 100000 by have := HL6.out; omega)
    have HL8 := Lib.hid (show la.length ≤ 8 by have := HL6.out; omega)
    have HSB := Lib.hid (show ∀ x ∈ la, SmB x from map_small HMA.out HLa.out (fun x hx => ⟨HSO.out x (List.mem_of_mem_take hx), by
      have hm := List.mem_of_mem_take hx
      have h7 := HSMA.out x hm
      rw [(HFT.out x hm).2.2] at h7
      exact h7⟩))
    have HSV := Lib.hid (show sP la = (V : Nat) by
      rw [sP_map HMA.out, sP_len _ (fun x hx => (HSO.out x (List.mem_of_mem_take hx)).err), HV.out])
    have HWV := Lib.hid (show Wh (V : Nat) by unfold Wh; have := HAL.out; have := HKA.out; omega)
    have hli : (la.length : Int) ≤ (l.length : Int) := by omega
    have hln : ¬ (l.length : Int) < (la.length : Int) := by omega
    have hlc : (la.length : Int) ≤ (cap : Int) := by have := HCAP.out; omega
    have hlc2 : la.length ≤ cap := by have := HCAP.out; omega
    have hvle : V ≤ kk := hn1
    have hkle := HKA.out
    have hvA : (V : Int) ≤ (A.length : Int) := by omega
    have hvA2 : V ≤ A.length := by omega
    have HFV := Lib.hid (show finS (A.take V) = ((l.take la.length).map BatR.b, V, [], 0) by
      obtain ⟨r2, f1, f2⟩ := fin_cut l HSO.out V la.length (by rw [HAE.out]; exact hvA2) hnl (by rw [HV.out]; exact Nat.le_refl _) (fun hh => Nat.lt_of_le_of_lt hvle (hn2 hh))
      rw [HAE.out, HV.out] at f1
      rw [HV.out, Nat.sub_self] at f2
      rw [f1, List.eq_nil_of_length_eq_zero f2])
    have HPV := Lib.hid (show stopS [] 0 = 0 from rfl)
    have HTV := Lib.hid (show (A.take V).length ≤ 90000 by rw [List.length_take]; have := HAL.out; omega)
    have gvv : ((V : Int) != (V : Int)) = false := by simp
    have gvw : ((V : Int) == (V : Int)) = true := beq_self_eq_true _
    obtain ⟨bo, hbo⟩ : ∃ bo : Bool, decide (V = kk) = bo := ⟨_, rfl⟩
    have gvk : ((V : Int) == (kk : Int)) = bo := by rw [← hbo]; by_cases c : V = kk <;> simp [c] <;> omega
    have gps : (ps == 0) = bo := by
      rw [← hbo, ← HPS.out]
      unfold stopS
      by_cases c : V = kk
      · have : rest = [] := List.eq_nil_of_length_eq_zero (by omega)
        simp [c, this]
      · have : rest ≠ [] := by intro hh; rw [hh] at hrest; simp at hrest; omega
        simp [c, this]
    have gbb : (bo != bo) = false := by cases bo <;> rfl
    have HN2 := Lib.hid hn2
    have HNL3 := Lib.hid hnl
    have HHP : ∀ w', St W0 w' (K.and (Know.bats (.slice qa la.length capa) la)) [.raw px #[.int .i64 V, .int .i64 ps, .int .i64 0] 26] → w'.cell? ⟨px, 0, none⟩ = some (.int .i64 V) ∧ w'.cell? ⟨px, 1, none⟩ = some (.int .i64 ps) ∧ w'.cell? ⟨px, 2, none⟩ = some (.int .i64 0) := fun w' hs => ⟨hs.rawCell 0, hs.rawCell 1, hs.rawCell 2⟩
    have HKP := Lib.hid HHP
    clear HHP hk1 hvle hkle hbo hn1 hn2 hps hrest
    -- whether l is nil or not: where it lies
    have HKA1 := Lib.hid (show (K.and (Know.bats (.slice qa la.length capa) la)).has (Know.bats (.slice qa la.length capa) la) from Know.has_right (Know.has_refl _))
    by_cases hl0 : l.length = 0
    · as_aux_lemma =>
      have HBE := Lib.hid (show ∀ (K : Know) (q : Option Addr) (cap : Nat), K.has (Know.bats (.slice q la.length cap) (l.take la.length)) from fun K q cap => by rw [show la.length = 0 by omega, List.take_zero]; exact bats_empty K q cap)
      have hlti : ¬ (la.length : Int) < (l.length : Int) := by omega
      clear hl0
      go_cut [110] (fun s1 wx => s1 = .bool false ∧ St W0 wx (K.and (Know.bats (.slice qa la.length capa) la)) [.raw px #[.int .i64 V, .int .i64 ps, .int .i64 0] 26])
      case first =>
        have hs := H.out.drew
        refine wp_region_held_drew (S := fun w' => w'.cell? ⟨px, 0, none⟩ = some (.int .i64 V) ∧ w'.cell? ⟨px, 1, none⟩ = some (.int .i64 ps) ∧ w'.cell? ⟨px, 2, none⟩ = some (.int .i64 0)) (by kernel_rfl) (HKP.out _ hs) (fun hHeld => ?_)
        refine wpAnyH_take (i := 0) (oi := ⟨some 73, .move (.tmp 15), 23, "top12.go:32", #[], none⟩) (v := ?_) rfl (by kernel_rfl) (by kernel_rfl) (by kernel_rfl) (fun _ _ _ h => h) (Or.inl ⟨by rfl, ?_⟩) (by assumption) ?_
        rotate_left
        · intro w hSw; (try dsimp only at hSw); go_simp; try with_reducible rfl
        simp only [Act.put, sA, sB, sC]
        refine wpAnyH_take (i := 1) (oi := ⟨some 74, .call { callee := .builtin .len, args := #[.tmp 73], argTypes := #[23] }, 3, "top12.go:32", #[.mk 0 .data], none⟩) (v := ?_) rfl (by kernel_rfl) (by kernel_rfl) (by kernel_rfl) (fun _ _ _ h => h) (Or.inl ⟨by rfl, ?_⟩) (by assumption) ?_
        rotate_left
        · intro w hSw; (try dsimp only at hSw); go_simp; try with_reducible rfl
        simp only [Act.put, sA, sB, sC]
        refine wpAnyH_take (i := 2) (oi := ⟨some 75, .move (.tmp 0), 23, "top12.go:32", #[], none⟩) (v := ?_) rfl (by kernel_rfl) (by kernel_rfl) (by kernel_rfl) (fun _ _ _ h => h) (Or.inl ⟨by rfl, ?_⟩) (by assumption) ?_
        rotate_left
        · intro w hSw; (try dsimp only at hSw); go_simp; try with_reducible rfl
        simp only [Act.put, sA, sB, sC]
        refine wpAnyH_take (i := 3) (oi := ⟨some 76, .call { callee := .builtin .len, args := #[.tmp 75], argTypes := #[23] }, 3, "top12.go:32", #[.mk 2 .data], none⟩) (v := ?_) rfl (by kernel_rfl) (by kernel_rfl) (by kernel_rfl) (fun _ _ _ h => h) (Or.inl ⟨by rfl, ?_⟩) (by assumption) ?_
        rotate_left
        · intro w hSw; (try dsimp only at hSw); go_simp; try with_reducible rfl
        simp only [Act.put, sA, sB, sC]
        refine wpAnyH_take (i := 4) (oi := ⟨some 77, .binOp .gtr 3 (.tmp 74) (.tmp 76) 3, 4, "top12.go:32", #[.mk 1 .data, .mk 3 .data], none⟩) (v := ?_) rfl (by kernel_rfl) (by kernel_rfl) (by kernel_rfl) (fun _ _ _ h => h) (Or.inl ⟨by rfl, ?_⟩) (by assumption) ?_
        rotate_left
        · intro w hSw; (try dsimp only at hSw); go_simp; try with_reducible rfl
        simp only [Act.put, sA, sB, sC]
        refine wpAnyH_take (i := 5) (oi := ⟨some 78, .move (.tmp 77), 4, "top12.go:32", #[.mk 4 .data], none⟩) (v := ?_) rfl (by kernel_rfl) (by kernel_rfl) (by kernel_rfl) (fun _ _ _ h => h) (Or.inl ⟨by rfl, ?_⟩) (by assumption) ?_
        rotate_left
        · intro w hSw; (try dsimp only at hSw); go_simp; try with_reducible rfl
        simp only [Act.put, sA, sB, sC]
        refine wpAnyH_take (i := 6) (oi := ⟨some 79, .move (.tmp 15), 23, "top12.go:32", #[.mk 5 .guard], some (5, false)⟩) (v := ?_) rfl (by kernel_rfl) (by kernel_rfl) (by kernel_rfl) (fun _ _ _ h => h) (Or.inl ⟨by rfl, ?_⟩) (by assumption) ?_
        rotate_left
        · intro w hSw; (try dsimp only at hSw); go_simp; try with_reducible rfl
        simp only [Act.put, sA, sB, sC]
        refine wpAnyH_take (i := 7) (oi := ⟨some 80, .move (.tmp 0), 23, "top12.go:32", #[.mk 5 .guard], some (5, false)⟩) (v := ?_) rfl (by kernel_rfl) (by kernel_rfl) (by kernel_rfl) (fun _ _ _ h => h) (Or.inl ⟨by rfl, ?_⟩) (by assumption) ?_
        rotate_left
        · intro w hSw; (try dsimp only at hSw); go_simp; try with_reducible rfl
        simp only [Act.put, sA, sB, sC]
        refine wpAnyH_take (i := 8) (oi := ⟨some 81, .move (.tmp 15), 23, "top12.go:32", #[.mk 5 .guard], some (5, false)⟩) (v := ?_) rfl (by kernel_rfl) (by kernel_rfl) (by kernel_rfl) (fun _ _ _ h => h) (Or.inl ⟨by rfl, ?_⟩) (by assumption) ?_
        rotate_left
        · intro w hSw; (try dsimp only at hSw); go_simp; try with_reducible rfl
        simp only [Act.put, sA, sB, sC]
        refine wpAnyH_take (i := 9) (oi := ⟨some 82, .call { callee := .builtin .len, args := #[.tmp 81], argTypes := #[23] }, 3, "top12.go:32", #[.mk 8 .data, .mk 5 .guard], some (5, false)⟩) (v := ?_) rfl (by kernel_rfl) (by kernel_rfl) (by kernel_rfl) (fun _ _ _ h => h) (Or.inl ⟨by rfl, ?_⟩) (by assumption) ?_
        rotate_left
        · intro w hSw; (try dsimp only at hSw); go_simp; try with_reducible rfl
        simp only [Act.put, sA, sB, sC]
        refine wpAnyH_take (i := 10) (oi := ⟨some 83, .slice 23 (.tmp 80) none (some (.tmp 82)) none, 23, "top12.go:32", #[.mk 7 .data, .mk 9 .data, .mk 5 .guard], some (5, false)⟩) (v := ?_) rfl (by kernel_rfl) (by kernel_rfl) (by kernel_rfl) (fun _ _ _ h => h) (Or.inl ⟨by rfl, ?_⟩) (by assumption) ?_
        rotate_left
        · intro w hSw; (try dsimp only at hSw); go_simp; try with_reducible rfl
        simp only [Act.put, sA, sB, sC]
        refine wpAnyH_ready (rs := [11]) (by kernel_rfl) (by simp) (AllReadyH.cons (o := ⟨some 84, .call { callee := .value (.func 9), args := #[.tmp 79, .tmp 83], argTypes := #[23, 23] }, 4, "top12.go:32", #[.mk 6 .data, .mk 10 .data, .mk 5 .chain, .mk 5 .guard], some (5, false)⟩) rfl (fun KK hK => ?_) AllReadyH.nil)
        · go_simp
          go_at_call 9
          with_reducible refine (ref11_rowsN la (l.take la.length) la.length la.length rfl HTN.out qa _ capa _ HMA.out HLa.out HLT.out HLB.out HKA1.out (HBE.out _ _ _) hs).mono ?_
          rintro e wq ⟨rfl, hs⟩
          refine hK.out _ _ (HKP.out _ hs) (fun hHeld => ?_)
          clear hK KK
          try simp only [Act.put, sA, sB, sC]
          refine wpAnyH_take (i := 12) (oi := ⟨some 85, .unOp UnOp.not 4 (.tmp 84), 4, "top12.go:32", #[.mk 11 .data, .mk 5 .guard], some (5, false)⟩) (v := ?_) rfl (by kernel_rfl) (by kernel_rfl) (by kernel_rfl) (fun _ _ _ h => h) (Or.inl ⟨by rfl, ?_⟩) (by assumption) ?_
          rotate_left
          · intro w hSw; (try dsimp only at hSw); go_simp; try with_reducible rfl
          simp only [Act.put, sA, sB, sC]
          refine wpAnyH_take (i := 13) (oi := ⟨some 86, .pick (.tmp 78) (.const (Value.bool true)) (.tmp 85), 4, "top12.go:32", #[.mk 5 .data, .mk 12 .data], none⟩) (v := ?_) rfl (by kernel_rfl) (by kernel_rfl) (by kernel_rfl) (fun _ _ _ h => h) (Or.inl ⟨by rfl, ?_⟩) (by assumption) ?_
          rotate_left
          · intro w hSw; (try dsimp only at hSw); go_simp; try with_reducible rfl
          simp only [Act.put, sA, sB, sC]
          refine wpAnyH_take (i := 14) (oi := ⟨some 87, .move (.tmp 86), 4, "top12.go:32", #[.mk 13 .data, .mk 11 .chain], none⟩) (v := ?_) rfl (by kernel_rfl) (by kernel_rfl) (by kernel_rfl) (fun _ _ _ h => h) (Or.inl ⟨by rfl, ?_⟩) (by assumption) ?_
          rotate_left
          · intro w hSw; (try dsimp only at hSw); go_simp; try with_reducible rfl
          simp only [Act.put, sA, sB, sC]
          refine wpAnyH_take (i := 15) (oi := ⟨some 88, .move (.tmp 15), 23, "top12.go:32", #[.mk 14 .guard], some (14, false)⟩) (v := ?_) rfl (by kernel_rfl) (by kernel_rfl) (by kernel_rfl) (fun _ _ _ h => h) (Or.inl ⟨by rfl, ?_⟩) (by assumption) ?_
          rotate_left
          · intro w hSw; (try dsimp only at hSw); go_simp; try with_reducible rfl
          simp only [Act.put, sA, sB, sC]
          refine wpAnyH_take (i := 19) (oi := ⟨some 92, .fieldAddr 26 (.tmp 16) 0, 0, "top12.go:32", #[.mk 14 .guard], some (14, false)⟩) (v := ?_) rfl (by kernel_rfl) (by kernel_rfl) (by kernel_rfl) (fun _ _ _ h => h) (Or.inl ⟨by rfl, ?_⟩) (by assumption) ?_
          rotate_left
          · intro w hSw; (try dsimp only at hSw); go_simp; try with_reducible rfl
          simp only [Act.put, sA, sB, sC]
          refine wpAnyH_take (i := 20) (oi := ⟨some 93, .load 3 (.tmp 92), 3, "top12.go:32", #[.mk 19 .data, .mk 14 .guard], some (14, false)⟩) (v := ?_) rfl (by kernel_rfl) (by kernel_rfl) (by kernel_rfl) (fun _ _ _ h => h) (Or.inl ⟨by rfl, ?_⟩) (by assumption) ?_
          rotate_left
          · intro w hSw; (try dsimp only at hSw); go_simp; try with_reducible rfl
          simp only [Act.put, sA, sB, sC]
          refine wpAnyH_ready (rs := [16]) (by kernel_rfl) (by simp) (AllReadyH.cons (o := ⟨some 89, .call { callee := .value (.func 14), args := #[.tmp 88], argTypes := #[23] }, 45, "top12.go:32", #[.mk 15 .data, .mk 14 .chain, .mk 14 .guard], some (14, false)⟩) rfl (fun KK hK => ?_) AllReadyH.nil)
          · go_simp
            go_at_call 14
            with_reducible refine (tal_total la qa capa HSB.out HL8.out HKA1.out hs).mono ?_
            rintro e wq ⟨X, Y, rfl, fx, _, hs⟩
            have hcv : ∀ w, (convert 44 3 (.float .f64 X)).run Try.prog w = .ok (.int .i64 (V : Nat)) w := fun w => convI X (V : Nat) (by rw [← HSV.out]; exact fx) HWV.out w
            clear fx
            refine hK.out _ _ (HKP.out _ hs) (fun hHeld => ?_)
            clear hK KK
            try simp only [Act.put, sA, sB, sC]
            refine wpAnyH_take (i := 17) (oi := ⟨some 90, .call { callee := .builtin .real, args := #[.tmp 89], argTypes := #[45] }, 44, "top12.go:32", #[.mk 16 .data, .mk 14 .guard], some (14, false)⟩) (v := ?_) rfl (by kernel_rfl) (by kernel_rfl) (by kernel_rfl) (fun _ _ _ h => h) (Or.inl ⟨by rfl, ?_⟩) (by assumption) ?_
            rotate_left
            · intro w hSw; (try dsimp only at hSw); go_simp; try with_reducible rfl
            simp only [Act.put, sA, sB, sC]
            refine wpAnyH_take (i := 18) (oi := ⟨some 91, .convert 44 3 (.tmp 90), 3, "top12.go:32", #[.mk 17 .data, .mk 14 .guard], some (14, false)⟩) (v := ?_) rfl (by kernel_rfl) (by kernel_rfl) (by kernel_rfl) (fun _ _ _ h => h) (Or.inl ⟨by rfl, ?_⟩) (by assumption) ?_
            rotate_left
            · intro w hSw; (try dsimp only at hSw); go_simp; try with_reducible rfl
            simp only [Act.put, sA, sB, sC]
            refine wpAnyH_take (i := 21) (oi := ⟨some 94, .binOp .neq 3 (.tmp 91) (.tmp 93) 3, 4, "top12.go:32", #[.mk 18 .data, .mk 20 .data, .mk 14 .guard], some (14, false)⟩) (v := ?_) rfl (by kernel_rfl) (by kernel_rfl) (by kernel_rfl) (fun _ _ _ h => h) (Or.inl ⟨by rfl, ?_⟩) (by assumption) ?_
            rotate_left
            · intro w hSw; (try dsimp only at hSw); go_simp; try with_reducible rfl
            simp only [Act.put, sA, sB, sC]
            refine wpAnyH_take (i := 22) (oi := ⟨some 95, .pick (.tmp 87) (.const (Value.bool true)) (.tmp 94), 4, "top12.go:32", #[.mk 14 .data, .mk 21 .data], none⟩) (v := ?_) rfl (by kernel_rfl) (by kernel_rfl) (by kernel_rfl) (fun _ _ _ h => h) (Or.inl ⟨by rfl, ?_⟩) (by assumption) ?_
            rotate_left
            · intro w hSw; (try dsimp only at hSw); go_simp; try with_reducible rfl
            simp only [Act.put, sA, sB, sC]
            refine wpAnyH_take (i := 23) (oi := ⟨some 96, .move (.tmp 95), 4, "top12.go:32", #[.mk 22 .data, .mk 16 .chain], none⟩) (v := ?_) rfl (by kernel_rfl) (by kernel_rfl) (by kernel_rfl) (fun _ _ _ h => h) (Or.inl ⟨by rfl, ?_⟩) (by assumption) ?_
            rotate_left
            · intro w hSw; (try dsimp only at hSw); go_simp; try with_reducible rfl
            simp only [Act.put, sA, sB, sC]
            refine wpAnyH_take (i := 24) (oi := ⟨some 97, .fieldAddr 26 (.tmp 16) 2, 0, "top12.go:32", #[.mk 23 .guard], some (23, false)⟩) (v := ?_) rfl (by kernel_rfl) (by kernel_rfl) (by kernel_rfl) (fun _ _ _ h => h) (Or.inl ⟨by rfl, ?_⟩) (by assumption) ?_
            rotate_left
            · intro w hSw; (try dsimp only at hSw); go_simp; try with_reducible rfl
            simp only [Act.put, sA, sB, sC]
            refine wpAnyH_take (i := 25) (oi := ⟨some 98, .load 24 (.tmp 97), 24, "top12.go:32", #[.mk 24 .data, .mk 23 .guard], some (23, false)⟩) (v := ?_) rfl (by kernel_rfl) (by kernel_rfl) (by kernel_rfl) (fun _ _ _ h => h) (Or.inl ⟨by rfl, ?_⟩) (by assumption) ?_
            rotate_left
            · intro w hSw; (try dsimp only at hSw); go_simp; try with_reducible rfl
            simp only [Act.put, sA, sB, sC]
            refine wpAnyH_take (i := 26) (oi := ⟨some 99, .binOp .neq 24 (.tmp 98) (.const (Value.int IntKind.i64 0)) 24, 4, "top12.go:32", #[.mk 25 .data, .mk 23 .guard], some (23, false)⟩) (v := ?_) rfl (by kernel_rfl) (by kernel_rfl) (by kernel_rfl) (fun _ _ _ h => h) (Or.inl ⟨by rfl, ?_⟩) (by assumption) ?_
            rotate_left
            · intro w hSw; (try dsimp only at hSw); go_simp; try with_reducible rfl
            simp only [Act.put, sA, sB, sC]
            refine wpAnyH_take (i := 27) (oi := ⟨some 100, .pick (.tmp 96) (.const (Value.bool true)) (.tmp 99), 4, "top12.go:32", #[.mk 23 .data, .mk 26 .data], none⟩) (v := ?_) rfl (by kernel_rfl) (by kernel_rfl) (by kernel_rfl) (fun _ _ _ h => h) (Or.inl ⟨by rfl, ?_⟩) (by assumption) ?_
            rotate_left
            · intro w hSw; (try dsimp only at hSw); go_simp; try with_reducible rfl
            simp only [Act.put, sA, sB, sC]
            refine wpAnyH_take (i := 28) (oi := ⟨some 101, .move (.tmp 100), 4, "top12.go:32", #[.mk 27 .data, .mk 23 .chain], none⟩) (v := ?_) rfl (by kernel_rfl) (by kernel_rfl) (by kernel_rfl) (fun _ _ _ h => h) (Or.inl ⟨by rfl, ?_⟩) (by assumption) ?_
            rotate_left
            · intro w hSw; (try dsimp only at hSw); go_simp; try with_reducible rfl
            simp only [Act.put, sA, sB, sC]
            refine wpAnyH_take (i := 29) (oi := ⟨some 102, .fieldAddr 26 (.tmp 16) 1, 0, "top12.go:32", #[.mk 28 .guard], some (28, false)⟩) (v := ?_) rfl (by kernel_rfl) (by kernel_rfl) (by kernel_rfl) (fun _ _ _ h => h) (Or.inl ⟨by rfl, ?_⟩) (by assumption) ?_
            rotate_left
            · intro w hSw; (try dsimp only at hSw); go_simp; try with_reducible rfl
            simp only [Act.put, sA, sB, sC]
            refine wpAnyH_take (i := 30) (oi := ⟨some 103, .load 3 (.tmp 102), 3, "top12.go:32", #[.mk 29 .data, .mk 28 .guard], some (28, false)⟩) (v := ?_) rfl (by kernel_rfl) (by kernel_rfl) (by kernel_rfl) (fun _ _ _ h => h) (Or.inl ⟨by rfl, ?_⟩) (by assumption) ?_
            rotate_left
            · intro w hSw; (try dsimp only at hSw); go_simp; try with_reducible rfl
            simp only [Act.put, sA, sB, sC]
            refine wpAnyH_take (i := 31) (oi := ⟨some 104, .binOp .eql 3 (.tmp 103) (.const (Value.int IntKind.i64 0)) 3, 4, "top12.go:32", #[.mk 30 .data, .mk 28 .guard], some (28, false)⟩) (v := ?_) rfl (by kernel_rfl) (by kernel_rfl) (by kernel_rfl) (fun _ _ _ h => h) (Or.inl ⟨by rfl, ?_⟩) (by assumption) ?_
            rotate_left
            · intro w hSw; (try dsimp only at hSw); go_simp; try with_reducible rfl
            simp only [Act.put, sA, sB, sC]
            refine wpAnyH_take (i := 32) (oi := ⟨some 105, .fieldAddr 26 (.tmp 16) 0, 0, "top12.go:32", #[.mk 28 .guard], some (28, false)⟩) (v := ?_) rfl (by kernel_rfl) (by kernel_rfl) (by kernel_rfl) (fun _ _ _ h => h) (Or.inl ⟨by rfl, ?_⟩) (by assumption) ?_
            rotate_left
            · intro w hSw; (try dsimp only at hSw); go_simp; try with_reducible rfl
            simp only [Act.put, sA, sB, sC]
            refine wpAnyH_take (i := 33) (oi := ⟨some 106, .load 3 (.tmp 105), 3, "top12.go:32", #[.mk 32 .data, .mk 28 .guard], some (28, false)⟩) (v := ?_) rfl (by kernel_rfl) (by kernel_rfl) (by kernel_rfl) (fun _ _ _ h => h) (Or.inl ⟨by rfl, ?_⟩) (by assumption) ?_
            rotate_left
            · intro w hSw; (try dsimp only at hSw); go_simp; try with_reducible rfl
            simp only [Act.put, sA, sB, sC]
            refine wpAnyH_take (i := 34) (oi := ⟨some 107, .move (.tmp 14), 3, "top12.go:32", #[.mk 28 .guard], some (28, false)⟩) (v := ?_) rfl (by kernel_rfl) (by kernel_rfl) (by kernel_rfl) (fun _ _ _ h => h) (Or.inl ⟨by rfl, ?_⟩) (by assumption) ?_
            rotate_left
            · intro w hSw; (try dsimp only at hSw); go_simp; try with_reducible rfl
            simp only [Act.put, sA, sB, sC]
            refine wpAnyH_take (i := 35) (oi := ⟨some 108, .binOp .eql 3 (.tmp 106) (.tmp 107) 3, 4, "top12.go:32", #[.mk 33 .data, .mk 34 .data, .mk 28 .guard], some (28, false)⟩) (v := ?_) rfl (by kernel_rfl) (by kernel_rfl) (by kernel_rfl) (fun _ _ _ h => h) (Or.inl ⟨by rfl, ?_⟩) (by assumption) ?_
            rotate_left
            · intro w hSw; (try dsimp only at hSw); go_simp; try with_reducible rfl
            simp only [Act.put, sA, sB, sC]
            refine wpAnyH_take (i := 36) (oi := ⟨some 109, .binOp .neq 4 (.tmp 104) (.tmp 108) 4, 4, "top12.go:32", #[.mk 31 .data, .mk 35 .data, .mk 28 .guard], some (28, false)⟩) (v := ?_) rfl (by kernel_rfl) (by kernel_rfl) (by kernel_rfl) (fun _ _ _ h => h) (Or.inl ⟨by rfl, ?_⟩) (by assumption) ?_
            rotate_left
            · intro w hSw; (try dsimp only at hSw); go_simp; try with_reducible rfl
            simp only [Act.put, sA, sB, sC]
            refine wpAnyH_take (i := 37) (oi := ⟨some 110, .pick (.tmp 101) (.const (Value.bool true)) (.tmp 109), 4, "top12.go:32", #[.mk 28 .data, .mk 36 .data], none⟩) (v := ?_) rfl (by kernel_rfl) (by kernel_rfl) (by kernel_rfl) (fun _ _ _ h => h) (Or.inl ⟨by rfl, ?_⟩) (by assumption) ?_
            rotate_left
            · intro w hSw; (try dsimp only at hSw); go_simp; try with_reducible rfl
            simp only [Act.put, sA, sB, sC]
            refine wpAnyH_done (by kernel_rfl) ?_ _
            go_wp2_with fail
            go_meet
            exact ⟨rfl, hs⟩
      case rest =>
        obtain ⟨hu, h⟩ := hcut
        subst hu
        clear px0 px1 px2
        have px0 := h.rawCell 0; have px1 := h.rawCell 1; have px2 := h.rawCell 2; simp at px0 px1 px2; have H := Lib.hid h
        clear h
        go_wp2_with (first
  | (go_at_call 7; (with_reducible refine (scan_one (A.take V) ((l.take la.length).map BatR.b) V [] 0 0 HFV.out HPV.out HTV.out _ (H.out.allocRaw _ _)).mono ?_); rintro e_ wn ⟨qb, capb, lb, rfl, hmb, hlb, hcb, hqb, h⟩; have HMb := Lib.hid hmb; have HLb := Lib.hid hlb; have HCb := Lib.hid hcb; have HQb := Lib.hid hqb; clear hmb hlb hcb hqb; obtain ⟨qx, hqx⟩ : ∃ b, wn.heap.size = b := ⟨_, rfl⟩; have h := h.allocRaw #[.int .i64 V, .int .i64 0, .int .i64 0] 26; rw [hqx] at h; clear px0 px1 px2; have qx0 := h.rawCell 0; have qx1 := h.rawCell 1; have qx2 := h.rawCell 2; have px0 := h.p1.rawCell 0; have px1 := h.p1.rawCell 1; have px2 := h.p1.rawCell 2; simp at qx0 qx1 qx2 px0 px1 px2; replace H := Lib.hid h; clear h)
  | (go_at_call 9; (with_reducible refine (ref11_rowsT lb la qb qa capb capa (HMb.out.trans HMA.out.symm) HLb.out HLa.out (by have := HCb.out; have := HTV.out; omega) (Know.has_right (Know.has_refl _)) (Know.has_left HKA1.out) H.out).mono ?_); rintro e_ wn ⟨rfl, h⟩; clear px0 px1 px2 qx0 qx1 qx2; have qx0 := h.rawCell 0; have qx1 := h.rawCell 1; have qx2 := h.rawCell 2; have px0 := h.p1.rawCell 0; have px1 := h.p1.rawCell 1; have px2 := h.p1.rawCell 2; simp at qx0 qx1 qx2 px0 px1 px2; replace H := Lib.hid h; clear h))
        go_ret
        exact ⟨rfl, H.out.below⟩
    · as_aux_lemma =>
      obtain ⟨b1, off1, hq1⟩ := bats_at (Know.has_left HK.out) H.out (by omega)
      subst hq1
      have HKL1 := Lib.hid (show (K.and (Know.bats (.slice qa la.length capa) la)).has (Know.bats (.slice (some ⟨b1, off1, none⟩) la.length cap) (l.take la.length)) from Know.has_left (bats_take la.length HNL3.out HK.out))
      have hcp : ¬ cap = 0 := by have := HCAP.out; omega
      go_cut [110] (fun s1 wx => s1 = .bool false ∧ St W0 wx (K.and (Know.bats (.slice qa la.length capa) la)) [.raw px #[.int .i64 V, .int .i64 ps, .int .i64 0] 26])
      case first =>
        have hs := H.out.drew
        refine wp_region_held_drew (S := fun w' => w'.cell? ⟨px, 0, none⟩ = some (.int .i64 V) ∧ w'.cell? ⟨px, 1, none⟩ = some (.int .i64 ps) ∧ w'.cell? ⟨px, 2, none⟩ = some (.int .i64 0)) (by kernel_rfl) (HKP.out _ hs) (fun hHeld => ?_)
        refine wpAnyH_take (i := 0) (oi := ⟨some 73, .move (.tmp 15), 23, "top12.go:32", #[], none⟩) (v := ?_) rfl (by kernel_rfl) (by kernel_rfl) (by kernel_rfl) (fun _ _ _ h => h) (Or.inl ⟨by rfl, ?_⟩) (by assumption) ?_
        rotate_left
        · intro w hSw; (try dsimp only at hSw); go_simp; try with_reducible rfl
        simp only [Act.put, sA, sB, sC]
        refine wpAnyH_take (i := 1) (oi := ⟨some 74, .call { callee := .builtin .len, args := #[.tmp 73], argTypes := #[23] }, 3, "top12.go:32", #[.mk 0 .data], none⟩) (v := ?_) rfl (by kernel_rfl) (by kernel_rfl) (by kernel_rfl) (fun _ _ _ h => h) (Or.inl ⟨by rfl, ?_⟩) (by assumption) ?_
        rotate_left
        · intro w hSw; (try dsimp only at hSw); go_simp; try with_reducible rfl
        simp only [Act.put, sA, sB, sC]
        refine wpAnyH_take (i := 2) (oi := ⟨some 75, .move (.tmp 0), 23, "top12.go:32", #[], none⟩) (v := ?_) rfl (by kernel_rfl) (by kernel_rfl) (by kernel_rfl) (fun _ _ _ h => h) (Or.inl ⟨by rfl, ?_⟩) (by assumption) ?_
        rotate_left
        · intro w hSw; (try dsimp only at hSw); go_simp; try with_reducible rfl
        simp only [Act.put, sA, sB, sC]
        refine wpAnyH_take (i := 3) (oi := ⟨some 76, .call { callee := .builtin .len, args := #[.tmp 75], argTypes := #[23] }, 3, "top12.go:32", #[.mk 2 .data], none⟩) (v := ?_) rfl (by kernel_rfl) (by kernel_rfl) (by kernel_rfl) (fun _ _ _ h => h) (Or.inl ⟨by rfl, ?_⟩) (by assumption) ?_
        rotate_left
        · intro w hSw; (try dsimp only at hSw); go_simp; try with_reducible rfl
        simp only [Act.put, sA, sB, sC]
        refine wpAnyH_take (i := 4) (oi := ⟨some 77, .binOp .gtr 3 (.tmp 74) (.tmp 76) 3, 4, "top12.go:32", #[.mk 1 .data, .mk 3 .data], none⟩) (v := ?_) rfl (by kernel_rfl) (by kernel_rfl) (by kernel_rfl) (fun _ _ _ h => h) (Or.inl ⟨by rfl, ?_⟩) (by assumption) ?_
        rotate_left
        · intro w hSw; (try dsimp only at hSw); go_simp; try with_reducible rfl
        simp only [Act.put, sA, sB, sC]
        refine wpAnyH_take (i := 5) (oi := ⟨some 78, .move (.tmp 77), 4, "top12.go:32", #[.mk 4 .data], none⟩) (v := ?_) rfl (by kernel_rfl) (by kernel_rfl) (by kernel_rfl) (fun _ _ _ h => h) (Or.inl ⟨by rfl, ?_⟩) (by assumption) ?_
        rotate_left
        · intro w hSw; (try dsimp only at hSw); go_simp; try with_reducible rfl
        simp only [Act.put, sA, sB, sC]
        refine wpAnyH_take (i := 6) (oi := ⟨some 79, .move (.tmp 15), 23, "top12.go:32", #[.mk 5 .guard], some (5, false)⟩) (v := ?_) rfl (by kernel_rfl) (by kernel_rfl) (by kernel_rfl) (fun _ _ _ h => h) (Or.inl ⟨by rfl, ?_⟩) (by assumption) ?_
        rotate_left
        · intro w hSw; (try dsimp only at hSw); go_simp; try with_reducible rfl
        simp only [Act.put, sA, sB, sC]
        refine wpAnyH_take (i := 7) (oi := ⟨some 80, .move (.tmp 0), 23, "top12.go:32", #[.mk 5 .guard], some (5, false)⟩) (v := ?_) rfl (by kernel_rfl) (by kernel_rfl) (by kernel_rfl) (fun _ _ _ h => h) (Or.inl ⟨by rfl, ?_⟩) (by assumption) ?_
        rotate_left
        · intro w hSw; (try dsimp only at hSw); go_simp; try with_reducible rfl
        simp only [Act.put, sA, sB, sC]
        refine wpAnyH_take (i := 8) (oi := ⟨some 81, .move (.tmp 15), 23, "top12.go:32", #[.mk 5 .guard], some (5, false)⟩) (v := ?_) rfl (by kernel_rfl) (by kernel_rfl) (by kernel_rfl) (fun _ _ _ h => h) (Or.inl ⟨by rfl, ?_⟩) (by assumption) ?_
        rotate_left
        · intro w hSw; (try dsimp only at hSw); go_simp; try with_reducible rfl
        simp only [Act.put, sA, sB, sC]
        refine wpAnyH_take (i := 9) (oi := ⟨some 82, .call { callee := .builtin .len, args := #[.tmp 81], argTypes := #[23] }, 3, "top12.go:32", #[.mk 8 .data, .mk 5 .guard], some (5, false)⟩) (v := ?_) rfl (by kernel_rfl) (by kernel_rfl) (by kernel_rfl) (fun _ _ _ h => h) (Or.inl ⟨by rfl, ?_⟩) (by assumption) ?_
        rotate_left
        · intro w hSw; (try dsimp only at hSw); go_simp; try with_reducible rfl
        simp only [Act.put, sA, sB, sC]
        refine wpAnyH_take (i := 10) (oi := ⟨some 83, .slice 23 (.tmp 80) none (some (.tmp 82)) none, 23, "top12.go:32", #[.mk 7 .data, .mk 9 .data, .mk 5 .guard], some (5, false)⟩) (v := ?_) rfl (by kernel_rfl) (by kernel_rfl) (by kernel_rfl) (fun _ _ _ h => h) (Or.inl ⟨by rfl, ?_⟩) (by assumption) ?_
        rotate_left
        · intro w hSw; (try dsimp only at hSw); go_simp; try with_reducible rfl
        simp only [Act.put, sA, sB, sC]
        refine wpAnyH_ready (rs := [11]) (by kernel_rfl) (by simp) (AllReadyH.cons (o := ⟨some 84, .call { callee := .value (.func 9), args := #[.tmp 79, .tmp 83], argTypes := #[23, 23] }, 4, "top12.go:32", #[.mk 6 .data, .mk 10 .data, .mk 5 .chain, .mk 5 .guard], some (5, false)⟩) rfl (fun KK hK => ?_) AllReadyH.nil)
        · go_simp
          go_at_call 9
          with_reducible refine (ref11_rowsN la (l.take la.length) la.length la.length rfl HTN.out qa _ capa _ HMA.out HLa.out HLT.out HLB.out HKA1.out HKL1.out hs).mono ?_
          rintro e wq ⟨rfl, hs⟩
          refine hK.out _ _ (HKP.out _ hs) (fun hHeld => ?_)
          clear hK KK
          try simp only [Act.put, sA, sB, sC]
          refine wpAnyH_take (i := 12) (oi := ⟨some 85, .unOp UnOp.not 4 (.tmp 84), 4, "top12.go:32", #[.mk 11 .data, .mk 5 .guard], some (5, false)⟩) (v := ?_) rfl (by kernel_rfl) (by kernel_rfl) (by kernel_rfl) (fun _ _ _ h => h) (Or.inl ⟨by rfl, ?_⟩) (by assumption) ?_
          rotate_left
          · intro w hSw; (try dsimp only at hSw); go_simp; try with_reducible rfl
          simp only [Act.put, sA, sB, sC]
          refine wpAnyH_take (i := 13) (oi := ⟨some 86, .pick (.tmp 78) (.const (Value.bool true)) (.tmp 85), 4, "top12.go:32", #[.mk 5 .data, .mk 12 .data], none⟩) (v := ?_) rfl (by kernel_rfl) (by kernel_rfl) (by kernel_rfl) (fun _ _ _ h => h) (Or.inl ⟨by rfl, ?_⟩) (by assumption) ?_
          rotate_left
          · intro w hSw; (try dsimp only at hSw); go_simp; try with_reducible rfl
          simp only [Act.put, sA, sB, sC]
          refine wpAnyH_take (i := 14) (oi := ⟨some 87, .move (.tmp 86), 4, "top12.go:32", #[.mk 13 .data, .mk 11 .chain], none⟩) (v := ?_) rfl (by kernel_rfl) (by kernel_rfl) (by kernel_rfl) (fun _ _ _ h => h) (Or.inl ⟨by rfl, ?_⟩) (by assumption) ?_
          rotate_left
          · intro w hSw; (try dsimp only at hSw); go_simp; try with_reducible rfl
          simp only [Act.put, sA, sB, sC]
          refine wpAnyH_take (i := 15) (oi := ⟨some 88, .move (.tmp 15), 23, "top12.go:32", #[.mk 14 .guard], some (14, false)⟩) (v := ?_) rfl (by kernel_rfl) (by kernel_rfl) (by kernel_rfl) (fun _ _ _ h => h) (Or.inl ⟨by rfl, ?_⟩) (by assumption) ?_
          rotate_left
          · intro w hSw; (try dsimp only at hSw); go_simp; try with_reducible rfl
          simp only [Act.put, sA, sB, sC]
          refine wpAnyH_take (i := 19) (oi := ⟨some 92, .fieldAddr 26 (.tmp 16) 0, 0, "top12.go:32", #[.mk 14 .guard], some (14, false)⟩) (v := ?_) rfl (by kernel_rfl) (by kernel_rfl) (by kernel_rfl) (fun _ _ _ h => h) (Or.inl ⟨by rfl, ?_⟩) (by assumption) ?_
          rotate_left
          · intro w hSw; (try dsimp only at hSw); go_simp; try with_reducible rfl
          simp only [Act.put, sA, sB, sC]
          refine wpAnyH_take (i := 20) (oi := ⟨some 93, .load 3 (.tmp 92), 3, "top12.go:32", #[.mk 19 .data, .mk 14 .guard], some (14, false)⟩) (v := ?_) rfl (by kernel_rfl) (by kernel_rfl) (by kernel_rfl) (fun _ _ _ h => h) (Or.inl ⟨by rfl, ?_⟩) (by assumption) ?_
          rotate_left
          · intro w hSw; (try dsimp only at hSw); go_simp; try with_reducible rfl
          simp only [Act.put, sA, sB, sC]
          refine wpAnyH_ready (rs := [16]) (by kernel_rfl) (by simp) (AllReadyH.cons (o := ⟨some 89, .call { callee := .value (.func 14), args := #[.tmp 88], argTypes := #[23] }, 45, "top12.go:32", #[.mk 15 .data, .mk 14 .chain, .mk 14 .guard], some (14, false)⟩) rfl (fun KK hK => ?_) AllReadyH.nil)
          · go_simp
            go_at_call 14
            with_reducible refine (tal_total la qa capa HSB.out HL8.out HKA1.out hs).mono ?_
            rintro e wq ⟨X, Y, rfl, fx, _, hs⟩
            have hcv : ∀ w, (convert 44 3 (.float .f64 X)).run Try.prog w = .ok (.int .i64 (V : Nat)) w := fun w => convI X (V : Nat) (by rw [← HSV.out]; exact fx) HWV.out w
            clear fx
            refine hK.out _ _ (HKP.out _ hs) (fun hHeld => ?_)
            clear hK KK
            try simp only [Act.put, sA, sB, sC]
            refine wpAnyH_take (i := 17) (oi := ⟨some 90, .call { callee := .builtin .real, args := #[.tmp 89], argTypes := #[45] }, 44, "top12.go:32", #[.mk 16 .data, .mk 14 .guard], some (14, false)⟩) (v := ?_) rfl (by kernel_rfl) (by kernel_rfl) (by kernel_rfl) (fun _ _ _ h => h) (Or.inl ⟨by rfl, ?_⟩) (by assumption) ?_
            rotate_left
            · intro w hSw; (try dsimp only at hSw); go_simp; try with_reducible rfl
            simp only [Act.put, sA, sB, sC]
            refine wpAnyH_take (i := 18) (oi := ⟨some 91, .convert 44 3 (.tmp 90), 3, "top12.go:32", #[.mk 17 .data, .mk 14 .guard], some (14, false)⟩) (v := ?_) rfl (by kernel_rfl) (by kernel_rfl) (by kernel_rfl) (fun _ _ _ h => h) (Or.inl ⟨by rfl, ?_⟩) (by assumption) ?_
            rotate_left
            · intro w hSw; (try dsimp only at hSw); go_simp; try with_reducible rfl
            simp only [Act.put, sA, sB, sC]
            refine wpAnyH_take (i := 21) (oi := ⟨some 94, .binOp .neq 3 (.tmp 91) (.tmp 93) 3, 4, "top12.go:32", #[.mk 18 .data, .mk 20 .data, .mk 14 .guard], some (14, false)⟩) (v := ?_) rfl (by kernel_rfl) (by kernel_rfl) (by kernel_rfl) (fun _ _ _ h => h) (Or.inl ⟨by rfl, ?_⟩) (by assumption) ?_
            rotate_left
            · intro w hSw; (try dsimp only at hSw); go_simp; try with_reducible rfl
            simp only [Act.put, sA, sB, sC]
            refine wpAnyH_take (i := 22) (oi := ⟨some 95, .pick (.tmp 87) (.const (Value.bool true)) (.tmp 94), 4, "top12.go:32", #[.mk 14 .data, .mk 21 .data], none⟩) (v := ?_) rfl (by kernel_rfl) (by kernel_rfl) (by kernel_rfl) (fun _ _ _ h => h) (Or.inl ⟨by rfl, ?_⟩) (by assumption) ?_
            rotate_left
            · intro w hSw; (try dsimp only at hSw); go_simp; try with_reducible rfl
            simp only [Act.put, sA, sB, sC]
            refine wpAnyH_take (i := 23) (oi := ⟨some 96, .move (.tmp 95), 4, "top12.go:32", #[.mk 22 .data, .mk 16 .chain], none⟩) (v := ?_) rfl (by kernel_rfl) (by kernel_rfl) (by kernel_rfl) (fun _ _ _ h => h) (Or.inl ⟨by rfl, ?_⟩) (by assumption) ?_
            rotate_left
            · intro w hSw; (try dsimp only at hSw); go_simp; try with_reducible rfl
            simp only [Act.put, sA, sB, sC]
            refine wpAnyH_take (i := 24) (oi := ⟨some 97, .fieldAddr 26 (.tmp 16) 2, 0, "top12.go:32", #[.mk 23 .guard], some (23, false)⟩) (v := ?_) rfl (by kernel_rfl) (by kernel_rfl) (by kernel_rfl) (fun _ _ _ h => h) (Or.inl ⟨by rfl, ?_⟩) (by assumption) ?_
            rotate_left
            · intro w hSw; (try dsimp only at hSw); go_simp; try with_reducible rfl
            simp only [Act.put, sA, sB, sC]
            refine wpAnyH_take (i := 25) (oi := ⟨some 98, .load 24 (.tmp 97), 24, "top12.go:32", #[.mk 24 .data, .mk 23 .guard], some (23, false)⟩) (v := ?_) rfl (by kernel_rfl) (by kernel_rfl) (by kernel_rfl) (fun _ _ _ h => h) (Or.inl ⟨by rfl, ?_⟩) (by assumption) ?_
            rotate_left
            · intro w hSw; (try dsimp only at hSw); go_simp; try with_reducible rfl
            simp only [Act.put, sA, sB, sC]
            refine wpAnyH_take (i := 26) (oi := ⟨some 99, .binOp .neq 24 (.tmp 98) (.const (Value.int IntKind.i64 0)) 24, 4, "top12.go:32", #[.mk 25 .data, .mk 23 .guard], some (23, false)⟩) (v := ?_) rfl (by kernel_rfl) (by kernel_rfl) (by kernel_rfl) (fun _ _ _ h => h) (Or.inl ⟨by rfl, ?_⟩) (by assumption) ?_
            rotate_left
            · intro w hSw; (try dsimp only at hSw); go_simp; try with_reducible rfl
            simp only [Act.put, sA, sB, sC]
            refine wpAnyH_take (i := 27) (oi := ⟨some 100, .pick (.tmp 96) (.const (Value.bool true)) (.tmp 99), 4, "top12.go:32", #[.mk 23 .data, .mk 26 .data], none⟩) (v := ?_) rfl (by kernel_rfl) (by kernel_rfl) (by kernel_rfl) (fun _ _ _ h => h) (Or.inl ⟨by rfl, ?_⟩) (by assumption) ?_
            rotate_left
            · intro w hSw; (try dsimp only at hSw); go_simp; try with_reducible rfl
            simp only [Act.put, sA, sB, sC]
            refine wpAnyH_take (i := 28) (oi := ⟨some 101, .move (.tmp 100), 4, "top12.go:32", #[.mk 27 .data, .mk 23 .chain], none⟩) (v := ?_) rfl (by kernel_rfl) (by kernel_rfl) (by kernel_rfl) (fun _ _ _ h => h) (Or.inl ⟨by rfl, ?_⟩) (by assumption) ?_
            rotate_left
            · intro w hSw; (try dsimp only at hSw); go_simp; try with_reducible rfl
            simp only [Act.put, sA, sB, sC]
            refine wpAnyH_take (i := 29) (oi := ⟨some 102, .fieldAddr 26 (.tmp 16) 1, 0, "top12.go:32", #[.mk 28 .guard], some (28, false)⟩) (v := ?_) rfl (by kernel_rfl) (by kernel_rfl) (by kernel_rfl) (fun _ _ _ h => h) (Or.inl ⟨by rfl, ?_⟩) (by assumption) ?_
            rotate_left
            · intro w hSw; (try dsimp only at hSw); go_simp; try with_reducible rfl
            simp only [Act.put, sA, sB, sC]
            refine wpAnyH_take (i := 30) (oi := ⟨some 103, .load 3 (.tmp 102), 3, "top12.go:32", #[.mk 29 .data, .mk 28 .guard], some (28, false)⟩) (v := ?_) rfl (by kernel_rfl) (by kernel_rfl) (by kernel_rfl) (fun _ _ _ h => h) (Or.inl ⟨by rfl, ?_⟩) (by assumption) ?_
            rotate_left
            · intro w hSw; (try dsimp only at hSw); go_simp; try with_reducible rfl
            simp only [Act.put, sA, sB, sC]
            refine wpAnyH_take (i := 31) (oi := ⟨some 104, .binOp .eql 3 (.tmp 103) (.const (Value.int IntKind.i64 0)) 3, 4, "top12.go:32", #[.mk 30 .data, .mk 28 .guard], some (28, false)⟩) (v := ?_) rfl (by kernel_rfl) (by kernel_rfl) (by kernel_rfl) (fun _ _ _ h => h) (Or.inl ⟨by rfl, ?_⟩) (by assumption) ?_
            rotate_left
            · intro w hSw; (try dsimp only at hSw); go_simp; try with_reducible rfl
            simp only [Act.put, sA, sB, sC]
            refine wpAnyH_take (i := 32) (oi := ⟨some 105, .fieldAddr 26 (.tmp 16) 0, 0, "top12.go:32", #[.mk 28 .guard], some (28, false)⟩) (v := ?_) rfl (by kernel_rfl) (by kernel_rfl) (by kernel_rfl) (fun _ _ _ h => h) (Or.inl ⟨by rfl, ?_⟩) (by assumption) ?_
            rotate_left
            · intro w hSw; (try dsimp only at hSw); go_simp; try with_reducible rfl
            simp only [Act.put, sA, sB, sC]
            refine wpAnyH_take (i := 33) (oi := ⟨some 106, .load 3 (.tmp 105), 3, "top12.go:32", #[.mk 32 .data, .mk 28 .guard], some (28, false)⟩) (v := ?_) rfl (by kernel_rfl) (by kernel_rfl) (by kernel_rfl) (fun _ _ _ h => h) (Or.inl ⟨by rfl, ?_⟩) (by assumption) ?_
            rotate_left
            · intro w hSw; (try dsimp only at hSw); go_simp; try with_reducible rfl
            simp only [Act.put, sA, sB, sC]
            refine wpAnyH_take (i := 34) (oi := ⟨some 107, .move (.tmp 14), 3, "top12.go:32", #[.mk 28 .guard], some (28, false)⟩) (v := ?_) rfl (by kernel_rfl) (by kernel_rfl) (by kernel_rfl) (fun _ _ _ h => h) (Or.inl ⟨by rfl, ?_⟩) (by assumption) ?_
            rotate_left
            · intro w hSw; (try dsimp only at hSw); go_simp; try with_reducible rfl
            simp only [Act.put, sA, sB, sC]
            refine wpAnyH_take (i := 35) (oi := ⟨some 108, .binOp .eql 3 (.tmp 106) (.tmp 107) 3, 4, "top12.go:32", #[.mk 33 .data, .mk 34 .data, .mk 28 .guard], some (28, false)⟩) (v := ?_) rfl (by kernel_rfl) (by kernel_rfl) (by kernel_rfl) (fun _ _ _ h => h) (Or.inl ⟨by rfl, ?_⟩) (by assumption) ?_
            rotate_left
            · intro w hSw; (try dsimp only at hSw); go_simp; try with_reducible rfl
            simp only [Act.put, sA, sB, sC]
            refine wpAnyH_take (i := 36) (oi := ⟨some 109, .binOp .neq 4 (.tmp 104) (.tmp 108) 4, 4, "top12.go:32", #[.mk 31 .data, .mk 35 .data, .mk 28 .guard], some (28, false)⟩) (v := ?_) rfl (by kernel_rfl) (by kernel_rfl) (by kernel_rfl) (fun _ _ _ h => h) (Or.inl ⟨by rfl, ?_⟩) (by assumption) ?_
            rotate_left
            · intro w hSw; (try dsimp only at hSw); go_simp; try with_reducible rfl
            simp only [Act.put, sA, sB, sC]
            refine wpAnyH_take (i := 37) (oi := ⟨some 110, .pick (.tmp 101) (.const (Value.bool true)) (.tmp 109), 4, "top12.go:32", #[.mk 28 .data, .mk 36 .data], none⟩) (v := ?_) rfl (by kernel_rfl) (by kernel_rfl) (by kernel_rfl) (fun _ _ _ h => h) (Or.inl ⟨by rfl, ?_⟩) (by assumption) ?_
            rotate_left
            · intro w hSw; (try dsimp only at hSw); go_simp; try with_reducible rfl
            simp only [Act.put, sA, sB, sC]
            refine wpAnyH_done (by kernel_rfl) ?_ _
            go_wp2_with fail
            go_meet
            exact ⟨rfl, hs⟩
      case rest =>
        obtain ⟨hu, h⟩ := hcut
        subst hu
        clear px0 px1 px2
        have px0 := h.rawCell 0; have px1 := h.rawCell 1; have px2 := h.rawCell 2; simp at px0 px1 px2; have H := Lib.hid h
        clear h
        by_cases hlt : la.length < l.length
        · as_aux_lemma =>
          obtain ⟨x, hx⟩ : ∃ x, l[la.length] = x := ⟨_, rfl⟩
          have cc := bats_cell (Know.has_left HK.out) H.out la.length hlt x hx
          have hmem : x ∈ l := hx ▸ List.getElem_mem hlt
          have XF := Lib.hid (HFT.out x hmem)
          have XR3 := Lib.hid XF.out.2.2
          have XK := Lib.hid (show (K.and (Know.bats (.slice qa la.length capa) la)).has _ from Know.has_left (bats_recs HK.out hmem))
          have HSOX := Lib.hid (HSO.out x hmem)
          have hnp := encB_take l la.length hlt
          rw [hx] at hnp
          obtain ⟨s0, hs0⟩ : ∃ s, x.b.enc = s := ⟨_, rfl⟩
          have HS := Lib.hid hs0
          rw [hs0] at hnp
          have hnl := congrArg List.length hnp
          rw [List.length_append, HV.out] at hnl
          have hgt := HN2.out hlt
          have hka := HKA.out
          have hal := HAL.out
          have hel := HSOX.out.elen
          rw [hs0] at hel
          have hlti : (la.length : Int) < (l.length : Int) := by omega
          have hla0 : (0 : Int) ≤ (la.length : Int) := Int.natCast_nonneg _
          have hwv : IntKind.i64.wrap ((V : Int) + (s0.length : Int)) = (V : Int) + (s0.length : Int) := by rw [IntKind.wrap_i64]; omega
          have hnle : ¬ (V : Int) + (s0.length : Int) ≤ (kk : Int) := by omega
          obtain ⟨c0, c1', c2', c3, c4, c5, c6, c7, c8, c9, c10, c11⟩ := cc
          clear hx hmem hs0 hnp hnl hgt hka hal hel
          go_wp2_with (first
  | (go_at_call 15; (with_reducible refine (bat_encode_encE x.b s0 HS.out x.l _ _ XR3.out HSOX.out XK.out H.out).mono ?_); rintro e_ wn ⟨rfl, h⟩; clear px0 px1 px2; have px0 := h.rawCell 0; have px1 := h.rawCell 1; have px2 := h.rawCell 2; simp at px0 px1 px2; replace H := Lib.hid h; clear h)
  | (go_at_call 7; (with_reducible refine (scan_one (A.take V) ((l.take la.length).map BatR.b) V [] 0 0 HFV.out HPV.out HTV.out _ (H.out.allocRaw _ _)).mono ?_); rintro e_ wn ⟨qb, capb, lb, rfl, hmb, hlb, hcb, hqb, h⟩; have HMb := Lib.hid hmb; have HLb := Lib.hid hlb; have HCb := Lib.hid hcb; have HQb := Lib.hid hqb; clear hmb hlb hcb hqb; obtain ⟨qx, hqx⟩ : ∃ b, wn.heap.size = b := ⟨_, rfl⟩; have h := h.allocRaw #[.int .i64 V, .int .i64 0, .int .i64 0] 26; rw [hqx] at h; clear px0 px1 px2; have qx0 := h.rawCell 0; have qx1 := h.rawCell 1; have qx2 := h.rawCell 2; have px0 := h.p1.rawCell 0; have px1 := h.p1.rawCell 1; have px2 := h.p1.rawCell 2; simp at qx0 qx1 qx2 px0 px1 px2; replace H := Lib.hid h; clear h)
  | (go_at_call 9; (with_reducible refine (ref11_rowsT lb la qb qa capb capa (HMb.out.trans HMA.out.symm) HLb.out HLa.out (by have := HCb.out; have := HTV.out; omega) (Know.has_right (Know.has_refl _)) (Know.has_left HKA1.out) H.out).mono ?_); rintro e_ wn ⟨rfl, h⟩; clear px0 px1 px2 qx0 qx1 qx2; have qx0 := h.rawCell 0; have qx1 := h.rawCell 1; have qx2 := h.rawCell 2; have px0 := h.p1.rawCell 0; have px1 := h.p1.rawCell 1; have px2 := h.p1.rawCell 2; simp at qx0 qx1 qx2 px0 px1 px2; replace H := Lib.hid h; clear h))
          go_ret
          exact ⟨rfl, H.out.below⟩
        · as_aux_lemma =>
          have hlti : ¬ (la.length : Int) < (l.length : Int) := by omega
          go_wp2_with (first
  | (go_at_call 7; (with_reducible refine (scan_one (A.take V) ((l.take la.length).map BatR.b) V [] 0 0 HFV.out HPV.out HTV.out _ (H.out.allocRaw _ _)).mono ?_); rintro e_ wn ⟨qb, capb, lb, rfl, hmb, hlb, hcb, hqb, h⟩; have HMb := Lib.hid hmb; have HLb := Lib.hid hlb; have HCb := Lib.hid hcb; have HQb := Lib.hid hqb; clear hmb hlb hcb hqb; obtain ⟨qx, hqx⟩ : ∃ b, wn.heap.size = b := ⟨_, rfl⟩; have h := h.allocRaw #[.int .i64 V, .int .i64 0, .int .i64 0] 26; rw [hqx] at h; clear px0 px1 px2; have qx0 := h.rawCell 0; have qx1 := h.rawCell 1; have qx2 := h.rawCell 2; have px0 := h.p1.rawCell 0; have px1 := h.p1.rawCell 1; have px2 := h.p1.rawCell 2; simp at qx0 qx1 qx2 px0 px1 px2; replace H := Lib.hid h; clear h)
  | (go_at_call 9; (with_reducible refine (ref11_rowsT lb la qb qa capb capa (HMb.out.trans HMA.out.symm) HLb.out HLa.out (by have := HCb.out; have := HTV.out; omega) (Know.has_right (Know.has_refl _)) (Know.has_left HKA1.out) H.out).mono ?_); rintro e_ wn ⟨rfl, h⟩; clear px0 px1 px2 qx0 qx1 qx2; have qx0 := h.rawCell 0; have qx1 := h.rawCell 1; have qx2 := h.rawCell 2; have px0 := h.p1.rawCell 0; have px1 := h.p1.rawCell 1; have px2 := h.p1.rawCell 2; simp at qx0 qx1 qx2 px0 px1 px2; replace H := Lib.hid h; clear h))
          go_ret
          exact ⟨rfl, H.out.below⟩

end Go.Proofs.Ytngojlinfdokpaa

/- A text. -/
namespace Go.Proofs.Ytngojlinfdokpaa
open Go.RowKit

open Go.ChangeShapes Go.WideShapes Go.ChangeAt Go.Deep

theorem cells_hdr : Try.prog.cellsOf 65 = 3 := by kernel_rfl
theorem cells_blob : Try.prog.cellsOf 60 = 2 := by kernel_rfl
theorem cells_bool : Try.prog.cellsOf 4 = 1 := by kernel_rfl
section
variable {H : Type} {enc : TypeId × Value → H} {w : World} {spare : Nat → Bool} {held : Bool}
end

end Go.Proofs.Ytngojlinfdokpaa

/- A text. -/
namespace Go.Proofs.Ytngojlinfdokpaa
open Go.RowKit
open Go.ChangeShapes Go.WideShapes Go.ChangeAt Go.Deep

section
variable {H : Type} {enc : TypeId × Value → H} {w : World} {spare : Nat → Bool} {held : Bool}
set_option maxRecDepth 100000 in
theorem blob_opens {N : Nat} : ∀ n cs y, DataW.trod enc Try.prog w 0 spare held n 60 cs = some y → Light 60 y.1 → (∀ x ∈ y.2, x.block < N) → ∃ x : BlobS, cs = [.bool x.null, .string (bb x.data)] ∧ x.data.length ≤ 140737488351232 := by
 intro n cs y h hl hN
 obtain ⟨hc, m, hf⟩ := opens_field Try.underlying60 h hl hN
 rw [cells_blob] at hc
 obtain ⟨a, b, rfl⟩ := len2 hc
 obtain ⟨z0, g0, l0, _⟩ := hf 0 _ rfl
 obtain ⟨z1, g1, l1, _⟩ := hf 1 _ rfl
 have g0 : DataW.trod enc Try.prog w 0 spare held m 4 (List.take (Try.prog.cellsOf 4) (List.drop 0 [a, b])) = some z0 := g0
 have g1 : DataW.trod enc Try.prog w 0 spare held m 9 (List.take (Try.prog.cellsOf 9) (List.drop 1 [a, b])) = some z1 := g1
 rw [cells_bool] at g0
 rw [cells_str] at g1
 obtain ⟨x, e0⟩ := opens_bool Try.underlying4 g0
 obtain ⟨s, e1, hs⟩ := opens_str Try.underlying9 g1 l1
 simp at e0 e1
 subst e0 e1
 exact ⟨⟨x, s⟩, rfl, hs⟩
set_option maxRecDepth 100000 in
theorem rhdr_opens {N : Nat} : ∀ n cs y, DataW.trod enc Try.prog w 0 spare held n 65 cs = some y → Light 65 y.1 → (∀ x ∈ y.2, x.block < N) → ∃ x : HdrS, RHdr cs x ∧ (x.key.length ≤ 140737488351232 ∧ x.val.data.length ≤ 140737488351232) := by
 intro n cs y h hl hN
 obtain ⟨hc, m, hf⟩ := opens_field Try.underlying65 h hl hN
 rw [cells_hdr] at hc
 obtain ⟨a, b, c, rfl⟩ := len3 hc
 obtain ⟨z0, g0, l0, n0⟩ := hf 0 _ rfl
 obtain ⟨z1, g1, l1, n1⟩ := hf 1 _ rfl
 have g0 : DataW.trod enc Try.prog w 0 spare held m 9 (List.take (Try.prog.cellsOf 9) (List.drop 0 [a, b, c])) = some z0 := g0
 have g1 : DataW.trod enc Try.prog w 0 spare held m 60 (List.take (Try.prog.cellsOf 60) (List.drop 1 [a, b, c])) = some z1 := g1
 rw [cells_str] at g0
 rw [cells_blob] at g1
 obtain ⟨s, e0, hs⟩ := opens_str Try.underlying9 g0 l0
 obtain ⟨x, e1, hx⟩ := blob_opens _ _ _ g1 l1 n1
 simp at e0 e1
 obtain ⟨e1, e2⟩ := e1
 subst e0 e1 e2
 exact ⟨⟨s, x⟩, rfl, hs, hx⟩
end

end Go.Proofs.Ytngojlinfdokpaa

/- A text. -/
namespace Go.Proofs.Ytngojlinfdokpaa
open Go.RowKit

end Go.Proofs.Ytngojlinfdokpaa

/- A text. -/
namespace Go.Proofs.Ytngojlinfdokpaa
open Go.Joins Go.RowKit
open Go.ChangeShapes Go.WideShapes Go.ChangeAt Go.Deep

theorem cells_rec : Try.prog.cellsOf 63 = 7 := by kernel_rfl
theorem cells_hdrs : Try.prog.cellsOf 61 = 1 := by kernel_rfl
section
variable {H : Type} {enc : TypeId × Value → H} {w : World} {spare : Nat → Bool} {held : Bool}
end
end Go.Proofs.Ytngojlinfdokpaa

/- A text. -/
namespace Go.Proofs.Ytngojlinfdokpaa
open Go.RowKit

def GoodR (l : List (RecS × Value)) : Prop := ∀ x ∈ l, smallR x.1 = 1 ∧ recOk x.1 = 0
theorem GoodR.nil : GoodR [] := fun _ h => by cases h
def FitR (l : List (RecS × Value)) : Prop := ∀ x ∈ l, x.1.R ∧ x.1.hdrs.length ≤ 9223372036854775807 ∧ HFit x.1.hdrs ∧ x.1.key.data.length ≤ 140737488351232 ∧ x.1.val.data.length ≤ 140737488351232
end Go.Proofs.Ytngojlinfdokpaa

/- A text. -/
namespace Go.Proofs.Ytngojlinfdokpaa
open Go.Joins Go.RowKit
open Go.ChangeShapes Go.WideShapes Go.ChangeAt Go.Deep

def QRec (W : World) (x : RecS × Value) : Prop := RowsOf (fun _ cs x => RHdr cs x) (· < W.heap.size) W x.2 3 x.1.hdrs ∧ x.1.R ∧ x.1.hdrs.length ≤ 9223372036854775807 ∧ HFit x.1.hdrs ∧ x.1.key.data.length ≤ 140737488351232 ∧ x.1.val.data.length ≤ 140737488351232
theorem QRec.fit {W : World} {l : List (RecS × Value)} (h : ∀ x ∈ l, QRec W x) : FitR l := fun x hx => (h x hx).2
theorem QRec.start {W : World} {v : Value} {l : List (RecS × Value)} (hr : RowsOf (fun _ cs x => RRec cs x) (· < W.heap.size) W v 7 l) (h : ∀ x ∈ l, QRec W x) : St W W (Know.recs v l) [] := St.start ⟨hr, fun x hx => (h x hx).1⟩
section
variable {H : Type} {enc : TypeId × Value → H} {w : World} {spare : Nat → Bool} {held : Bool}
set_option maxHeartbeats 1000000 in
set_option maxRecDepth 100000 in
theorem rrec_opens : ∀ n cs y, DataW.trod enc Try.prog w 0 spare held n 63 cs = some y → Light 63 y.1 → (∀ x ∈ y.2, x.block < w.heap.size) → ∃ x : RecS × Value, RRec cs x ∧ QRec w x := by
 intro n cs y hf hl hN
 have hNw : w.heap.size ≤ w.heap.size := Nat.le_refl _
 obtain ⟨hc, m, hg⟩ := opens_field Try.underlying63 hf hl hN
 rw [cells_rec] at hc
 match cs, hc with
 | [c0, c1, c2, c3, c4, c5, c6], _ =>
  obtain ⟨z0, g0, l0, n0⟩ := hg 0 _ rfl
  have g0 : DataW.trod enc Try.prog w 0 spare held m 3 (List.take (Try.prog.cellsOf 3) (List.drop 0 [c0, c1, c2, c3, c4, c5, c6])) = some z0 := g0
  rw [cells_int] at g0
  obtain ⟨z1, g1, l1, n1⟩ := hg 1 _ rfl
  have g1 : DataW.trod enc Try.prog w 0 spare held m 3 (List.take (Try.prog.cellsOf 3) (List.drop 1 [c0, c1, c2, c3, c4, c5, c6])) = some z1 := g1
  rw [cells_int] at g1
  obtain ⟨z2, g2, l2, n2⟩ := hg 2 _ rfl
  have g2 : DataW.trod enc Try.prog w 0 spare held m 60 (List.take (Try.prog.cellsOf 60) (List.drop 2 [c0, c1, c2, c3, c4, c5, c6])) = some z2 := g2
  rw [cells_blob] at g2
  obtain ⟨z3, g3, l3, n3⟩ := hg 3 _ rfl
  have g3 : DataW.trod enc Try.prog w 0 spare held m 60 (List.take (Try.prog.cellsOf 60) (List.drop 4 [c0, c1, c2, c3, c4, c5, c6])) = some z3 := g3
  rw [cells_blob] at g3
  obtain ⟨z4, g4, l4, n4⟩ := hg 4 _ rfl
  have g4 : DataW.trod enc Try.prog w 0 spare held m 61 (List.take (Try.prog.cellsOf 61) (List.drop 6 [c0, c1, c2, c3, c4, c5, c6])) = some z4 := g4
  rw [cells_hdrs] at g4
  obtain ⟨x0, e0, r0⟩ := opens_i64 Try.underlying3 g0
  obtain ⟨x1, e1, r1⟩ := opens_i64 Try.underlying3 g1
  obtain ⟨x2, e2, s2⟩ := blob_opens _ _ _ g2 l2 n2
  obtain ⟨x3, e3, s3⟩ := blob_opens _ _ _ g3 l3 n3
  obtain ⟨v6, x4, e4, hr, _, hm⟩ := opens_rows (R := fun w cs x => (fun _ cs x => RHdr cs x) w cs x ∧ (fun x : HdrS => x.key.length ≤ 140737488351232 ∧ x.val.data.length ≤ 140737488351232) x) (N := w.heap.size) Try.underlying61 cells_hdr (by decide) rhdr_opens g4 l4 n4 hNw
  obtain ⟨hr1, hq⟩ := hr.part
  simp at e0 e1 e2 e3 e4
  obtain ⟨e2a, e2b⟩ := e2
  obtain ⟨e3a, e3b⟩ := e3
  subst e0 e1 e2a e2b e3a e3b e4
  have hm2 : x4.length ≤ 9223372036854775807 := hm
  exact ⟨(⟨x0, x1, x2, x3, x4⟩, _), rfl, hr1, ⟨r0, r1⟩, hm2, hq, s2, s3⟩
end
end Go.Proofs.Ytngojlinfdokpaa

/- A text. -/
namespace Go.Proofs.Ytngojlinfdokpaa
open Go.Joins Go.RowKit
open Go.ChangeShapes Go.WideShapes Go.ChangeAt Go.Deep

theorem cells_bat : Try.prog.cellsOf 37 = 12 := by kernel_rfl
theorem cells_recs : Try.prog.cellsOf 35 = 1 := by kernel_rfl
section
variable {H : Type} {enc : TypeId × Value → H} {w : World} {spare : Nat → Bool} {held : Bool}
set_option maxHeartbeats 2000000 in
set_option maxRecDepth 100000 in
theorem bat_opens : ∀ n cs y, DataW.trod enc Try.prog w 0 spare held n 37 cs = some y → Light 37 y.1 → (∀ x ∈ y.2, x.block < w.heap.size) →
    ∃ (base leader : Int) (app txn ctl : Bool) (last first maxt prod epoch sq : Int) (l : List (RecS × Value)) (rv : Value), cs = [.int .i64 base, .int .i64 leader, .bool app, .bool txn, .bool ctl, .int .i64 last, .int .i64 first, .int .i64 maxt, .int .i64 prod, .int .i64 epoch, .int .i64 sq, rv] ∧
      BatS.R ⟨base, leader, app, txn, ctl, last, first, maxt, prod, epoch, sq, l.map (·.1)⟩ ∧ RowsOf (fun _ cs x => RRec cs x) (· < w.heap.size) w rv 7 l ∧ (∀ x ∈ l, QRec w x) := by
  intro n cs y hf hl hN
  obtain ⟨hc, m, hg⟩ := opens_field Try.underlying37 hf hl hN
  rw [cells_bat] at hc
  match cs, hc with
  | [c0, c1, c2, c3, c4, c5, c6, c7, c8, c9, c10, c11], _ =>
    obtain ⟨z0, g0, l0, n0⟩ := hg 0 _ rfl
    have g0 : DataW.trod enc Try.prog w 0 spare held m 3 (List.take (Try.prog.cellsOf 3) (List.drop 0 [c0, c1, c2, c3, c4, c5, c6, c7, c8, c9, c10, c11])) = some z0 := g0
    rw [cells_int] at g0
    obtain ⟨z1, g1, l1, n1⟩ := hg 1 _ rfl
    have g1 : DataW.trod enc Try.prog w 0 spare held m 3 (List.take (Try.prog.cellsOf 3) (List.drop 1 [c0, c1, c2, c3, c4, c5, c6, c7, c8, c9, c10, c11])) = some z1 := g1
    rw [cells_int] at g1
    obtain ⟨z2, g2, l2, n2⟩ := hg 2 _ rfl
    have g2 : DataW.trod enc Try.prog w 0 spare held m 4 (List.take (Try.prog.cellsOf 4) (List.drop 2 [c0, c1, c2, c3, c4, c5, c6, c7, c8, c9, c10, c11])) = some z2 := g2
    rw [cells_bool] at g2
    obtain ⟨z3, g3, l3, n3⟩ := hg 3 _ rfl
    have g3 : DataW.trod enc Try.prog w 0 spare held m 4 (List.take (Try.prog.cellsOf 4) (List.drop 3 [c0, c1, c2, c3, c4, c5, c6, c7, c8, c9, c10, c11])) = some z3 := g3
    rw [cells_bool] at g3
    obtain ⟨z4, g4, l4, n4⟩ := hg 4 _ rfl
    have g4 : DataW.trod enc Try.prog w 0 spare held m 4 (List.take (Try.prog.cellsOf 4) (List.drop 4 [c0, c1, c2, c3, c4, c5, c6, c7, c8, c9, c10, c11])) = some z4 := g4
    rw [cells_bool] at g4
    obtain ⟨z5, g5, l5, n5⟩ := hg 5 _ rfl
    have g5 : DataW.trod enc Try.prog w 0 spare held m 3 (List.take (Try.prog.cellsOf 3) (List.drop 5 [c0, c1, c2, c3, c4, c5, c6, c7, c8, c9, c10, c11])) = some z5 := g5
    rw [cells_int] at g5
    obtain ⟨z6, g6, l6, n6⟩ := hg 6 _ rfl
    have g6 : DataW.trod enc Try.prog w 0 spare held m 3 (List.take (Try.prog.cellsOf 3) (List.drop 6 [c0, c1, c2, c3, c4, c5, c6, c7, c8, c9, c10, c11])) = some z6 := g6
    rw [cells_int] at g6
    obtain ⟨z7, g7, l7, n7⟩ := hg 7 _ rfl
    have g7 : DataW.trod enc Try.prog w 0 spare held m 3 (List.take (Try.prog.cellsOf 3) (List.drop 7 [c0, c1, c2, c3, c4, c5, c6, c7, c8, c9, c10, c11])) = some z7 := g7
    rw [cells_int] at g7
    obtain ⟨z8, g8, l8, n8⟩ := hg 8 _ rfl
    have g8 : DataW.trod enc Try.prog w 0 spare held m 3 (List.take (Try.prog.cellsOf 3) (List.drop 8 [c0, c1, c2, c3, c4, c5, c6, c7, c8, c9, c10, c11])) = some z8 := g8
    rw [cells_int] at g8
    obtain ⟨z9, g9, l9, n9⟩ := hg 9 _ rfl
    have g9 : DataW.trod enc Try.prog w 0 spare held m 3 (List.take (Try.prog.cellsOf 3) (List.drop 9 [c0, c1, c2, c3, c4, c5, c6, c7, c8, c9, c10, c11])) = some z9 := g9
    rw [cells_int] at g9
    obtain ⟨z10, g10, l10, n10⟩ := hg 10 _ rfl
    have g10 : DataW.trod enc Try.prog w 0 spare held m 3 (List.take (Try.prog.cellsOf 3) (List.drop 10 [c0, c1, c2, c3, c4, c5, c6, c7, c8, c9, c10, c11])) = some z10 := g10
    rw [cells_int] at g10
    obtain ⟨z11, g11, l11, n11⟩ := hg 11 _ rfl
    have g11 : DataW.trod enc Try.prog w 0 spare held m 35 (List.take (Try.prog.cellsOf 35) (List.drop 11 [c0, c1, c2, c3, c4, c5, c6, c7, c8, c9, c10, c11])) = some z11 := g11
    rw [cells_recs] at g11
    obtain ⟨x0, e0, r0⟩ := opens_i64 Try.underlying3 g0
    obtain ⟨x1, e1, r1⟩ := opens_i64 Try.underlying3 g1
    obtain ⟨x2, e2⟩ := opens_bool Try.underlying4 g2
    obtain ⟨x3, e3⟩ := opens_bool Try.underlying4 g3
    obtain ⟨x4, e4⟩ := opens_bool Try.underlying4 g4
    obtain ⟨x5, e5, r5⟩ := opens_i64 Try.underlying3 g5
    obtain ⟨x6, e6, r6⟩ := opens_i64 Try.underlying3 g6
    obtain ⟨x7, e7, r7⟩ := opens_i64 Try.underlying3 g7
    obtain ⟨x8, e8, r8⟩ := opens_i64 Try.underlying3 g8
    obtain ⟨x9, e9, r9⟩ := opens_i64 Try.underlying3 g9
    obtain ⟨x10, e10, r10⟩ := opens_i64 Try.underlying3 g10
    obtain ⟨v11, x11, e11, hrq, _, _⟩ := opens_rows (R := fun w' cs x => (fun _ cs x => RRec cs x) w' cs x ∧ QRec w x) (N := w.heap.size) Try.underlying35 cells_rec (by decide) rrec_opens g11 l11 n11 (Nat.le_refl _)
    obtain ⟨hr, hq⟩ := hrq.part
    simp at e0 e1 e2 e3 e4 e5 e6 e7 e8 e9 e10 e11
    subst e0 e1 e2 e3 e4 e5 e6 e7 e8 e9 e10 e11
    exact ⟨x0, x1, x2, x3, x4, x5, x6, x7, x8, x9, x10, x11, _, rfl, ⟨r0, r1, r5, r6, r7, r8, r9, r10⟩, hr, hq⟩
end
end Go.Proofs.Ytngojlinfdokpaa

/- A text. -/
namespace Go.Proofs.Ytngojlinfdokpaa
open Go.RowKit

def QBat (W : World) (x : BatR) : Prop := (RowsOf (fun _ cs x => RRec cs x) (· < W.heap.size) W (.slice x.q x.l.length x.cap) 7 x.l ∧ ∀ y ∈ x.l, QRec W y) ∧ x.Fit
theorem QBat.fit {W : World} {l : List BatR} (h : ∀ x ∈ l, QBat W x) : ∀ x ∈ l, x.Fit := fun x hx => (h x hx).2
theorem QBat.start {W : World} {v : Value} {l : List BatR} (hr : RowsOf (fun _ cs x => RBat cs x) (· < W.heap.size) W v 12 l) (h : ∀ x ∈ l, QBat W x) : St W W (Know.bats v l) [] := St.start ⟨hr, fun x hx => ⟨(h x hx).1.1, fun y hy => ((h x hx).1.2 y hy).1⟩⟩
section
variable {H : Type} {enc : TypeId × Value → H} {w : World} {spare : Nat → Bool} {held : Bool}
theorem rbat_opens : ∀ n cs y, DataW.trod enc Try.prog w 0 spare held n 37 cs = some y → Light 37 y.1 → (∀ x ∈ y.2, x.block < w.heap.size) → ∃ x : BatR, RBat cs x ∧ QBat w x := by
 intro n cs y hf hl hN
 obtain ⟨base, leader, app, txn, ctl, last, first, maxt, prod, epoch, sq, l, rv, e, hR, hr, hq⟩ := bat_opens n cs y hf hl hN
 obtain ⟨q, cap, hrv⟩ : ∃ q cap, rv = .slice q l.length cap := by obtain ⟨p, cap, hv, _⟩ := hr; exact ⟨p, cap, hv⟩
 subst hrv
 exact ⟨⟨⟨base, leader, app, txn, ctl, last, first, maxt, prod, epoch, sq, l.map (·.1)⟩, l, q, cap⟩, e, ⟨hr, hq⟩, hR, fun x hx => (hq x hx).2, rfl⟩
end

end Go.Proofs.Ytngojlinfdokpaa

/- A text. -/
namespace Go.Proofs.Ytngojlinfdokpaa
open Go.RowKit

theorem slice_capT {P : Program} {w : World} {r : Reach} {base : Nat} {t e : TypeId} {a : Option Addr} {len cap : Nat} (ht : P.underlying t = some (.slice e)) (h : Value.okWide P w r base t (.slice a len cap)) : len ≤ cap := by
 simp only [Value.okWide, ht, Cell.okWide] at h
 unfold Cell.ok at h
 simp only [ht] at h
 cases a with
 | none =>
  cases len with
  | zero => exact Nat.zero_le _
  | succ n => simp at h
 | some a => exact h.1
theorem St.twoW {W : World} {A B : Know} (ha : St W W A []) (hb : St W W B []) : St W W (A.and B) [] := by
 obtain ⟨F, a, fa⟩ := ha.get
 obtain ⟨G, b, gb⟩ := hb.get
 exact St.start ⟨A.mono _ _ _ a fa, B.mono _ _ _ b gb⟩
theorem wholeTorn_any (l : List BatR) (a : Option Addr) (m cap : Nat) (ns : List Int) (v2 : Value) (e : Int) (W : World) (hcap : m ≤ cap) (hr : RowsOf (fun _ cs x => RBat cs x) (· < W.heap.size) W (.slice a m cap) 12 l) (hq : ∀ x ∈ l, QBat W x) (hr2 : RowsOf (fun _ cs x => RU8 cs x) (· < W.heap.size) W v2 1 ns) (hns : ∀ x ∈ ns, 0 ≤ x ∧ x < 256) (he : 0 ≤ e ∧ e < 65536) :
  Calls Try.prog 4 #[.slice a m cap, v2, .int .u16 e] W fun en w' => en = .returned (.bool true) ∧ Below W.heap.size W w' := by
 have h1 := QBat.start hr hq
 have h2 : St W W (Know.flat RU8 v2 1 ns) [] := St.start hr2
 have h := St.twoW h1 h2
 obtain ⟨q2, cap2, hv⟩ : ∃ q cap, v2 = .slice q ns.length cap := by obtain ⟨p, cap, hv, _⟩ := hr2; exact ⟨p, cap, hv⟩
 subst hv
 obtain rfl : m = l.length := by
  obtain ⟨p, c, hv, _⟩ := hr
  simp at hv
  exact hv.2.1
 by_cases c1 : 6 < l.length
 · exact wt_l1 l a cap ns q2 cap2 e c1 (Know.has_left (Know.has_refl _)) (Know.has_right (Know.has_refl _)) h
 by_cases c2 : 200 < ns.length
 · exact wt_l2 l a cap ns q2 cap2 e c1 c2 (Know.has_left (Know.has_refl _)) (Know.has_right (Know.has_refl _)) h
 exact wt_main l a cap ns q2 cap2 e (QBat.fit hq) (by omega) hcap hns (by omega) he (Know.has_left (Know.has_refl _)) (Know.has_right (Know.has_refl _)) h

end Go.Proofs.Ytngojlinfdokpaa

/- Torn anywhere: batches that may be, written one behind the other, cut at any byte, in any chunks: just those that are whole come back, their bytes are counted, and scanned again all is clean: proved of every row of batches, every row of sizes and every cut. -/
namespace Go.Proofs.Ytngojlinfdokpaa
open Go.ChangeShapes Go.WideShapes Go.ChangeAt Go.ChangeMaps Go.RowKit

set_option maxRecDepth 100000 in
theorem wholeTorn_lifted (os : Os) (started : os.Started) (H : Type) (enc : TypeId × Value → H) :
  ReturnsInHanded {} Try.checked os 4 .any (Rows.wholeTornSpec.pre6 enc Try.prog Try.f4 Rows.wholeTornRow.domain false) (Rows.wholeTornSpec.post enc Try.prog Try.f4 false true false false) := by
 refine returnsInHanded_of_change_sized (C := Try.checked) Try.own started (by as_aux_lemma => kernel_rfl) Try.func4
  (ChangeSpec.witness6 (enc := enc) (C := Try.checked) false ⟨#[], #[.slice none 0 0, .slice none 0 0, .int .u16 0], []⟩ 8 (by as_aux_lemma => kernel_rfl) (by as_aux_lemma => kernel_rfl) (by as_aux_lemma => kernel_rfl) (by as_aux_lemma => kernel_rfl)) ?_
 intro W base args ds gs before hval0 hW hcnd hsz0 _
 have hval : ∀ (j : Nat) t v, Try.f4.params[j]? = some t → args[j]? = some v → Value.okWide Try.prog W .any base t v := hval0
 clear hval0
 refine law_contract (n := 3) (tb := 4) rfl rfl rfl Try.underlying4 (by intro ds h; match ds, h with | [d0, d1, d2], _ => rfl) (by as_aux_lemma => kernel_rfl) hW ?_
 intro p hA0 hlt
 have hA : DataW.TrodAll enc Try.prog W 0 (fun _ => true) true Try.f4.params.toList args.toList ds p := hA0
 clear hA0
 rw [Try.params4] at hA hval
 obtain ⟨v0, v1, v2, d0, d1, d2, p0, p1, p2, rfl, rfl, rfl, h0, h1, h2⟩ := trodAll_three hA
 have hsz : (DataW.weightsEach Try.prog (Try.f4.params.toList ++ Rows.wholeTornSpec.plain.varTypes Try.prog) ([d0, d1, d2] ++ gs)).all (· ≤ reachBytes) = true := hsz0
 rw [Try.params4] at hsz
 obtain ⟨c0, e0, k0, rfl⟩ := okWide_slice Try.underlying23 (hval 0 23 v0 rfl rfl)
 have lg0 : Light 23 d0 := light_arg hsz (j := 0) rfl rfl
 obtain ⟨fuel0, hf0⟩ := h0
 obtain ⟨w0, l0, hw0, hrq0, hbl0, hl0⟩ := opens_rows (R := fun w cs x => (fun _ cs x => RBat cs x) w cs x ∧ QBat W x) (N := W.heap.size) Try.underlying23 cells_bat (by decide) rbat_opens hf0 lg0 (fun y hy => hlt y (by simp [hy])) (Nat.le_refl _)
 obtain ⟨hr0, hq0⟩ := hrq0.part
 obtain rfl : w0 = Value.slice c0 e0 k0 := by simpa [Value.cells] using hw0.symm
 have hcap0 := slice_capT Try.underlying23 (hval 0 23 _ rfl rfl)
 obtain ⟨c1, e1, k1, rfl⟩ := okWide_slice Try.underlying33 (hval 1 33 v1 rfl rfl)
 have lg1 : Light 33 d1 := light_arg hsz (j := 1) rfl rfl
 obtain ⟨fuel1, hf1⟩ := h1
 obtain ⟨w1, l1, hw1, hrq1, hbl1, hl1⟩ := opens_rows (R := fun w cs x => (fun _ cs x => RU8 cs x) w cs x ∧ (fun x : Int => 0 ≤ x ∧ x < 256) x) (N := W.heap.size) Try.underlying33 cells_u8S (by decide) ru8_opens hf1 lg1 (fun y hy => hlt y (by simp [hy])) (Nat.le_refl _)
 obtain ⟨hr1, hq1⟩ := hrq1.part
 obtain rfl : w1 = Value.slice c1 e1 k1 := by simpa [Value.cells] using hw1.symm
 obtain ⟨a2, rfl, rfl, rfl, wa2⟩ := open_int Try.underlying34 (hval 2 34 v2 rfl rfl) h2
 have r2 := wf_u16 wa2
 exact wholeTorn_any l0 _ _ _ l1 _ a2 W hcap0 hr0 hq0 hr1 hq1 r2

theorem wholeTorn_holds : Rows.WholeTornSaid :=
 OpenClaim.holds_of_wide 4 Try.f4 rfl rfl rfl rfl rfl rfl rfl ⟨rfl, rfl, rfl, rfl, rfl⟩ rfl rfl rfl rfl rfl (by as_aux_lemma => kernel_rfl) Try.func4 (by as_aux_lemma => kernel_rfl)
  (of_decide_eq_true (by as_aux_lemma => kernel_rfl)) (by as_aux_lemma => (unfold Func.isWrapper; rw [if_neg (by as_aux_lemma => decide +kernel)]; exact ⟨rfl, rfl⟩))
  (fun os started H enc _ => wholeTorn_lifted os started H enc)

end Go.Proofs.Ytngojlinfdokpaa
