/- Of any bytes, however they are cut, which batches come by which chunk, how many bytes they have, and why it stops, is the document's: proved of every text and every row of sizes. -/
import Derived.Test.YtngojlinfdokpaaGreatGScanFeeds15
import Derived.RegionTactic
import Derived.Deep.RegionHeld3
import Derived.Deep.DeepCutAuto
import Derived.WalkMore
import Derived.Test.YtngojlinfdokpaaGreatArgs
/- A text. -/
namespace Go.Proofs.YtngojlinfdokpaaGreat
open Go.RowKit

set_option maxHeartbeats 8000000 in
set_option maxRecDepth 100000 in
theorem sf_main (s : Bs) (ns : List Int) (hns : ∀ x ∈ ns, 0 ≤ x ∧ x < 256) (q : Option Addr) (cap : Nat) (h1 : ¬ 1500 < s.length) (h2 : ¬ 200 < ns.length) {W0 w : World} {K : Know} (hk : K.has (Know.flat RU8 (.slice q ns.length cap) 1 ns)) (h : St W0 w K []) :
  Calls Tryz.prog 3 #[.string (bb s), .slice q ns.length cap] w fun en w' => en = .returned (.bool true) ∧ Below W0.heap.size W0 w' := by
 have H := Lib.hid h
 have HN := Lib.hid hk
 have HNS := Lib.hid hns
 have c1 : ¬ (1500 : Int) < (s.length : Int) := by omega
 have c2 : ¬ (200 : Int) < (ns.length : Int) := by omega
 obtain ⟨cl, hcl⟩ : ∃ cl, cutS s ns = cl := ⟨_, rfl⟩
 have HCL := Lib.hid hcl
 have hcll : cl.length = ns.length + 1 := by rw [← hcl, cutS_len]
 have HFL := Lib.hid (show cl.flatten = s by rw [← hcl, cutS_flat])
 have HSL := Lib.hid (show s.length ≤ 90000 by omega)
 have HNL := Lib.hid (show ns.length ≤ 1000 by omega)
 have hci : (cl.length : Int) ≤ 1000 := by omega
 clear h hk hns h1 h2 hcl hcll
 go_enter Tryz.func3, Tryz.ntmps3
 go_wp2_with (first
  | (go_at_call 5; (with_reducible refine (speaks23 H.out).mono ?_); rintro e_ wn ⟨rfl, K2, hk2, h⟩; have HN3 := Lib.hid (Know.has_trans hk2 HN.out); clear hk2 HN; have HN := HN3; clear HN3; replace H := Lib.hid h; clear h)
  | (go_at_call 6; (with_reducible refine (scan_new H.out).mono ?_); rintro e_ wn ⟨sb, rfl, h⟩; replace H := Lib.hid h; clear h)
  | (go_at_call 7; (with_reducible refine (law22_cutL s ns cl HCL.out HSL.out HNS.out HNL.out q cap HN.out H.out).mono ?_); rintro e_ wn ⟨qc, capc, rfl, h⟩; replace H := Lib.hid h; clear h))
 obtain ⟨KC, hKC⟩ : ∃ KC, K2.and (Know.strs (.slice qc cl.length capc) cl) = KC := ⟨_, rfl⟩
 have HKC := Lib.hid (show KC.has (Know.strs (.slice qc cl.length capc) cl) from hKC ▸ Know.has_right (Know.has_refl _))
 rw [hKC] at H
 clear hKC
 go_loopw [6, 7, 26] (fun av hv iv wr => ∃ (k : Nat) (K2 : Know) (v : Value), k ≤ cl.length ∧ iv = .int .i64 k ∧ av = .string (bb ((cl.take k).flatten)) ∧ hv = .int .i64 ((finS ((cl.take k).flatten)).1.length : Nat) ∧ Hid (K2.has KC) ∧ St W0 wr K2 (.raw sb #[.int .i64 ((finS ((cl.take k).flatten)).2.1 : Nat), v, .int .i64 (finS ((cl.take k).flatten)).2.2.2] 52 :: .row v 5 1 (finS ((cl.take k).flatten)).2.2.1.length (bvals (finS ((cl.take k).flatten)).2.2.1) :: [])) (fun _ _ iv _ => cl.length - (intOf iv).toNat)
 case atStart =>
  refine ⟨0, KC, .slice none 0 0, Nat.zero_le _, rfl, ?_, ?_, Lib.hid (Know.has_refl _), ?_⟩
  · rw [List.take_zero]; rfl
  · rw [List.take_zero]; show _ = Value.int .i64 ((finS []).1.length : Nat); rw [fin_nil]; rfl
  · rw [List.take_zero]
    show St W0 _ KC (.raw sb #[.int .i64 ((finS []).2.1 : Nat), (.slice none 0 0), .int .i64 (finS []).2.2.2] 52 :: .row (.slice none 0 0) 5 1 (finS []).2.2.1.length (bvals (finS []).2.2.1) :: [])
    rw [fin_nil]
    exact (H.out.nilRow 5 1).p1
 case round =>
  obtain ⟨k, K2, v, hkl, rfl, rfl, rfl, HK2, hst⟩ := hrel
  clear H
  obtain ⟨ak, hak⟩ : ∃ ak, ((cl.take k).flatten) = ak := ⟨_, rfl⟩
  rw [hak] at hst ⊢
  obtain ⟨hd, hhd⟩ : ∃ n, (finS ak).1.length = n := ⟨_, rfl⟩
  have HHD := Lib.hid hhd
  rw [hhd]
  have H := Lib.hid hst
  by_cases hlt : k < cl.length
  · obtain ⟨b0, off, hqq⟩ := strs_at HKC.out (H.out.know HK2.out) (by omega)
    subst hqq
    obtain ⟨c, hc⟩ : ∃ c, cl[k] = c := ⟨_, rfl⟩
    have c0 := strs_cell HKC.out (H.out.know HK2.out) k hlt c hc
    have hkn : (k : Int) < (cl.length : Int) := by omega
    obtain ⟨A2, hA2⟩ : ∃ A, ak ++ c = A := ⟨_, rfl⟩
    have hAn : (cl.take (k + 1)).flatten = A2 := by rw [List.take_succ_eq_append_getElem hlt, List.flatten_append, hc, ← hA2, ← hak]; simp
    have hal : A2.length ≤ 90000 := by
      have h1 : cl.flatten = (cl.take (k + 1)).flatten ++ (cl.drop (k + 1)).flatten := by rw [← List.flatten_append, List.take_append_drop]
      have h2 := congrArg List.length h1
      rw [List.length_append, HFL.out, hAn] at h2
      have := HSL.out
      omega
    have hlen := congrArg List.length hA2
    rw [List.length_append] at hlen
    have hmono := fin_mono ak c
    rw [hA2, hhd] at hmono
    have hcat : bb ak ++ bb c = bb A2 := by rw [← hA2]; exact bb_append _ _
    have hg0 : ¬ (9223372036854775807 < ak.length + c.length) := by omega
    have HA2 := Lib.hid hA2
    have HAL2 := Lib.hid hal
    have HAN := Lib.hid hAn
    have HMO := Lib.hid hmono
    clear hst hc hA2 hAn hal hlen hmono hhd hak
    go_upto_region 11 with (go_at_call 8; (with_reducible refine (ref23_allS A2 HAL2.out H.out).mono ?_); rintro e_ wn ⟨qw, cw, lw, V, rs, e, st, rfl, hst0, hfin, hlit, hcnt, hq, h⟩; have HST := Lib.hid hst0; have HFIN := Lib.hid hfin; have HLIT := Lib.hid hlit; have HCNT := Lib.hid hcnt; have HQ := Lib.hid hq; clear hst0 hfin hlit hcnt hq; obtain ⟨wb, hwb⟩ : ∃ b, wn.heap.size = b := ⟨_, rfl⟩; have h := h.allocRaw #[.slice qw lw.length cw, .int .i64 V, .int .i64 st, .int .i64 e] 30; rw [hwb] at h; have p0 := h.rawCell 0; simp at p0; replace H := Lib.hid h; clear h)
    have k1 := HMO.out
    rw [HFIN.out, List.length_map] at k1
    have k2 := HQ.out.2
    have kl : ¬ ((lw.length : Int) < (hd : Int)) := by omega
    have kle : (hd : Int) ≤ (lw.length : Int) := by omega
    have klc : (lw.length : Int) ≤ (cw : Int) := by omega
    have khc : (hd : Int) ≤ (cw : Int) := by omega
    have e1 : ((V : Int) == (V : Int)) = true := beq_self_eq_true _
    have e2 : (st == st) = true := beq_self_eq_true _
    have e3 : (e == e) = true := beq_self_eq_true _
    have HLD := Lib.hid (show ∀ x ∈ lw.drop hd, LiteR x from fun x hx => HLIT.out x (List.mem_of_mem_drop hx))
    have HMXF := Lib.hid (show ∀ lr : List BatR, lr.map BatR.b = (finS A2).1.drop (finS ak).1.length → lr.map BatR.b = (lw.drop hd).map BatR.b from fun lr hh => by rw [hh, HFIN.out, HHD.out, List.map_drop])
    have hqf := HQ.out.1
    clear p0
    rcases hqf with ⟨rfl, rfl⟩ | ⟨g, rfl⟩
    · obtain rfl : lw = [] := List.eq_nil_of_length_eq_zero (by omega)
      obtain rfl : hd = 0 := by simp only [List.length_nil] at k1; omega
      clear k1 k2
      have h9 := H.out
      simp only [List.length_nil] at h9
      have hs := h9.p2.p2.drew
      refine wp_region_held_drew (S := fun w' => w'.cell? ⟨wb, 0, none⟩ = some (.slice none 0 0) ∧ w'.cell? ⟨wb, 1, none⟩ = some (.int .i64 V) ∧ w'.cell? ⟨wb, 2, none⟩ = some (.int .i64 st) ∧ w'.cell? ⟨wb, 3, none⟩ = some (.int .i64 e)) (by kernel_rfl) (⟨(hs).p2.rawCell 0, (hs).p2.rawCell 1, (hs).p2.rawCell 2, (hs).p2.rawCell 3⟩) (fun hHeld => ?_)
      refine tQ 0 ⟨some 35, .fieldAddr 30 (.tmp 10) 0, 0, "law.go:36", #[], none⟩ ?_; simp only [Act.put, sA, sB, sC]
      refine tQ 1 ⟨some 36, .load 28 (.tmp 35), 28, "law.go:36", #[.mk 0 .data], none⟩ ?_; simp only [Act.put, sA, sB, sC]
      refine tQ 2 ⟨some 37, .call { callee := .builtin .len, args := #[.tmp 36], argTypes := #[28] }, 3, "law.go:36", #[.mk 1 .data], none⟩ ?_; simp only [Act.put, sA, sB, sC]
      refine tQ 3 ⟨some 38, .move (.tmp 7), 3, "law.go:36", #[], none⟩ ?_; simp only [Act.put, sA, sB, sC]
      refine tQ 4 ⟨some 39, .binOp .lss 3 (.tmp 37) (.tmp 38) 3, 4, "law.go:36", #[.mk 2 .data, .mk 3 .data], none⟩ ?_; simp only [Act.put, sA, sB, sC]
      refine tQ 5 ⟨some 40, .move (.tmp 39), 4, "law.go:36", #[.mk 4 .data], none⟩ ?_; simp only [Act.put, sA, sB, sC]
      refine tQ 6 ⟨some 41, .move (.tmp 5), 24, "law.go:36", #[.mk 5 .guard], some (5, false)⟩ ?_; simp only [Act.put, sA, sB, sC]
      refine tQ 7 ⟨some 42, .move (.tmp 9), 9, "law.go:36", #[.mk 5 .guard], some (5, false)⟩ ?_; simp only [Act.put, sA, sB, sC]
      refine tQ 9 ⟨some 44, .fieldAddr 30 (.tmp 10) 0, 0, "law.go:36", #[.mk 5 .guard], some (5, false)⟩ ?_; simp only [Act.put, sA, sB, sC]
      refine tQ 10 ⟨some 45, .load 28 (.tmp 44), 28, "law.go:36", #[.mk 9 .data, .mk 5 .guard], some (5, false)⟩ ?_; simp only [Act.put, sA, sB, sC]
      refine tQ 11 ⟨some 46, .move (.tmp 7), 3, "law.go:36", #[.mk 5 .guard], some (5, false)⟩ ?_; simp only [Act.put, sA, sB, sC]
      refine tQ 12 ⟨some 47, .slice 28 (.tmp 45) (some (.tmp 46)) none none, 28, "law.go:36", #[.mk 10 .data, .mk 11 .data, .mk 5 .guard], some (5, false)⟩ ?_; simp only [Act.put, sA, sB, sC]
      refine wpAnyH_ready (rs := [8]) (by kernel_rfl) (by simp) (AllReadyH.cons (o := ⟨some 43, .call { callee := .value (.func 10), args := #[.tmp 41, .tmp 42], argTypes := #[24, 9] }, 28, "law.go:36", #[.mk 6 .data, .mk 7 .data, .mk 5 .chain, .mk 5 .guard], some (5, false)⟩) rfl (fun KK hK => ?_) AllReadyH.nil)
      · go_simp
        go_at_call 10
        with_reducible refine (feed_any sb ak c A2 HA2.out v HAL2.out hs).mono ?_
        rintro e wq ⟨v', qf, capf, lr, rfl, hqn, hmap, hlit2, hcnt2, hmono, hs⟩
        refine hK.out _ _ (⟨(hs).p2.rawCell 0, (hs).p2.rawCell 1, (hs).p2.rawCell 2, (hs).p2.rawCell 3⟩) (fun hHeld => ?_)
        clear hK KK
        try simp only [Act.put, sA, sB, sC]
        have HMAP := Lib.hid hmap
        have HLIT2 := Lib.hid hlit2
        have HCNT2 := Lib.hid hcnt2
        have HMX := Lib.hid (HMXF.out lr hmap); have HMX := Lib.hid (show lr.map BatR.b = ([] : List BatR).map BatR.b from HMX.out); have HLD := Lib.hid (show ∀ x ∈ ([] : List BatR), LiteR x from fun x hx => by cases hx); clear hqn hmap hlit2 hcnt2 hmono
        refine wpAnyH_ready (rs := [13]) (by kernel_rfl) (by simp) (AllReadyH.cons (o := ⟨some 48, .call { callee := .value (.func 9), args := #[.tmp 43, .tmp 47], argTypes := #[28, 28] }, 4, "law.go:36", #[.mk 8 .data, .mk 12 .data, .mk 8 .chain, .mk 5 .guard], some (5, false)⟩) rfl (fun KK hK => ?_) AllReadyH.nil)
        · go_simp
          go_at_call 9
          with_reducible refine (ref11_rowsN lr [] lr.length 0 rfl rfl qf _ capf _ HMX.out HLIT2.out HLD.out (by have := HCNT2.out; have := HAL2.out; omega) (Know.has_right (Know.has_refl _)) (bats_empty _ _ _) hs).mono ?_
          rintro e wq ⟨rfl, hs⟩
          refine hK.out _ _ (⟨(hs).p2.rawCell 0, (hs).p2.rawCell 1, (hs).p2.rawCell 2, (hs).p2.rawCell 3⟩) (fun hHeld => ?_)
          clear hK KK
          try simp only [Act.put, sA, sB, sC]
          refine tQ 14 ⟨some 49, .unOp UnOp.not 4 (.tmp 48), 4, "law.go:36", #[.mk 13 .data, .mk 5 .guard], some (5, false)⟩ ?_; simp only [Act.put, sA, sB, sC]
          refine tQ 15 ⟨some 50, .pick (.tmp 40) (.const (Value.bool true)) (.tmp 49), 4, "law.go:36", #[.mk 5 .data, .mk 14 .data], none⟩ ?_; simp only [Act.put, sA, sB, sC]
          refine tQ 16 ⟨some 51, .move (.tmp 50), 4, "law.go:36", #[.mk 15 .data, .mk 13 .chain], none⟩ ?_; simp only [Act.put, sA, sB, sC]
          refine tQ 17 ⟨some 52, .move (.tmp 5), 24, "law.go:36", #[.mk 16 .guard], some (16, false)⟩ ?_; simp only [Act.put, sA, sB, sC]
          refine tQ 19 ⟨some 54, .fieldAddr 30 (.tmp 10) 1, 0, "law.go:36", #[.mk 16 .guard], some (16, false)⟩ ?_; simp only [Act.put, sA, sB, sC]
          refine tQ 20 ⟨some 55, .load 3 (.tmp 54), 3, "law.go:36", #[.mk 19 .data, .mk 16 .guard], some (16, false)⟩ ?_; simp only [Act.put, sA, sB, sC]
          refine tQ 21 ⟨some 56, .fieldAddr 30 (.tmp 10) 2, 0, "law.go:36", #[.mk 16 .guard], some (16, false)⟩ ?_; simp only [Act.put, sA, sB, sC]
          refine tQ 22 ⟨some 57, .load 3 (.tmp 56), 3, "law.go:36", #[.mk 21 .data, .mk 16 .guard], some (16, false)⟩ ?_; simp only [Act.put, sA, sB, sC]
          refine tQ 23 ⟨some 58, .fieldAddr 30 (.tmp 10) 3, 0, "law.go:36", #[.mk 16 .guard], some (16, false)⟩ ?_; simp only [Act.put, sA, sB, sC]
          refine tQ 24 ⟨some 59, .load 3 (.tmp 58), 3, "law.go:36", #[.mk 23 .data, .mk 16 .guard], some (16, false)⟩ ?_; simp only [Act.put, sA, sB, sC]
          refine tQ 25 ⟨some 60, .build 36 #[(0, .tmp 55), (1, .tmp 57), (2, .tmp 59)], 36, "law.go:36", #[.mk 20 .data, .mk 22 .data, .mk 24 .data, .mk 16 .guard], some (16, false)⟩ ?_; simp only [Act.put, sA, sB, sC]
          refine wpAnyH_ready (rs := [18]) (by kernel_rfl) (by simp) (AllReadyH.cons (o := ⟨some 53, .call { callee := .value (.func 11), args := #[.tmp 52], argTypes := #[24] }, 36, "law.go:36", #[.mk 17 .data, .mk 16 .chain, .mk 16 .guard], some (16, false)⟩) rfl (fun KK hK => ?_) AllReadyH.nil)
          · go_simp
            go_at_call 11
            with_reducible refine (close_any sb A2 v' V rs e st _ HFIN.out HST.out hs).mono ?_
            rintro e wq ⟨rfl, hs⟩
            refine hK.out _ _ (⟨(hs).p2.rawCell 0, (hs).p2.rawCell 1, (hs).p2.rawCell 2, (hs).p2.rawCell 3⟩) (fun hHeld => ?_)
            clear hK KK
            try simp only [Act.put, sA, sB, sC]
            refine tQ 26 ⟨some 61, .binOp .neq 36 (.tmp 53) (.tmp 60) 36, 4, "law.go:36", #[.mk 18 .data, .mk 25 .data, .mk 16 .guard], some (16, false)⟩ ?_; simp only [Act.put, sA, sB, sC]
            refine tQ 27 ⟨some 62, .pick (.tmp 51) (.const (Value.bool true)) (.tmp 61), 4, "law.go:36", #[.mk 16 .data, .mk 26 .data], none⟩ ?_; simp only [Act.put, sA, sB, sC]
            refine wpAnyH_done (by kernel_rfl) ?_ _
            clear hHeld
            have H := Lib.hid hs
            have p0 := hs.p2.rawCell 0
            simp at p0
            clear hs
            go_wp2_with fail
            go_roundw
            case rel =>
              refine ⟨k + 1, (K2.and (Know.bats (.slice none 0 0) [])).and (Know.bats (.slice qf lr.length capf) lr), v', hlt, by go_num, ?_, ?_, ?_, ?_⟩
              · rw [HAN.out]
              · rw [HAN.out, HFIN.out]; simp only [List.length_map]; try rfl
              · exact Lib.hid (Know.has_trans (Know.has_left (Know.has_left (Know.has_refl _))) HK2.out)
              · rw [HAN.out]; exact H.out.p2.drop
            case measure => first | (simp [intOf]; done) | (simp [intOf]; omega)
    · by_cases hcc : cw = hd
      · have hz0 : lw.length - hd = 0 := by omega
        have hdn : lw.drop hd = [] := List.drop_of_length_le (by omega)
        have HDN := Lib.hid hdn
        have HZ0 := Lib.hid hz0
        have HBE := Lib.hid (show ∀ K : Know, K.has (Know.bats (.slice (some ⟨g, 0, none⟩) (lw.length - hd) 0) (lw.drop hd)) from fun K => by rw [hz0, hdn]; exact bats_empty K _ _)
        clear hz0 hdn
        subst hcc
        clear k1 k2
        have hs := H.out.p2.p2.drew
        refine wp_region_held_drew (S := fun w' => w'.cell? ⟨wb, 0, none⟩ = some (.slice (some ⟨g, 0, none⟩) lw.length cw) ∧ w'.cell? ⟨wb, 1, none⟩ = some (.int .i64 V) ∧ w'.cell? ⟨wb, 2, none⟩ = some (.int .i64 st) ∧ w'.cell? ⟨wb, 3, none⟩ = some (.int .i64 e)) (by kernel_rfl) (⟨(hs).p2.rawCell 0, (hs).p2.rawCell 1, (hs).p2.rawCell 2, (hs).p2.rawCell 3⟩) (fun hHeld => ?_)
        refine tQ 0 ⟨some 35, .fieldAddr 30 (.tmp 10) 0, 0, "law.go:36", #[], none⟩ ?_; simp only [Act.put, sA, sB, sC]
        refine tQ 1 ⟨some 36, .load 28 (.tmp 35), 28, "law.go:36", #[.mk 0 .data], none⟩ ?_; simp only [Act.put, sA, sB, sC]
        refine tQ 2 ⟨some 37, .call { callee := .builtin .len, args := #[.tmp 36], argTypes := #[28] }, 3, "law.go:36", #[.mk 1 .data], none⟩ ?_; simp only [Act.put, sA, sB, sC]
        refine tQ 3 ⟨some 38, .move (.tmp 7), 3, "law.go:36", #[], none⟩ ?_; simp only [Act.put, sA, sB, sC]
        refine tQ 4 ⟨some 39, .binOp .lss 3 (.tmp 37) (.tmp 38) 3, 4, "law.go:36", #[.mk 2 .data, .mk 3 .data], none⟩ ?_; simp only [Act.put, sA, sB, sC]
        refine tQ 5 ⟨some 40, .move (.tmp 39), 4, "law.go:36", #[.mk 4 .data], none⟩ ?_; simp only [Act.put, sA, sB, sC]
        refine tQ 6 ⟨some 41, .move (.tmp 5), 24, "law.go:36", #[.mk 5 .guard], some (5, false)⟩ ?_; simp only [Act.put, sA, sB, sC]
        refine tQ 7 ⟨some 42, .move (.tmp 9), 9, "law.go:36", #[.mk 5 .guard], some (5, false)⟩ ?_; simp only [Act.put, sA, sB, sC]
        refine tQ 9 ⟨some 44, .fieldAddr 30 (.tmp 10) 0, 0, "law.go:36", #[.mk 5 .guard], some (5, false)⟩ ?_; simp only [Act.put, sA, sB, sC]
        refine tQ 10 ⟨some 45, .load 28 (.tmp 44), 28, "law.go:36", #[.mk 9 .data, .mk 5 .guard], some (5, false)⟩ ?_; simp only [Act.put, sA, sB, sC]
        refine tQ 11 ⟨some 46, .move (.tmp 7), 3, "law.go:36", #[.mk 5 .guard], some (5, false)⟩ ?_; simp only [Act.put, sA, sB, sC]
        refine tQ 12 ⟨some 47, .slice 28 (.tmp 45) (some (.tmp 46)) none none, 28, "law.go:36", #[.mk 10 .data, .mk 11 .data, .mk 5 .guard], some (5, false)⟩ ?_; simp only [Act.put, sA, sB, sC]
        refine wpAnyH_ready (rs := [8]) (by kernel_rfl) (by simp) (AllReadyH.cons (o := ⟨some 43, .call { callee := .value (.func 10), args := #[.tmp 41, .tmp 42], argTypes := #[24, 9] }, 28, "law.go:36", #[.mk 6 .data, .mk 7 .data, .mk 5 .chain, .mk 5 .guard], some (5, false)⟩) rfl (fun KK hK => ?_) AllReadyH.nil)
        · go_simp
          go_at_call 10
          with_reducible refine (feed_any sb ak c A2 HA2.out v HAL2.out hs).mono ?_
          rintro e wq ⟨v', qf, capf, lr, rfl, hqn, hmap, hlit2, hcnt2, hmono, hs⟩
          refine hK.out _ _ (⟨(hs).p2.rawCell 0, (hs).p2.rawCell 1, (hs).p2.rawCell 2, (hs).p2.rawCell 3⟩) (fun hHeld => ?_)
          clear hK KK
          try simp only [Act.put, sA, sB, sC]
          have HMAP := Lib.hid hmap
          have HLIT2 := Lib.hid hlit2
          have HCNT2 := Lib.hid hcnt2
          have HMX := Lib.hid (HMXF.out lr hmap); clear hqn hmap hlit2 hcnt2 hmono
          refine wpAnyH_ready (rs := [13]) (by kernel_rfl) (by simp) (AllReadyH.cons (o := ⟨some 48, .call { callee := .value (.func 9), args := #[.tmp 43, .tmp 47], argTypes := #[28, 28] }, 4, "law.go:36", #[.mk 8 .data, .mk 12 .data, .mk 8 .chain, .mk 5 .guard], some (5, false)⟩) rfl (fun KK hK => ?_) AllReadyH.nil)
          · go_simp
            go_at_call 9
            with_reducible refine (ref11_rowsN lr (lw.drop cw) lr.length (lw.length - cw) rfl (by rw [List.length_drop]) qf _ capf _ HMX.out HLIT2.out HLD.out (by have := HCNT2.out; have := HAL2.out; omega) (Know.has_right (Know.has_refl _)) (HBE.out _) hs).mono ?_
            rintro e wq ⟨rfl, hs⟩
            refine hK.out _ _ (⟨(hs).p2.rawCell 0, (hs).p2.rawCell 1, (hs).p2.rawCell 2, (hs).p2.rawCell 3⟩) (fun hHeld => ?_)
            clear hK KK
            try simp only [Act.put, sA, sB, sC]
            refine tQ 14 ⟨some 49, .unOp UnOp.not 4 (.tmp 48), 4, "law.go:36", #[.mk 13 .data, .mk 5 .guard], some (5, false)⟩ ?_; simp only [Act.put, sA, sB, sC]
            refine tQ 15 ⟨some 50, .pick (.tmp 40) (.const (Value.bool true)) (.tmp 49), 4, "law.go:36", #[.mk 5 .data, .mk 14 .data], none⟩ ?_; simp only [Act.put, sA, sB, sC]
            refine tQ 16 ⟨some 51, .move (.tmp 50), 4, "law.go:36", #[.mk 15 .data, .mk 13 .chain], none⟩ ?_; simp only [Act.put, sA, sB, sC]
            refine tQ 17 ⟨some 52, .move (.tmp 5), 24, "law.go:36", #[.mk 16 .guard], some (16, false)⟩ ?_; simp only [Act.put, sA, sB, sC]
            refine tQ 19 ⟨some 54, .fieldAddr 30 (.tmp 10) 1, 0, "law.go:36", #[.mk 16 .guard], some (16, false)⟩ ?_; simp only [Act.put, sA, sB, sC]
            refine tQ 20 ⟨some 55, .load 3 (.tmp 54), 3, "law.go:36", #[.mk 19 .data, .mk 16 .guard], some (16, false)⟩ ?_; simp only [Act.put, sA, sB, sC]
            refine tQ 21 ⟨some 56, .fieldAddr 30 (.tmp 10) 2, 0, "law.go:36", #[.mk 16 .guard], some (16, false)⟩ ?_; simp only [Act.put, sA, sB, sC]
            refine tQ 22 ⟨some 57, .load 3 (.tmp 56), 3, "law.go:36", #[.mk 21 .data, .mk 16 .guard], some (16, false)⟩ ?_; simp only [Act.put, sA, sB, sC]
            refine tQ 23 ⟨some 58, .fieldAddr 30 (.tmp 10) 3, 0, "law.go:36", #[.mk 16 .guard], some (16, false)⟩ ?_; simp only [Act.put, sA, sB, sC]
            refine tQ 24 ⟨some 59, .load 3 (.tmp 58), 3, "law.go:36", #[.mk 23 .data, .mk 16 .guard], some (16, false)⟩ ?_; simp only [Act.put, sA, sB, sC]
            refine tQ 25 ⟨some 60, .build 36 #[(0, .tmp 55), (1, .tmp 57), (2, .tmp 59)], 36, "law.go:36", #[.mk 20 .data, .mk 22 .data, .mk 24 .data, .mk 16 .guard], some (16, false)⟩ ?_; simp only [Act.put, sA, sB, sC]
            refine wpAnyH_ready (rs := [18]) (by kernel_rfl) (by simp) (AllReadyH.cons (o := ⟨some 53, .call { callee := .value (.func 11), args := #[.tmp 52], argTypes := #[24] }, 36, "law.go:36", #[.mk 17 .data, .mk 16 .chain, .mk 16 .guard], some (16, false)⟩) rfl (fun KK hK => ?_) AllReadyH.nil)
            · go_simp
              go_at_call 11
              with_reducible refine (close_any sb A2 v' V rs e st _ HFIN.out HST.out hs).mono ?_
              rintro e wq ⟨rfl, hs⟩
              refine hK.out _ _ (⟨(hs).p2.rawCell 0, (hs).p2.rawCell 1, (hs).p2.rawCell 2, (hs).p2.rawCell 3⟩) (fun hHeld => ?_)
              clear hK KK
              try simp only [Act.put, sA, sB, sC]
              refine tQ 26 ⟨some 61, .binOp .neq 36 (.tmp 53) (.tmp 60) 36, 4, "law.go:36", #[.mk 18 .data, .mk 25 .data, .mk 16 .guard], some (16, false)⟩ ?_; simp only [Act.put, sA, sB, sC]
              refine tQ 27 ⟨some 62, .pick (.tmp 51) (.const (Value.bool true)) (.tmp 61), 4, "law.go:36", #[.mk 16 .data, .mk 26 .data], none⟩ ?_; simp only [Act.put, sA, sB, sC]
              refine wpAnyH_done (by kernel_rfl) ?_ _
              clear hHeld
              have H := Lib.hid hs
              have p0 := hs.p2.rawCell 0
              simp at p0
              clear hs
              go_wp2_with fail
              go_roundw
              case rel =>
               refine ⟨k + 1, (K2.and (Know.bats (.slice (some ⟨g, 0, none⟩) lw.length cw) lw)).and (Know.bats (.slice qf lr.length capf) lr), v', hlt, by go_num, ?_, ?_, ?_, ?_⟩
               · rw [HAN.out]
               · rw [HAN.out, HFIN.out]; simp only [List.length_map]; try rfl
               · exact Lib.hid (Know.has_trans (Know.has_left (Know.has_left (Know.has_refl _))) HK2.out)
               · rw [HAN.out]; exact H.out.p2.drop
              case measure => first | (simp [intOf]; done) | (simp [intOf]; omega)
      · have hcc2 : ¬ cw - hd = 0 := by omega
        clear k1 k2
        have hs := H.out.p2.p2.drew
        refine wp_region_held_drew (S := fun w' => w'.cell? ⟨wb, 0, none⟩ = some (.slice (some ⟨g, 0, none⟩) lw.length cw) ∧ w'.cell? ⟨wb, 1, none⟩ = some (.int .i64 V) ∧ w'.cell? ⟨wb, 2, none⟩ = some (.int .i64 st) ∧ w'.cell? ⟨wb, 3, none⟩ = some (.int .i64 e)) (by kernel_rfl) (⟨(hs).p2.rawCell 0, (hs).p2.rawCell 1, (hs).p2.rawCell 2, (hs).p2.rawCell 3⟩) (fun hHeld => ?_)
        refine tQ 0 ⟨some 35, .fieldAddr 30 (.tmp 10) 0, 0, "law.go:36", #[], none⟩ ?_; simp only [Act.put, sA, sB, sC]
        refine tQ 1 ⟨some 36, .load 28 (.tmp 35), 28, "law.go:36", #[.mk 0 .data], none⟩ ?_; simp only [Act.put, sA, sB, sC]
        refine tQ 2 ⟨some 37, .call { callee := .builtin .len, args := #[.tmp 36], argTypes := #[28] }, 3, "law.go:36", #[.mk 1 .data], none⟩ ?_; simp only [Act.put, sA, sB, sC]
        refine tQ 3 ⟨some 38, .move (.tmp 7), 3, "law.go:36", #[], none⟩ ?_; simp only [Act.put, sA, sB, sC]
        refine tQ 4 ⟨some 39, .binOp .lss 3 (.tmp 37) (.tmp 38) 3, 4, "law.go:36", #[.mk 2 .data, .mk 3 .data], none⟩ ?_; simp only [Act.put, sA, sB, sC]
        refine tQ 5 ⟨some 40, .move (.tmp 39), 4, "law.go:36", #[.mk 4 .data], none⟩ ?_; simp only [Act.put, sA, sB, sC]
        refine tQ 6 ⟨some 41, .move (.tmp 5), 24, "law.go:36", #[.mk 5 .guard], some (5, false)⟩ ?_; simp only [Act.put, sA, sB, sC]
        refine tQ 7 ⟨some 42, .move (.tmp 9), 9, "law.go:36", #[.mk 5 .guard], some (5, false)⟩ ?_; simp only [Act.put, sA, sB, sC]
        refine tQ 9 ⟨some 44, .fieldAddr 30 (.tmp 10) 0, 0, "law.go:36", #[.mk 5 .guard], some (5, false)⟩ ?_; simp only [Act.put, sA, sB, sC]
        refine tQ 10 ⟨some 45, .load 28 (.tmp 44), 28, "law.go:36", #[.mk 9 .data, .mk 5 .guard], some (5, false)⟩ ?_; simp only [Act.put, sA, sB, sC]
        refine tQ 11 ⟨some 46, .move (.tmp 7), 3, "law.go:36", #[.mk 5 .guard], some (5, false)⟩ ?_; simp only [Act.put, sA, sB, sC]
        refine tQ 12 ⟨some 47, .slice 28 (.tmp 45) (some (.tmp 46)) none none, 28, "law.go:36", #[.mk 10 .data, .mk 11 .data, .mk 5 .guard], some (5, false)⟩ ?_; simp only [Act.put, sA, sB, sC]
        refine wpAnyH_ready (rs := [8]) (by kernel_rfl) (by simp) (AllReadyH.cons (o := ⟨some 43, .call { callee := .value (.func 10), args := #[.tmp 41, .tmp 42], argTypes := #[24, 9] }, 28, "law.go:36", #[.mk 6 .data, .mk 7 .data, .mk 5 .chain, .mk 5 .guard], some (5, false)⟩) rfl (fun KK hK => ?_) AllReadyH.nil)
        · go_simp
          go_at_call 10
          with_reducible refine (feed_any sb ak c A2 HA2.out v HAL2.out hs).mono ?_
          rintro e wq ⟨v', qf, capf, lr, rfl, hqn, hmap, hlit2, hcnt2, hmono, hs⟩
          refine hK.out _ _ (⟨(hs).p2.rawCell 0, (hs).p2.rawCell 1, (hs).p2.rawCell 2, (hs).p2.rawCell 3⟩) (fun hHeld => ?_)
          clear hK KK
          try simp only [Act.put, sA, sB, sC]
          have HMAP := Lib.hid hmap
          have HLIT2 := Lib.hid hlit2
          have HCNT2 := Lib.hid hcnt2
          have HMX := Lib.hid (HMXF.out lr hmap); clear hqn hmap hlit2 hcnt2 hmono
          refine wpAnyH_ready (rs := [13]) (by kernel_rfl) (by simp) (AllReadyH.cons (o := ⟨some 48, .call { callee := .value (.func 9), args := #[.tmp 43, .tmp 47], argTypes := #[28, 28] }, 4, "law.go:36", #[.mk 8 .data, .mk 12 .data, .mk 8 .chain, .mk 5 .guard], some (5, false)⟩) rfl (fun KK hK => ?_) AllReadyH.nil)
          · go_simp
            go_at_call 9
            with_reducible refine (ref11_rowsN lr (lw.drop hd) lr.length (lw.length - hd) rfl (by rw [List.length_drop]) qf _ capf _ HMX.out HLIT2.out HLD.out (by have := HCNT2.out; have := HAL2.out; omega) (Know.has_right (Know.has_refl _)) (bats_drop0 hd rfl (Know.has_left (Know.has_right (Know.has_refl _)))) hs).mono ?_
            rintro e wq ⟨rfl, hs⟩
            refine hK.out _ _ (⟨(hs).p2.rawCell 0, (hs).p2.rawCell 1, (hs).p2.rawCell 2, (hs).p2.rawCell 3⟩) (fun hHeld => ?_)
            clear hK KK
            try simp only [Act.put, sA, sB, sC]
            refine tQ 14 ⟨some 49, .unOp UnOp.not 4 (.tmp 48), 4, "law.go:36", #[.mk 13 .data, .mk 5 .guard], some (5, false)⟩ ?_; simp only [Act.put, sA, sB, sC]
            refine tQ 15 ⟨some 50, .pick (.tmp 40) (.const (Value.bool true)) (.tmp 49), 4, "law.go:36", #[.mk 5 .data, .mk 14 .data], none⟩ ?_; simp only [Act.put, sA, sB, sC]
            refine tQ 16 ⟨some 51, .move (.tmp 50), 4, "law.go:36", #[.mk 15 .data, .mk 13 .chain], none⟩ ?_; simp only [Act.put, sA, sB, sC]
            refine tQ 17 ⟨some 52, .move (.tmp 5), 24, "law.go:36", #[.mk 16 .guard], some (16, false)⟩ ?_; simp only [Act.put, sA, sB, sC]
            refine tQ 19 ⟨some 54, .fieldAddr 30 (.tmp 10) 1, 0, "law.go:36", #[.mk 16 .guard], some (16, false)⟩ ?_; simp only [Act.put, sA, sB, sC]
            refine tQ 20 ⟨some 55, .load 3 (.tmp 54), 3, "law.go:36", #[.mk 19 .data, .mk 16 .guard], some (16, false)⟩ ?_; simp only [Act.put, sA, sB, sC]
            refine tQ 21 ⟨some 56, .fieldAddr 30 (.tmp 10) 2, 0, "law.go:36", #[.mk 16 .guard], some (16, false)⟩ ?_; simp only [Act.put, sA, sB, sC]
            refine tQ 22 ⟨some 57, .load 3 (.tmp 56), 3, "law.go:36", #[.mk 21 .data, .mk 16 .guard], some (16, false)⟩ ?_; simp only [Act.put, sA, sB, sC]
            refine tQ 23 ⟨some 58, .fieldAddr 30 (.tmp 10) 3, 0, "law.go:36", #[.mk 16 .guard], some (16, false)⟩ ?_; simp only [Act.put, sA, sB, sC]
            refine tQ 24 ⟨some 59, .load 3 (.tmp 58), 3, "law.go:36", #[.mk 23 .data, .mk 16 .guard], some (16, false)⟩ ?_; simp only [Act.put, sA, sB, sC]
            refine tQ 25 ⟨some 60, .build 36 #[(0, .tmp 55), (1, .tmp 57), (2, .tmp 59)], 36, "law.go:36", #[.mk 20 .data, .mk 22 .data, .mk 24 .data, .mk 16 .guard], some (16, false)⟩ ?_; simp only [Act.put, sA, sB, sC]
            refine wpAnyH_ready (rs := [18]) (by kernel_rfl) (by simp) (AllReadyH.cons (o := ⟨some 53, .call { callee := .value (.func 11), args := #[.tmp 52], argTypes := #[24] }, 36, "law.go:36", #[.mk 17 .data, .mk 16 .chain, .mk 16 .guard], some (16, false)⟩) rfl (fun KK hK => ?_) AllReadyH.nil)
            · go_simp
              go_at_call 11
              with_reducible refine (close_any sb A2 v' V rs e st _ HFIN.out HST.out hs).mono ?_
              rintro e wq ⟨rfl, hs⟩
              refine hK.out _ _ (⟨(hs).p2.rawCell 0, (hs).p2.rawCell 1, (hs).p2.rawCell 2, (hs).p2.rawCell 3⟩) (fun hHeld => ?_)
              clear hK KK
              try simp only [Act.put, sA, sB, sC]
              refine tQ 26 ⟨some 61, .binOp .neq 36 (.tmp 53) (.tmp 60) 36, 4, "law.go:36", #[.mk 18 .data, .mk 25 .data, .mk 16 .guard], some (16, false)⟩ ?_; simp only [Act.put, sA, sB, sC]
              refine tQ 27 ⟨some 62, .pick (.tmp 51) (.const (Value.bool true)) (.tmp 61), 4, "law.go:36", #[.mk 16 .data, .mk 26 .data], none⟩ ?_; simp only [Act.put, sA, sB, sC]
              refine wpAnyH_done (by kernel_rfl) ?_ _
              clear hHeld
              have H := Lib.hid hs
              have p0 := hs.p2.rawCell 0
              simp at p0
              clear hs
              go_wp2_with fail
              go_roundw
              case rel =>
               refine ⟨k + 1, (K2.and (Know.bats (.slice (some ⟨g, 0, none⟩) lw.length cw) lw)).and (Know.bats (.slice qf lr.length capf) lr), v', hlt, by go_num, ?_, ?_, ?_, ?_⟩
               · rw [HAN.out]
               · rw [HAN.out, HFIN.out]; simp only [List.length_map]; try rfl
               · exact Lib.hid (Know.has_trans (Know.has_left (Know.has_left (Know.has_refl _))) HK2.out)
               · rw [HAN.out]; exact H.out.p2.drop
              case measure => first | (simp [intOf]; done) | (simp [intOf]; omega)
  · obtain rfl : k = cl.length := by omega
    go_wp2_with fail
    go_ret
    exact ⟨rfl, H.out.below⟩

theorem scanFeeds_any (s : Bs) (ns : List Int) (v : Value) (W : World) (hns : ∀ x ∈ ns, 0 ≤ x ∧ x < 256) (hr : RowsOf (fun _ cs x => RU8 cs x) (· < W.heap.size) W v 1 ns) :
  Calls Tryz.prog 3 #[.string (bb s), v] W fun en w' => en = .returned (.bool true) ∧ Below W.heap.size W w' := by
 have h : St W W (Know.flat RU8 v 1 ns) [] := St.start hr
 obtain ⟨q, cap, hv⟩ : ∃ q cap, v = .slice q ns.length cap := by obtain ⟨p, cap, hv, _⟩ := hr; exact ⟨p, cap, hv⟩
 subst hv
 have hk := Know.has_refl (Know.flat RU8 (.slice q ns.length cap) 1 ns)
 by_cases h1 : 1500 < s.length
 · exact sf_l1 s ns hns q cap h1 hk h
 by_cases h2 : 200 < ns.length
 · exact sf_l2 s ns hns q cap h1 h2 hk h
 exact sf_main s ns hns q cap h1 h2 hk h

end Go.Proofs.YtngojlinfdokpaaGreat
/- Of any bytes, however they are cut, which batches come by which chunk, how many bytes they have, and why it stops, is the document's: proved of every text and every row of sizes. -/
namespace Go.Proofs.YtngojlinfdokpaaGreat
open Go.ChangeShapes Go.WideShapes Go.ChangeAt Go.ChangeMaps Go.RowKit

set_option maxRecDepth 100000 in
theorem scanFeeds_lifted (os : Os) (started : os.Started) (H : Type) (enc : TypeId × Value → H) :
  ReturnsInHanded {} Tryz.checked os 3 .any (Rows.scanFeedsSpec.pre6 enc Tryz.prog Tryz.f3 Rows.scanFeedsRow.domain false) (Rows.scanFeedsSpec.post enc Tryz.prog Tryz.f3 false true false false) := by
 refine returnsInHanded_of_change_sized (C := Tryz.checked) Tryz.own started (by as_aux_lemma => kernel_rfl) Tryz.func3
  (ChangeSpec.witness6 (enc := enc) (C := Tryz.checked) false ⟨#[], #[.string ⟨#[]⟩, .slice none 0 0], []⟩ 8 (by as_aux_lemma => kernel_rfl) (by as_aux_lemma => kernel_rfl) (by as_aux_lemma => kernel_rfl) (by as_aux_lemma => kernel_rfl)) ?_
 intro W base args ds gs before hval0 hW hcnd hsz0 _
 have hval : ∀ (j : Nat) t v, Tryz.f3.params[j]? = some t → args[j]? = some v → Value.okWide Tryz.prog W .any base t v := hval0
 clear hval0
 refine law_contract (n := 2) (tb := 4) rfl rfl rfl Tryz.underlying4 (by intro ds h; match ds, h with | [d0, d1], _ => rfl) (by as_aux_lemma => kernel_rfl) hW ?_
 intro p hA0 hlt
 have hA : DataW.TrodAll enc Tryz.prog W 0 (fun _ => true) true Tryz.f3.params.toList args.toList ds p := hA0
 clear hA0
 rw [Tryz.params3] at hA hval
 obtain ⟨v0, v1, d0, d1, p0, p1, rfl, rfl, rfl, h0, h1⟩ := trodAll_two hA
 have hsz : (DataW.weightsEach Tryz.prog (Tryz.f3.params.toList ++ Rows.scanFeedsSpec.plain.varTypes Tryz.prog) ([d0, d1] ++ gs)).all (· ≤ reachBytes) = true := hsz0
 rw [Tryz.params3] at hsz
 obtain ⟨s0, rfl, rfl, rfl, ws0⟩ := open_string Tryz.underlying9 (hval 0 9 v0 rfl rfl) h0
 obtain ⟨c1, e1, k1, rfl⟩ := okWide_slice Tryz.underlying22 (hval 1 22 v1 rfl rfl)
 have lg1 : Light 22 d1 := light_arg hsz (j := 1) rfl rfl
 obtain ⟨fuel1, hf1⟩ := h1
 obtain ⟨w1, l1, hw1, hrq1, hbl1, hl1⟩ := opens_rows (R := fun w cs x => (fun _ cs x => RU8 cs x) w cs x ∧ (fun x : Int => 0 ≤ x ∧ x < 256) x) (N := W.heap.size) Tryz.underlying22 cells_u8S (by decide) ru8_opens hf1 lg1 (fun y hy => hlt y (by simp [hy])) (Nat.le_refl _)
 obtain ⟨hr1, hq1⟩ := hrq1.part
 obtain rfl : w1 = Value.slice c1 e1 k1 := by simpa [Value.cells] using hw1.symm
 exact scanFeeds_any s0.data.toList l1 _ W hq1 hr1

theorem scanFeeds_holds : Rows.ScanFeedsSaid :=
 OpenClaim.holds_of_wide 3 Tryz.f3 rfl rfl rfl rfl rfl rfl rfl ⟨rfl, rfl, rfl, rfl, rfl⟩ rfl rfl rfl rfl rfl (by as_aux_lemma => kernel_rfl) Tryz.func3 (by as_aux_lemma => kernel_rfl)
  (of_decide_eq_true (by as_aux_lemma => kernel_rfl)) (by as_aux_lemma => (unfold Func.isWrapper; rw [if_neg (by as_aux_lemma => decide +kernel)]; exact ⟨rfl, rfl⟩))
  (fun os started H enc _ => scanFeeds_lifted os started H enc)

end Go.Proofs.YtngojlinfdokpaaGreat
