/- A text. -/
import Derived.Test.YtnnnglklgofabaaGProduceBatches6
import Derived.Test.YtnnnglklgofabaaGProduceBatches8
import Derived.RegionTactic
import Derived.Deep.RegionHeld3
import Derived.Deep.DeepCutAuto
import Derived.WalkMore
import Derived.Test.YtnnnglklgofabaaGProduceBatches7
/- A text. -/
namespace Go.Proofs.Ytnnnglklgofabaa
open Go.RowKit

theorem buildPV12 (a : Int) (sl : Value) (w : World) : (Instr.buildSlice 31 1 #[(0, .agg #[.int .i64 a, sl])]).run Try.prog w = .ok (.slice (some ⟨w.heap.size, 0, none⟩) 1 1) (w.alloc (.cells #[.int .i64 a, sl] 36 (0, 0))) := by go_simp
theorem exec_buildP12 {o : Oper} {ρ : Operand → Value} (ps : Array (Nat × Value)) (v : Value) (w w' : World) (ho : execOp ρ o = (do pure (Next.value (← Instr.buildSlice 31 1 ps)))) (hb : (Instr.buildSlice 31 1 ps).run Try.prog w = .ok v w') : (execOp ρ o).run Try.prog w = .ok (.value v) w' := by
 rw [ho]
 simp [hb]
set_option maxHeartbeats 8000000 in
set_option maxRecDepth 100000 in
theorem read_top (p : Nat) (i j : InS) (nm : Bs) (ps : List (Int × List BatS)) (hx : i.ptop = ((nm, ps), j)) (hd : i.s.length ≤ 1000000) {W0 w : World} {K : Know} {L : List Res} (h : St W0 w K (.inp p i :: L)) :
  Calls Try.prog 22 #[inPtr p] w fun en w' => ∃ (q : Option Addr) (n cap : Nat) (lr : List PartR) (K2 : Know), en = .returned (.agg #[.string (bb nm), .slice q n cap]) ∧ K2.has K ∧ (j.err = 0 → n = lr.length ∧ lr.map PartR.pb = ps ∧ K2.has (Know.pparts (.slice q n cap) lr) ∧ ∀ x ∈ lr, ∀ y ∈ x.l, y.l.map (·.1) = y.b.recs) ∧ St W0 w' K2 (.inp p j :: L) := by
 obtain ⟨⟨n1, i1⟩, h1⟩ : ∃ r, i.text = r := ⟨_, rfl⟩
 obtain ⟨⟨n, c⟩, h2⟩ : ∃ r, i1.cnt 8 = r := ⟨_, rfl⟩
 have hs0 : c.s = i.s := by have := cnt_s12 i1 8; rw [h2] at this; rw [this]; have := text_s12 i; rw [h1] at this; exact this
 have hnl := cnt_nat12 i1 8
 rw [h2] at hnl
 have hx2 : n1 = nm ∧ InS.ppartsN n [] c = (ps, j) := by
  unfold InS.ptop at hx
  rw [h1] at hx
  simp only at hx
  rw [h2] at hx
  simp only [Prod.mk.injEq] at hx
  exact ⟨hx.1.1, Prod.ext hx.1.2 hx.2⟩
 obtain ⟨rfl, hx2⟩ := hx2
 obtain ⟨rb, hrb⟩ : ∃ b, w.heap.size = b := ⟨_, rfl⟩
 obtain ⟨tb, htb⟩ : ∃ b, rb + 1 = b := ⟨_, rfl⟩
 have g1 := ((h.allocRaw #[.string ⟨#[]⟩, .slice none 0 0] 33).allocRaw #[.string ⟨#[]⟩, .slice none 0 0] 33).p2
 simp only [World.size_alloc, hrb, htb] at g1
 have H := Lib.hid g1
 have H1 := Lib.hid h1
 have H2 := Lib.hid h2
 have HX0 := Lib.hid hx2
 have HS0 := Lib.hid hs0
 have HDL := Lib.hid hd
 have HNL := Lib.hid (show n ≤ 2147483647 from hnl.2)
 have hni : (n : Int) ≤ 2147483647 := by have := HNL.out; omega
 clear h g1 h1 h2 hx hx2 hd hnl hs0
 go_enter Try.func22, Try.ntmps22
 go_wp2_with (first
  | (go_at_call 49; (with_reducible refine (p_text p i i1 _ H1.out H.out).mono ?_); rintro e_ wn ⟨rfl, h⟩; have h := h.p1; have x0 := h.rawFree 0; have x1 := h.rawCell 0; simp at x1; have h := (show St W0 (wn.setCell ⟨tb, 0, none⟩ (.string (bb n1))) K (.inp p i1 :: .raw tb #[.string (bb n1), .slice none 0 0] 33 :: .raw rb #[.string ⟨#[]⟩, .slice none 0 0] 33 :: L) from (h.rawSet 0 (.string (bb n1))).p1); replace H := Lib.hid h; clear h)
  | (go_at_call 21; (with_reducible refine (p_cnt p i1 c 8 n 8 rfl H2.out H.out).mono ?_); rintro e_ wn ⟨rfl, h⟩; replace H := Lib.hid h; clear h))
 go_loopw [9] (fun iv wr => ∃ (k : Nat) (v : Value) (xs : List Value) (i2 : InS) (acc : List PartR) (K2 : Know), k ≤ n ∧ iv = .int .i64 k ∧ Hid (k = acc.length) ∧ Hid (xs = acc.flatMap pcells) ∧ Hid (InS.ppartsN (n - k) (acc.map PartR.pb) i2 = (ps, j)) ∧ Hid (K2.has K) ∧ Hid (∀ x ∈ acc, K2.has (Know.bats (.slice x.q x.l.length x.cap) x.l) ∧ ∀ y ∈ x.l, y.l.map (·.1) = y.b.recs) ∧ Hid (i2.s = i.s) ∧ St W0 wr K2 (.row v 36 2 k xs :: .raw tb #[.string (bb n1), v] 33 :: .inp p i2 :: .raw rb #[.string ⟨#[]⟩, .slice none 0 0] 33 :: L)) (fun iv _ => n - (intOf iv).toNat)
 case atStart =>
  refine ⟨0, .slice none 0 0, [], c, [], K, Nat.zero_le _, rfl, Lib.hid rfl, Lib.hid rfl, Lib.hid HX0.out, Lib.hid (Know.has_refl _), Lib.hid (fun x hx => by cases hx), Lib.hid HS0.out, ?_⟩
  exact (H.out.p1.nilRow 36 2)
 case round =>
  obtain ⟨k, v, xs, i2, acc, K2, hk, rfl, HAL, HXS, HP, HKK, HALL, HS, hst⟩ := hrel
  clear H
  obtain ⟨qv0, cv0, hv0⟩ := hst.rowAny
  subst hv0
  have y0 := hst.p1.rawCell 0
  have y1 := hst.p1.rawCell 1
  have w0 := hst.p3.rawFree 0
  have w1 := hst.p3.rawFree 1
  have v0 := hst.p3.rawCell 0
  have v1 := hst.p3.rawCell 1
  simp at y0 y1 v0 v1
  have H := Lib.hid hst
  clear hst
  by_cases hlt : k < n
  · clear y0 y1 w0 w1 v0 v1
    obtain ⟨⟨⟨a, bl⟩, i3⟩, hi3⟩ : ∃ r, i2.ppart = r := ⟨_, rfl⟩
    obtain ⟨er, her⟩ : ∃ er, i3.err = er := ⟨_, rfl⟩
    have HX := Lib.hid hi3
    have HS3 := Lib.hid (show i3.s = i.s by have := ppart_s12 i2; rw [hi3] at this; rw [this]; exact HS.out)
    have hstep : (if er = 0 then InS.ppartsN (n - (k + 1)) (acc.map PartR.pb ++ [(a, bl)]) i3 else ([], i3)) = (ps, j) := by
      have h1 := HP.out
      rw [show n - k = (n - (k + 1)) + 1 by omega] at h1
      have h2 : (if i2.ppart.2.err = 0 then InS.ppartsN (n - (k + 1)) (acc.map PartR.pb ++ [i2.ppart.1]) i2.ppart.2 else ([], i2.ppart.2)) = (ps, j) := h1
      rw [hi3] at h2
      simp only at h2
      rw [her] at h2
      exact h2
    have HKN := Lib.hid (show k ≤ 2147483647 by have := HNL.out; omega)
    have hkn : (k : Int) < (n : Int) := by omega
    have HER := Lib.hid her
    clear hi3
    by_cases he0 : er = 0
    · rw [if_pos he0] at hstep
      have HP2 := Lib.hid hstep
      subst he0
      clear hstep her
      go_wp2_with fail
      have hs := H.out.drew
      refine wp_region_held_drew (S := fun _ => True) (by kernel_rfl) trivial (fun hHeld => ?_)
      refine tQ 0 ⟨some 11, .fieldAddr 33 (.tmp 3) 1, 0, "produce.go:95", #[], none⟩ ?_; simp only [Act.put, sA, sB, sC]
      refine tQ 2 ⟨some 13, .move (.tmp 0), 23, "produce.go:95", #[], none⟩ ?_; simp only [Act.put, sA, sB, sC]
      refine wpAnyH_ready (rs := [1, 3]) (by kernel_rfl) (by simp) (AllReadyH.cons (o := ⟨some 12, .load 31 (.tmp 11), 31, "produce.go:95", #[.mk 0 .data], none⟩) rfl (fun KK hK => ?_) (AllReadyH.cons (o := ⟨some 14, .call { callee := .value (.func 50), args := #[.tmp 13], argTypes := #[23] }, 36, "produce.go:95", #[.mk 2 .data], none⟩) rfl (fun KK hK => ?_) AllReadyH.nil))
      · have z1 := hs.p1.rawCell 1
        simp at z1
        go_simp
        refine hK.out _ _ (trivial) (fun hHeld => ?_)
        clear hK KK
        try simp only [Act.put, sA, sB, sC]
        clear z1
        refine wpAnyH_ready (rs := [3]) (by kernel_rfl) (by simp) (AllReadyH.cons (o := ⟨some 14, .call { callee := .value (.func 50), args := #[.tmp 13], argTypes := #[23] }, 36, "produce.go:95", #[.mk 2 .data], none⟩) rfl (fun KK hK => ?_) AllReadyH.nil)
        · go_simp
          go_at_call 50
          with_reducible refine (read_part p i2 i3 a bl HX.out (Nat.le_trans (part_len12 _) (by rw [HS.out]; exact HDL.out)) hs.p2).mono ?_
          rintro e wq ⟨q, n2, cap, lr, K3, rfl, hk3, hgd, hs⟩
          refine hK.out _ _ (trivial) (fun hHeld => ?_)
          clear hK KK
          try simp only [Act.put, sA, sB, sC]
          have hs := hs.p2.p2
          refine wpAnyH_ready (rs := [4]) (by kernel_rfl) (by simp) (AllReadyH.cons (o := ⟨some 15, .buildSlice 31 1 #[(0, .tmp 14)], 31, "produce.go:95", #[.mk 3 .data], none⟩) rfl (fun KK hK => ?_) AllReadyH.nil)
          · rw [if_pos (by rfl)]
            refine op_value (exec_buildP12 _ _ _ _ (by kernel_rfl) (buildPV12 a (.slice q n2 cap) _)) ?_
            obtain ⟨wy, b2, ey, eb, hs⟩ := hs.allocEx #[.int .i64 a, .slice q n2 cap] 36
            rw [ey, eb]
            clear ey eb
            refine hK.out _ _ (trivial) (fun hHeld => ?_)
            clear hK KK
            try simp only [Act.put, sA, sB, sC]
            refine wpAnyH_ready (rs := [5]) (by kernel_rfl) (by simp) (AllReadyH.cons (o := ⟨some 16, .call { callee := .builtin .append, args := #[.tmp 12, .tmp 15], argTypes := #[31, 31] }, 31, "produce.go:95", #[.mk 1 .data, .mk 4 .data, .mk 3 .chain], none⟩) rfl (fun KK hK => ?_) AllReadyH.nil)
            · rw [if_pos (by rfl)]
              refine op_app1 (.tmp 12) (.tmp 15) 31 rfl 36 Try.underlying31 elem_partP _ _ _ (by rfl) b2 #[.int .i64 a, .slice q n2 cap] 36 hs (by rfl) rfl (by simp [Value.oneCell']) (by have := HKN.out; unfold maxLen; omega) (by have := HKN.out; omega) (fun v' w' h => ?_)
              have hs := h
              clear h
              obtain ⟨qv, cv, hv⟩ := hs.rowAny
              subst hv
              refine hK.out _ _ (trivial) (fun hHeld => ?_)
              clear hK KK
              try simp only [Act.put, sA, sB, sC]
              refine tQ 6 ⟨some 17, .fieldAddr 33 (.tmp 3) 1, 0, "produce.go:95", #[.mk 0 .phase, .mk 1 .phase, .mk 2 .phase, .mk 3 .phase, .mk 4 .phase, .mk 5 .phase], none⟩ ?_; simp only [Act.put, sA, sB, sC]
              refine wpAnyH_ready (rs := [7]) (by kernel_rfl) (by simp) (AllReadyH.cons (o := ⟨none, .store 31 (.tmp 17) (.tmp 16), 0, "produce.go:95", #[.mk 6 .data, .mk 5 .data, .mk 5 .chain, .mk 0 .phase, .mk 1 .phase, .mk 2 .phase, .mk 3 .phase, .mk 4 .phase, .mk 5 .phase], none⟩) rfl (fun KK hK => ?_) AllReadyH.nil)
              · have hs := hs.p1
                have q1 := hs.rawFree 1
                have z1 := hs.rawCell 1
                simp at z1
                rw [if_pos (by rfl)]
                refine op_skip (w' := w'.setCell ⟨tb, 1, none⟩ (.slice qv (k + 1) cv)) (by go_simp) ?_
                obtain ⟨wz, ez, hs⟩ := hs.setExP 1 (.slice qv (k + 1) cv)
                rw [ez]
                clear ez q1 z1
                have hs := hs.p1
                refine hK.out _ _ (trivial) (fun hHeld => ?_)
                clear hK KK
                try simp only [Act.put]
                refine wpAnyH_done (by kernel_rfl) ?_ _
                clear hHeld
                have HK3 := Lib.hid hk3
                clear hk3
                replace H := Lib.hid hs
                clear hs
                go_wp2_with (go_at_call 23; (try clear y0 y1 w0 w1 v0 v1); (with_reducible refine (p_err p i3 0 HER.out H.out.p2).mono ?_); rintro e_ wn ⟨rfl, h⟩; have h := h.p2.p2; have y0 := h.p1.rawCell 0; have y1 := h.p1.rawCell 1; have w0 := h.p3.rawFree 0; have w1 := h.p3.rawFree 1; have v0 := h.p3.rawCell 0; have v1 := h.p3.rawCell 1; simp at y0 y1 v0 v1; replace H := Lib.hid h; clear h)
                go_roundw
                case rel =>
                 obtain ⟨hn2, hlb, hkb, hmb⟩ := hgd HER.out
                 subst hn2
                 refine ⟨k + 1, .slice qv (k + 1) cv, xs ++ [.int .i64 a, .slice q lr.length cap], i3, acc ++ [⟨a, lr, q, cap⟩], K3, hlt, by go_num, ?_, ?_, ?_, ?_, ?_, ?_, ?_⟩
                 · exact Lib.hid (by rw [List.length_append, ← HAL.out]; rfl)
                 · exact Lib.hid (by rw [List.flatMap_append, HXS.out]; rfl)
                 · exact Lib.hid (by rw [List.map_append]; have := HP2.out; rw [← hlb] at this; exact this)
                 · exact Lib.hid (Know.has_trans HK3.out HKK.out)
                 · exact Lib.hid (fun x hx => by
                   rcases List.mem_append.1 hx with hx | hx
                   · exact ⟨Know.has_trans HK3.out (HALL.out x hx).1, (HALL.out x hx).2⟩
                   · rw [List.mem_singleton.1 hx]; exact ⟨hkb, hmb⟩)
                 · exact Lib.hid HS3.out
                 · exact H.out
                case measure => first | (simp [intOf]; done) | (simp [intOf]; omega)
      · go_simp
        go_at_call 50
        with_reducible refine (read_part p i2 i3 a bl HX.out (Nat.le_trans (part_len12 _) (by rw [HS.out]; exact HDL.out)) hs.p2).mono ?_
        rintro e wq ⟨q, n2, cap, lr, K3, rfl, hk3, hgd, hs⟩
        refine hK.out _ _ (trivial) (fun hHeld => ?_)
        clear hK KK
        try simp only [Act.put, sA, sB, sC]
        have hs := hs.p2.p2
        refine wpAnyH_ready (rs := [1, 4]) (by kernel_rfl) (by simp) (AllReadyH.cons (o := ⟨some 12, .load 31 (.tmp 11), 31, "produce.go:95", #[.mk 0 .data], none⟩) rfl (fun KK hK => ?_) (AllReadyH.cons (o := ⟨some 15, .buildSlice 31 1 #[(0, .tmp 14)], 31, "produce.go:95", #[.mk 3 .data], none⟩) rfl (fun KK hK => ?_) AllReadyH.nil))
        · have z1 := hs.p1.rawCell 1
          simp at z1
          go_simp
          refine hK.out _ _ (trivial) (fun hHeld => ?_)
          clear hK KK
          try simp only [Act.put, sA, sB, sC]
          clear z1
          refine wpAnyH_ready (rs := [4]) (by kernel_rfl) (by simp) (AllReadyH.cons (o := ⟨some 15, .buildSlice 31 1 #[(0, .tmp 14)], 31, "produce.go:95", #[.mk 3 .data], none⟩) rfl (fun KK hK => ?_) AllReadyH.nil)
          · rw [if_pos (by rfl)]
            refine op_value (exec_buildP12 _ _ _ _ (by kernel_rfl) (buildPV12 a (.slice q n2 cap) _)) ?_
            obtain ⟨wy, b2, ey, eb, hs⟩ := hs.allocEx #[.int .i64 a, .slice q n2 cap] 36
            rw [ey, eb]
            clear ey eb
            refine hK.out _ _ (trivial) (fun hHeld => ?_)
            clear hK KK
            try simp only [Act.put, sA, sB, sC]
            refine wpAnyH_ready (rs := [5]) (by kernel_rfl) (by simp) (AllReadyH.cons (o := ⟨some 16, .call { callee := .builtin .append, args := #[.tmp 12, .tmp 15], argTypes := #[31, 31] }, 31, "produce.go:95", #[.mk 1 .data, .mk 4 .data, .mk 3 .chain], none⟩) rfl (fun KK hK => ?_) AllReadyH.nil)
            · rw [if_pos (by rfl)]
              refine op_app1 (.tmp 12) (.tmp 15) 31 rfl 36 Try.underlying31 elem_partP _ _ _ (by rfl) b2 #[.int .i64 a, .slice q n2 cap] 36 hs (by rfl) rfl (by simp [Value.oneCell']) (by have := HKN.out; unfold maxLen; omega) (by have := HKN.out; omega) (fun v' w' h => ?_)
              have hs := h
              clear h
              obtain ⟨qv, cv, hv⟩ := hs.rowAny
              subst hv
              refine hK.out _ _ (trivial) (fun hHeld => ?_)
              clear hK KK
              try simp only [Act.put, sA, sB, sC]
              refine tQ 6 ⟨some 17, .fieldAddr 33 (.tmp 3) 1, 0, "produce.go:95", #[.mk 0 .phase, .mk 1 .phase, .mk 2 .phase, .mk 3 .phase, .mk 4 .phase, .mk 5 .phase], none⟩ ?_; simp only [Act.put, sA, sB, sC]
              refine wpAnyH_ready (rs := [7]) (by kernel_rfl) (by simp) (AllReadyH.cons (o := ⟨none, .store 31 (.tmp 17) (.tmp 16), 0, "produce.go:95", #[.mk 6 .data, .mk 5 .data, .mk 5 .chain, .mk 0 .phase, .mk 1 .phase, .mk 2 .phase, .mk 3 .phase, .mk 4 .phase, .mk 5 .phase], none⟩) rfl (fun KK hK => ?_) AllReadyH.nil)
              · have hs := hs.p1
                have q1 := hs.rawFree 1
                have z1 := hs.rawCell 1
                simp at z1
                rw [if_pos (by rfl)]
                refine op_skip (w' := w'.setCell ⟨tb, 1, none⟩ (.slice qv (k + 1) cv)) (by go_simp) ?_
                obtain ⟨wz, ez, hs⟩ := hs.setExP 1 (.slice qv (k + 1) cv)
                rw [ez]
                clear ez q1 z1
                have hs := hs.p1
                refine hK.out _ _ (trivial) (fun hHeld => ?_)
                clear hK KK
                try simp only [Act.put]
                refine wpAnyH_done (by kernel_rfl) ?_ _
                clear hHeld
                have HK3 := Lib.hid hk3
                clear hk3
                replace H := Lib.hid hs
                clear hs
                go_wp2_with (go_at_call 23; (try clear y0 y1 w0 w1 v0 v1); (with_reducible refine (p_err p i3 0 HER.out H.out.p2).mono ?_); rintro e_ wn ⟨rfl, h⟩; have h := h.p2.p2; have y0 := h.p1.rawCell 0; have y1 := h.p1.rawCell 1; have w0 := h.p3.rawFree 0; have w1 := h.p3.rawFree 1; have v0 := h.p3.rawCell 0; have v1 := h.p3.rawCell 1; simp at y0 y1 v0 v1; replace H := Lib.hid h; clear h)
                go_roundw
                case rel =>
                 obtain ⟨hn2, hlb, hkb, hmb⟩ := hgd HER.out
                 subst hn2
                 refine ⟨k + 1, .slice qv (k + 1) cv, xs ++ [.int .i64 a, .slice q lr.length cap], i3, acc ++ [⟨a, lr, q, cap⟩], K3, hlt, by go_num, ?_, ?_, ?_, ?_, ?_, ?_, ?_⟩
                 · exact Lib.hid (by rw [List.length_append, ← HAL.out]; rfl)
                 · exact Lib.hid (by rw [List.flatMap_append, HXS.out]; rfl)
                 · exact Lib.hid (by rw [List.map_append]; have := HP2.out; rw [← hlb] at this; exact this)
                 · exact Lib.hid (Know.has_trans HK3.out HKK.out)
                 · exact Lib.hid (fun x hx => by
                   rcases List.mem_append.1 hx with hx | hx
                   · exact ⟨Know.has_trans HK3.out (HALL.out x hx).1, (HALL.out x hx).2⟩
                   · rw [List.mem_singleton.1 hx]; exact ⟨hkb, hmb⟩)
                 · exact Lib.hid HS3.out
                 · exact H.out
                case measure => first | (simp [intOf]; done) | (simp [intOf]; omega)
        · rw [if_pos (by rfl)]
          refine op_value (exec_buildP12 _ _ _ _ (by kernel_rfl) (buildPV12 a (.slice q n2 cap) _)) ?_
          obtain ⟨wy, b2, ey, eb, hs⟩ := hs.allocEx #[.int .i64 a, .slice q n2 cap] 36
          rw [ey, eb]
          clear ey eb
          refine hK.out _ _ (trivial) (fun hHeld => ?_)
          clear hK KK
          try simp only [Act.put, sA, sB, sC]
          refine wpAnyH_ready (rs := [1]) (by kernel_rfl) (by simp) (AllReadyH.cons (o := ⟨some 12, .load 31 (.tmp 11), 31, "produce.go:95", #[.mk 0 .data], none⟩) rfl (fun KK hK => ?_) AllReadyH.nil)
          · have z1 := hs.p2.rawCell 1
            simp at z1
            go_simp
            refine hK.out _ _ (trivial) (fun hHeld => ?_)
            clear hK KK
            try simp only [Act.put, sA, sB, sC]
            clear z1
            refine wpAnyH_ready (rs := [5]) (by kernel_rfl) (by simp) (AllReadyH.cons (o := ⟨some 16, .call { callee := .builtin .append, args := #[.tmp 12, .tmp 15], argTypes := #[31, 31] }, 31, "produce.go:95", #[.mk 1 .data, .mk 4 .data, .mk 3 .chain], none⟩) rfl (fun KK hK => ?_) AllReadyH.nil)
            · rw [if_pos (by rfl)]
              refine op_app1 (.tmp 12) (.tmp 15) 31 rfl 36 Try.underlying31 elem_partP _ _ _ (by rfl) b2 #[.int .i64 a, .slice q n2 cap] 36 hs (by rfl) rfl (by simp [Value.oneCell']) (by have := HKN.out; unfold maxLen; omega) (by have := HKN.out; omega) (fun v' w' h => ?_)
              have hs := h
              clear h
              obtain ⟨qv, cv, hv⟩ := hs.rowAny
              subst hv
              refine hK.out _ _ (trivial) (fun hHeld => ?_)
              clear hK KK
              try simp only [Act.put, sA, sB, sC]
              refine tQ 6 ⟨some 17, .fieldAddr 33 (.tmp 3) 1, 0, "produce.go:95", #[.mk 0 .phase, .mk 1 .phase, .mk 2 .phase, .mk 3 .phase, .mk 4 .phase, .mk 5 .phase], none⟩ ?_; simp only [Act.put, sA, sB, sC]
              refine wpAnyH_ready (rs := [7]) (by kernel_rfl) (by simp) (AllReadyH.cons (o := ⟨none, .store 31 (.tmp 17) (.tmp 16), 0, "produce.go:95", #[.mk 6 .data, .mk 5 .data, .mk 5 .chain, .mk 0 .phase, .mk 1 .phase, .mk 2 .phase, .mk 3 .phase, .mk 4 .phase, .mk 5 .phase], none⟩) rfl (fun KK hK => ?_) AllReadyH.nil)
              · have hs := hs.p1
                have q1 := hs.rawFree 1
                have z1 := hs.rawCell 1
                simp at z1
                rw [if_pos (by rfl)]
                refine op_skip (w' := w'.setCell ⟨tb, 1, none⟩ (.slice qv (k + 1) cv)) (by go_simp) ?_
                obtain ⟨wz, ez, hs⟩ := hs.setExP 1 (.slice qv (k + 1) cv)
                rw [ez]
                clear ez q1 z1
                have hs := hs.p1
                refine hK.out _ _ (trivial) (fun hHeld => ?_)
                clear hK KK
                try simp only [Act.put]
                refine wpAnyH_done (by kernel_rfl) ?_ _
                clear hHeld
                have HK3 := Lib.hid hk3
                clear hk3
                replace H := Lib.hid hs
                clear hs
                go_wp2_with (go_at_call 23; (try clear y0 y1 w0 w1 v0 v1); (with_reducible refine (p_err p i3 0 HER.out H.out.p2).mono ?_); rintro e_ wn ⟨rfl, h⟩; have h := h.p2.p2; have y0 := h.p1.rawCell 0; have y1 := h.p1.rawCell 1; have w0 := h.p3.rawFree 0; have w1 := h.p3.rawFree 1; have v0 := h.p3.rawCell 0; have v1 := h.p3.rawCell 1; simp at y0 y1 v0 v1; replace H := Lib.hid h; clear h)
                go_roundw
                case rel =>
                 obtain ⟨hn2, hlb, hkb, hmb⟩ := hgd HER.out
                 subst hn2
                 refine ⟨k + 1, .slice qv (k + 1) cv, xs ++ [.int .i64 a, .slice q lr.length cap], i3, acc ++ [⟨a, lr, q, cap⟩], K3, hlt, by go_num, ?_, ?_, ?_, ?_, ?_, ?_, ?_⟩
                 · exact Lib.hid (by rw [List.length_append, ← HAL.out]; rfl)
                 · exact Lib.hid (by rw [List.flatMap_append, HXS.out]; rfl)
                 · exact Lib.hid (by rw [List.map_append]; have := HP2.out; rw [← hlb] at this; exact this)
                 · exact Lib.hid (Know.has_trans HK3.out HKK.out)
                 · exact Lib.hid (fun x hx => by
                   rcases List.mem_append.1 hx with hx | hx
                   · exact ⟨Know.has_trans HK3.out (HALL.out x hx).1, (HALL.out x hx).2⟩
                   · rw [List.mem_singleton.1 hx]; exact ⟨hkb, hmb⟩)
                 · exact Lib.hid HS3.out
                 · exact H.out
                case measure => first | (simp [intOf]; done) | (simp [intOf]; omega)
    · rw [if_neg he0] at hstep
      simp only [Prod.mk.injEq] at hstep
      obtain ⟨rfl, rfl⟩ := hstep
      have gz : (er == 0) = false := by rw [beq_eq_false_iff_ne]; exact he0
      have gz3 : (er != 0) = true := by simp [bne, gz]
      have HE0 := Lib.hid he0
      clear he0 her
      go_wp2_with fail
      have hs := H.out.drew
      refine wp_region_held_drew (S := fun _ => True) (by kernel_rfl) trivial (fun hHeld => ?_)
      refine tQ 0 ⟨some 11, .fieldAddr 33 (.tmp 3) 1, 0, "produce.go:95", #[], none⟩ ?_; simp only [Act.put, sA, sB, sC]
      refine tQ 2 ⟨some 13, .move (.tmp 0), 23, "produce.go:95", #[], none⟩ ?_; simp only [Act.put, sA, sB, sC]
      refine wpAnyH_ready (rs := [1, 3]) (by kernel_rfl) (by simp) (AllReadyH.cons (o := ⟨some 12, .load 31 (.tmp 11), 31, "produce.go:95", #[.mk 0 .data], none⟩) rfl (fun KK hK => ?_) (AllReadyH.cons (o := ⟨some 14, .call { callee := .value (.func 50), args := #[.tmp 13], argTypes := #[23] }, 36, "produce.go:95", #[.mk 2 .data], none⟩) rfl (fun KK hK => ?_) AllReadyH.nil))
      · have z1 := hs.p1.rawCell 1
        simp at z1
        go_simp
        refine hK.out _ _ (trivial) (fun hHeld => ?_)
        clear hK KK
        try simp only [Act.put, sA, sB, sC]
        clear z1
        refine wpAnyH_ready (rs := [3]) (by kernel_rfl) (by simp) (AllReadyH.cons (o := ⟨some 14, .call { callee := .value (.func 50), args := #[.tmp 13], argTypes := #[23] }, 36, "produce.go:95", #[.mk 2 .data], none⟩) rfl (fun KK hK => ?_) AllReadyH.nil)
        · go_simp
          go_at_call 50
          with_reducible refine (read_part p i2 i3 a bl HX.out (Nat.le_trans (part_len12 _) (by rw [HS.out]; exact HDL.out)) hs.p2).mono ?_
          rintro e wq ⟨q, n2, cap, lr, K3, rfl, hk3, hgd, hs⟩
          refine hK.out _ _ (trivial) (fun hHeld => ?_)
          clear hK KK
          try simp only [Act.put, sA, sB, sC]
          have hs := hs.p2.p2
          refine wpAnyH_ready (rs := [4]) (by kernel_rfl) (by simp) (AllReadyH.cons (o := ⟨some 15, .buildSlice 31 1 #[(0, .tmp 14)], 31, "produce.go:95", #[.mk 3 .data], none⟩) rfl (fun KK hK => ?_) AllReadyH.nil)
          · rw [if_pos (by rfl)]
            refine op_value (exec_buildP12 _ _ _ _ (by kernel_rfl) (buildPV12 a (.slice q n2 cap) _)) ?_
            obtain ⟨wy, b2, ey, eb, hs⟩ := hs.allocEx #[.int .i64 a, .slice q n2 cap] 36
            rw [ey, eb]
            clear ey eb
            refine hK.out _ _ (trivial) (fun hHeld => ?_)
            clear hK KK
            try simp only [Act.put, sA, sB, sC]
            refine wpAnyH_ready (rs := [5]) (by kernel_rfl) (by simp) (AllReadyH.cons (o := ⟨some 16, .call { callee := .builtin .append, args := #[.tmp 12, .tmp 15], argTypes := #[31, 31] }, 31, "produce.go:95", #[.mk 1 .data, .mk 4 .data, .mk 3 .chain], none⟩) rfl (fun KK hK => ?_) AllReadyH.nil)
            · rw [if_pos (by rfl)]
              refine op_app1 (.tmp 12) (.tmp 15) 31 rfl 36 Try.underlying31 elem_partP _ _ _ (by rfl) b2 #[.int .i64 a, .slice q n2 cap] 36 hs (by rfl) rfl (by simp [Value.oneCell']) (by have := HKN.out; unfold maxLen; omega) (by have := HKN.out; omega) (fun v' w' h => ?_)
              have hs := h
              clear h
              obtain ⟨qv, cv, hv⟩ := hs.rowAny
              subst hv
              refine hK.out _ _ (trivial) (fun hHeld => ?_)
              clear hK KK
              try simp only [Act.put, sA, sB, sC]
              refine tQ 6 ⟨some 17, .fieldAddr 33 (.tmp 3) 1, 0, "produce.go:95", #[.mk 0 .phase, .mk 1 .phase, .mk 2 .phase, .mk 3 .phase, .mk 4 .phase, .mk 5 .phase], none⟩ ?_; simp only [Act.put, sA, sB, sC]
              refine wpAnyH_ready (rs := [7]) (by kernel_rfl) (by simp) (AllReadyH.cons (o := ⟨none, .store 31 (.tmp 17) (.tmp 16), 0, "produce.go:95", #[.mk 6 .data, .mk 5 .data, .mk 5 .chain, .mk 0 .phase, .mk 1 .phase, .mk 2 .phase, .mk 3 .phase, .mk 4 .phase, .mk 5 .phase], none⟩) rfl (fun KK hK => ?_) AllReadyH.nil)
              · have hs := hs.p1
                have q1 := hs.rawFree 1
                have z1 := hs.rawCell 1
                simp at z1
                rw [if_pos (by rfl)]
                refine op_skip (w' := w'.setCell ⟨tb, 1, none⟩ (.slice qv (k + 1) cv)) (by go_simp) ?_
                obtain ⟨wz, ez, hs⟩ := hs.setExP 1 (.slice qv (k + 1) cv)
                rw [ez]
                clear ez q1 z1
                have hs := hs.p1
                refine hK.out _ _ (trivial) (fun hHeld => ?_)
                clear hK KK
                try simp only [Act.put]
                refine wpAnyH_done (by kernel_rfl) ?_ _
                clear hHeld hgd
                have HK3 := Lib.hid hk3
                clear hk3
                replace H := Lib.hid hs
                clear hs
                go_wp2_with (go_at_call 23; (try clear y0 y1 w0 w1 v0 v1); (with_reducible refine (p_err p i3 er HER.out H.out.p2).mono ?_); rintro e_ wn ⟨rfl, h⟩; have h := h.p2.p2; have y0 := h.p1.rawCell 0; have y1 := h.p1.rawCell 1; have w0 := h.p3.rawFree 0; have w1 := h.p3.rawFree 1; have v0 := h.p3.rawCell 0; have v1 := h.p3.rawCell 1; simp at y0 y1 v0 v1; replace H := Lib.hid h; clear h)
                have hz : St W0 _ _ (.raw rb #[.string (bb n1), .slice qv (k + 1) cv] 33 :: _) := ((H.out.p3.rawSet 0 (.string (bb n1))).rawSet 1 (.slice qv (k + 1) cv))
                refine bodyPost_ret (rc_cell_onlyP rfl _ _ rb [.string (bb n1), .slice qv (k + 1) cv] _ rfl (rc_rangeP hz) Try.underlying33 rfl (by kernel_rfl)) rfl ?_
                exact ⟨qv, k + 1, cv, [], K3, rfl, Know.has_trans HK3.out HKK.out, fun hj => absurd (HER.out.symm.trans hj) HE0.out, hz.drop.drop.drop⟩
      · go_simp
        go_at_call 50
        with_reducible refine (read_part p i2 i3 a bl HX.out (Nat.le_trans (part_len12 _) (by rw [HS.out]; exact HDL.out)) hs.p2).mono ?_
        rintro e wq ⟨q, n2, cap, lr, K3, rfl, hk3, hgd, hs⟩
        refine hK.out _ _ (trivial) (fun hHeld => ?_)
        clear hK KK
        try simp only [Act.put, sA, sB, sC]
        have hs := hs.p2.p2
        refine wpAnyH_ready (rs := [1, 4]) (by kernel_rfl) (by simp) (AllReadyH.cons (o := ⟨some 12, .load 31 (.tmp 11), 31, "produce.go:95", #[.mk 0 .data], none⟩) rfl (fun KK hK => ?_) (AllReadyH.cons (o := ⟨some 15, .buildSlice 31 1 #[(0, .tmp 14)], 31, "produce.go:95", #[.mk 3 .data], none⟩) rfl (fun KK hK => ?_) AllReadyH.nil))
        · have z1 := hs.p1.rawCell 1
          simp at z1
          go_simp
          refine hK.out _ _ (trivial) (fun hHeld => ?_)
          clear hK KK
          try simp only [Act.put, sA, sB, sC]
          clear z1
          refine wpAnyH_ready (rs := [4]) (by kernel_rfl) (by simp) (AllReadyH.cons (o := ⟨some 15, .buildSlice 31 1 #[(0, .tmp 14)], 31, "produce.go:95", #[.mk 3 .data], none⟩) rfl (fun KK hK => ?_) AllReadyH.nil)
          · rw [if_pos (by rfl)]
            refine op_value (exec_buildP12 _ _ _ _ (by kernel_rfl) (buildPV12 a (.slice q n2 cap) _)) ?_
            obtain ⟨wy, b2, ey, eb, hs⟩ := hs.allocEx #[.int .i64 a, .slice q n2 cap] 36
            rw [ey, eb]
            clear ey eb
            refine hK.out _ _ (trivial) (fun hHeld => ?_)
            clear hK KK
            try simp only [Act.put, sA, sB, sC]
            refine wpAnyH_ready (rs := [5]) (by kernel_rfl) (by simp) (AllReadyH.cons (o := ⟨some 16, .call { callee := .builtin .append, args := #[.tmp 12, .tmp 15], argTypes := #[31, 31] }, 31, "produce.go:95", #[.mk 1 .data, .mk 4 .data, .mk 3 .chain], none⟩) rfl (fun KK hK => ?_) AllReadyH.nil)
            · rw [if_pos (by rfl)]
              refine op_app1 (.tmp 12) (.tmp 15) 31 rfl 36 Try.underlying31 elem_partP _ _ _ (by rfl) b2 #[.int .i64 a, .slice q n2 cap] 36 hs (by rfl) rfl (by simp [Value.oneCell']) (by have := HKN.out; unfold maxLen; omega) (by have := HKN.out; omega) (fun v' w' h => ?_)
              have hs := h
              clear h
              obtain ⟨qv, cv, hv⟩ := hs.rowAny
              subst hv
              refine hK.out _ _ (trivial) (fun hHeld => ?_)
              clear hK KK
              try simp only [Act.put, sA, sB, sC]
              refine tQ 6 ⟨some 17, .fieldAddr 33 (.tmp 3) 1, 0, "produce.go:95", #[.mk 0 .phase, .mk 1 .phase, .mk 2 .phase, .mk 3 .phase, .mk 4 .phase, .mk 5 .phase], none⟩ ?_; simp only [Act.put, sA, sB, sC]
              refine wpAnyH_ready (rs := [7]) (by kernel_rfl) (by simp) (AllReadyH.cons (o := ⟨none, .store 31 (.tmp 17) (.tmp 16), 0, "produce.go:95", #[.mk 6 .data, .mk 5 .data, .mk 5 .chain, .mk 0 .phase, .mk 1 .phase, .mk 2 .phase, .mk 3 .phase, .mk 4 .phase, .mk 5 .phase], none⟩) rfl (fun KK hK => ?_) AllReadyH.nil)
              · have hs := hs.p1
                have q1 := hs.rawFree 1
                have z1 := hs.rawCell 1
                simp at z1
                rw [if_pos (by rfl)]
                refine op_skip (w' := w'.setCell ⟨tb, 1, none⟩ (.slice qv (k + 1) cv)) (by go_simp) ?_
                obtain ⟨wz, ez, hs⟩ := hs.setExP 1 (.slice qv (k + 1) cv)
                rw [ez]
                clear ez q1 z1
                have hs := hs.p1
                refine hK.out _ _ (trivial) (fun hHeld => ?_)
                clear hK KK
                try simp only [Act.put]
                refine wpAnyH_done (by kernel_rfl) ?_ _
                clear hHeld hgd
                have HK3 := Lib.hid hk3
                clear hk3
                replace H := Lib.hid hs
                clear hs
                go_wp2_with (go_at_call 23; (try clear y0 y1 w0 w1 v0 v1); (with_reducible refine (p_err p i3 er HER.out H.out.p2).mono ?_); rintro e_ wn ⟨rfl, h⟩; have h := h.p2.p2; have y0 := h.p1.rawCell 0; have y1 := h.p1.rawCell 1; have w0 := h.p3.rawFree 0; have w1 := h.p3.rawFree 1; have v0 := h.p3.rawCell 0; have v1 := h.p3.rawCell 1; simp at y0 y1 v0 v1; replace H := Lib.hid h; clear h)
                have hz : St W0 _ _ (.raw rb #[.string (bb n1), .slice qv (k + 1) cv] 33 :: _) := ((H.out.p3.rawSet 0 (.string (bb n1))).rawSet 1 (.slice qv (k + 1) cv))
                refine bodyPost_ret (rc_cell_onlyP rfl _ _ rb [.string (bb n1), .slice qv (k + 1) cv] _ rfl (rc_rangeP hz) Try.underlying33 rfl (by kernel_rfl)) rfl ?_
                exact ⟨qv, k + 1, cv, [], K3, rfl, Know.has_trans HK3.out HKK.out, fun hj => absurd (HER.out.symm.trans hj) HE0.out, hz.drop.drop.drop⟩
        · rw [if_pos (by rfl)]
          refine op_value (exec_buildP12 _ _ _ _ (by kernel_rfl) (buildPV12 a (.slice q n2 cap) _)) ?_
          obtain ⟨wy, b2, ey, eb, hs⟩ := hs.allocEx #[.int .i64 a, .slice q n2 cap] 36
          rw [ey, eb]
          clear ey eb
          refine hK.out _ _ (trivial) (fun hHeld => ?_)
          clear hK KK
          try simp only [Act.put, sA, sB, sC]
          refine wpAnyH_ready (rs := [1]) (by kernel_rfl) (by simp) (AllReadyH.cons (o := ⟨some 12, .load 31 (.tmp 11), 31, "produce.go:95", #[.mk 0 .data], none⟩) rfl (fun KK hK => ?_) AllReadyH.nil)
          · have z1 := hs.p2.rawCell 1
            simp at z1
            go_simp
            refine hK.out _ _ (trivial) (fun hHeld => ?_)
            clear hK KK
            try simp only [Act.put, sA, sB, sC]
            clear z1
            refine wpAnyH_ready (rs := [5]) (by kernel_rfl) (by simp) (AllReadyH.cons (o := ⟨some 16, .call { callee := .builtin .append, args := #[.tmp 12, .tmp 15], argTypes := #[31, 31] }, 31, "produce.go:95", #[.mk 1 .data, .mk 4 .data, .mk 3 .chain], none⟩) rfl (fun KK hK => ?_) AllReadyH.nil)
            · rw [if_pos (by rfl)]
              refine op_app1 (.tmp 12) (.tmp 15) 31 rfl 36 Try.underlying31 elem_partP _ _ _ (by rfl) b2 #[.int .i64 a, .slice q n2 cap] 36 hs (by rfl) rfl (by simp [Value.oneCell']) (by have := HKN.out; unfold maxLen; omega) (by have := HKN.out; omega) (fun v' w' h => ?_)
              have hs := h
              clear h
              obtain ⟨qv, cv, hv⟩ := hs.rowAny
              subst hv
              refine hK.out _ _ (trivial) (fun hHeld => ?_)
              clear hK KK
              try simp only [Act.put, sA, sB, sC]
              refine tQ 6 ⟨some 17, .fieldAddr 33 (.tmp 3) 1, 0, "produce.go:95", #[.mk 0 .phase, .mk 1 .phase, .mk 2 .phase, .mk 3 .phase, .mk 4 .phase, .mk 5 .phase], none⟩ ?_; simp only [Act.put, sA, sB, sC]
              refine wpAnyH_ready (rs := [7]) (by kernel_rfl) (by simp) (AllReadyH.cons (o := ⟨none, .store 31 (.tmp 17) (.tmp 16), 0, "produce.go:95", #[.mk 6 .data, .mk 5 .data, .mk 5 .chain, .mk 0 .phase, .mk 1 .phase, .mk 2 .phase, .mk 3 .phase, .mk 4 .phase, .mk 5 .phase], none⟩) rfl (fun KK hK => ?_) AllReadyH.nil)
              · have hs := hs.p1
                have q1 := hs.rawFree 1
                have z1 := hs.rawCell 1
                simp at z1
                rw [if_pos (by rfl)]
                refine op_skip (w' := w'.setCell ⟨tb, 1, none⟩ (.slice qv (k + 1) cv)) (by go_simp) ?_
                obtain ⟨wz, ez, hs⟩ := hs.setExP 1 (.slice qv (k + 1) cv)
                rw [ez]
                clear ez q1 z1
                have hs := hs.p1
                refine hK.out _ _ (trivial) (fun hHeld => ?_)
                clear hK KK
                try simp only [Act.put]
                refine wpAnyH_done (by kernel_rfl) ?_ _
                clear hHeld hgd
                have HK3 := Lib.hid hk3
                clear hk3
                replace H := Lib.hid hs
                clear hs
                go_wp2_with (go_at_call 23; (try clear y0 y1 w0 w1 v0 v1); (with_reducible refine (p_err p i3 er HER.out H.out.p2).mono ?_); rintro e_ wn ⟨rfl, h⟩; have h := h.p2.p2; have y0 := h.p1.rawCell 0; have y1 := h.p1.rawCell 1; have w0 := h.p3.rawFree 0; have w1 := h.p3.rawFree 1; have v0 := h.p3.rawCell 0; have v1 := h.p3.rawCell 1; simp at y0 y1 v0 v1; replace H := Lib.hid h; clear h)
                have hz : St W0 _ _ (.raw rb #[.string (bb n1), .slice qv (k + 1) cv] 33 :: _) := ((H.out.p3.rawSet 0 (.string (bb n1))).rawSet 1 (.slice qv (k + 1) cv))
                refine bodyPost_ret (rc_cell_onlyP rfl _ _ rb [.string (bb n1), .slice qv (k + 1) cv] _ rfl (rc_rangeP hz) Try.underlying33 rfl (by kernel_rfl)) rfl ?_
                exact ⟨qv, k + 1, cv, [], K3, rfl, Know.has_trans HK3.out HKK.out, fun hj => absurd (HER.out.symm.trans hj) HE0.out, hz.drop.drop.drop⟩
  · obtain rfl : k = n := by omega
    have hp := HP.out
    rw [Nat.sub_self] at hp
    have hp : (acc.map PartR.pb, i2) = (ps, j) := hp
    simp only [Prod.mk.injEq] at hp
    obtain ⟨hpl, rfl⟩ := hp
    have HPL := Lib.hid hpl
    clear hpl
    go_wp2
    have hz : St W0 _ _ (.raw rb #[.string (bb n1), .slice qv0 k cv0] 33 :: _) := ((H.out.p3.rawSet 0 (.string (bb n1))).rawSet 1 (.slice qv0 k cv0))
    refine bodyPost_ret (rc_cell_onlyP rfl _ _ rb [.string (bb n1), .slice qv0 k cv0] _ rfl (rc_rangeP hz) Try.underlying33 rfl (by kernel_rfl)) rfl ?_
    have hr := hz.drop
    have hn := HAL.out
    have hxs := HXS.out
    subst hn
    subst hxs
    have hf := hr.freezeParts (fun x hx => (HALL.out x hx).1)
    exact ⟨qv0, _, cv0, acc, K2.and (Know.pparts (.slice qv0 acc.length cv0) acc), rfl, Know.has_trans (Know.has_left (Know.has_refl _)) HKK.out, fun _ => ⟨rfl, HPL.out, Know.has_right (Know.has_refl _), fun x hx => (HALL.out x hx).2⟩, hf.drop⟩
theorem buildTV13 (a sl : Value) (w : World) : (Instr.buildSlice 27 1 #[(0, .agg #[a, sl])]).run Try.prog w = .ok (.slice (some ⟨w.heap.size, 0, none⟩) 1 1) (w.alloc (.cells #[a, sl] 33 (0, 0))) := by go_simp
theorem exec_buildT13 {o : Oper} {ρ : Operand → Value} (ps : Array (Nat × Value)) (v : Value) (w w' : World) (ho : execOp ρ o = (do pure (Next.value (← Instr.buildSlice 27 1 ps)))) (hb : (Instr.buildSlice 27 1 ps).run Try.prog w = .ok v w') : (execOp ρ o).run Try.prog w = .ok (.value v) w' := by
 rw [ho]
 simp [hb]
theorem St.sets5P {W0 w : World} {K : Know} {L : List Res} {b : Nat} {T : TypeId} {a0 a1 a2 a3 a4 : Value} (v0 v1 v2 v3 v4 : Value) (h : St W0 w K (.raw b #[a0, a1, a2, a3, a4] T :: L)) : St W0 (((((w.setCell ⟨b, 0, none⟩ v0).setCell ⟨b, 1, none⟩ v1).setCell ⟨b, 2, none⟩ v2).setCell ⟨b, 3, none⟩ v3).setCell ⟨b, 4, none⟩ v4) K (.raw b #[v0, v1, v2, v3, v4] T :: L) := by
 have h : St W0 _ K (.raw b #[v0, a1, a2, a3, a4] T :: L) := h.rawSet 0 v0
 have h : St W0 _ K (.raw b #[v0, v1, a2, a3, a4] T :: L) := h.rawSet 1 v1
 have h : St W0 _ K (.raw b #[v0, v1, v2, a3, a4] T :: L) := h.rawSet 2 v2
 have h : St W0 _ K (.raw b #[v0, v1, v2, v3, a4] T :: L) := h.rawSet 3 v3
 have h : St W0 _ K (.raw b #[v0, v1, v2, v3, v4] T :: L) := h.rawSet 4 v4
 exact h
theorem St.freezeTopsK {W0 w : World} {K : Know} {L : List Res} {v : Value} {T : TypeId} {l : List PTop} {k : Nat} {xs : List Value} (h : St W0 w K (.row v T 2 k xs :: L)) (hk : k = l.length) (hx : xs = l.flatMap ptcells) (ht : ∀ x ∈ l, K.has (Know.pparts (.slice x.q x.l.length x.cap) x.l)) : St W0 w (K.and (Know.ptops v l)) L := by
 subst hk
 subst hx
 exact h.freezeTopsP ht
theorem preq_checkK (nl : Bool) (dd : Bs) (ac tm v : Int) (l : List PTop) (q : Option Addr) (cap n : Nat) (hn : n = l.length) (hdd : dd.length ≤ 140737488355328) (hf : ∀ x ∈ l, CkT x) (hll : l.length ≤ 1000000) (e : Int) (he : errReq ⟨nl, dd⟩ ac tm v l = e) {W0 w : World} {K : Know} {L : List Res} (hk : K.has (Know.ptops (.slice q n cap) l)) (h : St W0 w K L) :
  Calls Try.prog 18 #[.agg #[.bool nl, .string (bb dd), .int .i64 ac, .int .i64 tm, .slice q n cap], .int .i64 v] w fun en w' => en = .returned (.int .i64 e) ∧ St W0 w' K L := by
 subst hn
 exact preq_check nl dd ac tm v l q cap hdd hf hll e he hk h

end Go.Proofs.Ytnnnglklgofabaa
