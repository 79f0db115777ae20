/- A text. -/
import Derived.Test.YtnnnglklgofabaaGProduceBatches9
/- A text. -/
namespace Go.Proofs.Ytnnnglklgofabaa
open Go.RowKit

set_option maxHeartbeats 8000000 in
set_option maxRecDepth 100000 in
theorem read_req_false (p : Nat) (v : Int) (i i1 i2 i3 c j : InS) (dd : Bs) (ac tm : Int) (n : Nat) (ts : List (Bs × List (Int × List BatS))) (h1 : i.fixed 2 = (⟨false, dd⟩, i1)) (h2 : i1.int 2 = (ac, i2)) (h3 : i2.int 4 = (tm, i3)) (h4 : i3.cnt 6 = (n, c)) (h5 : InS.ptopsN n [] c = (ts, j)) (hd : i.s.length ≤ 1000000) {W0 w : World} {K : Know} {L : List Res} (h : St W0 w K (.inp p i :: L)) :
  Calls Try.prog 7 #[inPtr p, .int .i64 v] w fun en w' => (j.err ≠ 0 ∧ ∃ K2 : Know, en = .returned (.agg #[.bool false, .string ⟨#[]⟩, .int .i64 0, .int .i64 0, .slice none 0 0]) ∧ K2.has K ∧ St W0 w' K2 (.inp p j :: L)) ∨ (j.err = 0 ∧ ∃ (q : Option Addr) (cap : Nat) (lr : List PTop) (K2 : Know), K2.has K ∧ lr.map PTop.pt = ts ∧ (∀ x ∈ lr, CkT x) ∧ lr.length ≤ 1000000 ∧ (∀ x ∈ lr, PtOk i.s.length x.pt ∧ ∀ y ∈ x.l, ∀ z ∈ y.l, z.l.map (·.1) = z.b.recs) ∧ ((errReq ⟨false, dd⟩ ac tm v lr = 0 ∧ en = .returned (.agg #[.bool false, .string (bb dd), .int .i64 ac, .int .i64 tm, .slice q lr.length cap]) ∧ K2.has (Know.ptops (.slice q lr.length cap) lr) ∧ St W0 w' K2 (.inp p j :: L)) ∨ (errReq ⟨false, dd⟩ ac tm v lr ≠ 0 ∧ en = .returned (.agg #[.bool false, .string ⟨#[]⟩, .int .i64 0, .int .i64 0, .slice none 0 0]) ∧ St W0 w' K2 (.inp p (j.fail (errReq ⟨false, dd⟩ ac tm v lr)) :: L)))) := by
 have s1 : i1.s = i.s := by have := (fixed_s12 i 2).1; rw [h1] at this; exact this
 have s2 : i2.s = i1.s := by have := int_s12 i1 2; rw [h2] at this; exact this
 have s3 : i3.s = i2.s := by have := int_s12 i2 4; rw [h3] at this; exact this
 have s4 : c.s = i3.s := by have := cnt_s12 i3 6; rw [h4] at this; exact this
 have hs0 : c.s = i.s := by rw [s4, s3, s2, s1]
 have hn9 : n ≤ 1000000 := by have h9 := cnt_le13 i3 6 (by decide); rw [h4, s3, s2, s1] at h9; exact Nat.le_trans h9 hd
 have hok : ts.length ≤ 1000000 ∧ ∀ x ∈ ts, PtOk i.s.length x := by
  have h9 := ptopsN_ok (M := i.s.length) n [] c (by rw [hs0]; exact Nat.le_refl _) (fun x hx => by cases hx)
  rw [h5, List.length_nil] at h9
  exact ⟨Nat.le_trans h9.1 (by omega), h9.2⟩
 have hdd : dd.length ≤ 140737488355328 := by have h9 := (fixed_s12 i 2).2; rw [h1] at h9; have h9 : dd.length ≤ i.s.length := h9; omega
 obtain ⟨rb, hrb⟩ : ∃ b, w.heap.size = b := ⟨_, rfl⟩
 obtain ⟨tb, htb⟩ : ∃ b, rb + 1 = b := ⟨_, rfl⟩
 have g1 := ((h.allocRaw #[.bool false, .string ⟨#[]⟩, .int .i64 0, .int .i64 0, .slice none 0 0] 29).allocRaw #[.bool false, .string ⟨#[]⟩, .int .i64 0, .int .i64 0, .slice none 0 0] 29).p2
 simp only [World.size_alloc, hrb, htb] at g1
 have H := Lib.hid g1
 have H1 := Lib.hid h1
 have H2 := Lib.hid h2
 have H3 := Lib.hid h3
 have H4 := Lib.hid h4
 have HX0 := Lib.hid h5
 have HS0 := Lib.hid hs0
 have HDL := Lib.hid hd
 have HOK := Lib.hid hok
 have HDD := Lib.hid hdd
 have HNL := Lib.hid hn9
 have hni : (n : Int) ≤ 1000000 := by omega
 clear h g1 h1 h2 h3 h4 h5 hd hs0 hok hdd hn9 s1 s2 s3 s4
 go_enter Try.func7, Try.ntmps7
 go_wp2_with (first
  | (go_at_call 19; (try clear x0 x1 x2 x3); (with_reducible refine (p_fixed p i i1 2 false dd H1.out H.out).mono ?_); rintro e_ wn ⟨rfl, h⟩; have h := h.p1; have x0 := h.rawFree 0; have x1 := h.rawCell 0; have x2 := h.rawFree 1; have x3 := h.rawCell 1; simp at x1 x3; have h := (show St W0 ((wn.setCell ⟨tb, 0, none⟩ (.bool false)).setCell ⟨tb, 1, none⟩ (.string (bb dd))) K (.inp p i1 :: .raw tb #[.bool false, .string (bb dd), .int .i64 0, .int .i64 0, .slice none 0 0] 29 :: .raw rb #[.bool false, .string ⟨#[]⟩, .int .i64 0, .int .i64 0, .slice none 0 0] 29 :: L) from ((h.rawSet 0 (.bool false)).rawSet 1 (.string (bb dd))).p1); replace H := Lib.hid h; clear h)
  | (go_at_call 20; (try clear x0 x1 x2 x3); (with_reducible refine (p_int p i1 i2 ac 2 H2.out H.out).mono ?_); rintro e_ wn ⟨rfl, h⟩; have h := h.p1; have x0 := h.rawFree 2; have x1 := h.rawCell 2; simp at x1; have h := (show St W0 (wn.setCell ⟨tb, 2, none⟩ (.int .i64 ac)) K (.inp p i2 :: .raw tb #[.bool false, .string (bb dd), .int .i64 ac, .int .i64 0, .slice none 0 0] 29 :: .raw rb #[.bool false, .string ⟨#[]⟩, .int .i64 0, .int .i64 0, .slice none 0 0] 29 :: L) from (h.rawSet 2 (.int .i64 ac)).p1); replace H := Lib.hid h; clear h)
  | (go_at_call 20; (try clear x0 x1 x2 x3); (with_reducible refine (p_int p i2 i3 tm 4 H3.out H.out).mono ?_); rintro e_ wn ⟨rfl, h⟩; have h := h.p1; have x0 := h.rawFree 3; have x1 := h.rawCell 3; simp at x1; have h := (show St W0 (wn.setCell ⟨tb, 3, none⟩ (.int .i64 tm)) K (.inp p i3 :: .raw tb #[.bool false, .string (bb dd), .int .i64 ac, .int .i64 tm, .slice none 0 0] 29 :: .raw rb #[.bool false, .string ⟨#[]⟩, .int .i64 0, .int .i64 0, .slice none 0 0] 29 :: L) from (h.rawSet 3 (.int .i64 tm)).p1); replace H := Lib.hid h; clear h)
  | (go_at_call 21; (try clear x0 x1 x2 x3); (with_reducible refine (p_cnt p i3 c 6 n 6 rfl H4.out H.out).mono ?_); rintro e_ wn ⟨rfl, h⟩; replace H := Lib.hid h; clear h))
 go_loopw [18] (fun iv wr => ∃ (k : Nat) (v : Value) (xs : List Value) (i2 : InS) (acc : List PTop) (K2 : Know), k ≤ n ∧ iv = .int .i64 k ∧ Hid (k = acc.length) ∧ Hid (xs = acc.flatMap ptcells) ∧ Hid (InS.ptopsN (n - k) (acc.map PTop.pt) i2 = (ts, j)) ∧ Hid (K2.has K) ∧ Hid (∀ x ∈ acc, K2.has (Know.pparts (.slice x.q x.l.length x.cap) x.l) ∧ ∀ y ∈ x.l, ∀ z ∈ y.l, z.l.map (·.1) = z.b.recs) ∧ Hid (i2.s = i.s) ∧ St W0 wr K2 (.row v 33 2 k xs :: .raw tb #[.bool false, .string (bb dd), .int .i64 ac, .int .i64 tm, v] 29 :: .inp p i2 :: .raw rb #[.bool false, .string ⟨#[]⟩, .int .i64 0, .int .i64 0, .slice none 0 0] 29 :: L)) (fun iv _ => n - (intOf iv).toNat)
 case atStart =>
  refine ⟨0, .slice none 0 0, [], c, [], K, Nat.zero_le _, rfl, Lib.hid rfl, Lib.hid rfl, Lib.hid HX0.out, Lib.hid (Know.has_refl _), Lib.hid (fun x hx => by cases hx), Lib.hid HS0.out, ?_⟩
  exact (H.out.p1.nilRow 33 2)
 case round =>
  obtain ⟨k, v9, xs, i2, acc, K2, hk, rfl, HAL, HXS, HP, HKK, HALL, HS, hst⟩ := hrel
  clear H
  obtain ⟨qv0, cv0, hv0⟩ := hst.rowAny
  subst hv0
  have H := Lib.hid hst
  clear hst
  by_cases hlt : k < n
  · obtain ⟨⟨⟨nm, pl⟩, i3⟩, hi3⟩ : ∃ r, i2.ptop = r := ⟨_, rfl⟩
    obtain ⟨er, her⟩ : ∃ er, i3.err = er := ⟨_, rfl⟩
    have HX := Lib.hid hi3
    have HS3 := Lib.hid (show i3.s = i.s by have := ptop_s12 i2; rw [hi3] at this; rw [this]; exact HS.out)
    have hstep : (if er = 0 then InS.ptopsN (n - (k + 1)) (acc.map PTop.pt ++ [(nm, pl)]) i3 else ([], i3)) = (ts, j) := by
      have h1 := HP.out
      rw [show n - k = (n - (k + 1)) + 1 by omega] at h1
      have h2 : (if i2.ptop.2.err = 0 then InS.ptopsN (n - (k + 1)) (acc.map PTop.pt ++ [i2.ptop.1]) i2.ptop.2 else ([], i2.ptop.2)) = (ts, j) := h1
      rw [hi3] at h2
      simp only at h2
      rw [her] at h2
      exact h2
    have HKN := Lib.hid (show k ≤ 2147483647 by have := HNL.out; omega)
    have hkn : (k : Int) < (n : Int) := by omega
    have HER := Lib.hid her
    clear hi3
    by_cases he0 : er = 0
    · rw [if_pos he0] at hstep
      have HP2 := Lib.hid hstep
      subst he0
      clear hstep her
      go_wp2_with fail
      have hs := H.out.drew
      refine wp_region_held_drew (S := fun _ => True) (by kernel_rfl) trivial (fun hHeld => ?_)
      refine tQ 0 ⟨some 20, .fieldAddr 29 (.tmp 5) 3, 0, "produce.go:75", #[], none⟩ ?_; simp only [Act.put, sA, sB, sC]
      refine tQ 2 ⟨some 22, .move (.tmp 0), 23, "produce.go:75", #[], none⟩ ?_; simp only [Act.put, sA, sB, sC]
      refine wpAnyH_ready (rs := [1, 3]) (by kernel_rfl) (by simp) (AllReadyH.cons (o := ⟨some 21, .load 27 (.tmp 20), 27, "produce.go:75", #[.mk 0 .data], none⟩) rfl (fun KK hK => ?_) (AllReadyH.cons (o := ⟨some 23, .call { callee := .value (.func 22), args := #[.tmp 22], argTypes := #[23] }, 33, "produce.go:75", #[.mk 2 .data], none⟩) rfl (fun KK hK => ?_) AllReadyH.nil))
      · have z1 := hs.p1.rawCell 4
        simp at z1
        go_simp
        refine hK.out _ _ (trivial) (fun hHeld => ?_)
        clear hK KK
        try simp only [Act.put, sA, sB, sC]
        clear z1
        refine wpAnyH_ready (rs := [3]) (by kernel_rfl) (by simp) (AllReadyH.cons (o := ⟨some 23, .call { callee := .value (.func 22), args := #[.tmp 22], argTypes := #[23] }, 33, "produce.go:75", #[.mk 2 .data], none⟩) rfl (fun KK hK => ?_) AllReadyH.nil)
        · go_simp
          go_at_call 22
          with_reducible refine (read_top p i2 i3 nm pl HX.out (by rw [HS.out]; exact HDL.out) hs.p2).mono ?_
          rintro e wq ⟨q, n2, cap, lr, K3, rfl, hk3, hgd, hs⟩
          refine hK.out _ _ (trivial) (fun hHeld => ?_)
          clear hK KK
          try simp only [Act.put, sA, sB, sC]
          have hs := hs.p2.p2
          refine wpAnyH_ready (rs := [4]) (by kernel_rfl) (by simp) (AllReadyH.cons (o := ⟨some 24, .buildSlice 27 1 #[(0, .tmp 23)], 27, "produce.go:75", #[.mk 3 .data], none⟩) rfl (fun KK hK => ?_) AllReadyH.nil)
          · rw [if_pos (by rfl)]
            refine op_value (exec_buildT13 _ _ _ _ (by kernel_rfl) (buildTV13 (.string (bb nm)) (.slice q n2 cap) _)) ?_
            obtain ⟨wy, b2, ey, eb, hs⟩ := hs.allocEx #[.string (bb nm), .slice q n2 cap] 33
            rw [ey, eb]
            clear ey eb
            refine hK.out _ _ (trivial) (fun hHeld => ?_)
            clear hK KK
            try simp only [Act.put, sA, sB, sC]
            refine wpAnyH_ready (rs := [5]) (by kernel_rfl) (by simp) (AllReadyH.cons (o := ⟨some 25, .call { callee := .builtin .append, args := #[.tmp 21, .tmp 24], argTypes := #[27, 27] }, 27, "produce.go:75", #[.mk 1 .data, .mk 4 .data, .mk 3 .chain], none⟩) rfl (fun KK hK => ?_) AllReadyH.nil)
            · rw [if_pos (by rfl)]
              refine op_app1 (.tmp 21) (.tmp 24) 27 rfl 33 Try.underlying27 elem_topP _ _ _ (by rfl) b2 #[.string (bb nm), .slice q n2 cap] 33 hs (by rfl) rfl (by simp [Value.oneCell']) (by have := HKN.out; unfold maxLen; omega) (by have := HKN.out; omega) (fun v' w' h => ?_)
              have hs := h
              clear h
              obtain ⟨qv, cv, hv⟩ := hs.rowAny
              subst hv
              refine hK.out _ _ (trivial) (fun hHeld => ?_)
              clear hK KK
              try simp only [Act.put, sA, sB, sC]
              refine tQ 6 ⟨some 26, .fieldAddr 29 (.tmp 5) 3, 0, "produce.go:75", #[.mk 0 .phase, .mk 1 .phase, .mk 2 .phase, .mk 3 .phase, .mk 4 .phase, .mk 5 .phase], none⟩ ?_; simp only [Act.put, sA, sB, sC]
              refine wpAnyH_ready (rs := [7]) (by kernel_rfl) (by simp) (AllReadyH.cons (o := ⟨none, .store 27 (.tmp 26) (.tmp 25), 0, "produce.go:75", #[.mk 6 .data, .mk 5 .data, .mk 5 .chain, .mk 0 .phase, .mk 1 .phase, .mk 2 .phase, .mk 3 .phase, .mk 4 .phase, .mk 5 .phase], none⟩) rfl (fun KK hK => ?_) AllReadyH.nil)
              · have hs := hs.p1
                have q1 := hs.rawFree 4
                have z1 := hs.rawCell 4
                simp at z1
                rw [if_pos (by rfl)]
                refine op_skip (w' := w'.setCell ⟨tb, 4, none⟩ (.slice qv (k + 1) cv)) (by go_simp) ?_
                obtain ⟨wz, ez, hs⟩ := hs.setExP 4 (.slice qv (k + 1) cv)
                rw [ez]
                clear ez q1 z1
                have hs := hs.p1
                refine hK.out _ _ (trivial) (fun hHeld => ?_)
                clear hK KK
                try simp only [Act.put]
                refine wpAnyH_done (by kernel_rfl) ?_ _
                clear hHeld
                have HK3 := Lib.hid hk3
                clear hk3
                replace H := Lib.hid hs
                clear hs
                go_wp2_with (go_at_call 23; (try clear y0 y1 y2 y3 y4 w0 w1 w2 w3 w4 v0 v1 v2 v3 v4); (with_reducible refine (p_err p i3 0 HER.out H.out.p2).mono ?_); rintro e_ wn ⟨rfl, h⟩; have h := h.p2.p2; have y0 := h.p1.rawCell 0; have y1 := h.p1.rawCell 1; have y2 := h.p1.rawCell 2; have y3 := h.p1.rawCell 3; have y4 := h.p1.rawCell 4; have w0 := h.p3.rawFree 0; have w1 := h.p3.rawFree 1; have w2 := h.p3.rawFree 2; have w3 := h.p3.rawFree 3; have w4 := h.p3.rawFree 4; have v0 := h.p3.rawCell 0; have v1 := h.p3.rawCell 1; have v2 := h.p3.rawCell 2; have v3 := h.p3.rawCell 3; have v4 := h.p3.rawCell 4; simp at y0 y1 y2 y3 y4 v0 v1 v2 v3 v4; replace H := Lib.hid h; clear h)
                go_roundw
                case rel =>
                 obtain ⟨hn2, hlb, hkb, hmb⟩ := hgd HER.out
                 subst hn2
                 refine ⟨k + 1, .slice qv (k + 1) cv, xs ++ [.string (bb nm), .slice q lr.length cap], i3, acc ++ [⟨nm, lr, q, cap⟩], K3, hlt, by go_num, ?_, ?_, ?_, ?_, ?_, ?_, ?_⟩
                 · exact Lib.hid (by rw [List.length_append, ← HAL.out]; rfl)
                 · exact Lib.hid (by rw [List.flatMap_append, HXS.out]; rfl)
                 · exact Lib.hid (by rw [List.map_append]; have := HP2.out; rw [← hlb] at this; exact this)
                 · exact Lib.hid (Know.has_trans HK3.out HKK.out)
                 · exact Lib.hid (fun x hx => by
                   rcases List.mem_append.1 hx with hx | hx
                   · exact ⟨Know.has_trans HK3.out (HALL.out x hx).1, (HALL.out x hx).2⟩
                   · rw [List.mem_singleton.1 hx]; exact ⟨hkb, hmb⟩)
                 · exact Lib.hid HS3.out
                 · exact H.out
                case measure => first | (simp [intOf]; done) | (simp [intOf]; omega)
      · go_simp
        go_at_call 22
        with_reducible refine (read_top p i2 i3 nm pl HX.out (by rw [HS.out]; exact HDL.out) hs.p2).mono ?_
        rintro e wq ⟨q, n2, cap, lr, K3, rfl, hk3, hgd, hs⟩
        refine hK.out _ _ (trivial) (fun hHeld => ?_)
        clear hK KK
        try simp only [Act.put, sA, sB, sC]
        have hs := hs.p2.p2
        refine wpAnyH_ready (rs := [1, 4]) (by kernel_rfl) (by simp) (AllReadyH.cons (o := ⟨some 21, .load 27 (.tmp 20), 27, "produce.go:75", #[.mk 0 .data], none⟩) rfl (fun KK hK => ?_) (AllReadyH.cons (o := ⟨some 24, .buildSlice 27 1 #[(0, .tmp 23)], 27, "produce.go:75", #[.mk 3 .data], none⟩) rfl (fun KK hK => ?_) AllReadyH.nil))
        · have z1 := hs.p1.rawCell 4
          simp at z1
          go_simp
          refine hK.out _ _ (trivial) (fun hHeld => ?_)
          clear hK KK
          try simp only [Act.put, sA, sB, sC]
          clear z1
          refine wpAnyH_ready (rs := [4]) (by kernel_rfl) (by simp) (AllReadyH.cons (o := ⟨some 24, .buildSlice 27 1 #[(0, .tmp 23)], 27, "produce.go:75", #[.mk 3 .data], none⟩) rfl (fun KK hK => ?_) AllReadyH.nil)
          · rw [if_pos (by rfl)]
            refine op_value (exec_buildT13 _ _ _ _ (by kernel_rfl) (buildTV13 (.string (bb nm)) (.slice q n2 cap) _)) ?_
            obtain ⟨wy, b2, ey, eb, hs⟩ := hs.allocEx #[.string (bb nm), .slice q n2 cap] 33
            rw [ey, eb]
            clear ey eb
            refine hK.out _ _ (trivial) (fun hHeld => ?_)
            clear hK KK
            try simp only [Act.put, sA, sB, sC]
            refine wpAnyH_ready (rs := [5]) (by kernel_rfl) (by simp) (AllReadyH.cons (o := ⟨some 25, .call { callee := .builtin .append, args := #[.tmp 21, .tmp 24], argTypes := #[27, 27] }, 27, "produce.go:75", #[.mk 1 .data, .mk 4 .data, .mk 3 .chain], none⟩) rfl (fun KK hK => ?_) AllReadyH.nil)
            · rw [if_pos (by rfl)]
              refine op_app1 (.tmp 21) (.tmp 24) 27 rfl 33 Try.underlying27 elem_topP _ _ _ (by rfl) b2 #[.string (bb nm), .slice q n2 cap] 33 hs (by rfl) rfl (by simp [Value.oneCell']) (by have := HKN.out; unfold maxLen; omega) (by have := HKN.out; omega) (fun v' w' h => ?_)
              have hs := h
              clear h
              obtain ⟨qv, cv, hv⟩ := hs.rowAny
              subst hv
              refine hK.out _ _ (trivial) (fun hHeld => ?_)
              clear hK KK
              try simp only [Act.put, sA, sB, sC]
              refine tQ 6 ⟨some 26, .fieldAddr 29 (.tmp 5) 3, 0, "produce.go:75", #[.mk 0 .phase, .mk 1 .phase, .mk 2 .phase, .mk 3 .phase, .mk 4 .phase, .mk 5 .phase], none⟩ ?_; simp only [Act.put, sA, sB, sC]
              refine wpAnyH_ready (rs := [7]) (by kernel_rfl) (by simp) (AllReadyH.cons (o := ⟨none, .store 27 (.tmp 26) (.tmp 25), 0, "produce.go:75", #[.mk 6 .data, .mk 5 .data, .mk 5 .chain, .mk 0 .phase, .mk 1 .phase, .mk 2 .phase, .mk 3 .phase, .mk 4 .phase, .mk 5 .phase], none⟩) rfl (fun KK hK => ?_) AllReadyH.nil)
              · have hs := hs.p1
                have q1 := hs.rawFree 4
                have z1 := hs.rawCell 4
                simp at z1
                rw [if_pos (by rfl)]
                refine op_skip (w' := w'.setCell ⟨tb, 4, none⟩ (.slice qv (k + 1) cv)) (by go_simp) ?_
                obtain ⟨wz, ez, hs⟩ := hs.setExP 4 (.slice qv (k + 1) cv)
                rw [ez]
                clear ez q1 z1
                have hs := hs.p1
                refine hK.out _ _ (trivial) (fun hHeld => ?_)
                clear hK KK
                try simp only [Act.put]
                refine wpAnyH_done (by kernel_rfl) ?_ _
                clear hHeld
                have HK3 := Lib.hid hk3
                clear hk3
                replace H := Lib.hid hs
                clear hs
                go_wp2_with (go_at_call 23; (try clear y0 y1 y2 y3 y4 w0 w1 w2 w3 w4 v0 v1 v2 v3 v4); (with_reducible refine (p_err p i3 0 HER.out H.out.p2).mono ?_); rintro e_ wn ⟨rfl, h⟩; have h := h.p2.p2; have y0 := h.p1.rawCell 0; have y1 := h.p1.rawCell 1; have y2 := h.p1.rawCell 2; have y3 := h.p1.rawCell 3; have y4 := h.p1.rawCell 4; have w0 := h.p3.rawFree 0; have w1 := h.p3.rawFree 1; have w2 := h.p3.rawFree 2; have w3 := h.p3.rawFree 3; have w4 := h.p3.rawFree 4; have v0 := h.p3.rawCell 0; have v1 := h.p3.rawCell 1; have v2 := h.p3.rawCell 2; have v3 := h.p3.rawCell 3; have v4 := h.p3.rawCell 4; simp at y0 y1 y2 y3 y4 v0 v1 v2 v3 v4; replace H := Lib.hid h; clear h)
                go_roundw
                case rel =>
                 obtain ⟨hn2, hlb, hkb, hmb⟩ := hgd HER.out
                 subst hn2
                 refine ⟨k + 1, .slice qv (k + 1) cv, xs ++ [.string (bb nm), .slice q lr.length cap], i3, acc ++ [⟨nm, lr, q, cap⟩], K3, hlt, by go_num, ?_, ?_, ?_, ?_, ?_, ?_, ?_⟩
                 · exact Lib.hid (by rw [List.length_append, ← HAL.out]; rfl)
                 · exact Lib.hid (by rw [List.flatMap_append, HXS.out]; rfl)
                 · exact Lib.hid (by rw [List.map_append]; have := HP2.out; rw [← hlb] at this; exact this)
                 · exact Lib.hid (Know.has_trans HK3.out HKK.out)
                 · exact Lib.hid (fun x hx => by
                   rcases List.mem_append.1 hx with hx | hx
                   · exact ⟨Know.has_trans HK3.out (HALL.out x hx).1, (HALL.out x hx).2⟩
                   · rw [List.mem_singleton.1 hx]; exact ⟨hkb, hmb⟩)
                 · exact Lib.hid HS3.out
                 · exact H.out
                case measure => first | (simp [intOf]; done) | (simp [intOf]; omega)
        · rw [if_pos (by rfl)]
          refine op_value (exec_buildT13 _ _ _ _ (by kernel_rfl) (buildTV13 (.string (bb nm)) (.slice q n2 cap) _)) ?_
          obtain ⟨wy, b2, ey, eb, hs⟩ := hs.allocEx #[.string (bb nm), .slice q n2 cap] 33
          rw [ey, eb]
          clear ey eb
          refine hK.out _ _ (trivial) (fun hHeld => ?_)
          clear hK KK
          try simp only [Act.put, sA, sB, sC]
          refine wpAnyH_ready (rs := [1]) (by kernel_rfl) (by simp) (AllReadyH.cons (o := ⟨some 21, .load 27 (.tmp 20), 27, "produce.go:75", #[.mk 0 .data], none⟩) rfl (fun KK hK => ?_) AllReadyH.nil)
          · have z1 := hs.p2.rawCell 4
            simp at z1
            go_simp
            refine hK.out _ _ (trivial) (fun hHeld => ?_)
            clear hK KK
            try simp only [Act.put, sA, sB, sC]
            clear z1
            refine wpAnyH_ready (rs := [5]) (by kernel_rfl) (by simp) (AllReadyH.cons (o := ⟨some 25, .call { callee := .builtin .append, args := #[.tmp 21, .tmp 24], argTypes := #[27, 27] }, 27, "produce.go:75", #[.mk 1 .data, .mk 4 .data, .mk 3 .chain], none⟩) rfl (fun KK hK => ?_) AllReadyH.nil)
            · rw [if_pos (by rfl)]
              refine op_app1 (.tmp 21) (.tmp 24) 27 rfl 33 Try.underlying27 elem_topP _ _ _ (by rfl) b2 #[.string (bb nm), .slice q n2 cap] 33 hs (by rfl) rfl (by simp [Value.oneCell']) (by have := HKN.out; unfold maxLen; omega) (by have := HKN.out; omega) (fun v' w' h => ?_)
              have hs := h
              clear h
              obtain ⟨qv, cv, hv⟩ := hs.rowAny
              subst hv
              refine hK.out _ _ (trivial) (fun hHeld => ?_)
              clear hK KK
              try simp only [Act.put, sA, sB, sC]
              refine tQ 6 ⟨some 26, .fieldAddr 29 (.tmp 5) 3, 0, "produce.go:75", #[.mk 0 .phase, .mk 1 .phase, .mk 2 .phase, .mk 3 .phase, .mk 4 .phase, .mk 5 .phase], none⟩ ?_; simp only [Act.put, sA, sB, sC]
              refine wpAnyH_ready (rs := [7]) (by kernel_rfl) (by simp) (AllReadyH.cons (o := ⟨none, .store 27 (.tmp 26) (.tmp 25), 0, "produce.go:75", #[.mk 6 .data, .mk 5 .data, .mk 5 .chain, .mk 0 .phase, .mk 1 .phase, .mk 2 .phase, .mk 3 .phase, .mk 4 .phase, .mk 5 .phase], none⟩) rfl (fun KK hK => ?_) AllReadyH.nil)
              · have hs := hs.p1
                have q1 := hs.rawFree 4
                have z1 := hs.rawCell 4
                simp at z1
                rw [if_pos (by rfl)]
                refine op_skip (w' := w'.setCell ⟨tb, 4, none⟩ (.slice qv (k + 1) cv)) (by go_simp) ?_
                obtain ⟨wz, ez, hs⟩ := hs.setExP 4 (.slice qv (k + 1) cv)
                rw [ez]
                clear ez q1 z1
                have hs := hs.p1
                refine hK.out _ _ (trivial) (fun hHeld => ?_)
                clear hK KK
                try simp only [Act.put]
                refine wpAnyH_done (by kernel_rfl) ?_ _
                clear hHeld
                have HK3 := Lib.hid hk3
                clear hk3
                replace H := Lib.hid hs
                clear hs
                go_wp2_with (go_at_call 23; (try clear y0 y1 y2 y3 y4 w0 w1 w2 w3 w4 v0 v1 v2 v3 v4); (with_reducible refine (p_err p i3 0 HER.out H.out.p2).mono ?_); rintro e_ wn ⟨rfl, h⟩; have h := h.p2.p2; have y0 := h.p1.rawCell 0; have y1 := h.p1.rawCell 1; have y2 := h.p1.rawCell 2; have y3 := h.p1.rawCell 3; have y4 := h.p1.rawCell 4; have w0 := h.p3.rawFree 0; have w1 := h.p3.rawFree 1; have w2 := h.p3.rawFree 2; have w3 := h.p3.rawFree 3; have w4 := h.p3.rawFree 4; have v0 := h.p3.rawCell 0; have v1 := h.p3.rawCell 1; have v2 := h.p3.rawCell 2; have v3 := h.p3.rawCell 3; have v4 := h.p3.rawCell 4; simp at y0 y1 y2 y3 y4 v0 v1 v2 v3 v4; replace H := Lib.hid h; clear h)
                go_roundw
                case rel =>
                 obtain ⟨hn2, hlb, hkb, hmb⟩ := hgd HER.out
                 subst hn2
                 refine ⟨k + 1, .slice qv (k + 1) cv, xs ++ [.string (bb nm), .slice q lr.length cap], i3, acc ++ [⟨nm, lr, q, cap⟩], K3, hlt, by go_num, ?_, ?_, ?_, ?_, ?_, ?_, ?_⟩
                 · exact Lib.hid (by rw [List.length_append, ← HAL.out]; rfl)
                 · exact Lib.hid (by rw [List.flatMap_append, HXS.out]; rfl)
                 · exact Lib.hid (by rw [List.map_append]; have := HP2.out; rw [← hlb] at this; exact this)
                 · exact Lib.hid (Know.has_trans HK3.out HKK.out)
                 · exact Lib.hid (fun x hx => by
                   rcases List.mem_append.1 hx with hx | hx
                   · exact ⟨Know.has_trans HK3.out (HALL.out x hx).1, (HALL.out x hx).2⟩
                   · rw [List.mem_singleton.1 hx]; exact ⟨hkb, hmb⟩)
                 · exact Lib.hid HS3.out
                 · exact H.out
                case measure => first | (simp [intOf]; done) | (simp [intOf]; omega)
    · rw [if_neg he0] at hstep
      simp only [Prod.mk.injEq] at hstep
      obtain ⟨rfl, rfl⟩ := hstep
      have gz : (er == 0) = false := by rw [beq_eq_false_iff_ne]; exact he0
      have gz3 : (er != 0) = true := by simp [bne, gz]
      have HE0 := Lib.hid he0
      clear he0 her
      go_wp2_with fail
      have hs := H.out.drew
      refine wp_region_held_drew (S := fun _ => True) (by kernel_rfl) trivial (fun hHeld => ?_)
      refine tQ 0 ⟨some 20, .fieldAddr 29 (.tmp 5) 3, 0, "produce.go:75", #[], none⟩ ?_; simp only [Act.put, sA, sB, sC]
      refine tQ 2 ⟨some 22, .move (.tmp 0), 23, "produce.go:75", #[], none⟩ ?_; simp only [Act.put, sA, sB, sC]
      refine wpAnyH_ready (rs := [1, 3]) (by kernel_rfl) (by simp) (AllReadyH.cons (o := ⟨some 21, .load 27 (.tmp 20), 27, "produce.go:75", #[.mk 0 .data], none⟩) rfl (fun KK hK => ?_) (AllReadyH.cons (o := ⟨some 23, .call { callee := .value (.func 22), args := #[.tmp 22], argTypes := #[23] }, 33, "produce.go:75", #[.mk 2 .data], none⟩) rfl (fun KK hK => ?_) AllReadyH.nil))
      · have z1 := hs.p1.rawCell 4
        simp at z1
        go_simp
        refine hK.out _ _ (trivial) (fun hHeld => ?_)
        clear hK KK
        try simp only [Act.put, sA, sB, sC]
        clear z1
        refine wpAnyH_ready (rs := [3]) (by kernel_rfl) (by simp) (AllReadyH.cons (o := ⟨some 23, .call { callee := .value (.func 22), args := #[.tmp 22], argTypes := #[23] }, 33, "produce.go:75", #[.mk 2 .data], none⟩) rfl (fun KK hK => ?_) AllReadyH.nil)
        · go_simp
          go_at_call 22
          with_reducible refine (read_top p i2 i3 nm pl HX.out (by rw [HS.out]; exact HDL.out) hs.p2).mono ?_
          rintro e wq ⟨q, n2, cap, lr, K3, rfl, hk3, hgd, hs⟩
          refine hK.out _ _ (trivial) (fun hHeld => ?_)
          clear hK KK
          try simp only [Act.put, sA, sB, sC]
          have hs := hs.p2.p2
          refine wpAnyH_ready (rs := [4]) (by kernel_rfl) (by simp) (AllReadyH.cons (o := ⟨some 24, .buildSlice 27 1 #[(0, .tmp 23)], 27, "produce.go:75", #[.mk 3 .data], none⟩) rfl (fun KK hK => ?_) AllReadyH.nil)
          · rw [if_pos (by rfl)]
            refine op_value (exec_buildT13 _ _ _ _ (by kernel_rfl) (buildTV13 (.string (bb nm)) (.slice q n2 cap) _)) ?_
            obtain ⟨wy, b2, ey, eb, hs⟩ := hs.allocEx #[.string (bb nm), .slice q n2 cap] 33
            rw [ey, eb]
            clear ey eb
            refine hK.out _ _ (trivial) (fun hHeld => ?_)
            clear hK KK
            try simp only [Act.put, sA, sB, sC]
            refine wpAnyH_ready (rs := [5]) (by kernel_rfl) (by simp) (AllReadyH.cons (o := ⟨some 25, .call { callee := .builtin .append, args := #[.tmp 21, .tmp 24], argTypes := #[27, 27] }, 27, "produce.go:75", #[.mk 1 .data, .mk 4 .data, .mk 3 .chain], none⟩) rfl (fun KK hK => ?_) AllReadyH.nil)
            · rw [if_pos (by rfl)]
              refine op_app1 (.tmp 21) (.tmp 24) 27 rfl 33 Try.underlying27 elem_topP _ _ _ (by rfl) b2 #[.string (bb nm), .slice q n2 cap] 33 hs (by rfl) rfl (by simp [Value.oneCell']) (by have := HKN.out; unfold maxLen; omega) (by have := HKN.out; omega) (fun v' w' h => ?_)
              have hs := h
              clear h
              obtain ⟨qv, cv, hv⟩ := hs.rowAny
              subst hv
              refine hK.out _ _ (trivial) (fun hHeld => ?_)
              clear hK KK
              try simp only [Act.put, sA, sB, sC]
              refine tQ 6 ⟨some 26, .fieldAddr 29 (.tmp 5) 3, 0, "produce.go:75", #[.mk 0 .phase, .mk 1 .phase, .mk 2 .phase, .mk 3 .phase, .mk 4 .phase, .mk 5 .phase], none⟩ ?_; simp only [Act.put, sA, sB, sC]
              refine wpAnyH_ready (rs := [7]) (by kernel_rfl) (by simp) (AllReadyH.cons (o := ⟨none, .store 27 (.tmp 26) (.tmp 25), 0, "produce.go:75", #[.mk 6 .data, .mk 5 .data, .mk 5 .chain, .mk 0 .phase, .mk 1 .phase, .mk 2 .phase, .mk 3 .phase, .mk 4 .phase, .mk 5 .phase], none⟩) rfl (fun KK hK => ?_) AllReadyH.nil)
              · have hs := hs.p1
                have q1 := hs.rawFree 4
                have z1 := hs.rawCell 4
                simp at z1
                rw [if_pos (by rfl)]
                refine op_skip (w' := w'.setCell ⟨tb, 4, none⟩ (.slice qv (k + 1) cv)) (by go_simp) ?_
                obtain ⟨wz, ez, hs⟩ := hs.setExP 4 (.slice qv (k + 1) cv)
                rw [ez]
                clear ez q1 z1
                have hs := hs.p1
                refine hK.out _ _ (trivial) (fun hHeld => ?_)
                clear hK KK
                try simp only [Act.put]
                refine wpAnyH_done (by kernel_rfl) ?_ _
                clear hHeld hgd
                have HK3 := Lib.hid hk3
                clear hk3
                replace H := Lib.hid hs
                clear hs
                go_wp2_with (go_at_call 23; (try clear y0 y1 y2 y3 y4 w0 w1 w2 w3 w4 v0 v1 v2 v3 v4); (with_reducible refine (p_err p i3 er HER.out H.out.p2).mono ?_); rintro e_ wn ⟨rfl, h⟩; have h := h.p2.p2; have y0 := h.p1.rawCell 0; have y1 := h.p1.rawCell 1; have y2 := h.p1.rawCell 2; have y3 := h.p1.rawCell 3; have y4 := h.p1.rawCell 4; have w0 := h.p3.rawFree 0; have w1 := h.p3.rawFree 1; have w2 := h.p3.rawFree 2; have w3 := h.p3.rawFree 3; have w4 := h.p3.rawFree 4; have v0 := h.p3.rawCell 0; have v1 := h.p3.rawCell 1; have v2 := h.p3.rawCell 2; have v3 := h.p3.rawCell 3; have v4 := h.p3.rawCell 4; simp at y0 y1 y2 y3 y4 v0 v1 v2 v3 v4; replace H := Lib.hid h; clear h)
                have hz : St W0 _ _ (.raw rb #[.bool false, .string ⟨#[]⟩, .int .i64 0, .int .i64 0, .slice none 0 0] 29 :: _) := St.sets5P _ _ _ _ _ H.out.p3
                refine bodyPost_ret (rc_cell_onlyP rfl _ _ rb [.bool false, .string ⟨#[]⟩, .int .i64 0, .int .i64 0, .slice none 0 0] _ rfl (rc_rangeP hz) Try.underlying29 rfl (by kernel_rfl)) rfl ?_
                exact .inl ⟨by rw [HER.out]; exact HE0.out, K3, rfl, Know.has_trans HK3.out HKK.out, hz.drop.drop.drop⟩
      · go_simp
        go_at_call 22
        with_reducible refine (read_top p i2 i3 nm pl HX.out (by rw [HS.out]; exact HDL.out) hs.p2).mono ?_
        rintro e wq ⟨q, n2, cap, lr, K3, rfl, hk3, hgd, hs⟩
        refine hK.out _ _ (trivial) (fun hHeld => ?_)
        clear hK KK
        try simp only [Act.put, sA, sB, sC]
        have hs := hs.p2.p2
        refine wpAnyH_ready (rs := [1, 4]) (by kernel_rfl) (by simp) (AllReadyH.cons (o := ⟨some 21, .load 27 (.tmp 20), 27, "produce.go:75", #[.mk 0 .data], none⟩) rfl (fun KK hK => ?_) (AllReadyH.cons (o := ⟨some 24, .buildSlice 27 1 #[(0, .tmp 23)], 27, "produce.go:75", #[.mk 3 .data], none⟩) rfl (fun KK hK => ?_) AllReadyH.nil))
        · have z1 := hs.p1.rawCell 4
          simp at z1
          go_simp
          refine hK.out _ _ (trivial) (fun hHeld => ?_)
          clear hK KK
          try simp only [Act.put, sA, sB, sC]
          clear z1
          refine wpAnyH_ready (rs := [4]) (by kernel_rfl) (by simp) (AllReadyH.cons (o := ⟨some 24, .buildSlice 27 1 #[(0, .tmp 23)], 27, "produce.go:75", #[.mk 3 .data], none⟩) rfl (fun KK hK => ?_) AllReadyH.nil)
          · rw [if_pos (by rfl)]
            refine op_value (exec_buildT13 _ _ _ _ (by kernel_rfl) (buildTV13 (.string (bb nm)) (.slice q n2 cap) _)) ?_
            obtain ⟨wy, b2, ey, eb, hs⟩ := hs.allocEx #[.string (bb nm), .slice q n2 cap] 33
            rw [ey, eb]
            clear ey eb
            refine hK.out _ _ (trivial) (fun hHeld => ?_)
            clear hK KK
            try simp only [Act.put, sA, sB, sC]
            refine wpAnyH_ready (rs := [5]) (by kernel_rfl) (by simp) (AllReadyH.cons (o := ⟨some 25, .call { callee := .builtin .append, args := #[.tmp 21, .tmp 24], argTypes := #[27, 27] }, 27, "produce.go:75", #[.mk 1 .data, .mk 4 .data, .mk 3 .chain], none⟩) rfl (fun KK hK => ?_) AllReadyH.nil)
            · rw [if_pos (by rfl)]
              refine op_app1 (.tmp 21) (.tmp 24) 27 rfl 33 Try.underlying27 elem_topP _ _ _ (by rfl) b2 #[.string (bb nm), .slice q n2 cap] 33 hs (by rfl) rfl (by simp [Value.oneCell']) (by have := HKN.out; unfold maxLen; omega) (by have := HKN.out; omega) (fun v' w' h => ?_)
              have hs := h
              clear h
              obtain ⟨qv, cv, hv⟩ := hs.rowAny
              subst hv
              refine hK.out _ _ (trivial) (fun hHeld => ?_)
              clear hK KK
              try simp only [Act.put, sA, sB, sC]
              refine tQ 6 ⟨some 26, .fieldAddr 29 (.tmp 5) 3, 0, "produce.go:75", #[.mk 0 .phase, .mk 1 .phase, .mk 2 .phase, .mk 3 .phase, .mk 4 .phase, .mk 5 .phase], none⟩ ?_; simp only [Act.put, sA, sB, sC]
              refine wpAnyH_ready (rs := [7]) (by kernel_rfl) (by simp) (AllReadyH.cons (o := ⟨none, .store 27 (.tmp 26) (.tmp 25), 0, "produce.go:75", #[.mk 6 .data, .mk 5 .data, .mk 5 .chain, .mk 0 .phase, .mk 1 .phase, .mk 2 .phase, .mk 3 .phase, .mk 4 .phase, .mk 5 .phase], none⟩) rfl (fun KK hK => ?_) AllReadyH.nil)
              · have hs := hs.p1
                have q1 := hs.rawFree 4
                have z1 := hs.rawCell 4
                simp at z1
                rw [if_pos (by rfl)]
                refine op_skip (w' := w'.setCell ⟨tb, 4, none⟩ (.slice qv (k + 1) cv)) (by go_simp) ?_
                obtain ⟨wz, ez, hs⟩ := hs.setExP 4 (.slice qv (k + 1) cv)
                rw [ez]
                clear ez q1 z1
                have hs := hs.p1
                refine hK.out _ _ (trivial) (fun hHeld => ?_)
                clear hK KK
                try simp only [Act.put]
                refine wpAnyH_done (by kernel_rfl) ?_ _
                clear hHeld hgd
                have HK3 := Lib.hid hk3
                clear hk3
                replace H := Lib.hid hs
                clear hs
                go_wp2_with (go_at_call 23; (try clear y0 y1 y2 y3 y4 w0 w1 w2 w3 w4 v0 v1 v2 v3 v4); (with_reducible refine (p_err p i3 er HER.out H.out.p2).mono ?_); rintro e_ wn ⟨rfl, h⟩; have h := h.p2.p2; have y0 := h.p1.rawCell 0; have y1 := h.p1.rawCell 1; have y2 := h.p1.rawCell 2; have y3 := h.p1.rawCell 3; have y4 := h.p1.rawCell 4; have w0 := h.p3.rawFree 0; have w1 := h.p3.rawFree 1; have w2 := h.p3.rawFree 2; have w3 := h.p3.rawFree 3; have w4 := h.p3.rawFree 4; have v0 := h.p3.rawCell 0; have v1 := h.p3.rawCell 1; have v2 := h.p3.rawCell 2; have v3 := h.p3.rawCell 3; have v4 := h.p3.rawCell 4; simp at y0 y1 y2 y3 y4 v0 v1 v2 v3 v4; replace H := Lib.hid h; clear h)
                have hz : St W0 _ _ (.raw rb #[.bool false, .string ⟨#[]⟩, .int .i64 0, .int .i64 0, .slice none 0 0] 29 :: _) := St.sets5P _ _ _ _ _ H.out.p3
                refine bodyPost_ret (rc_cell_onlyP rfl _ _ rb [.bool false, .string ⟨#[]⟩, .int .i64 0, .int .i64 0, .slice none 0 0] _ rfl (rc_rangeP hz) Try.underlying29 rfl (by kernel_rfl)) rfl ?_
                exact .inl ⟨by rw [HER.out]; exact HE0.out, K3, rfl, Know.has_trans HK3.out HKK.out, hz.drop.drop.drop⟩
        · rw [if_pos (by rfl)]
          refine op_value (exec_buildT13 _ _ _ _ (by kernel_rfl) (buildTV13 (.string (bb nm)) (.slice q n2 cap) _)) ?_
          obtain ⟨wy, b2, ey, eb, hs⟩ := hs.allocEx #[.string (bb nm), .slice q n2 cap] 33
          rw [ey, eb]
          clear ey eb
          refine hK.out _ _ (trivial) (fun hHeld => ?_)
          clear hK KK
          try simp only [Act.put, sA, sB, sC]
          refine wpAnyH_ready (rs := [1]) (by kernel_rfl) (by simp) (AllReadyH.cons (o := ⟨some 21, .load 27 (.tmp 20), 27, "produce.go:75", #[.mk 0 .data], none⟩) rfl (fun KK hK => ?_) AllReadyH.nil)
          · have z1 := hs.p2.rawCell 4
            simp at z1
            go_simp
            refine hK.out _ _ (trivial) (fun hHeld => ?_)
            clear hK KK
            try simp only [Act.put, sA, sB, sC]
            clear z1
            refine wpAnyH_ready (rs := [5]) (by kernel_rfl) (by simp) (AllReadyH.cons (o := ⟨some 25, .call { callee := .builtin .append, args := #[.tmp 21, .tmp 24], argTypes := #[27, 27] }, 27, "produce.go:75", #[.mk 1 .data, .mk 4 .data, .mk 3 .chain], none⟩) rfl (fun KK hK => ?_) AllReadyH.nil)
            · rw [if_pos (by rfl)]
              refine op_app1 (.tmp 21) (.tmp 24) 27 rfl 33 Try.underlying27 elem_topP _ _ _ (by rfl) b2 #[.string (bb nm), .slice q n2 cap] 33 hs (by rfl) rfl (by simp [Value.oneCell']) (by have := HKN.out; unfold maxLen; omega) (by have := HKN.out; omega) (fun v' w' h => ?_)
              have hs := h
              clear h
              obtain ⟨qv, cv, hv⟩ := hs.rowAny
              subst hv
              refine hK.out _ _ (trivial) (fun hHeld => ?_)
              clear hK KK
              try simp only [Act.put, sA, sB, sC]
              refine tQ 6 ⟨some 26, .fieldAddr 29 (.tmp 5) 3, 0, "produce.go:75", #[.mk 0 .phase, .mk 1 .phase, .mk 2 .phase, .mk 3 .phase, .mk 4 .phase, .mk 5 .phase], none⟩ ?_; simp only [Act.put, sA, sB, sC]
              refine wpAnyH_ready (rs := [7]) (by kernel_rfl) (by simp) (AllReadyH.cons (o := ⟨none, .store 27 (.tmp 26) (.tmp 25), 0, "produce.go:75", #[.mk 6 .data, .mk 5 .data, .mk 5 .chain, .mk 0 .phase, .mk 1 .phase, .mk 2 .phase, .mk 3 .phase, .mk 4 .phase, .mk 5 .phase], none⟩) rfl (fun KK hK => ?_) AllReadyH.nil)
              · have hs := hs.p1
                have q1 := hs.rawFree 4
                have z1 := hs.rawCell 4
                simp at z1
                rw [if_pos (by rfl)]
                refine op_skip (w' := w'.setCell ⟨tb, 4, none⟩ (.slice qv (k + 1) cv)) (by go_simp) ?_
                obtain ⟨wz, ez, hs⟩ := hs.setExP 4 (.slice qv (k + 1) cv)
                rw [ez]
                clear ez q1 z1
                have hs := hs.p1
                refine hK.out _ _ (trivial) (fun hHeld => ?_)
                clear hK KK
                try simp only [Act.put]
                refine wpAnyH_done (by kernel_rfl) ?_ _
                clear hHeld hgd
                have HK3 := Lib.hid hk3
                clear hk3
                replace H := Lib.hid hs
                clear hs
                go_wp2_with (go_at_call 23; (try clear y0 y1 y2 y3 y4 w0 w1 w2 w3 w4 v0 v1 v2 v3 v4); (with_reducible refine (p_err p i3 er HER.out H.out.p2).mono ?_); rintro e_ wn ⟨rfl, h⟩; have h := h.p2.p2; have y0 := h.p1.rawCell 0; have y1 := h.p1.rawCell 1; have y2 := h.p1.rawCell 2; have y3 := h.p1.rawCell 3; have y4 := h.p1.rawCell 4; have w0 := h.p3.rawFree 0; have w1 := h.p3.rawFree 1; have w2 := h.p3.rawFree 2; have w3 := h.p3.rawFree 3; have w4 := h.p3.rawFree 4; have v0 := h.p3.rawCell 0; have v1 := h.p3.rawCell 1; have v2 := h.p3.rawCell 2; have v3 := h.p3.rawCell 3; have v4 := h.p3.rawCell 4; simp at y0 y1 y2 y3 y4 v0 v1 v2 v3 v4; replace H := Lib.hid h; clear h)
                have hz : St W0 _ _ (.raw rb #[.bool false, .string ⟨#[]⟩, .int .i64 0, .int .i64 0, .slice none 0 0] 29 :: _) := St.sets5P _ _ _ _ _ H.out.p3
                refine bodyPost_ret (rc_cell_onlyP rfl _ _ rb [.bool false, .string ⟨#[]⟩, .int .i64 0, .int .i64 0, .slice none 0 0] _ rfl (rc_rangeP hz) Try.underlying29 rfl (by kernel_rfl)) rfl ?_
                exact .inl ⟨by rw [HER.out]; exact HE0.out, K3, rfl, Know.has_trans HK3.out HKK.out, hz.drop.drop.drop⟩
  · obtain rfl : k = n := by omega
    have hp := HP.out
    rw [Nat.sub_self] at hp
    have hp : (acc.map PTop.pt, i2) = (ts, j) := hp
    simp only [Prod.mk.injEq] at hp
    obtain ⟨hpl, rfl⟩ := hp
    have HPL := Lib.hid hpl
    have HLL := Lib.hid (show acc.length ≤ 1000000 by have h9 := HOK.out.1; rw [← hpl, List.length_map] at h9; exact h9)
    have HCK := Lib.hid (show ∀ x ∈ acc, CkT x from fun x hx => ck_top HDL.out x (HOK.out.2 x.pt (by rw [← hpl]; exact List.mem_map_of_mem hx)) (HALL.out x hx).2)
    have HOT := Lib.hid (show ∀ x ∈ acc, PtOk i.s.length x.pt ∧ ∀ y ∈ x.l, ∀ z ∈ y.l, z.l.map (·.1) = z.b.recs from fun x hx => ⟨HOK.out.2 x.pt (by rw [← hpl]; exact List.mem_map_of_mem hx), (HALL.out x hx).2⟩)
    clear hpl
    obtain ⟨er, her⟩ : ∃ er, i2.err = er := ⟨_, rfl⟩
    have HER := Lib.hid her
    by_cases he0 : er = 0
    · subst he0
      clear her
      have hf := H.out.freezeTopsK HAL.out HXS.out (fun x hx => (HALL.out x hx).1)
      have HK9 := Lib.hid (show (K2.and (Know.ptops (.slice qv0 k cv0) acc)).has (Know.ptops (.slice qv0 k cv0) acc) from Know.has_right (Know.has_refl _))
      have HK8 := Lib.hid (show (K2.and (Know.ptops (.slice qv0 k cv0) acc)).has K from Know.has_trans (Know.has_left (Know.has_refl _)) HKK.out)
      clear H
      have H := Lib.hid hf
      clear hf
      obtain ⟨e, he⟩ : ∃ e, errReq ⟨false, dd⟩ ac tm v acc = e := ⟨_, rfl⟩
      have HE := Lib.hid he
      by_cases h0 : e = 0
      · subst h0
        clear he
        go_wp2_with (first
  | (go_at_call 23; (try clear y0 y1 y2 y3 y4 w0 w1 w2 w3 w4 v0 v1 v2 v3 v4); (with_reducible refine (p_err p i2 0 HER.out H.out.p1).mono ?_); rintro e_ wn ⟨rfl, h⟩; have h := h.p1; have y0 := h.rawCell 0; have y1 := h.rawCell 1; have y2 := h.rawCell 2; have y3 := h.rawCell 3; have y4 := h.rawCell 4; have w0 := h.p2.rawFree 0; have w1 := h.p2.rawFree 1; have w2 := h.p2.rawFree 2; have w3 := h.p2.rawFree 3; have w4 := h.p2.rawFree 4; have v0 := h.p2.rawCell 0; have v1 := h.p2.rawCell 1; have v2 := h.p2.rawCell 2; have v3 := h.p2.rawCell 3; have v4 := h.p2.rawCell 4; simp at y0 y1 y2 y3 y4 v0 v1 v2 v3 v4; replace H := Lib.hid h; clear h)
  | (go_at_call 18; (try clear y0 y1 y2 y3 y4 w0 w1 w2 w3 w4 v0 v1 v2 v3 v4); (with_reducible refine (preq_checkK false dd ac tm v acc qv0 cv0 k HAL.out HDD.out HCK.out HLL.out 0 HE.out HK9.out H.out).mono ?_); rintro e_ wn ⟨rfl, h⟩; have y0 := h.rawCell 0; have y1 := h.rawCell 1; have y2 := h.rawCell 2; have y3 := h.rawCell 3; have y4 := h.rawCell 4; have w0 := h.p2.rawFree 0; have w1 := h.p2.rawFree 1; have w2 := h.p2.rawFree 2; have w3 := h.p2.rawFree 3; have w4 := h.p2.rawFree 4; have v0 := h.p2.rawCell 0; have v1 := h.p2.rawCell 1; have v2 := h.p2.rawCell 2; have v3 := h.p2.rawCell 3; have v4 := h.p2.rawCell 4; simp at y0 y1 y2 y3 y4 v0 v1 v2 v3 v4; replace H := Lib.hid h; clear h))
        have hz : St W0 _ _ (.raw rb #[.bool false, .string (bb dd), .int .i64 ac, .int .i64 tm, .slice qv0 k cv0] 29 :: _) := St.sets5P _ _ _ _ _ H.out.p2
        refine bodyPost_ret (rc_cell_onlyP rfl _ _ rb [.bool false, .string (bb dd), .int .i64 ac, .int .i64 tm, .slice qv0 k cv0] _ rfl (rc_rangeP hz) Try.underlying29 rfl (by kernel_rfl)) rfl ?_
        have hn := HAL.out
        subst hn
        exact .inr ⟨HER.out, qv0, cv0, acc, _, HK8.out, HPL.out, HCK.out, HLL.out, HOT.out, .inl ⟨HE.out, rfl, HK9.out, hz.drop.drop⟩⟩
      · have gz : (e == 0) = false := by rw [beq_eq_false_iff_ne]; exact h0
        have gz3 : (e != 0) = true := by simp [bne, gz]
        have HE0 := Lib.hid h0
        obtain ⟨j2, hj2⟩ : ∃ j2, i2.fail e = j2 := ⟨_, rfl⟩
        have HF := Lib.hid hj2
        have HER2 := Lib.hid (show j2.err = e by rw [← hj2]; unfold InS.fail; rw [if_pos HER.out])
        clear h0 he hj2
        go_wp2_with (first
  | (go_at_call 23; (try clear y0 y1 y2 y3 y4 w0 w1 w2 w3 w4 v0 v1 v2 v3 v4); (with_reducible refine (p_err p i2 0 HER.out H.out.p1).mono ?_); rintro e_ wn ⟨rfl, h⟩; have h := h.p1; have y0 := h.rawCell 0; have y1 := h.rawCell 1; have y2 := h.rawCell 2; have y3 := h.rawCell 3; have y4 := h.rawCell 4; have w0 := h.p2.rawFree 0; have w1 := h.p2.rawFree 1; have w2 := h.p2.rawFree 2; have w3 := h.p2.rawFree 3; have w4 := h.p2.rawFree 4; have v0 := h.p2.rawCell 0; have v1 := h.p2.rawCell 1; have v2 := h.p2.rawCell 2; have v3 := h.p2.rawCell 3; have v4 := h.p2.rawCell 4; simp at y0 y1 y2 y3 y4 v0 v1 v2 v3 v4; replace H := Lib.hid h; clear h)
  | (go_at_call 18; (try clear y0 y1 y2 y3 y4 w0 w1 w2 w3 w4 v0 v1 v2 v3 v4); (with_reducible refine (preq_checkK false dd ac tm v acc qv0 cv0 k HAL.out HDD.out HCK.out HLL.out e HE.out HK9.out H.out).mono ?_); rintro e_ wn ⟨rfl, h⟩; have y0 := h.rawCell 0; have y1 := h.rawCell 1; have y2 := h.rawCell 2; have y3 := h.rawCell 3; have y4 := h.rawCell 4; have w0 := h.p2.rawFree 0; have w1 := h.p2.rawFree 1; have w2 := h.p2.rawFree 2; have w3 := h.p2.rawFree 3; have w4 := h.p2.rawFree 4; have v0 := h.p2.rawCell 0; have v1 := h.p2.rawCell 1; have v2 := h.p2.rawCell 2; have v3 := h.p2.rawCell 3; have v4 := h.p2.rawCell 4; simp at y0 y1 y2 y3 y4 v0 v1 v2 v3 v4; replace H := Lib.hid h; clear h)
  | (go_at_call 24; (try clear y0 y1 y2 y3 y4 w0 w1 w2 w3 w4 v0 v1 v2 v3 v4); (with_reducible refine (p_fail p i2 j2 e HF.out H.out.p1).mono ?_); rintro e_ wn ⟨rfl, h⟩; have h := h.p1; have y0 := h.rawCell 0; have y1 := h.rawCell 1; have y2 := h.rawCell 2; have y3 := h.rawCell 3; have y4 := h.rawCell 4; have w0 := h.p2.rawFree 0; have w1 := h.p2.rawFree 1; have w2 := h.p2.rawFree 2; have w3 := h.p2.rawFree 3; have w4 := h.p2.rawFree 4; have v0 := h.p2.rawCell 0; have v1 := h.p2.rawCell 1; have v2 := h.p2.rawCell 2; have v3 := h.p2.rawCell 3; have v4 := h.p2.rawCell 4; simp at y0 y1 y2 y3 y4 v0 v1 v2 v3 v4; replace H := Lib.hid h; clear h)
  | (go_at_call 23; (try clear y0 y1 y2 y3 y4 w0 w1 w2 w3 w4 v0 v1 v2 v3 v4); (with_reducible refine (p_err p j2 e HER2.out H.out.p1).mono ?_); rintro e_ wn ⟨rfl, h⟩; have h := h.p1; have y0 := h.rawCell 0; have y1 := h.rawCell 1; have y2 := h.rawCell 2; have y3 := h.rawCell 3; have y4 := h.rawCell 4; have w0 := h.p2.rawFree 0; have w1 := h.p2.rawFree 1; have w2 := h.p2.rawFree 2; have w3 := h.p2.rawFree 3; have w4 := h.p2.rawFree 4; have v0 := h.p2.rawCell 0; have v1 := h.p2.rawCell 1; have v2 := h.p2.rawCell 2; have v3 := h.p2.rawCell 3; have v4 := h.p2.rawCell 4; simp at y0 y1 y2 y3 y4 v0 v1 v2 v3 v4; replace H := Lib.hid h; clear h))
        have hz : St W0 _ _ (.raw rb #[.bool false, .string ⟨#[]⟩, .int .i64 0, .int .i64 0, .slice none 0 0] 29 :: _) := St.sets5P _ _ _ _ _ H.out.p2
        refine bodyPost_ret (rc_cell_onlyP rfl _ _ rb [.bool false, .string ⟨#[]⟩, .int .i64 0, .int .i64 0, .slice none 0 0] _ rfl (rc_rangeP hz) Try.underlying29 rfl (by kernel_rfl)) rfl ?_
        exact .inr ⟨HER.out, qv0, cv0, acc, _, HK8.out, HPL.out, HCK.out, HLL.out, HOT.out, .inr ⟨by rw [HE.out]; exact HE0.out, rfl, by rw [HE.out, HF.out]; exact hz.drop.drop⟩⟩
    · have gz : (er == 0) = false := by rw [beq_eq_false_iff_ne]; exact he0
      have gz3 : (er != 0) = true := by simp [bne, gz]
      have HE0 := Lib.hid he0
      clear he0 her
      go_wp2_with (go_at_call 23; (try clear y0 y1 y2 y3 y4 w0 w1 w2 w3 w4 v0 v1 v2 v3 v4); (with_reducible refine (p_err p i2 er HER.out H.out.p2).mono ?_); rintro e_ wn ⟨rfl, h⟩; have h := h.p2.p2; have y0 := h.p1.rawCell 0; have y1 := h.p1.rawCell 1; have y2 := h.p1.rawCell 2; have y3 := h.p1.rawCell 3; have y4 := h.p1.rawCell 4; have w0 := h.p3.rawFree 0; have w1 := h.p3.rawFree 1; have w2 := h.p3.rawFree 2; have w3 := h.p3.rawFree 3; have w4 := h.p3.rawFree 4; have v0 := h.p3.rawCell 0; have v1 := h.p3.rawCell 1; have v2 := h.p3.rawCell 2; have v3 := h.p3.rawCell 3; have v4 := h.p3.rawCell 4; simp at y0 y1 y2 y3 y4 v0 v1 v2 v3 v4; replace H := Lib.hid h; clear h)
      have hz : St W0 _ _ (.raw rb #[.bool false, .string ⟨#[]⟩, .int .i64 0, .int .i64 0, .slice none 0 0] 29 :: _) := St.sets5P _ _ _ _ _ H.out.p3
      refine bodyPost_ret (rc_cell_onlyP rfl _ _ rb [.bool false, .string ⟨#[]⟩, .int .i64 0, .int .i64 0, .slice none 0 0] _ rfl (rc_rangeP hz) Try.underlying29 rfl (by kernel_rfl)) rfl ?_
      exact .inl ⟨by rw [HER.out]; exact HE0.out, K2, rfl, HKK.out, hz.drop.drop.drop⟩

set_option maxHeartbeats 8000000 in
set_option maxRecDepth 100000 in
theorem read_req_true (p : Nat) (v : Int) (i i1 i2 i3 c j : InS) (dd : Bs) (ac tm : Int) (n : Nat) (ts : List (Bs × List (Int × List BatS))) (h1 : i.fixed 2 = (⟨true, dd⟩, i1)) (h2 : i1.int 2 = (ac, i2)) (h3 : i2.int 4 = (tm, i3)) (h4 : i3.cnt 6 = (n, c)) (h5 : InS.ptopsN n [] c = (ts, j)) (hd : i.s.length ≤ 1000000) {W0 w : World} {K : Know} {L : List Res} (h : St W0 w K (.inp p i :: L)) :
  Calls Try.prog 7 #[inPtr p, .int .i64 v] w fun en w' => (j.err ≠ 0 ∧ ∃ K2 : Know, en = .returned (.agg #[.bool false, .string ⟨#[]⟩, .int .i64 0, .int .i64 0, .slice none 0 0]) ∧ K2.has K ∧ St W0 w' K2 (.inp p j :: L)) ∨ (j.err = 0 ∧ ∃ (q : Option Addr) (cap : Nat) (lr : List PTop) (K2 : Know), K2.has K ∧ lr.map PTop.pt = ts ∧ (∀ x ∈ lr, CkT x) ∧ lr.length ≤ 1000000 ∧ (∀ x ∈ lr, PtOk i.s.length x.pt ∧ ∀ y ∈ x.l, ∀ z ∈ y.l, z.l.map (·.1) = z.b.recs) ∧ ((errReq ⟨true, dd⟩ ac tm v lr = 0 ∧ en = .returned (.agg #[.bool true, .string (bb dd), .int .i64 ac, .int .i64 tm, .slice q lr.length cap]) ∧ K2.has (Know.ptops (.slice q lr.length cap) lr) ∧ St W0 w' K2 (.inp p j :: L)) ∨ (errReq ⟨true, dd⟩ ac tm v lr ≠ 0 ∧ en = .returned (.agg #[.bool false, .string ⟨#[]⟩, .int .i64 0, .int .i64 0, .slice none 0 0]) ∧ St W0 w' K2 (.inp p (j.fail (errReq ⟨true, dd⟩ ac tm v lr)) :: L)))) := by
 have s1 : i1.s = i.s := by have := (fixed_s12 i 2).1; rw [h1] at this; exact this
 have s2 : i2.s = i1.s := by have := int_s12 i1 2; rw [h2] at this; exact this
 have s3 : i3.s = i2.s := by have := int_s12 i2 4; rw [h3] at this; exact this
 have s4 : c.s = i3.s := by have := cnt_s12 i3 6; rw [h4] at this; exact this
 have hs0 : c.s = i.s := by rw [s4, s3, s2, s1]
 have hn9 : n ≤ 1000000 := by have h9 := cnt_le13 i3 6 (by decide); rw [h4, s3, s2, s1] at h9; exact Nat.le_trans h9 hd
 have hok : ts.length ≤ 1000000 ∧ ∀ x ∈ ts, PtOk i.s.length x := by
  have h9 := ptopsN_ok (M := i.s.length) n [] c (by rw [hs0]; exact Nat.le_refl _) (fun x hx => by cases hx)
  rw [h5, List.length_nil] at h9
  exact ⟨Nat.le_trans h9.1 (by omega), h9.2⟩
 have hdd : dd.length ≤ 140737488355328 := by have h9 := (fixed_s12 i 2).2; rw [h1] at h9; have h9 : dd.length ≤ i.s.length := h9; omega
 obtain ⟨rb, hrb⟩ : ∃ b, w.heap.size = b := ⟨_, rfl⟩
 obtain ⟨tb, htb⟩ : ∃ b, rb + 1 = b := ⟨_, rfl⟩
 have g1 := ((h.allocRaw #[.bool false, .string ⟨#[]⟩, .int .i64 0, .int .i64 0, .slice none 0 0] 29).allocRaw #[.bool false, .string ⟨#[]⟩, .int .i64 0, .int .i64 0, .slice none 0 0] 29).p2
 simp only [World.size_alloc, hrb, htb] at g1
 have H := Lib.hid g1
 have H1 := Lib.hid h1
 have H2 := Lib.hid h2
 have H3 := Lib.hid h3
 have H4 := Lib.hid h4
 have HX0 := Lib.hid h5
 have HS0 := Lib.hid hs0
 have HDL := Lib.hid hd
 have HOK := Lib.hid hok
 have HDD := Lib.hid hdd
 have HNL := Lib.hid hn9
 have hni : (n : Int) ≤ 1000000 := by omega
 clear h g1 h1 h2 h3 h4 h5 hd hs0 hok hdd hn9 s1 s2 s3 s4
 go_enter Try.func7, Try.ntmps7
 go_wp2_with (first
  | (go_at_call 19; (try clear x0 x1 x2 x3); (with_reducible refine (p_fixed p i i1 2 true dd H1.out H.out).mono ?_); rintro e_ wn ⟨rfl, h⟩; have h := h.p1; have x0 := h.rawFree 0; have x1 := h.rawCell 0; have x2 := h.rawFree 1; have x3 := h.rawCell 1; simp at x1 x3; have h := (show St W0 ((wn.setCell ⟨tb, 0, none⟩ (.bool true)).setCell ⟨tb, 1, none⟩ (.string (bb dd))) K (.inp p i1 :: .raw tb #[.bool true, .string (bb dd), .int .i64 0, .int .i64 0, .slice none 0 0] 29 :: .raw rb #[.bool false, .string ⟨#[]⟩, .int .i64 0, .int .i64 0, .slice none 0 0] 29 :: L) from ((h.rawSet 0 (.bool true)).rawSet 1 (.string (bb dd))).p1); replace H := Lib.hid h; clear h)
  | (go_at_call 20; (try clear x0 x1 x2 x3); (with_reducible refine (p_int p i1 i2 ac 2 H2.out H.out).mono ?_); rintro e_ wn ⟨rfl, h⟩; have h := h.p1; have x0 := h.rawFree 2; have x1 := h.rawCell 2; simp at x1; have h := (show St W0 (wn.setCell ⟨tb, 2, none⟩ (.int .i64 ac)) K (.inp p i2 :: .raw tb #[.bool true, .string (bb dd), .int .i64 ac, .int .i64 0, .slice none 0 0] 29 :: .raw rb #[.bool false, .string ⟨#[]⟩, .int .i64 0, .int .i64 0, .slice none 0 0] 29 :: L) from (h.rawSet 2 (.int .i64 ac)).p1); replace H := Lib.hid h; clear h)
  | (go_at_call 20; (try clear x0 x1 x2 x3); (with_reducible refine (p_int p i2 i3 tm 4 H3.out H.out).mono ?_); rintro e_ wn ⟨rfl, h⟩; have h := h.p1; have x0 := h.rawFree 3; have x1 := h.rawCell 3; simp at x1; have h := (show St W0 (wn.setCell ⟨tb, 3, none⟩ (.int .i64 tm)) K (.inp p i3 :: .raw tb #[.bool true, .string (bb dd), .int .i64 ac, .int .i64 tm, .slice none 0 0] 29 :: .raw rb #[.bool false, .string ⟨#[]⟩, .int .i64 0, .int .i64 0, .slice none 0 0] 29 :: L) from (h.rawSet 3 (.int .i64 tm)).p1); replace H := Lib.hid h; clear h)
  | (go_at_call 21; (try clear x0 x1 x2 x3); (with_reducible refine (p_cnt p i3 c 6 n 6 rfl H4.out H.out).mono ?_); rintro e_ wn ⟨rfl, h⟩; replace H := Lib.hid h; clear h))
 go_loopw [18] (fun iv wr => ∃ (k : Nat) (v : Value) (xs : List Value) (i2 : InS) (acc : List PTop) (K2 : Know), k ≤ n ∧ iv = .int .i64 k ∧ Hid (k = acc.length) ∧ Hid (xs = acc.flatMap ptcells) ∧ Hid (InS.ptopsN (n - k) (acc.map PTop.pt) i2 = (ts, j)) ∧ Hid (K2.has K) ∧ Hid (∀ x ∈ acc, K2.has (Know.pparts (.slice x.q x.l.length x.cap) x.l) ∧ ∀ y ∈ x.l, ∀ z ∈ y.l, z.l.map (·.1) = z.b.recs) ∧ Hid (i2.s = i.s) ∧ St W0 wr K2 (.row v 33 2 k xs :: .raw tb #[.bool true, .string (bb dd), .int .i64 ac, .int .i64 tm, v] 29 :: .inp p i2 :: .raw rb #[.bool false, .string ⟨#[]⟩, .int .i64 0, .int .i64 0, .slice none 0 0] 29 :: L)) (fun iv _ => n - (intOf iv).toNat)
 case atStart =>
  refine ⟨0, .slice none 0 0, [], c, [], K, Nat.zero_le _, rfl, Lib.hid rfl, Lib.hid rfl, Lib.hid HX0.out, Lib.hid (Know.has_refl _), Lib.hid (fun x hx => by cases hx), Lib.hid HS0.out, ?_⟩
  exact (H.out.p1.nilRow 33 2)
 case round =>
  obtain ⟨k, v9, xs, i2, acc, K2, hk, rfl, HAL, HXS, HP, HKK, HALL, HS, hst⟩ := hrel
  clear H
  obtain ⟨qv0, cv0, hv0⟩ := hst.rowAny
  subst hv0
  have H := Lib.hid hst
  clear hst
  by_cases hlt : k < n
  · obtain ⟨⟨⟨nm, pl⟩, i3⟩, hi3⟩ : ∃ r, i2.ptop = r := ⟨_, rfl⟩
    obtain ⟨er, her⟩ : ∃ er, i3.err = er := ⟨_, rfl⟩
    have HX := Lib.hid hi3
    have HS3 := Lib.hid (show i3.s = i.s by have := ptop_s12 i2; rw [hi3] at this; rw [this]; exact HS.out)
    have hstep : (if er = 0 then InS.ptopsN (n - (k + 1)) (acc.map PTop.pt ++ [(nm, pl)]) i3 else ([], i3)) = (ts, j) := by
      have h1 := HP.out
      rw [show n - k = (n - (k + 1)) + 1 by omega] at h1
      have h2 : (if i2.ptop.2.err = 0 then InS.ptopsN (n - (k + 1)) (acc.map PTop.pt ++ [i2.ptop.1]) i2.ptop.2 else ([], i2.ptop.2)) = (ts, j) := h1
      rw [hi3] at h2
      simp only at h2
      rw [her] at h2
      exact h2
    have HKN := Lib.hid (show k ≤ 2147483647 by have := HNL.out; omega)
    have hkn : (k : Int) < (n : Int) := by omega
    have HER := Lib.hid her
    clear hi3
    by_cases he0 : er = 0
    · rw [if_pos he0] at hstep
      have HP2 := Lib.hid hstep
      subst he0
      clear hstep her
      go_wp2_with fail
      have hs := H.out.drew
      refine wp_region_held_drew (S := fun _ => True) (by kernel_rfl) trivial (fun hHeld => ?_)
      refine tQ 0 ⟨some 20, .fieldAddr 29 (.tmp 5) 3, 0, "produce.go:75", #[], none⟩ ?_; simp only [Act.put, sA, sB, sC]
      refine tQ 2 ⟨some 22, .move (.tmp 0), 23, "produce.go:75", #[], none⟩ ?_; simp only [Act.put, sA, sB, sC]
      refine wpAnyH_ready (rs := [1, 3]) (by kernel_rfl) (by simp) (AllReadyH.cons (o := ⟨some 21, .load 27 (.tmp 20), 27, "produce.go:75", #[.mk 0 .data], none⟩) rfl (fun KK hK => ?_) (AllReadyH.cons (o := ⟨some 23, .call { callee := .value (.func 22), args := #[.tmp 22], argTypes := #[23] }, 33, "produce.go:75", #[.mk 2 .data], none⟩) rfl (fun KK hK => ?_) AllReadyH.nil))
      · have z1 := hs.p1.rawCell 4
        simp at z1
        go_simp
        refine hK.out _ _ (trivial) (fun hHeld => ?_)
        clear hK KK
        try simp only [Act.put, sA, sB, sC]
        clear z1
        refine wpAnyH_ready (rs := [3]) (by kernel_rfl) (by simp) (AllReadyH.cons (o := ⟨some 23, .call { callee := .value (.func 22), args := #[.tmp 22], argTypes := #[23] }, 33, "produce.go:75", #[.mk 2 .data], none⟩) rfl (fun KK hK => ?_) AllReadyH.nil)
        · go_simp
          go_at_call 22
          with_reducible refine (read_top p i2 i3 nm pl HX.out (by rw [HS.out]; exact HDL.out) hs.p2).mono ?_
          rintro e wq ⟨q, n2, cap, lr, K3, rfl, hk3, hgd, hs⟩
          refine hK.out _ _ (trivial) (fun hHeld => ?_)
          clear hK KK
          try simp only [Act.put, sA, sB, sC]
          have hs := hs.p2.p2
          refine wpAnyH_ready (rs := [4]) (by kernel_rfl) (by simp) (AllReadyH.cons (o := ⟨some 24, .buildSlice 27 1 #[(0, .tmp 23)], 27, "produce.go:75", #[.mk 3 .data], none⟩) rfl (fun KK hK => ?_) AllReadyH.nil)
          · rw [if_pos (by rfl)]
            refine op_value (exec_buildT13 _ _ _ _ (by kernel_rfl) (buildTV13 (.string (bb nm)) (.slice q n2 cap) _)) ?_
            obtain ⟨wy, b2, ey, eb, hs⟩ := hs.allocEx #[.string (bb nm), .slice q n2 cap] 33
            rw [ey, eb]
            clear ey eb
            refine hK.out _ _ (trivial) (fun hHeld => ?_)
            clear hK KK
            try simp only [Act.put, sA, sB, sC]
            refine wpAnyH_ready (rs := [5]) (by kernel_rfl) (by simp) (AllReadyH.cons (o := ⟨some 25, .call { callee := .builtin .append, args := #[.tmp 21, .tmp 24], argTypes := #[27, 27] }, 27, "produce.go:75", #[.mk 1 .data, .mk 4 .data, .mk 3 .chain], none⟩) rfl (fun KK hK => ?_) AllReadyH.nil)
            · rw [if_pos (by rfl)]
              refine op_app1 (.tmp 21) (.tmp 24) 27 rfl 33 Try.underlying27 elem_topP _ _ _ (by rfl) b2 #[.string (bb nm), .slice q n2 cap] 33 hs (by rfl) rfl (by simp [Value.oneCell']) (by have := HKN.out; unfold maxLen; omega) (by have := HKN.out; omega) (fun v' w' h => ?_)
              have hs := h
              clear h
              obtain ⟨qv, cv, hv⟩ := hs.rowAny
              subst hv
              refine hK.out _ _ (trivial) (fun hHeld => ?_)
              clear hK KK
              try simp only [Act.put, sA, sB, sC]
              refine tQ 6 ⟨some 26, .fieldAddr 29 (.tmp 5) 3, 0, "produce.go:75", #[.mk 0 .phase, .mk 1 .phase, .mk 2 .phase, .mk 3 .phase, .mk 4 .phase, .mk 5 .phase], none⟩ ?_; simp only [Act.put, sA, sB, sC]
              refine wpAnyH_ready (rs := [7]) (by kernel_rfl) (by simp) (AllReadyH.cons (o := ⟨none, .store 27 (.tmp 26) (.tmp 25), 0, "produce.go:75", #[.mk 6 .data, .mk 5 .data, .mk 5 .chain, .mk 0 .phase, .mk 1 .phase, .mk 2 .phase, .mk 3 .phase, .mk 4 .phase, .mk 5 .phase], none⟩) rfl (fun KK hK => ?_) AllReadyH.nil)
              · have hs := hs.p1
                have q1 := hs.rawFree 4
                have z1 := hs.rawCell 4
                simp at z1
                rw [if_pos (by rfl)]
                refine op_skip (w' := w'.setCell ⟨tb, 4, none⟩ (.slice qv (k + 1) cv)) (by go_simp) ?_
                obtain ⟨wz, ez, hs⟩ := hs.setExP 4 (.slice qv (k + 1) cv)
                rw [ez]
                clear ez q1 z1
                have hs := hs.p1
                refine hK.out _ _ (trivial) (fun hHeld => ?_)
                clear hK KK
                try simp only [Act.put]
                refine wpAnyH_done (by kernel_rfl) ?_ _
                clear hHeld
                have HK3 := Lib.hid hk3
                clear hk3
                replace H := Lib.hid hs
                clear hs
                go_wp2_with (go_at_call 23; (try clear y0 y1 y2 y3 y4 w0 w1 w2 w3 w4 v0 v1 v2 v3 v4); (with_reducible refine (p_err p i3 0 HER.out H.out.p2).mono ?_); rintro e_ wn ⟨rfl, h⟩; have h := h.p2.p2; have y0 := h.p1.rawCell 0; have y1 := h.p1.rawCell 1; have y2 := h.p1.rawCell 2; have y3 := h.p1.rawCell 3; have y4 := h.p1.rawCell 4; have w0 := h.p3.rawFree 0; have w1 := h.p3.rawFree 1; have w2 := h.p3.rawFree 2; have w3 := h.p3.rawFree 3; have w4 := h.p3.rawFree 4; have v0 := h.p3.rawCell 0; have v1 := h.p3.rawCell 1; have v2 := h.p3.rawCell 2; have v3 := h.p3.rawCell 3; have v4 := h.p3.rawCell 4; simp at y0 y1 y2 y3 y4 v0 v1 v2 v3 v4; replace H := Lib.hid h; clear h)
                go_roundw
                case rel =>
                 obtain ⟨hn2, hlb, hkb, hmb⟩ := hgd HER.out
                 subst hn2
                 refine ⟨k + 1, .slice qv (k + 1) cv, xs ++ [.string (bb nm), .slice q lr.length cap], i3, acc ++ [⟨nm, lr, q, cap⟩], K3, hlt, by go_num, ?_, ?_, ?_, ?_, ?_, ?_, ?_⟩
                 · exact Lib.hid (by rw [List.length_append, ← HAL.out]; rfl)
                 · exact Lib.hid (by rw [List.flatMap_append, HXS.out]; rfl)
                 · exact Lib.hid (by rw [List.map_append]; have := HP2.out; rw [← hlb] at this; exact this)
                 · exact Lib.hid (Know.has_trans HK3.out HKK.out)
                 · exact Lib.hid (fun x hx => by
                   rcases List.mem_append.1 hx with hx | hx
                   · exact ⟨Know.has_trans HK3.out (HALL.out x hx).1, (HALL.out x hx).2⟩
                   · rw [List.mem_singleton.1 hx]; exact ⟨hkb, hmb⟩)
                 · exact Lib.hid HS3.out
                 · exact H.out
                case measure => first | (simp [intOf]; done) | (simp [intOf]; omega)
      · go_simp
        go_at_call 22
        with_reducible refine (read_top p i2 i3 nm pl HX.out (by rw [HS.out]; exact HDL.out) hs.p2).mono ?_
        rintro e wq ⟨q, n2, cap, lr, K3, rfl, hk3, hgd, hs⟩
        refine hK.out _ _ (trivial) (fun hHeld => ?_)
        clear hK KK
        try simp only [Act.put, sA, sB, sC]
        have hs := hs.p2.p2
        refine wpAnyH_ready (rs := [1, 4]) (by kernel_rfl) (by simp) (AllReadyH.cons (o := ⟨some 21, .load 27 (.tmp 20), 27, "produce.go:75", #[.mk 0 .data], none⟩) rfl (fun KK hK => ?_) (AllReadyH.cons (o := ⟨some 24, .buildSlice 27 1 #[(0, .tmp 23)], 27, "produce.go:75", #[.mk 3 .data], none⟩) rfl (fun KK hK => ?_) AllReadyH.nil))
        · have z1 := hs.p1.rawCell 4
          simp at z1
          go_simp
          refine hK.out _ _ (trivial) (fun hHeld => ?_)
          clear hK KK
          try simp only [Act.put, sA, sB, sC]
          clear z1
          refine wpAnyH_ready (rs := [4]) (by kernel_rfl) (by simp) (AllReadyH.cons (o := ⟨some 24, .buildSlice 27 1 #[(0, .tmp 23)], 27, "produce.go:75", #[.mk 3 .data], none⟩) rfl (fun KK hK => ?_) AllReadyH.nil)
          · rw [if_pos (by rfl)]
            refine op_value (exec_buildT13 _ _ _ _ (by kernel_rfl) (buildTV13 (.string (bb nm)) (.slice q n2 cap) _)) ?_
            obtain ⟨wy, b2, ey, eb, hs⟩ := hs.allocEx #[.string (bb nm), .slice q n2 cap] 33
            rw [ey, eb]
            clear ey eb
            refine hK.out _ _ (trivial) (fun hHeld => ?_)
            clear hK KK
            try simp only [Act.put, sA, sB, sC]
            refine wpAnyH_ready (rs := [5]) (by kernel_rfl) (by simp) (AllReadyH.cons (o := ⟨some 25, .call { callee := .builtin .append, args := #[.tmp 21, .tmp 24], argTypes := #[27, 27] }, 27, "produce.go:75", #[.mk 1 .data, .mk 4 .data, .mk 3 .chain], none⟩) rfl (fun KK hK => ?_) AllReadyH.nil)
            · rw [if_pos (by rfl)]
              refine op_app1 (.tmp 21) (.tmp 24) 27 rfl 33 Try.underlying27 elem_topP _ _ _ (by rfl) b2 #[.string (bb nm), .slice q n2 cap] 33 hs (by rfl) rfl (by simp [Value.oneCell']) (by have := HKN.out; unfold maxLen; omega) (by have := HKN.out; omega) (fun v' w' h => ?_)
              have hs := h
              clear h
              obtain ⟨qv, cv, hv⟩ := hs.rowAny
              subst hv
              refine hK.out _ _ (trivial) (fun hHeld => ?_)
              clear hK KK
              try simp only [Act.put, sA, sB, sC]
              refine tQ 6 ⟨some 26, .fieldAddr 29 (.tmp 5) 3, 0, "produce.go:75", #[.mk 0 .phase, .mk 1 .phase, .mk 2 .phase, .mk 3 .phase, .mk 4 .phase, .mk 5 .phase], none⟩ ?_; simp only [Act.put, sA, sB, sC]
              refine wpAnyH_ready (rs := [7]) (by kernel_rfl) (by simp) (AllReadyH.cons (o := ⟨none, .store 27 (.tmp 26) (.tmp 25), 0, "produce.go:75", #[.mk 6 .data, .mk 5 .data, .mk 5 .chain, .mk 0 .phase, .mk 1 .phase, .mk 2 .phase, .mk 3 .phase, .mk 4 .phase, .mk 5 .phase], none⟩) rfl (fun KK hK => ?_) AllReadyH.nil)
              · have hs := hs.p1
                have q1 := hs.rawFree 4
                have z1 := hs.rawCell 4
                simp at z1
                rw [if_pos (by rfl)]
                refine op_skip (w' := w'.setCell ⟨tb, 4, none⟩ (.slice qv (k + 1) cv)) (by go_simp) ?_
                obtain ⟨wz, ez, hs⟩ := hs.setExP 4 (.slice qv (k + 1) cv)
                rw [ez]
                clear ez q1 z1
                have hs := hs.p1
                refine hK.out _ _ (trivial) (fun hHeld => ?_)
                clear hK KK
                try simp only [Act.put]
                refine wpAnyH_done (by kernel_rfl) ?_ _
                clear hHeld
                have HK3 := Lib.hid hk3
                clear hk3
                replace H := Lib.hid hs
                clear hs
                go_wp2_with (go_at_call 23; (try clear y0 y1 y2 y3 y4 w0 w1 w2 w3 w4 v0 v1 v2 v3 v4); (with_reducible refine (p_err p i3 0 HER.out H.out.p2).mono ?_); rintro e_ wn ⟨rfl, h⟩; have h := h.p2.p2; have y0 := h.p1.rawCell 0; have y1 := h.p1.rawCell 1; have y2 := h.p1.rawCell 2; have y3 := h.p1.rawCell 3; have y4 := h.p1.rawCell 4; have w0 := h.p3.rawFree 0; have w1 := h.p3.rawFree 1; have w2 := h.p3.rawFree 2; have w3 := h.p3.rawFree 3; have w4 := h.p3.rawFree 4; have v0 := h.p3.rawCell 0; have v1 := h.p3.rawCell 1; have v2 := h.p3.rawCell 2; have v3 := h.p3.rawCell 3; have v4 := h.p3.rawCell 4; simp at y0 y1 y2 y3 y4 v0 v1 v2 v3 v4; replace H := Lib.hid h; clear h)
                go_roundw
                case rel =>
                 obtain ⟨hn2, hlb, hkb, hmb⟩ := hgd HER.out
                 subst hn2
                 refine ⟨k + 1, .slice qv (k + 1) cv, xs ++ [.string (bb nm), .slice q lr.length cap], i3, acc ++ [⟨nm, lr, q, cap⟩], K3, hlt, by go_num, ?_, ?_, ?_, ?_, ?_, ?_, ?_⟩
                 · exact Lib.hid (by rw [List.length_append, ← HAL.out]; rfl)
                 · exact Lib.hid (by rw [List.flatMap_append, HXS.out]; rfl)
                 · exact Lib.hid (by rw [List.map_append]; have := HP2.out; rw [← hlb] at this; exact this)
                 · exact Lib.hid (Know.has_trans HK3.out HKK.out)
                 · exact Lib.hid (fun x hx => by
                   rcases List.mem_append.1 hx with hx | hx
                   · exact ⟨Know.has_trans HK3.out (HALL.out x hx).1, (HALL.out x hx).2⟩
                   · rw [List.mem_singleton.1 hx]; exact ⟨hkb, hmb⟩)
                 · exact Lib.hid HS3.out
                 · exact H.out
                case measure => first | (simp [intOf]; done) | (simp [intOf]; omega)
        · rw [if_pos (by rfl)]
          refine op_value (exec_buildT13 _ _ _ _ (by kernel_rfl) (buildTV13 (.string (bb nm)) (.slice q n2 cap) _)) ?_
          obtain ⟨wy, b2, ey, eb, hs⟩ := hs.allocEx #[.string (bb nm), .slice q n2 cap] 33
          rw [ey, eb]
          clear ey eb
          refine hK.out _ _ (trivial) (fun hHeld => ?_)
          clear hK KK
          try simp only [Act.put, sA, sB, sC]
          refine wpAnyH_ready (rs := [1]) (by kernel_rfl) (by simp) (AllReadyH.cons (o := ⟨some 21, .load 27 (.tmp 20), 27, "produce.go:75", #[.mk 0 .data], none⟩) rfl (fun KK hK => ?_) AllReadyH.nil)
          · have z1 := hs.p2.rawCell 4
            simp at z1
            go_simp
            refine hK.out _ _ (trivial) (fun hHeld => ?_)
            clear hK KK
            try simp only [Act.put, sA, sB, sC]
            clear z1
            refine wpAnyH_ready (rs := [5]) (by kernel_rfl) (by simp) (AllReadyH.cons (o := ⟨some 25, .call { callee := .builtin .append, args := #[.tmp 21, .tmp 24], argTypes := #[27, 27] }, 27, "produce.go:75", #[.mk 1 .data, .mk 4 .data, .mk 3 .chain], none⟩) rfl (fun KK hK => ?_) AllReadyH.nil)
            · rw [if_pos (by rfl)]
              refine op_app1 (.tmp 21) (.tmp 24) 27 rfl 33 Try.underlying27 elem_topP _ _ _ (by rfl) b2 #[.string (bb nm), .slice q n2 cap] 33 hs (by rfl) rfl (by simp [Value.oneCell']) (by have := HKN.out; unfold maxLen; omega) (by have := HKN.out; omega) (fun v' w' h => ?_)
              have hs := h
              clear h
              obtain ⟨qv, cv, hv⟩ := hs.rowAny
              subst hv
              refine hK.out _ _ (trivial) (fun hHeld => ?_)
              clear hK KK
              try simp only [Act.put, sA, sB, sC]
              refine tQ 6 ⟨some 26, .fieldAddr 29 (.tmp 5) 3, 0, "produce.go:75", #[.mk 0 .phase, .mk 1 .phase, .mk 2 .phase, .mk 3 .phase, .mk 4 .phase, .mk 5 .phase], none⟩ ?_; simp only [Act.put, sA, sB, sC]
              refine wpAnyH_ready (rs := [7]) (by kernel_rfl) (by simp) (AllReadyH.cons (o := ⟨none, .store 27 (.tmp 26) (.tmp 25), 0, "produce.go:75", #[.mk 6 .data, .mk 5 .data, .mk 5 .chain, .mk 0 .phase, .mk 1 .phase, .mk 2 .phase, .mk 3 .phase, .mk 4 .phase, .mk 5 .phase], none⟩) rfl (fun KK hK => ?_) AllReadyH.nil)
              · have hs := hs.p1
                have q1 := hs.rawFree 4
                have z1 := hs.rawCell 4
                simp at z1
                rw [if_pos (by rfl)]
                refine op_skip (w' := w'.setCell ⟨tb, 4, none⟩ (.slice qv (k + 1) cv)) (by go_simp) ?_
                obtain ⟨wz, ez, hs⟩ := hs.setExP 4 (.slice qv (k + 1) cv)
                rw [ez]
                clear ez q1 z1
                have hs := hs.p1
                refine hK.out _ _ (trivial) (fun hHeld => ?_)
                clear hK KK
                try simp only [Act.put]
                refine wpAnyH_done (by kernel_rfl) ?_ _
                clear hHeld
                have HK3 := Lib.hid hk3
                clear hk3
                replace H := Lib.hid hs
                clear hs
                go_wp2_with (go_at_call 23; (try clear y0 y1 y2 y3 y4 w0 w1 w2 w3 w4 v0 v1 v2 v3 v4); (with_reducible refine (p_err p i3 0 HER.out H.out.p2).mono ?_); rintro e_ wn ⟨rfl, h⟩; have h := h.p2.p2; have y0 := h.p1.rawCell 0; have y1 := h.p1.rawCell 1; have y2 := h.p1.rawCell 2; have y3 := h.p1.rawCell 3; have y4 := h.p1.rawCell 4; have w0 := h.p3.rawFree 0; have w1 := h.p3.rawFree 1; have w2 := h.p3.rawFree 2; have w3 := h.p3.rawFree 3; have w4 := h.p3.rawFree 4; have v0 := h.p3.rawCell 0; have v1 := h.p3.rawCell 1; have v2 := h.p3.rawCell 2; have v3 := h.p3.rawCell 3; have v4 := h.p3.rawCell 4; simp at y0 y1 y2 y3 y4 v0 v1 v2 v3 v4; replace H := Lib.hid h; clear h)
                go_roundw
                case rel =>
                 obtain ⟨hn2, hlb, hkb, hmb⟩ := hgd HER.out
                 subst hn2
                 refine ⟨k + 1, .slice qv (k + 1) cv, xs ++ [.string (bb nm), .slice q lr.length cap], i3, acc ++ [⟨nm, lr, q, cap⟩], K3, hlt, by go_num, ?_, ?_, ?_, ?_, ?_, ?_, ?_⟩
                 · exact Lib.hid (by rw [List.length_append, ← HAL.out]; rfl)
                 · exact Lib.hid (by rw [List.flatMap_append, HXS.out]; rfl)
                 · exact Lib.hid (by rw [List.map_append]; have := HP2.out; rw [← hlb] at this; exact this)
                 · exact Lib.hid (Know.has_trans HK3.out HKK.out)
                 · exact Lib.hid (fun x hx => by
                   rcases List.mem_append.1 hx with hx | hx
                   · exact ⟨Know.has_trans HK3.out (HALL.out x hx).1, (HALL.out x hx).2⟩
                   · rw [List.mem_singleton.1 hx]; exact ⟨hkb, hmb⟩)
                 · exact Lib.hid HS3.out
                 · exact H.out
                case measure => first | (simp [intOf]; done) | (simp [intOf]; omega)
    · rw [if_neg he0] at hstep
      simp only [Prod.mk.injEq] at hstep
      obtain ⟨rfl, rfl⟩ := hstep
      have gz : (er == 0) = false := by rw [beq_eq_false_iff_ne]; exact he0
      have gz3 : (er != 0) = true := by simp [bne, gz]
      have HE0 := Lib.hid he0
      clear he0 her
      go_wp2_with fail
      have hs := H.out.drew
      refine wp_region_held_drew (S := fun _ => True) (by kernel_rfl) trivial (fun hHeld => ?_)
      refine tQ 0 ⟨some 20, .fieldAddr 29 (.tmp 5) 3, 0, "produce.go:75", #[], none⟩ ?_; simp only [Act.put, sA, sB, sC]
      refine tQ 2 ⟨some 22, .move (.tmp 0), 23, "produce.go:75", #[], none⟩ ?_; simp only [Act.put, sA, sB, sC]
      refine wpAnyH_ready (rs := [1, 3]) (by kernel_rfl) (by simp) (AllReadyH.cons (o := ⟨some 21, .load 27 (.tmp 20), 27, "produce.go:75", #[.mk 0 .data], none⟩) rfl (fun KK hK => ?_) (AllReadyH.cons (o := ⟨some 23, .call { callee := .value (.func 22), args := #[.tmp 22], argTypes := #[23] }, 33, "produce.go:75", #[.mk 2 .data], none⟩) rfl (fun KK hK => ?_) AllReadyH.nil))
      · have z1 := hs.p1.rawCell 4
        simp at z1
        go_simp
        refine hK.out _ _ (trivial) (fun hHeld => ?_)
        clear hK KK
        try simp only [Act.put, sA, sB, sC]
        clear z1
        refine wpAnyH_ready (rs := [3]) (by kernel_rfl) (by simp) (AllReadyH.cons (o := ⟨some 23, .call { callee := .value (.func 22), args := #[.tmp 22], argTypes := #[23] }, 33, "produce.go:75", #[.mk 2 .data], none⟩) rfl (fun KK hK => ?_) AllReadyH.nil)
        · go_simp
          go_at_call 22
          with_reducible refine (read_top p i2 i3 nm pl HX.out (by rw [HS.out]; exact HDL.out) hs.p2).mono ?_
          rintro e wq ⟨q, n2, cap, lr, K3, rfl, hk3, hgd, hs⟩
          refine hK.out _ _ (trivial) (fun hHeld => ?_)
          clear hK KK
          try simp only [Act.put, sA, sB, sC]
          have hs := hs.p2.p2
          refine wpAnyH_ready (rs := [4]) (by kernel_rfl) (by simp) (AllReadyH.cons (o := ⟨some 24, .buildSlice 27 1 #[(0, .tmp 23)], 27, "produce.go:75", #[.mk 3 .data], none⟩) rfl (fun KK hK => ?_) AllReadyH.nil)
          · rw [if_pos (by rfl)]
            refine op_value (exec_buildT13 _ _ _ _ (by kernel_rfl) (buildTV13 (.string (bb nm)) (.slice q n2 cap) _)) ?_
            obtain ⟨wy, b2, ey, eb, hs⟩ := hs.allocEx #[.string (bb nm), .slice q n2 cap] 33
            rw [ey, eb]
            clear ey eb
            refine hK.out _ _ (trivial) (fun hHeld => ?_)
            clear hK KK
            try simp only [Act.put, sA, sB, sC]
            refine wpAnyH_ready (rs := [5]) (by kernel_rfl) (by simp) (AllReadyH.cons (o := ⟨some 25, .call { callee := .builtin .append, args := #[.tmp 21, .tmp 24], argTypes := #[27, 27] }, 27, "produce.go:75", #[.mk 1 .data, .mk 4 .data, .mk 3 .chain], none⟩) rfl (fun KK hK => ?_) AllReadyH.nil)
            · rw [if_pos (by rfl)]
              refine op_app1 (.tmp 21) (.tmp 24) 27 rfl 33 Try.underlying27 elem_topP _ _ _ (by rfl) b2 #[.string (bb nm), .slice q n2 cap] 33 hs (by rfl) rfl (by simp [Value.oneCell']) (by have := HKN.out; unfold maxLen; omega) (by have := HKN.out; omega) (fun v' w' h => ?_)
              have hs := h
              clear h
              obtain ⟨qv, cv, hv⟩ := hs.rowAny
              subst hv
              refine hK.out _ _ (trivial) (fun hHeld => ?_)
              clear hK KK
              try simp only [Act.put, sA, sB, sC]
              refine tQ 6 ⟨some 26, .fieldAddr 29 (.tmp 5) 3, 0, "produce.go:75", #[.mk 0 .phase, .mk 1 .phase, .mk 2 .phase, .mk 3 .phase, .mk 4 .phase, .mk 5 .phase], none⟩ ?_; simp only [Act.put, sA, sB, sC]
              refine wpAnyH_ready (rs := [7]) (by kernel_rfl) (by simp) (AllReadyH.cons (o := ⟨none, .store 27 (.tmp 26) (.tmp 25), 0, "produce.go:75", #[.mk 6 .data, .mk 5 .data, .mk 5 .chain, .mk 0 .phase, .mk 1 .phase, .mk 2 .phase, .mk 3 .phase, .mk 4 .phase, .mk 5 .phase], none⟩) rfl (fun KK hK => ?_) AllReadyH.nil)
              · have hs := hs.p1
                have q1 := hs.rawFree 4
                have z1 := hs.rawCell 4
                simp at z1
                rw [if_pos (by rfl)]
                refine op_skip (w' := w'.setCell ⟨tb, 4, none⟩ (.slice qv (k + 1) cv)) (by go_simp) ?_
                obtain ⟨wz, ez, hs⟩ := hs.setExP 4 (.slice qv (k + 1) cv)
                rw [ez]
                clear ez q1 z1
                have hs := hs.p1
                refine hK.out _ _ (trivial) (fun hHeld => ?_)
                clear hK KK
                try simp only [Act.put]
                refine wpAnyH_done (by kernel_rfl) ?_ _
                clear hHeld hgd
                have HK3 := Lib.hid hk3
                clear hk3
                replace H := Lib.hid hs
                clear hs
                go_wp2_with (go_at_call 23; (try clear y0 y1 y2 y3 y4 w0 w1 w2 w3 w4 v0 v1 v2 v3 v4); (with_reducible refine (p_err p i3 er HER.out H.out.p2).mono ?_); rintro e_ wn ⟨rfl, h⟩; have h := h.p2.p2; have y0 := h.p1.rawCell 0; have y1 := h.p1.rawCell 1; have y2 := h.p1.rawCell 2; have y3 := h.p1.rawCell 3; have y4 := h.p1.rawCell 4; have w0 := h.p3.rawFree 0; have w1 := h.p3.rawFree 1; have w2 := h.p3.rawFree 2; have w3 := h.p3.rawFree 3; have w4 := h.p3.rawFree 4; have v0 := h.p3.rawCell 0; have v1 := h.p3.rawCell 1; have v2 := h.p3.rawCell 2; have v3 := h.p3.rawCell 3; have v4 := h.p3.rawCell 4; simp at y0 y1 y2 y3 y4 v0 v1 v2 v3 v4; replace H := Lib.hid h; clear h)
                have hz : St W0 _ _ (.raw rb #[.bool false, .string ⟨#[]⟩, .int .i64 0, .int .i64 0, .slice none 0 0] 29 :: _) := St.sets5P _ _ _ _ _ H.out.p3
                refine bodyPost_ret (rc_cell_onlyP rfl _ _ rb [.bool false, .string ⟨#[]⟩, .int .i64 0, .int .i64 0, .slice none 0 0] _ rfl (rc_rangeP hz) Try.underlying29 rfl (by kernel_rfl)) rfl ?_
                exact .inl ⟨by rw [HER.out]; exact HE0.out, K3, rfl, Know.has_trans HK3.out HKK.out, hz.drop.drop.drop⟩
      · go_simp
        go_at_call 22
        with_reducible refine (read_top p i2 i3 nm pl HX.out (by rw [HS.out]; exact HDL.out) hs.p2).mono ?_
        rintro e wq ⟨q, n2, cap, lr, K3, rfl, hk3, hgd, hs⟩
        refine hK.out _ _ (trivial) (fun hHeld => ?_)
        clear hK KK
        try simp only [Act.put, sA, sB, sC]
        have hs := hs.p2.p2
        refine wpAnyH_ready (rs := [1, 4]) (by kernel_rfl) (by simp) (AllReadyH.cons (o := ⟨some 21, .load 27 (.tmp 20), 27, "produce.go:75", #[.mk 0 .data], none⟩) rfl (fun KK hK => ?_) (AllReadyH.cons (o := ⟨some 24, .buildSlice 27 1 #[(0, .tmp 23)], 27, "produce.go:75", #[.mk 3 .data], none⟩) rfl (fun KK hK => ?_) AllReadyH.nil))
        · have z1 := hs.p1.rawCell 4
          simp at z1
          go_simp
          refine hK.out _ _ (trivial) (fun hHeld => ?_)
          clear hK KK
          try simp only [Act.put, sA, sB, sC]
          clear z1
          refine wpAnyH_ready (rs := [4]) (by kernel_rfl) (by simp) (AllReadyH.cons (o := ⟨some 24, .buildSlice 27 1 #[(0, .tmp 23)], 27, "produce.go:75", #[.mk 3 .data], none⟩) rfl (fun KK hK => ?_) AllReadyH.nil)
          · rw [if_pos (by rfl)]
            refine op_value (exec_buildT13 _ _ _ _ (by kernel_rfl) (buildTV13 (.string (bb nm)) (.slice q n2 cap) _)) ?_
            obtain ⟨wy, b2, ey, eb, hs⟩ := hs.allocEx #[.string (bb nm), .slice q n2 cap] 33
            rw [ey, eb]
            clear ey eb
            refine hK.out _ _ (trivial) (fun hHeld => ?_)
            clear hK KK
            try simp only [Act.put, sA, sB, sC]
            refine wpAnyH_ready (rs := [5]) (by kernel_rfl) (by simp) (AllReadyH.cons (o := ⟨some 25, .call { callee := .builtin .append, args := #[.tmp 21, .tmp 24], argTypes := #[27, 27] }, 27, "produce.go:75", #[.mk 1 .data, .mk 4 .data, .mk 3 .chain], none⟩) rfl (fun KK hK => ?_) AllReadyH.nil)
            · rw [if_pos (by rfl)]
              refine op_app1 (.tmp 21) (.tmp 24) 27 rfl 33 Try.underlying27 elem_topP _ _ _ (by rfl) b2 #[.string (bb nm), .slice q n2 cap] 33 hs (by rfl) rfl (by simp [Value.oneCell']) (by have := HKN.out; unfold maxLen; omega) (by have := HKN.out; omega) (fun v' w' h => ?_)
              have hs := h
              clear h
              obtain ⟨qv, cv, hv⟩ := hs.rowAny
              subst hv
              refine hK.out _ _ (trivial) (fun hHeld => ?_)
              clear hK KK
              try simp only [Act.put, sA, sB, sC]
              refine tQ 6 ⟨some 26, .fieldAddr 29 (.tmp 5) 3, 0, "produce.go:75", #[.mk 0 .phase, .mk 1 .phase, .mk 2 .phase, .mk 3 .phase, .mk 4 .phase, .mk 5 .phase], none⟩ ?_; simp only [Act.put, sA, sB, sC]
              refine wpAnyH_ready (rs := [7]) (by kernel_rfl) (by simp) (AllReadyH.cons (o := ⟨none, .store 27 (.tmp 26) (.tmp 25), 0, "produce.go:75", #[.mk 6 .data, .mk 5 .data, .mk 5 .chain, .mk 0 .phase, .mk 1 .phase, .mk 2 .phase, .mk 3 .phase, .mk 4 .phase, .mk 5 .phase], none⟩) rfl (fun KK hK => ?_) AllReadyH.nil)
              · have hs := hs.p1
                have q1 := hs.rawFree 4
                have z1 := hs.rawCell 4
                simp at z1
                rw [if_pos (by rfl)]
                refine op_skip (w' := w'.setCell ⟨tb, 4, none⟩ (.slice qv (k + 1) cv)) (by go_simp) ?_
                obtain ⟨wz, ez, hs⟩ := hs.setExP 4 (.slice qv (k + 1) cv)
                rw [ez]
                clear ez q1 z1
                have hs := hs.p1
                refine hK.out _ _ (trivial) (fun hHeld => ?_)
                clear hK KK
                try simp only [Act.put]
                refine wpAnyH_done (by kernel_rfl) ?_ _
                clear hHeld hgd
                have HK3 := Lib.hid hk3
                clear hk3
                replace H := Lib.hid hs
                clear hs
                go_wp2_with (go_at_call 23; (try clear y0 y1 y2 y3 y4 w0 w1 w2 w3 w4 v0 v1 v2 v3 v4); (with_reducible refine (p_err p i3 er HER.out H.out.p2).mono ?_); rintro e_ wn ⟨rfl, h⟩; have h := h.p2.p2; have y0 := h.p1.rawCell 0; have y1 := h.p1.rawCell 1; have y2 := h.p1.rawCell 2; have y3 := h.p1.rawCell 3; have y4 := h.p1.rawCell 4; have w0 := h.p3.rawFree 0; have w1 := h.p3.rawFree 1; have w2 := h.p3.rawFree 2; have w3 := h.p3.rawFree 3; have w4 := h.p3.rawFree 4; have v0 := h.p3.rawCell 0; have v1 := h.p3.rawCell 1; have v2 := h.p3.rawCell 2; have v3 := h.p3.rawCell 3; have v4 := h.p3.rawCell 4; simp at y0 y1 y2 y3 y4 v0 v1 v2 v3 v4; replace H := Lib.hid h; clear h)
                have hz : St W0 _ _ (.raw rb #[.bool false, .string ⟨#[]⟩, .int .i64 0, .int .i64 0, .slice none 0 0] 29 :: _) := St.sets5P _ _ _ _ _ H.out.p3
                refine bodyPost_ret (rc_cell_onlyP rfl _ _ rb [.bool false, .string ⟨#[]⟩, .int .i64 0, .int .i64 0, .slice none 0 0] _ rfl (rc_rangeP hz) Try.underlying29 rfl (by kernel_rfl)) rfl ?_
                exact .inl ⟨by rw [HER.out]; exact HE0.out, K3, rfl, Know.has_trans HK3.out HKK.out, hz.drop.drop.drop⟩
        · rw [if_pos (by rfl)]
          refine op_value (exec_buildT13 _ _ _ _ (by kernel_rfl) (buildTV13 (.string (bb nm)) (.slice q n2 cap) _)) ?_
          obtain ⟨wy, b2, ey, eb, hs⟩ := hs.allocEx #[.string (bb nm), .slice q n2 cap] 33
          rw [ey, eb]
          clear ey eb
          refine hK.out _ _ (trivial) (fun hHeld => ?_)
          clear hK KK
          try simp only [Act.put, sA, sB, sC]
          refine wpAnyH_ready (rs := [1]) (by kernel_rfl) (by simp) (AllReadyH.cons (o := ⟨some 21, .load 27 (.tmp 20), 27, "produce.go:75", #[.mk 0 .data], none⟩) rfl (fun KK hK => ?_) AllReadyH.nil)
          · have z1 := hs.p2.rawCell 4
            simp at z1
            go_simp
            refine hK.out _ _ (trivial) (fun hHeld => ?_)
            clear hK KK
            try simp only [Act.put, sA, sB, sC]
            clear z1
            refine wpAnyH_ready (rs := [5]) (by kernel_rfl) (by simp) (AllReadyH.cons (o := ⟨some 25, .call { callee := .builtin .append, args := #[.tmp 21, .tmp 24], argTypes := #[27, 27] }, 27, "produce.go:75", #[.mk 1 .data, .mk 4 .data, .mk 3 .chain], none⟩) rfl (fun KK hK => ?_) AllReadyH.nil)
            · rw [if_pos (by rfl)]
              refine op_app1 (.tmp 21) (.tmp 24) 27 rfl 33 Try.underlying27 elem_topP _ _ _ (by rfl) b2 #[.string (bb nm), .slice q n2 cap] 33 hs (by rfl) rfl (by simp [Value.oneCell']) (by have := HKN.out; unfold maxLen; omega) (by have := HKN.out; omega) (fun v' w' h => ?_)
              have hs := h
              clear h
              obtain ⟨qv, cv, hv⟩ := hs.rowAny
              subst hv
              refine hK.out _ _ (trivial) (fun hHeld => ?_)
              clear hK KK
              try simp only [Act.put, sA, sB, sC]
              refine tQ 6 ⟨some 26, .fieldAddr 29 (.tmp 5) 3, 0, "produce.go:75", #[.mk 0 .phase, .mk 1 .phase, .mk 2 .phase, .mk 3 .phase, .mk 4 .phase, .mk 5 .phase], none⟩ ?_; simp only [Act.put, sA, sB, sC]
              refine wpAnyH_ready (rs := [7]) (by kernel_rfl) (by simp) (AllReadyH.cons (o := ⟨none, .store 27 (.tmp 26) (.tmp 25), 0, "produce.go:75", #[.mk 6 .data, .mk 5 .data, .mk 5 .chain, .mk 0 .phase, .mk 1 .phase, .mk 2 .phase, .mk 3 .phase, .mk 4 .phase, .mk 5 .phase], none⟩) rfl (fun KK hK => ?_) AllReadyH.nil)
              · have hs := hs.p1
                have q1 := hs.rawFree 4
                have z1 := hs.rawCell 4
                simp at z1
                rw [if_pos (by rfl)]
                refine op_skip (w' := w'.setCell ⟨tb, 4, none⟩ (.slice qv (k + 1) cv)) (by go_simp) ?_
                obtain ⟨wz, ez, hs⟩ := hs.setExP 4 (.slice qv (k + 1) cv)
                rw [ez]
                clear ez q1 z1
                have hs := hs.p1
                refine hK.out _ _ (trivial) (fun hHeld => ?_)
                clear hK KK
                try simp only [Act.put]
                refine wpAnyH_done (by kernel_rfl) ?_ _
                clear hHeld hgd
                have HK3 := Lib.hid hk3
                clear hk3
                replace H := Lib.hid hs
                clear hs
                go_wp2_with (go_at_call 23; (try clear y0 y1 y2 y3 y4 w0 w1 w2 w3 w4 v0 v1 v2 v3 v4); (with_reducible refine (p_err p i3 er HER.out H.out.p2).mono ?_); rintro e_ wn ⟨rfl, h⟩; have h := h.p2.p2; have y0 := h.p1.rawCell 0; have y1 := h.p1.rawCell 1; have y2 := h.p1.rawCell 2; have y3 := h.p1.rawCell 3; have y4 := h.p1.rawCell 4; have w0 := h.p3.rawFree 0; have w1 := h.p3.rawFree 1; have w2 := h.p3.rawFree 2; have w3 := h.p3.rawFree 3; have w4 := h.p3.rawFree 4; have v0 := h.p3.rawCell 0; have v1 := h.p3.rawCell 1; have v2 := h.p3.rawCell 2; have v3 := h.p3.rawCell 3; have v4 := h.p3.rawCell 4; simp at y0 y1 y2 y3 y4 v0 v1 v2 v3 v4; replace H := Lib.hid h; clear h)
                have hz : St W0 _ _ (.raw rb #[.bool false, .string ⟨#[]⟩, .int .i64 0, .int .i64 0, .slice none 0 0] 29 :: _) := St.sets5P _ _ _ _ _ H.out.p3
                refine bodyPost_ret (rc_cell_onlyP rfl _ _ rb [.bool false, .string ⟨#[]⟩, .int .i64 0, .int .i64 0, .slice none 0 0] _ rfl (rc_rangeP hz) Try.underlying29 rfl (by kernel_rfl)) rfl ?_
                exact .inl ⟨by rw [HER.out]; exact HE0.out, K3, rfl, Know.has_trans HK3.out HKK.out, hz.drop.drop.drop⟩
  · obtain rfl : k = n := by omega
    have hp := HP.out
    rw [Nat.sub_self] at hp
    have hp : (acc.map PTop.pt, i2) = (ts, j) := hp
    simp only [Prod.mk.injEq] at hp
    obtain ⟨hpl, rfl⟩ := hp
    have HPL := Lib.hid hpl
    have HLL := Lib.hid (show acc.length ≤ 1000000 by have h9 := HOK.out.1; rw [← hpl, List.length_map] at h9; exact h9)
    have HCK := Lib.hid (show ∀ x ∈ acc, CkT x from fun x hx => ck_top HDL.out x (HOK.out.2 x.pt (by rw [← hpl]; exact List.mem_map_of_mem hx)) (HALL.out x hx).2)
    have HOT := Lib.hid (show ∀ x ∈ acc, PtOk i.s.length x.pt ∧ ∀ y ∈ x.l, ∀ z ∈ y.l, z.l.map (·.1) = z.b.recs from fun x hx => ⟨HOK.out.2 x.pt (by rw [← hpl]; exact List.mem_map_of_mem hx), (HALL.out x hx).2⟩)
    clear hpl
    obtain ⟨er, her⟩ : ∃ er, i2.err = er := ⟨_, rfl⟩
    have HER := Lib.hid her
    by_cases he0 : er = 0
    · subst he0
      clear her
      have hf := H.out.freezeTopsK HAL.out HXS.out (fun x hx => (HALL.out x hx).1)
      have HK9 := Lib.hid (show (K2.and (Know.ptops (.slice qv0 k cv0) acc)).has (Know.ptops (.slice qv0 k cv0) acc) from Know.has_right (Know.has_refl _))
      have HK8 := Lib.hid (show (K2.and (Know.ptops (.slice qv0 k cv0) acc)).has K from Know.has_trans (Know.has_left (Know.has_refl _)) HKK.out)
      clear H
      have H := Lib.hid hf
      clear hf
      obtain ⟨e, he⟩ : ∃ e, errReq ⟨true, dd⟩ ac tm v acc = e := ⟨_, rfl⟩
      have HE := Lib.hid he
      by_cases h0 : e = 0
      · subst h0
        clear he
        go_wp2_with (first
  | (go_at_call 23; (try clear y0 y1 y2 y3 y4 w0 w1 w2 w3 w4 v0 v1 v2 v3 v4); (with_reducible refine (p_err p i2 0 HER.out H.out.p1).mono ?_); rintro e_ wn ⟨rfl, h⟩; have h := h.p1; have y0 := h.rawCell 0; have y1 := h.rawCell 1; have y2 := h.rawCell 2; have y3 := h.rawCell 3; have y4 := h.rawCell 4; have w0 := h.p2.rawFree 0; have w1 := h.p2.rawFree 1; have w2 := h.p2.rawFree 2; have w3 := h.p2.rawFree 3; have w4 := h.p2.rawFree 4; have v0 := h.p2.rawCell 0; have v1 := h.p2.rawCell 1; have v2 := h.p2.rawCell 2; have v3 := h.p2.rawCell 3; have v4 := h.p2.rawCell 4; simp at y0 y1 y2 y3 y4 v0 v1 v2 v3 v4; replace H := Lib.hid h; clear h)
  | (go_at_call 18; (try clear y0 y1 y2 y3 y4 w0 w1 w2 w3 w4 v0 v1 v2 v3 v4); (with_reducible refine (preq_checkK true dd ac tm v acc qv0 cv0 k HAL.out HDD.out HCK.out HLL.out 0 HE.out HK9.out H.out).mono ?_); rintro e_ wn ⟨rfl, h⟩; have y0 := h.rawCell 0; have y1 := h.rawCell 1; have y2 := h.rawCell 2; have y3 := h.rawCell 3; have y4 := h.rawCell 4; have w0 := h.p2.rawFree 0; have w1 := h.p2.rawFree 1; have w2 := h.p2.rawFree 2; have w3 := h.p2.rawFree 3; have w4 := h.p2.rawFree 4; have v0 := h.p2.rawCell 0; have v1 := h.p2.rawCell 1; have v2 := h.p2.rawCell 2; have v3 := h.p2.rawCell 3; have v4 := h.p2.rawCell 4; simp at y0 y1 y2 y3 y4 v0 v1 v2 v3 v4; replace H := Lib.hid h; clear h))
        have hz : St W0 _ _ (.raw rb #[.bool true, .string (bb dd), .int .i64 ac, .int .i64 tm, .slice qv0 k cv0] 29 :: _) := St.sets5P _ _ _ _ _ H.out.p2
        refine bodyPost_ret (rc_cell_onlyP rfl _ _ rb [.bool true, .string (bb dd), .int .i64 ac, .int .i64 tm, .slice qv0 k cv0] _ rfl (rc_rangeP hz) Try.underlying29 rfl (by kernel_rfl)) rfl ?_
        have hn := HAL.out
        subst hn
        exact .inr ⟨HER.out, qv0, cv0, acc, _, HK8.out, HPL.out, HCK.out, HLL.out, HOT.out, .inl ⟨HE.out, rfl, HK9.out, hz.drop.drop⟩⟩
      · have gz : (e == 0) = false := by rw [beq_eq_false_iff_ne]; exact h0
        have gz3 : (e != 0) = true := by simp [bne, gz]
        have HE0 := Lib.hid h0
        obtain ⟨j2, hj2⟩ : ∃ j2, i2.fail e = j2 := ⟨_, rfl⟩
        have HF := Lib.hid hj2
        have HER2 := Lib.hid (show j2.err = e by rw [← hj2]; unfold InS.fail; rw [if_pos HER.out])
        clear h0 he hj2
        go_wp2_with (first
  | (go_at_call 23; (try clear y0 y1 y2 y3 y4 w0 w1 w2 w3 w4 v0 v1 v2 v3 v4); (with_reducible refine (p_err p i2 0 HER.out H.out.p1).mono ?_); rintro e_ wn ⟨rfl, h⟩; have h := h.p1; have y0 := h.rawCell 0; have y1 := h.rawCell 1; have y2 := h.rawCell 2; have y3 := h.rawCell 3; have y4 := h.rawCell 4; have w0 := h.p2.rawFree 0; have w1 := h.p2.rawFree 1; have w2 := h.p2.rawFree 2; have w3 := h.p2.rawFree 3; have w4 := h.p2.rawFree 4; have v0 := h.p2.rawCell 0; have v1 := h.p2.rawCell 1; have v2 := h.p2.rawCell 2; have v3 := h.p2.rawCell 3; have v4 := h.p2.rawCell 4; simp at y0 y1 y2 y3 y4 v0 v1 v2 v3 v4; replace H := Lib.hid h; clear h)
  | (go_at_call 18; (try clear y0 y1 y2 y3 y4 w0 w1 w2 w3 w4 v0 v1 v2 v3 v4); (with_reducible refine (preq_checkK true dd ac tm v acc qv0 cv0 k HAL.out HDD.out HCK.out HLL.out e HE.out HK9.out H.out).mono ?_); rintro e_ wn ⟨rfl, h⟩; have y0 := h.rawCell 0; have y1 := h.rawCell 1; have y2 := h.rawCell 2; have y3 := h.rawCell 3; have y4 := h.rawCell 4; have w0 := h.p2.rawFree 0; have w1 := h.p2.rawFree 1; have w2 := h.p2.rawFree 2; have w3 := h.p2.rawFree 3; have w4 := h.p2.rawFree 4; have v0 := h.p2.rawCell 0; have v1 := h.p2.rawCell 1; have v2 := h.p2.rawCell 2; have v3 := h.p2.rawCell 3; have v4 := h.p2.rawCell 4; simp at y0 y1 y2 y3 y4 v0 v1 v2 v3 v4; replace H := Lib.hid h; clear h)
  | (go_at_call 24; (try clear y0 y1 y2 y3 y4 w0 w1 w2 w3 w4 v0 v1 v2 v3 v4); (with_reducible refine (p_fail p i2 j2 e HF.out H.out.p1).mono ?_); rintro e_ wn ⟨rfl, h⟩; have h := h.p1; have y0 := h.rawCell 0; have y1 := h.rawCell 1; have y2 := h.rawCell 2; have y3 := h.rawCell 3; have y4 := h.rawCell 4; have w0 := h.p2.rawFree 0; have w1 := h.p2.rawFree 1; have w2 := h.p2.rawFree 2; have w3 := h.p2.rawFree 3; have w4 := h.p2.rawFree 4; have v0 := h.p2.rawCell 0; have v1 := h.p2.rawCell 1; have v2 := h.p2.rawCell 2; have v3 := h.p2.rawCell 3; have v4 := h.p2.rawCell 4; simp at y0 y1 y2 y3 y4 v0 v1 v2 v3 v4; replace H := Lib.hid h; clear h)
  | (go_at_call 23; (try clear y0 y1 y2 y3 y4 w0 w1 w2 w3 w4 v0 v1 v2 v3 v4); (with_reducible refine (p_err p j2 e HER2.out H.out.p1).mono ?_); rintro e_ wn ⟨rfl, h⟩; have h := h.p1; have y0 := h.rawCell 0; have y1 := h.rawCell 1; have y2 := h.rawCell 2; have y3 := h.rawCell 3; have y4 := h.rawCell 4; have w0 := h.p2.rawFree 0; have w1 := h.p2.rawFree 1; have w2 := h.p2.rawFree 2; have w3 := h.p2.rawFree 3; have w4 := h.p2.rawFree 4; have v0 := h.p2.rawCell 0; have v1 := h.p2.rawCell 1; have v2 := h.p2.rawCell 2; have v3 := h.p2.rawCell 3; have v4 := h.p2.rawCell 4; simp at y0 y1 y2 y3 y4 v0 v1 v2 v3 v4; replace H := Lib.hid h; clear h))
        have hz : St W0 _ _ (.raw rb #[.bool false, .string ⟨#[]⟩, .int .i64 0, .int .i64 0, .slice none 0 0] 29 :: _) := St.sets5P _ _ _ _ _ H.out.p2
        refine bodyPost_ret (rc_cell_onlyP rfl _ _ rb [.bool false, .string ⟨#[]⟩, .int .i64 0, .int .i64 0, .slice none 0 0] _ rfl (rc_rangeP hz) Try.underlying29 rfl (by kernel_rfl)) rfl ?_
        exact .inr ⟨HER.out, qv0, cv0, acc, _, HK8.out, HPL.out, HCK.out, HLL.out, HOT.out, .inr ⟨by rw [HE.out]; exact HE0.out, rfl, by rw [HE.out, HF.out]; exact hz.drop.drop⟩⟩
    · have gz : (er == 0) = false := by rw [beq_eq_false_iff_ne]; exact he0
      have gz3 : (er != 0) = true := by simp [bne, gz]
      have HE0 := Lib.hid he0
      clear he0 her
      go_wp2_with (go_at_call 23; (try clear y0 y1 y2 y3 y4 w0 w1 w2 w3 w4 v0 v1 v2 v3 v4); (with_reducible refine (p_err p i2 er HER.out H.out.p2).mono ?_); rintro e_ wn ⟨rfl, h⟩; have h := h.p2.p2; have y0 := h.p1.rawCell 0; have y1 := h.p1.rawCell 1; have y2 := h.p1.rawCell 2; have y3 := h.p1.rawCell 3; have y4 := h.p1.rawCell 4; have w0 := h.p3.rawFree 0; have w1 := h.p3.rawFree 1; have w2 := h.p3.rawFree 2; have w3 := h.p3.rawFree 3; have w4 := h.p3.rawFree 4; have v0 := h.p3.rawCell 0; have v1 := h.p3.rawCell 1; have v2 := h.p3.rawCell 2; have v3 := h.p3.rawCell 3; have v4 := h.p3.rawCell 4; simp at y0 y1 y2 y3 y4 v0 v1 v2 v3 v4; replace H := Lib.hid h; clear h)
      have hz : St W0 _ _ (.raw rb #[.bool false, .string ⟨#[]⟩, .int .i64 0, .int .i64 0, .slice none 0 0] 29 :: _) := St.sets5P _ _ _ _ _ H.out.p3
      refine bodyPost_ret (rc_cell_onlyP rfl _ _ rb [.bool false, .string ⟨#[]⟩, .int .i64 0, .int .i64 0, .slice none 0 0] _ rfl (rc_rangeP hz) Try.underlying29 rfl (by kernel_rfl)) rfl ?_
      exact .inl ⟨by rw [HER.out]; exact HE0.out, K2, rfl, HKK.out, hz.drop.drop.drop⟩

end Go.Proofs.Ytnnnglklgofabaa
