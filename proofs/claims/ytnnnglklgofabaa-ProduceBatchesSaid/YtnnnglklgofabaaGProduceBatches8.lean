/- A text. -/
import Derived.Test.YtnnnglklgofabaaGProduceBatches6
import Derived.RegionTactic
import Derived.Deep.RegionHeld3
import Derived.Deep.DeepCutAuto
import Derived.WalkMore
/- A text. -/
namespace Go.Proofs.Ytnnnglklgofabaa
open Go.RowKit

theorem buildBatV (b : BatS) (sl : Value) (w : World) : (Instr.buildSlice 34 1 #[(0, .agg #[.int .i64 b.base, .int .i64 b.leader, .bool b.app, .bool b.txn, .bool b.ctl, .int .i64 b.last, .int .i64 b.first, .int .i64 b.maxt, .int .i64 b.prod, .int .i64 b.epoch, .int .i64 b.seq, sl])]).run Try.prog w = .ok (.slice (some ⟨w.heap.size, 0, none⟩) 1 1) (w.alloc (.cells #[.int .i64 b.base, .int .i64 b.leader, .bool b.app, .bool b.txn, .bool b.ctl, .int .i64 b.last, .int .i64 b.first, .int .i64 b.maxt, .int .i64 b.prod, .int .i64 b.epoch, .int .i64 b.seq, sl] 39 (0, 0))) := by go_simp
theorem buildBatZ (w : World) : (Instr.buildSlice 34 1 #[(0, .agg #[.int .i64 0, .int .i64 0, .bool false, .bool false, .bool false, .int .i64 0, .int .i64 0, .int .i64 0, .int .i64 0, .int .i64 0, .int .i64 0, .slice none 0 0])]).run Try.prog w = .ok (.slice (some ⟨w.heap.size, 0, none⟩) 1 1) (w.alloc (.cells #[.int .i64 0, .int .i64 0, .bool false, .bool false, .bool false, .int .i64 0, .int .i64 0, .int .i64 0, .int .i64 0, .int .i64 0, .int .i64 0, .slice none 0 0] 39 (0, 0))) := by go_simp
theorem exec_buildB {o : Oper} {ρ : Operand → Value} (ps : Array (Nat × Value)) (v : Value) (w w' : World) (ho : execOp ρ o = (do pure (Next.value (← Instr.buildSlice 34 1 ps)))) (hb : (Instr.buildSlice 34 1 ps).run Try.prog w = .ok v w') : (execOp ρ o).run Try.prog w = .ok (.value v) w' := by
 rw [ho]
 simp [hb]

set_option maxHeartbeats 8000000 in
set_option maxRecDepth 100000 in
theorem read_part_false (p : Nat) (i i1 i2 i3 j : InS) (a : Int) (d : Bs) (l : List BatS) (h1 : i.int 4 = (a, i1)) (h2 : i1.fixed 4 = (⟨false, d⟩, i2)) (h3 : i2 = i3) (hj : (match batsS d with | .ok l => ((a, l), i3) | .error e => ((a, []), i3.fail e)) = ((a, l), j)) (hd : d.length ≤ 1000000) {W0 w : World} {K : Know} {L : List Res} (h : St W0 w K (.inp p i :: L)) :
  Calls Try.prog 50 #[inPtr p] w fun en w' => ∃ (q : Option Addr) (n cap : Nat) (lr : List BatR) (K2 : Know), en = .returned (.agg #[.int .i64 a, .slice q n cap]) ∧ K2.has K ∧ (j.err = 0 → n = lr.length ∧ lr.map BatR.b = l ∧ K2.has (Know.bats (.slice q n cap) lr) ∧ ∀ x ∈ lr, x.l.map (·.1) = x.b.recs) ∧ St W0 w' K2 (.inp p j :: L) := by
 obtain ⟨rb, hrb⟩ : ∃ b, w.heap.size = b := ⟨_, rfl⟩
 obtain ⟨pb, hpb⟩ : ∃ b, rb + 1 = b := ⟨_, rfl⟩
 have g1 := ((h.allocRaw #[.int .i64 0, .slice none 0 0] 36).allocRaw #[.int .i64 0, .slice none 0 0] 36).p2
 simp only [World.size_alloc, hrb, hpb] at g1
 have H := Lib.hid g1
 have H1 := Lib.hid h1
 have H2 := Lib.hid h2
 have H3 := Lib.hid h3
 have HJ := Lib.hid hj
 have HDL := Lib.hid hd
 have HDM := Lib.hid (show d.length ≤ 140737488355328 by omega)
 have hdi : (d.length : Int) ≤ 1000000 := by omega
 clear h g1 h1 h2 h3 hj hd
 go_enter Try.func50, Try.ntmps50
 go_wp2_with (first
  | (go_at_call 20; (with_reducible refine (p_int p i i1 a 4 H1.out H.out).mono ?_); rintro e_ wn ⟨rfl, h⟩; have h := h.p1; have x0 := h.rawFree 0; have x1 := h.rawCell 0; simp at x1; have h := (show St W0 (wn.setCell ⟨pb, 0, none⟩ (.int .i64 a)) K (.inp p i1 :: .raw pb #[.int .i64 a, .slice none 0 0] 36 :: .raw rb #[.int .i64 0, .slice none 0 0] 36 :: L) from (h.rawSet 0 (.int .i64 a)).p1); replace H := Lib.hid h; clear h)
  | (go_at_call 19; (with_reducible refine (p_fixed p i1 i2 4 false d H2.out H.out).mono ?_); rintro e_ wn ⟨rfl, h⟩; obtain ⟨qb, hqb⟩ : ∃ b, wn.heap.size = b := ⟨_, rfl⟩; have h := h.allocRaw #[.bool false, .string (bb d)] 26; rw [hqb] at h; have x2 := h.rawCell 0; have x3 := h.rawCell 1; simp at x2 x3; replace H := Lib.hid h; clear h)
  | (go_at_call 6; clear x2 x3; (with_reducible refine (s_new d HDM.out H.out.drop).mono ?_); rintro e_ wn ⟨bi, rfl, h⟩; rw [H3.out] at h; replace H := Lib.hid h; clear h))
 go_loopw [19] (fun _ wr => ∃ (v : Value) (n : Nat) (xs : List Value) (pos : Nat) (er : Int) (K2 : Know), Hid (K2.has K) ∧ Hid (PartJ K2 d n xs pos er) ∧ St W0 wr K2 (.row v 39 12 n xs :: .raw pb #[.int .i64 a, v] 36 :: .inp bi ⟨d, pos, er⟩ :: .raw rb #[.int .i64 0, .slice none 0 0] 36 :: .inp p i3 :: L)) (fun _ wr => PInM bi d.length wr)
 case atStart =>
  refine ⟨.slice none 0 0, 0, [], 0, 0, K, Lib.hid (Know.has_refl _), Lib.hid (.inl ⟨rfl, Nat.zero_le _, by omega, [], rfl, rfl, by rw [List.drop_zero]; exact preB_nil _, fun x hx => (by cases hx), fun x hx => (by cases hx)⟩), ?_⟩
  have h9 := H.out
  exact (h9.p1.p3.p2.p3.nilRow 39 12)
 case round =>
  obtain ⟨v, n, xs, pos, er, K2, HKK, HPJ, hst⟩ := hrel
  clear H
  obtain ⟨qv0, cv0, hv0⟩ := hst.rowAny
  subst hv0
  have HMS := Lib.hid (pinM (n := d.length) hst.p2)
  have H := Lib.hid hst
  clear hst
  obtain ⟨lf, hlf⟩ : ∃ lf, (⟨d, pos, er⟩ : InS).left = lf := ⟨_, rfl⟩
  have HLF := Lib.hid hlf
  rcases HPJ.out with ⟨er0, hpd, hnb, acc, hn, hxs, hpre, hrec, hmp⟩ | ⟨he0, hbe⟩
  · subst er0
    subst hxs
    have hlf2 : d.length - pos = lf := hlf
    have HREC := Lib.hid hrec
    have HMP := Lib.hid hmp
    have HPD := Lib.hid hpd
    have HNB := Lib.hid (show n ≤ 1000000 by omega)
    by_cases hz : lf = 0
    · subst hz
      have hR : d.drop pos = [] := List.drop_of_length_le (by omega)
      rw [hR, batsS_nil] at hpre
      have hpre : Except.ok (acc.map BatR.b ++ []) = batsS d := hpre
      have HB := Lib.hid (show acc.map BatR.b = l ∧ i3 = j by
       have hj := HJ.out
       rw [← hpre] at hj
       simp only [List.append_nil, Prod.mk.injEq, true_and] at hj
       exact hj)
      have HN := Lib.hid hn
      clear hlf hlf2 hpd hnb hn hpre hrec hmp hR
      go_wp2_with (first
  | (go_at_call 48; (with_reducible refine (p_left bi _ _ HLF.out H.out.p2).mono ?_); rintro e_ wn ⟨rfl, h⟩; have h := h.p2.p2; replace H := Lib.hid h; clear h)
  | (go_at_call 23; (try clear y0 y1 w0 w1 v0 v1); (with_reducible refine (p_err bi _ 0 rfl H.out.p2).mono ?_); rintro e_ wn ⟨rfl, h⟩; have h := h.p2.p2; have y0 := h.p1.rawCell 0; have y1 := h.p1.rawCell 1; have w0 := h.p3.rawFree 0; have w1 := h.p3.rawFree 1; have v0 := h.p3.rawCell 0; have v1 := h.p3.rawCell 1; simp at y0 y1 v0 v1; replace H := Lib.hid h; clear h))
      have hz : St W0 _ _ (.raw rb #[.int .i64 a, .slice qv0 n cv0] 36 :: _) := ((H.out.p3.rawSet 0 (.int .i64 a)).rawSet 1 (.slice qv0 n cv0))
      refine bodyPost_ret (rc_cell_onlyP rfl _ _ rb [.int .i64 a, .slice qv0 n cv0] _ rfl (rc_rangeP hz) Try.underlying36 rfl (by kernel_rfl)) rfl ?_
      have hr := hz.drop
      have hn := HN.out
      subst hn
      have hf := hr.freezeBatsP HREC.out
      obtain ⟨hl9, hj9⟩ := HB.out
      subst hj9
      exact ⟨qv0, _, cv0, acc, K2.and (Know.bats (.slice qv0 acc.length cv0) acc), rfl, Know.has_trans (Know.has_left (Know.has_refl _)) HKK.out, fun _ => ⟨rfl, hl9, Know.has_right (Know.has_refl _), HMP.out⟩, hf.drop.drop⟩
    · have hlp : (0 : Int) < (lf : Int) := by omega
      have hR0 : d.drop pos ≠ [] := by intro hh; have := congrArg List.length hh; rw [List.length_drop, List.length_nil] at this; omega
      cases hrb2 : reBat (d.drop pos) with
      | error e =>
       have HRB := Lib.hid hrb2
       have HE0 := Lib.hid (reBat_ne hrb2)
       have HBE := Lib.hid (show batsS d = .error e by rw [← hpre, batsS_err hR0 hrb2]; rfl)
       clear hlf hlf2 hpd hnb hn hpre hrec hmp hR0 hrb2 hz
       go_wp2_with (first
  | (go_at_call 48; (with_reducible refine (p_left bi _ _ HLF.out H.out.p2).mono ?_); rintro e_ wn ⟨rfl, h⟩; have h := h.p2.p2; replace H := Lib.hid h; clear h)
  | (go_at_call 23; (try clear y0 y1 w0 w1 v0 v1); (with_reducible refine (p_err bi _ 0 rfl H.out.p2).mono ?_); rintro e_ wn ⟨rfl, h⟩; have h := h.p2.p2; have y0 := h.p1.rawCell 0; have y1 := h.p1.rawCell 1; have w0 := h.p3.rawFree 0; have w1 := h.p3.rawFree 1; have v0 := h.p3.rawCell 0; have v1 := h.p3.rawCell 1; simp at y0 y1 v0 v1; replace H := Lib.hid h; clear h))
       have hs := H.out.drew
       refine wp_region_held_drew (S := fun _ => True) (by kernel_rfl) trivial (fun hHeld => ?_)
       refine tQ 0 ⟨some 27, .fieldAddr 36 (.tmp 3) 1, 0, "produce.go:112", #[], none⟩ ?_; simp only [Act.put, sA, sB, sC]
       refine tQ 2 ⟨some 29, .move (.tmp 5), 23, "produce.go:112", #[], none⟩ ?_; simp only [Act.put, sA, sB, sC]
       refine wpAnyH_ready (rs := [1, 3]) (by kernel_rfl) (by simp) (AllReadyH.cons (o := ⟨some 28, .load 34 (.tmp 27), 34, "produce.go:112", #[.mk 0 .data], none⟩) rfl (fun KK hK => ?_) (AllReadyH.cons (o := ⟨some 30, .call { callee := .value (.func 30), args := #[.tmp 29], argTypes := #[23] }, 39, "produce.go:112", #[.mk 2 .data], none⟩) rfl (fun KK hK => ?_) AllReadyH.nil))
       · have z1 := hs.p1.rawCell 1
         simp at z1
         go_simp
         refine hK.out _ _ (trivial) (fun hHeld => ?_)
         clear hK KK
         try simp only [Act.put, sA, sB, sC]
         clear z1
         refine wpAnyH_ready (rs := [3]) (by kernel_rfl) (by simp) (AllReadyH.cons (o := ⟨some 30, .call { callee := .value (.func 30), args := #[.tmp 29], argTypes := #[23] }, 39, "produce.go:112", #[.mk 2 .data], none⟩) rfl (fun KK hK => ?_) AllReadyH.nil)
         · go_simp
           go_at_call 30
           with_reducible refine (bat_read_bad bi d pos HDL.out HPD.out e HRB.out hs.p2).mono ?_
           rintro e wq ⟨rfl, pq, hpq, hs⟩
           refine hK.out _ _ (trivial) (fun hHeld => ?_)
           clear hK KK
           try simp only [Act.put, sA, sB, sC]
           have hs := hs.p2.p2
           clear hpq
           refine wpAnyH_ready (rs := [4]) (by kernel_rfl) (by simp) (AllReadyH.cons (o := ⟨some 31, .buildSlice 34 1 #[(0, .tmp 30)], 34, "produce.go:112", #[.mk 3 .data], none⟩) rfl (fun KK hK => ?_) AllReadyH.nil)
           · rw [if_pos (by rfl)]
             refine op_value (exec_buildB _ _ _ _ (by kernel_rfl) (buildBatZ _)) ?_
             obtain ⟨wy, b2, ey, eb, hs⟩ := hs.allocEx #[.int .i64 0, .int .i64 0, .bool false, .bool false, .bool false, .int .i64 0, .int .i64 0, .int .i64 0, .int .i64 0, .int .i64 0, .int .i64 0, .slice none 0 0] 39
             rw [ey, eb]
             clear ey eb
             refine hK.out _ _ (trivial) (fun hHeld => ?_)
             clear hK KK
             try simp only [Act.put, sA, sB, sC]
             refine wpAnyH_ready (rs := [5]) (by kernel_rfl) (by simp) (AllReadyH.cons (o := ⟨some 32, .call { callee := .builtin .append, args := #[.tmp 28, .tmp 31], argTypes := #[34, 34] }, 34, "produce.go:112", #[.mk 1 .data, .mk 4 .data, .mk 3 .chain], none⟩) rfl (fun KK hK => ?_) AllReadyH.nil)
             · rw [if_pos (by rfl)]
               refine op_app1 (.tmp 28) (.tmp 31) 34 rfl 39 Try.underlying34 elem_batP _ _ _ (by rfl) b2 #[.int .i64 0, .int .i64 0, .bool false, .bool false, .bool false, .int .i64 0, .int .i64 0, .int .i64 0, .int .i64 0, .int .i64 0, .int .i64 0, .slice none 0 0] 39 hs (by rfl) rfl (by simp [Value.oneCell']) (by have := HNB.out; unfold maxLen; omega) (by have := HNB.out; omega) (fun v' w' h => ?_)
               have hs := h
               clear h
               obtain ⟨qv, cv, hv⟩ := hs.rowAny
               subst hv
               refine hK.out _ _ (trivial) (fun hHeld => ?_)
               clear hK KK
               try simp only [Act.put, sA, sB, sC]
               refine tQ 6 ⟨some 33, .fieldAddr 36 (.tmp 3) 1, 0, "produce.go:112", #[.mk 0 .phase, .mk 1 .phase, .mk 2 .phase, .mk 3 .phase, .mk 4 .phase, .mk 5 .phase], none⟩ ?_; simp only [Act.put, sA, sB, sC]
               refine wpAnyH_ready (rs := [7]) (by kernel_rfl) (by simp) (AllReadyH.cons (o := ⟨none, .store 34 (.tmp 33) (.tmp 32), 0, "produce.go:112", #[.mk 6 .data, .mk 5 .data, .mk 5 .chain, .mk 0 .phase, .mk 1 .phase, .mk 2 .phase, .mk 3 .phase, .mk 4 .phase, .mk 5 .phase], none⟩) rfl (fun KK hK => ?_) AllReadyH.nil)
               · have hs := hs.p1
                 have q1 := hs.rawFree 1
                 have z1 := hs.rawCell 1
                 simp at z1
                 rw [if_pos (by rfl)]
                 refine op_skip (w' := w'.setCell ⟨pb, 1, none⟩ (.slice qv (n + 1) cv)) (by go_simp) ?_
                 obtain ⟨wz, ez, hs⟩ := hs.setExP 1 (.slice qv (n + 1) cv)
                 rw [ez]
                 clear ez q1 z1
                 have hs := hs.p1
                 refine hK.out _ _ (trivial) (fun hHeld => ?_)
                 clear hK KK
                 try simp only [Act.put]
                 refine wpAnyH_done (by kernel_rfl) ?_ _
                 clear hHeld
                 go_wp2_with fail
                 go_roundw
                 case rel =>
                  refine ⟨.slice qv (n + 1) cv, n + 1, acc.flatMap pbcells ++ [.int .i64 0, .int .i64 0, .bool false, .bool false, .bool false, .int .i64 0, .int .i64 0, .int .i64 0, .int .i64 0, .int .i64 0, .int .i64 0, .slice none 0 0], pq, e, K2, ?_, ?_, ?_⟩
                  · exact HKK
                  · exact Lib.hid (.inr ⟨HE0.out, HBE.out⟩)
                  · exact hs
                 case measure =>
                  rw [pinM hs.p2, HMS.out]
                  have := HPD.out
                  show (if e ≠ 0 then 0 else d.length + 1 - pq) < if (0 : Int) ≠ 0 then 0 else d.length + 1 - pos
                  rw [if_pos HE0.out, if_neg (by simp)]
                  omega
       · go_simp
         go_at_call 30
         with_reducible refine (bat_read_bad bi d pos HDL.out HPD.out e HRB.out hs.p2).mono ?_
         rintro e wq ⟨rfl, pq, hpq, hs⟩
         refine hK.out _ _ (trivial) (fun hHeld => ?_)
         clear hK KK
         try simp only [Act.put, sA, sB, sC]
         have hs := hs.p2.p2
         clear hpq
         refine wpAnyH_ready (rs := [1, 4]) (by kernel_rfl) (by simp) (AllReadyH.cons (o := ⟨some 28, .load 34 (.tmp 27), 34, "produce.go:112", #[.mk 0 .data], none⟩) rfl (fun KK hK => ?_) (AllReadyH.cons (o := ⟨some 31, .buildSlice 34 1 #[(0, .tmp 30)], 34, "produce.go:112", #[.mk 3 .data], none⟩) rfl (fun KK hK => ?_) AllReadyH.nil))
         · have z1 := hs.p1.rawCell 1
           simp at z1
           go_simp
           refine hK.out _ _ (trivial) (fun hHeld => ?_)
           clear hK KK
           try simp only [Act.put, sA, sB, sC]
           clear z1
           refine wpAnyH_ready (rs := [4]) (by kernel_rfl) (by simp) (AllReadyH.cons (o := ⟨some 31, .buildSlice 34 1 #[(0, .tmp 30)], 34, "produce.go:112", #[.mk 3 .data], none⟩) rfl (fun KK hK => ?_) AllReadyH.nil)
           · rw [if_pos (by rfl)]
             refine op_value (exec_buildB _ _ _ _ (by kernel_rfl) (buildBatZ _)) ?_
             obtain ⟨wy, b2, ey, eb, hs⟩ := hs.allocEx #[.int .i64 0, .int .i64 0, .bool false, .bool false, .bool false, .int .i64 0, .int .i64 0, .int .i64 0, .int .i64 0, .int .i64 0, .int .i64 0, .slice none 0 0] 39
             rw [ey, eb]
             clear ey eb
             refine hK.out _ _ (trivial) (fun hHeld => ?_)
             clear hK KK
             try simp only [Act.put, sA, sB, sC]
             refine wpAnyH_ready (rs := [5]) (by kernel_rfl) (by simp) (AllReadyH.cons (o := ⟨some 32, .call { callee := .builtin .append, args := #[.tmp 28, .tmp 31], argTypes := #[34, 34] }, 34, "produce.go:112", #[.mk 1 .data, .mk 4 .data, .mk 3 .chain], none⟩) rfl (fun KK hK => ?_) AllReadyH.nil)
             · rw [if_pos (by rfl)]
               refine op_app1 (.tmp 28) (.tmp 31) 34 rfl 39 Try.underlying34 elem_batP _ _ _ (by rfl) b2 #[.int .i64 0, .int .i64 0, .bool false, .bool false, .bool false, .int .i64 0, .int .i64 0, .int .i64 0, .int .i64 0, .int .i64 0, .int .i64 0, .slice none 0 0] 39 hs (by rfl) rfl (by simp [Value.oneCell']) (by have := HNB.out; unfold maxLen; omega) (by have := HNB.out; omega) (fun v' w' h => ?_)
               have hs := h
               clear h
               obtain ⟨qv, cv, hv⟩ := hs.rowAny
               subst hv
               refine hK.out _ _ (trivial) (fun hHeld => ?_)
               clear hK KK
               try simp only [Act.put, sA, sB, sC]
               refine tQ 6 ⟨some 33, .fieldAddr 36 (.tmp 3) 1, 0, "produce.go:112", #[.mk 0 .phase, .mk 1 .phase, .mk 2 .phase, .mk 3 .phase, .mk 4 .phase, .mk 5 .phase], none⟩ ?_; simp only [Act.put, sA, sB, sC]
               refine wpAnyH_ready (rs := [7]) (by kernel_rfl) (by simp) (AllReadyH.cons (o := ⟨none, .store 34 (.tmp 33) (.tmp 32), 0, "produce.go:112", #[.mk 6 .data, .mk 5 .data, .mk 5 .chain, .mk 0 .phase, .mk 1 .phase, .mk 2 .phase, .mk 3 .phase, .mk 4 .phase, .mk 5 .phase], none⟩) rfl (fun KK hK => ?_) AllReadyH.nil)
               · have hs := hs.p1
                 have q1 := hs.rawFree 1
                 have z1 := hs.rawCell 1
                 simp at z1
                 rw [if_pos (by rfl)]
                 refine op_skip (w' := w'.setCell ⟨pb, 1, none⟩ (.slice qv (n + 1) cv)) (by go_simp) ?_
                 obtain ⟨wz, ez, hs⟩ := hs.setExP 1 (.slice qv (n + 1) cv)
                 rw [ez]
                 clear ez q1 z1
                 have hs := hs.p1
                 refine hK.out _ _ (trivial) (fun hHeld => ?_)
                 clear hK KK
                 try simp only [Act.put]
                 refine wpAnyH_done (by kernel_rfl) ?_ _
                 clear hHeld
                 go_wp2_with fail
                 go_roundw
                 case rel =>
                  refine ⟨.slice qv (n + 1) cv, n + 1, acc.flatMap pbcells ++ [.int .i64 0, .int .i64 0, .bool false, .bool false, .bool false, .int .i64 0, .int .i64 0, .int .i64 0, .int .i64 0, .int .i64 0, .int .i64 0, .slice none 0 0], pq, e, K2, ?_, ?_, ?_⟩
                  · exact HKK
                  · exact Lib.hid (.inr ⟨HE0.out, HBE.out⟩)
                  · exact hs
                 case measure =>
                  rw [pinM hs.p2, HMS.out]
                  have := HPD.out
                  show (if e ≠ 0 then 0 else d.length + 1 - pq) < if (0 : Int) ≠ 0 then 0 else d.length + 1 - pos
                  rw [if_pos HE0.out, if_neg (by simp)]
                  omega
         · rw [if_pos (by rfl)]
           refine op_value (exec_buildB _ _ _ _ (by kernel_rfl) (buildBatZ _)) ?_
           obtain ⟨wy, b2, ey, eb, hs⟩ := hs.allocEx #[.int .i64 0, .int .i64 0, .bool false, .bool false, .bool false, .int .i64 0, .int .i64 0, .int .i64 0, .int .i64 0, .int .i64 0, .int .i64 0, .slice none 0 0] 39
           rw [ey, eb]
           clear ey eb
           refine hK.out _ _ (trivial) (fun hHeld => ?_)
           clear hK KK
           try simp only [Act.put, sA, sB, sC]
           refine wpAnyH_ready (rs := [1]) (by kernel_rfl) (by simp) (AllReadyH.cons (o := ⟨some 28, .load 34 (.tmp 27), 34, "produce.go:112", #[.mk 0 .data], none⟩) rfl (fun KK hK => ?_) AllReadyH.nil)
           · have z1 := hs.p2.rawCell 1
             simp at z1
             go_simp
             refine hK.out _ _ (trivial) (fun hHeld => ?_)
             clear hK KK
             try simp only [Act.put, sA, sB, sC]
             clear z1
             refine wpAnyH_ready (rs := [5]) (by kernel_rfl) (by simp) (AllReadyH.cons (o := ⟨some 32, .call { callee := .builtin .append, args := #[.tmp 28, .tmp 31], argTypes := #[34, 34] }, 34, "produce.go:112", #[.mk 1 .data, .mk 4 .data, .mk 3 .chain], none⟩) rfl (fun KK hK => ?_) AllReadyH.nil)
             · rw [if_pos (by rfl)]
               refine op_app1 (.tmp 28) (.tmp 31) 34 rfl 39 Try.underlying34 elem_batP _ _ _ (by rfl) b2 #[.int .i64 0, .int .i64 0, .bool false, .bool false, .bool false, .int .i64 0, .int .i64 0, .int .i64 0, .int .i64 0, .int .i64 0, .int .i64 0, .slice none 0 0] 39 hs (by rfl) rfl (by simp [Value.oneCell']) (by have := HNB.out; unfold maxLen; omega) (by have := HNB.out; omega) (fun v' w' h => ?_)
               have hs := h
               clear h
               obtain ⟨qv, cv, hv⟩ := hs.rowAny
               subst hv
               refine hK.out _ _ (trivial) (fun hHeld => ?_)
               clear hK KK
               try simp only [Act.put, sA, sB, sC]
               refine tQ 6 ⟨some 33, .fieldAddr 36 (.tmp 3) 1, 0, "produce.go:112", #[.mk 0 .phase, .mk 1 .phase, .mk 2 .phase, .mk 3 .phase, .mk 4 .phase, .mk 5 .phase], none⟩ ?_; simp only [Act.put, sA, sB, sC]
               refine wpAnyH_ready (rs := [7]) (by kernel_rfl) (by simp) (AllReadyH.cons (o := ⟨none, .store 34 (.tmp 33) (.tmp 32), 0, "produce.go:112", #[.mk 6 .data, .mk 5 .data, .mk 5 .chain, .mk 0 .phase, .mk 1 .phase, .mk 2 .phase, .mk 3 .phase, .mk 4 .phase, .mk 5 .phase], none⟩) rfl (fun KK hK => ?_) AllReadyH.nil)
               · have hs := hs.p1
                 have q1 := hs.rawFree 1
                 have z1 := hs.rawCell 1
                 simp at z1
                 rw [if_pos (by rfl)]
                 refine op_skip (w' := w'.setCell ⟨pb, 1, none⟩ (.slice qv (n + 1) cv)) (by go_simp) ?_
                 obtain ⟨wz, ez, hs⟩ := hs.setExP 1 (.slice qv (n + 1) cv)
                 rw [ez]
                 clear ez q1 z1
                 have hs := hs.p1
                 refine hK.out _ _ (trivial) (fun hHeld => ?_)
                 clear hK KK
                 try simp only [Act.put]
                 refine wpAnyH_done (by kernel_rfl) ?_ _
                 clear hHeld
                 go_wp2_with fail
                 go_roundw
                 case rel =>
                  refine ⟨.slice qv (n + 1) cv, n + 1, acc.flatMap pbcells ++ [.int .i64 0, .int .i64 0, .bool false, .bool false, .bool false, .int .i64 0, .int .i64 0, .int .i64 0, .int .i64 0, .int .i64 0, .int .i64 0, .slice none 0 0], pq, e, K2, ?_, ?_, ?_⟩
                  · exact HKK
                  · exact Lib.hid (.inr ⟨HE0.out, HBE.out⟩)
                  · exact hs
                 case measure =>
                  rw [pinM hs.p2, HMS.out]
                  have := HPD.out
                  show (if e ≠ 0 then 0 else d.length + 1 - pq) < if (0 : Int) ≠ 0 then 0 else d.length + 1 - pos
                  rw [if_pos HE0.out, if_neg (by simp)]
                  omega
      | ok y =>
       obtain ⟨b, n2⟩ := y
       obtain ⟨xp, _, hn61, hnl, _⟩ := reBat_ok hrb2
       rw [List.length_drop] at hnl
       have HRB := Lib.hid hrb2
       have HN2 := Lib.hid (show 61 ≤ n2 by omega)
       have HPN := Lib.hid (show pos + n2 ≤ d.length by omega)
       have HNX := Lib.hid (show ∀ (q : Option Addr) (l : List (RecS × Value)) (cap : Nat), l.map (·.1) = b.recs → PartJ (K2.and (Know.recs (.slice q l.length cap) l)) d (n + 1) (acc.flatMap pbcells ++ [.int .i64 b.base, .int .i64 b.leader, .bool b.app, .bool b.txn, .bool b.ctl, .int .i64 b.last, .int .i64 b.first, .int .i64 b.maxt, .int .i64 b.prod, .int .i64 b.epoch, .int .i64 b.seq, .slice q l.length cap]) (pos + n2) 0 from fun q l cap hl => .inl ⟨rfl, by omega, by omega, acc ++ [⟨b, l, q, cap⟩], by rw [List.length_append, hn]; rfl, by rw [List.flatMap_append]; rfl, by
         rw [List.map_append]
         show preB (acc.map BatR.b ++ [b]) _ = _
         rw [preB_snoc, ← List.drop_drop, ← batsS_ok hR0 hrb2]
         exact hpre, fun x hx => by
         rcases List.mem_append.1 hx with hx | hx
         · exact Know.has_left (hrec x hx)
         · rw [List.mem_singleton.1 hx]; exact Know.has_right (Know.has_refl _), fun x hx => by
         rcases List.mem_append.1 hx with hx | hx
         · exact hmp x hx
         · rw [List.mem_singleton.1 hx]; exact hl⟩)
       clear hlf hlf2 hpd hnb hn hpre hrec hmp hR0 hrb2 hz hn61 hnl
       go_wp2_with (first
  | (go_at_call 48; (with_reducible refine (p_left bi _ _ HLF.out H.out.p2).mono ?_); rintro e_ wn ⟨rfl, h⟩; have h := h.p2.p2; replace H := Lib.hid h; clear h)
  | (go_at_call 23; (try clear y0 y1 w0 w1 v0 v1); (with_reducible refine (p_err bi _ 0 rfl H.out.p2).mono ?_); rintro e_ wn ⟨rfl, h⟩; have h := h.p2.p2; have y0 := h.p1.rawCell 0; have y1 := h.p1.rawCell 1; have w0 := h.p3.rawFree 0; have w1 := h.p3.rawFree 1; have v0 := h.p3.rawCell 0; have v1 := h.p3.rawCell 1; simp at y0 y1 v0 v1; replace H := Lib.hid h; clear h))
       have hs := H.out.drew
       refine wp_region_held_drew (S := fun _ => True) (by kernel_rfl) trivial (fun hHeld => ?_)
       refine tQ 0 ⟨some 27, .fieldAddr 36 (.tmp 3) 1, 0, "produce.go:112", #[], none⟩ ?_; simp only [Act.put, sA, sB, sC]
       refine tQ 2 ⟨some 29, .move (.tmp 5), 23, "produce.go:112", #[], none⟩ ?_; simp only [Act.put, sA, sB, sC]
       refine wpAnyH_ready (rs := [1, 3]) (by kernel_rfl) (by simp) (AllReadyH.cons (o := ⟨some 28, .load 34 (.tmp 27), 34, "produce.go:112", #[.mk 0 .data], none⟩) rfl (fun KK hK => ?_) (AllReadyH.cons (o := ⟨some 30, .call { callee := .value (.func 30), args := #[.tmp 29], argTypes := #[23] }, 39, "produce.go:112", #[.mk 2 .data], none⟩) rfl (fun KK hK => ?_) AllReadyH.nil))
       · have z1 := hs.p1.rawCell 1
         simp at z1
         go_simp
         refine hK.out _ _ (trivial) (fun hHeld => ?_)
         clear hK KK
         try simp only [Act.put, sA, sB, sC]
         clear z1
         refine wpAnyH_ready (rs := [3]) (by kernel_rfl) (by simp) (AllReadyH.cons (o := ⟨some 30, .call { callee := .value (.func 30), args := #[.tmp 29], argTypes := #[23] }, 39, "produce.go:112", #[.mk 2 .data], none⟩) rfl (fun KK hK => ?_) AllReadyH.nil)
         · go_simp
           go_at_call 30
           with_reducible refine (bat_read_good bi d pos HDL.out HPD.out b n2 HRB.out hs.p2).mono ?_
           rintro e wq ⟨q, l, cap, rfl, hlr, hs⟩
           refine hK.out _ _ (trivial) (fun hHeld => ?_)
           clear hK KK
           try simp only [Act.put, sA, sB, sC]
           have hs := hs.p2.p2
           have HLR := Lib.hid hlr
           clear hlr
           refine wpAnyH_ready (rs := [4]) (by kernel_rfl) (by simp) (AllReadyH.cons (o := ⟨some 31, .buildSlice 34 1 #[(0, .tmp 30)], 34, "produce.go:112", #[.mk 3 .data], none⟩) rfl (fun KK hK => ?_) AllReadyH.nil)
           · rw [if_pos (by rfl)]
             refine op_value (exec_buildB _ _ _ _ (by kernel_rfl) (buildBatV b (.slice q l.length cap) _)) ?_
             obtain ⟨wy, b2, ey, eb, hs⟩ := hs.allocEx #[.int .i64 b.base, .int .i64 b.leader, .bool b.app, .bool b.txn, .bool b.ctl, .int .i64 b.last, .int .i64 b.first, .int .i64 b.maxt, .int .i64 b.prod, .int .i64 b.epoch, .int .i64 b.seq, .slice q l.length cap] 39
             rw [ey, eb]
             clear ey eb
             refine hK.out _ _ (trivial) (fun hHeld => ?_)
             clear hK KK
             try simp only [Act.put, sA, sB, sC]
             refine wpAnyH_ready (rs := [5]) (by kernel_rfl) (by simp) (AllReadyH.cons (o := ⟨some 32, .call { callee := .builtin .append, args := #[.tmp 28, .tmp 31], argTypes := #[34, 34] }, 34, "produce.go:112", #[.mk 1 .data, .mk 4 .data, .mk 3 .chain], none⟩) rfl (fun KK hK => ?_) AllReadyH.nil)
             · rw [if_pos (by rfl)]
               refine op_app1 (.tmp 28) (.tmp 31) 34 rfl 39 Try.underlying34 elem_batP _ _ _ (by rfl) b2 #[.int .i64 b.base, .int .i64 b.leader, .bool b.app, .bool b.txn, .bool b.ctl, .int .i64 b.last, .int .i64 b.first, .int .i64 b.maxt, .int .i64 b.prod, .int .i64 b.epoch, .int .i64 b.seq, .slice q l.length cap] 39 hs (by rfl) rfl (by simp [Value.oneCell']) (by have := HNB.out; unfold maxLen; omega) (by have := HNB.out; omega) (fun v' w' h => ?_)
               have hs := h
               clear h
               obtain ⟨qv, cv, hv⟩ := hs.rowAny
               subst hv
               refine hK.out _ _ (trivial) (fun hHeld => ?_)
               clear hK KK
               try simp only [Act.put, sA, sB, sC]
               refine tQ 6 ⟨some 33, .fieldAddr 36 (.tmp 3) 1, 0, "produce.go:112", #[.mk 0 .phase, .mk 1 .phase, .mk 2 .phase, .mk 3 .phase, .mk 4 .phase, .mk 5 .phase], none⟩ ?_; simp only [Act.put, sA, sB, sC]
               refine wpAnyH_ready (rs := [7]) (by kernel_rfl) (by simp) (AllReadyH.cons (o := ⟨none, .store 34 (.tmp 33) (.tmp 32), 0, "produce.go:112", #[.mk 6 .data, .mk 5 .data, .mk 5 .chain, .mk 0 .phase, .mk 1 .phase, .mk 2 .phase, .mk 3 .phase, .mk 4 .phase, .mk 5 .phase], none⟩) rfl (fun KK hK => ?_) AllReadyH.nil)
               · have hs := hs.p1
                 have q1 := hs.rawFree 1
                 have z1 := hs.rawCell 1
                 simp at z1
                 rw [if_pos (by rfl)]
                 refine op_skip (w' := w'.setCell ⟨pb, 1, none⟩ (.slice qv (n + 1) cv)) (by go_simp) ?_
                 obtain ⟨wz, ez, hs⟩ := hs.setExP 1 (.slice qv (n + 1) cv)
                 rw [ez]
                 clear ez q1 z1
                 have hs := hs.p1
                 refine hK.out _ _ (trivial) (fun hHeld => ?_)
                 clear hK KK
                 try simp only [Act.put]
                 refine wpAnyH_done (by kernel_rfl) ?_ _
                 clear hHeld
                 go_wp2_with fail
                 go_roundw
                 case rel =>
                  refine ⟨.slice qv (n + 1) cv, n + 1, acc.flatMap pbcells ++ [.int .i64 b.base, .int .i64 b.leader, .bool b.app, .bool b.txn, .bool b.ctl, .int .i64 b.last, .int .i64 b.first, .int .i64 b.maxt, .int .i64 b.prod, .int .i64 b.epoch, .int .i64 b.seq, .slice q l.length cap], pos + n2, 0, K2.and (Know.recs (.slice q l.length cap) l), ?_, ?_, ?_⟩
                  · exact Lib.hid (Know.has_trans (Know.has_left (Know.has_refl _)) HKK.out)
                  · exact Lib.hid (HNX.out q l cap HLR.out)
                  · exact hs
                 case measure =>
                  rw [pinM hs.p2, HMS.out]
                  have := HN2.out
                  have := HPN.out
                  show (if (0 : Int) ≠ 0 then 0 else d.length + 1 - (pos + n2)) < if (0 : Int) ≠ 0 then 0 else d.length + 1 - pos
                  rw [if_neg (by simp), if_neg (by simp)]
                  omega
       · go_simp
         go_at_call 30
         with_reducible refine (bat_read_good bi d pos HDL.out HPD.out b n2 HRB.out hs.p2).mono ?_
         rintro e wq ⟨q, l, cap, rfl, hlr, hs⟩
         refine hK.out _ _ (trivial) (fun hHeld => ?_)
         clear hK KK
         try simp only [Act.put, sA, sB, sC]
         have hs := hs.p2.p2
         have HLR := Lib.hid hlr
         clear hlr
         refine wpAnyH_ready (rs := [1, 4]) (by kernel_rfl) (by simp) (AllReadyH.cons (o := ⟨some 28, .load 34 (.tmp 27), 34, "produce.go:112", #[.mk 0 .data], none⟩) rfl (fun KK hK => ?_) (AllReadyH.cons (o := ⟨some 31, .buildSlice 34 1 #[(0, .tmp 30)], 34, "produce.go:112", #[.mk 3 .data], none⟩) rfl (fun KK hK => ?_) AllReadyH.nil))
         · have z1 := hs.p1.rawCell 1
           simp at z1
           go_simp
           refine hK.out _ _ (trivial) (fun hHeld => ?_)
           clear hK KK
           try simp only [Act.put, sA, sB, sC]
           clear z1
           refine wpAnyH_ready (rs := [4]) (by kernel_rfl) (by simp) (AllReadyH.cons (o := ⟨some 31, .buildSlice 34 1 #[(0, .tmp 30)], 34, "produce.go:112", #[.mk 3 .data], none⟩) rfl (fun KK hK => ?_) AllReadyH.nil)
           · rw [if_pos (by rfl)]
             refine op_value (exec_buildB _ _ _ _ (by kernel_rfl) (buildBatV b (.slice q l.length cap) _)) ?_
             obtain ⟨wy, b2, ey, eb, hs⟩ := hs.allocEx #[.int .i64 b.base, .int .i64 b.leader, .bool b.app, .bool b.txn, .bool b.ctl, .int .i64 b.last, .int .i64 b.first, .int .i64 b.maxt, .int .i64 b.prod, .int .i64 b.epoch, .int .i64 b.seq, .slice q l.length cap] 39
             rw [ey, eb]
             clear ey eb
             refine hK.out _ _ (trivial) (fun hHeld => ?_)
             clear hK KK
             try simp only [Act.put, sA, sB, sC]
             refine wpAnyH_ready (rs := [5]) (by kernel_rfl) (by simp) (AllReadyH.cons (o := ⟨some 32, .call { callee := .builtin .append, args := #[.tmp 28, .tmp 31], argTypes := #[34, 34] }, 34, "produce.go:112", #[.mk 1 .data, .mk 4 .data, .mk 3 .chain], none⟩) rfl (fun KK hK => ?_) AllReadyH.nil)
             · rw [if_pos (by rfl)]
               refine op_app1 (.tmp 28) (.tmp 31) 34 rfl 39 Try.underlying34 elem_batP _ _ _ (by rfl) b2 #[.int .i64 b.base, .int .i64 b.leader, .bool b.app, .bool b.txn, .bool b.ctl, .int .i64 b.last, .int .i64 b.first, .int .i64 b.maxt, .int .i64 b.prod, .int .i64 b.epoch, .int .i64 b.seq, .slice q l.length cap] 39 hs (by rfl) rfl (by simp [Value.oneCell']) (by have := HNB.out; unfold maxLen; omega) (by have := HNB.out; omega) (fun v' w' h => ?_)
               have hs := h
               clear h
               obtain ⟨qv, cv, hv⟩ := hs.rowAny
               subst hv
               refine hK.out _ _ (trivial) (fun hHeld => ?_)
               clear hK KK
               try simp only [Act.put, sA, sB, sC]
               refine tQ 6 ⟨some 33, .fieldAddr 36 (.tmp 3) 1, 0, "produce.go:112", #[.mk 0 .phase, .mk 1 .phase, .mk 2 .phase, .mk 3 .phase, .mk 4 .phase, .mk 5 .phase], none⟩ ?_; simp only [Act.put, sA, sB, sC]
               refine wpAnyH_ready (rs := [7]) (by kernel_rfl) (by simp) (AllReadyH.cons (o := ⟨none, .store 34 (.tmp 33) (.tmp 32), 0, "produce.go:112", #[.mk 6 .data, .mk 5 .data, .mk 5 .chain, .mk 0 .phase, .mk 1 .phase, .mk 2 .phase, .mk 3 .phase, .mk 4 .phase, .mk 5 .phase], none⟩) rfl (fun KK hK => ?_) AllReadyH.nil)
               · have hs := hs.p1
                 have q1 := hs.rawFree 1
                 have z1 := hs.rawCell 1
                 simp at z1
                 rw [if_pos (by rfl)]
                 refine op_skip (w' := w'.setCell ⟨pb, 1, none⟩ (.slice qv (n + 1) cv)) (by go_simp) ?_
                 obtain ⟨wz, ez, hs⟩ := hs.setExP 1 (.slice qv (n + 1) cv)
                 rw [ez]
                 clear ez q1 z1
                 have hs := hs.p1
                 refine hK.out _ _ (trivial) (fun hHeld => ?_)
                 clear hK KK
                 try simp only [Act.put]
                 refine wpAnyH_done (by kernel_rfl) ?_ _
                 clear hHeld
                 go_wp2_with fail
                 go_roundw
                 case rel =>
                  refine ⟨.slice qv (n + 1) cv, n + 1, acc.flatMap pbcells ++ [.int .i64 b.base, .int .i64 b.leader, .bool b.app, .bool b.txn, .bool b.ctl, .int .i64 b.last, .int .i64 b.first, .int .i64 b.maxt, .int .i64 b.prod, .int .i64 b.epoch, .int .i64 b.seq, .slice q l.length cap], pos + n2, 0, K2.and (Know.recs (.slice q l.length cap) l), ?_, ?_, ?_⟩
                  · exact Lib.hid (Know.has_trans (Know.has_left (Know.has_refl _)) HKK.out)
                  · exact Lib.hid (HNX.out q l cap HLR.out)
                  · exact hs
                 case measure =>
                  rw [pinM hs.p2, HMS.out]
                  have := HN2.out
                  have := HPN.out
                  show (if (0 : Int) ≠ 0 then 0 else d.length + 1 - (pos + n2)) < if (0 : Int) ≠ 0 then 0 else d.length + 1 - pos
                  rw [if_neg (by simp), if_neg (by simp)]
                  omega
         · rw [if_pos (by rfl)]
           refine op_value (exec_buildB _ _ _ _ (by kernel_rfl) (buildBatV b (.slice q l.length cap) _)) ?_
           obtain ⟨wy, b2, ey, eb, hs⟩ := hs.allocEx #[.int .i64 b.base, .int .i64 b.leader, .bool b.app, .bool b.txn, .bool b.ctl, .int .i64 b.last, .int .i64 b.first, .int .i64 b.maxt, .int .i64 b.prod, .int .i64 b.epoch, .int .i64 b.seq, .slice q l.length cap] 39
           rw [ey, eb]
           clear ey eb
           refine hK.out _ _ (trivial) (fun hHeld => ?_)
           clear hK KK
           try simp only [Act.put, sA, sB, sC]
           refine wpAnyH_ready (rs := [1]) (by kernel_rfl) (by simp) (AllReadyH.cons (o := ⟨some 28, .load 34 (.tmp 27), 34, "produce.go:112", #[.mk 0 .data], none⟩) rfl (fun KK hK => ?_) AllReadyH.nil)
           · have z1 := hs.p2.rawCell 1
             simp at z1
             go_simp
             refine hK.out _ _ (trivial) (fun hHeld => ?_)
             clear hK KK
             try simp only [Act.put, sA, sB, sC]
             clear z1
             refine wpAnyH_ready (rs := [5]) (by kernel_rfl) (by simp) (AllReadyH.cons (o := ⟨some 32, .call { callee := .builtin .append, args := #[.tmp 28, .tmp 31], argTypes := #[34, 34] }, 34, "produce.go:112", #[.mk 1 .data, .mk 4 .data, .mk 3 .chain], none⟩) rfl (fun KK hK => ?_) AllReadyH.nil)
             · rw [if_pos (by rfl)]
               refine op_app1 (.tmp 28) (.tmp 31) 34 rfl 39 Try.underlying34 elem_batP _ _ _ (by rfl) b2 #[.int .i64 b.base, .int .i64 b.leader, .bool b.app, .bool b.txn, .bool b.ctl, .int .i64 b.last, .int .i64 b.first, .int .i64 b.maxt, .int .i64 b.prod, .int .i64 b.epoch, .int .i64 b.seq, .slice q l.length cap] 39 hs (by rfl) rfl (by simp [Value.oneCell']) (by have := HNB.out; unfold maxLen; omega) (by have := HNB.out; omega) (fun v' w' h => ?_)
               have hs := h
               clear h
               obtain ⟨qv, cv, hv⟩ := hs.rowAny
               subst hv
               refine hK.out _ _ (trivial) (fun hHeld => ?_)
               clear hK KK
               try simp only [Act.put, sA, sB, sC]
               refine tQ 6 ⟨some 33, .fieldAddr 36 (.tmp 3) 1, 0, "produce.go:112", #[.mk 0 .phase, .mk 1 .phase, .mk 2 .phase, .mk 3 .phase, .mk 4 .phase, .mk 5 .phase], none⟩ ?_; simp only [Act.put, sA, sB, sC]
               refine wpAnyH_ready (rs := [7]) (by kernel_rfl) (by simp) (AllReadyH.cons (o := ⟨none, .store 34 (.tmp 33) (.tmp 32), 0, "produce.go:112", #[.mk 6 .data, .mk 5 .data, .mk 5 .chain, .mk 0 .phase, .mk 1 .phase, .mk 2 .phase, .mk 3 .phase, .mk 4 .phase, .mk 5 .phase], none⟩) rfl (fun KK hK => ?_) AllReadyH.nil)
               · have hs := hs.p1
                 have q1 := hs.rawFree 1
                 have z1 := hs.rawCell 1
                 simp at z1
                 rw [if_pos (by rfl)]
                 refine op_skip (w' := w'.setCell ⟨pb, 1, none⟩ (.slice qv (n + 1) cv)) (by go_simp) ?_
                 obtain ⟨wz, ez, hs⟩ := hs.setExP 1 (.slice qv (n + 1) cv)
                 rw [ez]
                 clear ez q1 z1
                 have hs := hs.p1
                 refine hK.out _ _ (trivial) (fun hHeld => ?_)
                 clear hK KK
                 try simp only [Act.put]
                 refine wpAnyH_done (by kernel_rfl) ?_ _
                 clear hHeld
                 go_wp2_with fail
                 go_roundw
                 case rel =>
                  refine ⟨.slice qv (n + 1) cv, n + 1, acc.flatMap pbcells ++ [.int .i64 b.base, .int .i64 b.leader, .bool b.app, .bool b.txn, .bool b.ctl, .int .i64 b.last, .int .i64 b.first, .int .i64 b.maxt, .int .i64 b.prod, .int .i64 b.epoch, .int .i64 b.seq, .slice q l.length cap], pos + n2, 0, K2.and (Know.recs (.slice q l.length cap) l), ?_, ?_, ?_⟩
                  · exact Lib.hid (Know.has_trans (Know.has_left (Know.has_refl _)) HKK.out)
                  · exact Lib.hid (HNX.out q l cap HLR.out)
                  · exact hs
                 case measure =>
                  rw [pinM hs.p2, HMS.out]
                  have := HN2.out
                  have := HPN.out
                  show (if (0 : Int) ≠ 0 then 0 else d.length + 1 - (pos + n2)) < if (0 : Int) ≠ 0 then 0 else d.length + 1 - pos
                  rw [if_neg (by simp), if_neg (by simp)]
                  omega
  · have HB := Lib.hid (show ([] : List BatS) = l ∧ i3.fail er = j by
      have hj := HJ.out
      rw [hbe] at hj
      simp only [Prod.mk.injEq, true_and] at hj
      exact hj)
    have HE0 := Lib.hid he0
    have g1 : (er == 0) = false := by rw [beq_eq_false_iff_ne]; exact he0
    have g2 : (er != 0) = true := by simp [bne, g1]
    clear hbe he0
    by_cases hz : lf = 0
    · subst hz
      clear hlf
      go_wp2_with (first
  | (go_at_call 48; (with_reducible refine (p_left bi _ _ HLF.out H.out.p2).mono ?_); rintro e_ wn ⟨rfl, h⟩; have h := h.p2.p2; replace H := Lib.hid h; clear h)
  | (go_at_call 23; (try clear y0 y1 w0 w1 v0 v1); (with_reducible refine (p_err bi _ er rfl H.out.p2).mono ?_); rintro e_ wn ⟨rfl, h⟩; have h := h.p2.p2; have y0 := h.p1.rawCell 0; have y1 := h.p1.rawCell 1; have w0 := h.p3.rawFree 0; have w1 := h.p3.rawFree 1; have v0 := h.p3.rawCell 0; have v1 := h.p3.rawCell 1; simp at y0 y1 v0 v1; replace H := Lib.hid h; clear h)
  | (go_at_call 24; (try clear y0 y1 w0 w1 v0 v1); (with_reducible refine (p_fail p i3 j er HB.out.2 H.out.p4).mono ?_); rintro e_ wn ⟨rfl, h⟩; have h := h.p4.p4.p4.p4; have y0 := h.p1.rawCell 0; have y1 := h.p1.rawCell 1; have w0 := h.p3.rawFree 0; have w1 := h.p3.rawFree 1; have v0 := h.p3.rawCell 0; have v1 := h.p3.rawCell 1; simp at y0 y1 v0 v1; replace H := Lib.hid h; clear h))
      have hz : St W0 _ _ (.raw rb #[.int .i64 a, .slice qv0 n cv0] 36 :: _) := ((H.out.p3.rawSet 0 (.int .i64 a)).rawSet 1 (.slice qv0 n cv0))
      refine bodyPost_ret (rc_cell_onlyP rfl _ _ rb [.int .i64 a, .slice qv0 n cv0] _ rfl (rc_rangeP hz) Try.underlying36 rfl (by kernel_rfl)) rfl ?_
      exact ⟨qv0, n, cv0, [], K2, rfl, HKK.out, fun hj => absurd hj (fail_ne HB.out.2 HE0.out), hz.drop.drop.drop.drop⟩
    · have hlp : (0 : Int) < (lf : Int) := by omega
      clear hlf hz
      go_wp2_with (first
  | (go_at_call 48; (with_reducible refine (p_left bi _ _ HLF.out H.out.p2).mono ?_); rintro e_ wn ⟨rfl, h⟩; have h := h.p2.p2; replace H := Lib.hid h; clear h)
  | (go_at_call 23; (try clear y0 y1 w0 w1 v0 v1); (with_reducible refine (p_err bi _ er rfl H.out.p2).mono ?_); rintro e_ wn ⟨rfl, h⟩; have h := h.p2.p2; have y0 := h.p1.rawCell 0; have y1 := h.p1.rawCell 1; have w0 := h.p3.rawFree 0; have w1 := h.p3.rawFree 1; have v0 := h.p3.rawCell 0; have v1 := h.p3.rawCell 1; simp at y0 y1 v0 v1; replace H := Lib.hid h; clear h)
  | (go_at_call 24; (try clear y0 y1 w0 w1 v0 v1); (with_reducible refine (p_fail p i3 j er HB.out.2 H.out.p4).mono ?_); rintro e_ wn ⟨rfl, h⟩; have h := h.p4.p4.p4.p4; have y0 := h.p1.rawCell 0; have y1 := h.p1.rawCell 1; have w0 := h.p3.rawFree 0; have w1 := h.p3.rawFree 1; have v0 := h.p3.rawCell 0; have v1 := h.p3.rawCell 1; simp at y0 y1 v0 v1; replace H := Lib.hid h; clear h))
      have hz : St W0 _ _ (.raw rb #[.int .i64 a, .slice qv0 n cv0] 36 :: _) := ((H.out.p3.rawSet 0 (.int .i64 a)).rawSet 1 (.slice qv0 n cv0))
      refine bodyPost_ret (rc_cell_onlyP rfl _ _ rb [.int .i64 a, .slice qv0 n cv0] _ rfl (rc_rangeP hz) Try.underlying36 rfl (by kernel_rfl)) rfl ?_
      exact ⟨qv0, n, cv0, [], K2, rfl, HKK.out, fun hj => absurd hj (fail_ne HB.out.2 HE0.out), hz.drop.drop.drop.drop⟩

set_option maxHeartbeats 8000000 in
set_option maxRecDepth 100000 in
theorem read_part_true (p : Nat) (i i1 i2 i3 j : InS) (a : Int) (d : Bs) (l : List BatS) (h1 : i.int 4 = (a, i1)) (h2 : i1.fixed 4 = (⟨true, d⟩, i2)) (h3 : (i2.fail 4) = i3) (hj : (match batsS d with | .ok l => ((a, l), i3) | .error e => ((a, []), i3.fail e)) = ((a, l), j)) (hd : d.length ≤ 1000000) {W0 w : World} {K : Know} {L : List Res} (h : St W0 w K (.inp p i :: L)) :
  Calls Try.prog 50 #[inPtr p] w fun en w' => ∃ (q : Option Addr) (n cap : Nat) (lr : List BatR) (K2 : Know), en = .returned (.agg #[.int .i64 a, .slice q n cap]) ∧ K2.has K ∧ (j.err = 0 → n = lr.length ∧ lr.map BatR.b = l ∧ K2.has (Know.bats (.slice q n cap) lr) ∧ ∀ x ∈ lr, x.l.map (·.1) = x.b.recs) ∧ St W0 w' K2 (.inp p j :: L) := by
 obtain ⟨rb, hrb⟩ : ∃ b, w.heap.size = b := ⟨_, rfl⟩
 obtain ⟨pb, hpb⟩ : ∃ b, rb + 1 = b := ⟨_, rfl⟩
 have g1 := ((h.allocRaw #[.int .i64 0, .slice none 0 0] 36).allocRaw #[.int .i64 0, .slice none 0 0] 36).p2
 simp only [World.size_alloc, hrb, hpb] at g1
 have H := Lib.hid g1
 have H1 := Lib.hid h1
 have H2 := Lib.hid h2
 have H3 := Lib.hid h3
 have HJ := Lib.hid hj
 have HDL := Lib.hid hd
 have HDM := Lib.hid (show d.length ≤ 140737488355328 by omega)
 have hdi : (d.length : Int) ≤ 1000000 := by omega
 clear h g1 h1 h2 h3 hj hd
 go_enter Try.func50, Try.ntmps50
 go_wp2_with (first
  | (go_at_call 20; (with_reducible refine (p_int p i i1 a 4 H1.out H.out).mono ?_); rintro e_ wn ⟨rfl, h⟩; have h := h.p1; have x0 := h.rawFree 0; have x1 := h.rawCell 0; simp at x1; have h := (show St W0 (wn.setCell ⟨pb, 0, none⟩ (.int .i64 a)) K (.inp p i1 :: .raw pb #[.int .i64 a, .slice none 0 0] 36 :: .raw rb #[.int .i64 0, .slice none 0 0] 36 :: L) from (h.rawSet 0 (.int .i64 a)).p1); replace H := Lib.hid h; clear h)
  | (go_at_call 19; (with_reducible refine (p_fixed p i1 i2 4 true d H2.out H.out).mono ?_); rintro e_ wn ⟨rfl, h⟩; obtain ⟨qb, hqb⟩ : ∃ b, wn.heap.size = b := ⟨_, rfl⟩; have h := h.allocRaw #[.bool true, .string (bb d)] 26; rw [hqb] at h; have x2 := h.rawCell 0; have x3 := h.rawCell 1; simp at x2 x3; replace H := Lib.hid h; clear h)
  | (go_at_call 24; clear x2 x3; (with_reducible refine (p_fail p i2 i3 4 H3.out H.out.p1).mono ?_); rintro e_ wn ⟨rfl, h⟩; have h := h.p1; have x3 := h.rawCell 1; simp at x3; replace H := Lib.hid h; clear h)
  | (go_at_call 6; clear x3; (with_reducible refine (s_new d HDM.out H.out.drop).mono ?_); rintro e_ wn ⟨bi, rfl, h⟩; replace H := Lib.hid h; clear h))
 go_loopw [19] (fun _ wr => ∃ (v : Value) (n : Nat) (xs : List Value) (pos : Nat) (er : Int) (K2 : Know), Hid (K2.has K) ∧ Hid (PartJ K2 d n xs pos er) ∧ St W0 wr K2 (.row v 39 12 n xs :: .raw pb #[.int .i64 a, v] 36 :: .inp bi ⟨d, pos, er⟩ :: .raw rb #[.int .i64 0, .slice none 0 0] 36 :: .inp p i3 :: L)) (fun _ wr => PInM bi d.length wr)
 case atStart =>
  refine ⟨.slice none 0 0, 0, [], 0, 0, K, Lib.hid (Know.has_refl _), Lib.hid (.inl ⟨rfl, Nat.zero_le _, by omega, [], rfl, rfl, by rw [List.drop_zero]; exact preB_nil _, fun x hx => (by cases hx), fun x hx => (by cases hx)⟩), ?_⟩
  have h9 := H.out
  exact (h9.p1.p3.p2.p3.nilRow 39 12)
 case round =>
  obtain ⟨v, n, xs, pos, er, K2, HKK, HPJ, hst⟩ := hrel
  clear H
  obtain ⟨qv0, cv0, hv0⟩ := hst.rowAny
  subst hv0
  have HMS := Lib.hid (pinM (n := d.length) hst.p2)
  have H := Lib.hid hst
  clear hst
  obtain ⟨lf, hlf⟩ : ∃ lf, (⟨d, pos, er⟩ : InS).left = lf := ⟨_, rfl⟩
  have HLF := Lib.hid hlf
  rcases HPJ.out with ⟨er0, hpd, hnb, acc, hn, hxs, hpre, hrec, hmp⟩ | ⟨he0, hbe⟩
  · subst er0
    subst hxs
    have hlf2 : d.length - pos = lf := hlf
    have HREC := Lib.hid hrec
    have HMP := Lib.hid hmp
    have HPD := Lib.hid hpd
    have HNB := Lib.hid (show n ≤ 1000000 by omega)
    by_cases hz : lf = 0
    · subst hz
      have hR : d.drop pos = [] := List.drop_of_length_le (by omega)
      rw [hR, batsS_nil] at hpre
      have hpre : Except.ok (acc.map BatR.b ++ []) = batsS d := hpre
      have HB := Lib.hid (show acc.map BatR.b = l ∧ i3 = j by
       have hj := HJ.out
       rw [← hpre] at hj
       simp only [List.append_nil, Prod.mk.injEq, true_and] at hj
       exact hj)
      have HN := Lib.hid hn
      clear hlf hlf2 hpd hnb hn hpre hrec hmp hR
      go_wp2_with (first
  | (go_at_call 48; (with_reducible refine (p_left bi _ _ HLF.out H.out.p2).mono ?_); rintro e_ wn ⟨rfl, h⟩; have h := h.p2.p2; replace H := Lib.hid h; clear h)
  | (go_at_call 23; (try clear y0 y1 w0 w1 v0 v1); (with_reducible refine (p_err bi _ 0 rfl H.out.p2).mono ?_); rintro e_ wn ⟨rfl, h⟩; have h := h.p2.p2; have y0 := h.p1.rawCell 0; have y1 := h.p1.rawCell 1; have w0 := h.p3.rawFree 0; have w1 := h.p3.rawFree 1; have v0 := h.p3.rawCell 0; have v1 := h.p3.rawCell 1; simp at y0 y1 v0 v1; replace H := Lib.hid h; clear h))
      have hz : St W0 _ _ (.raw rb #[.int .i64 a, .slice qv0 n cv0] 36 :: _) := ((H.out.p3.rawSet 0 (.int .i64 a)).rawSet 1 (.slice qv0 n cv0))
      refine bodyPost_ret (rc_cell_onlyP rfl _ _ rb [.int .i64 a, .slice qv0 n cv0] _ rfl (rc_rangeP hz) Try.underlying36 rfl (by kernel_rfl)) rfl ?_
      have hr := hz.drop
      have hn := HN.out
      subst hn
      have hf := hr.freezeBatsP HREC.out
      obtain ⟨hl9, hj9⟩ := HB.out
      subst hj9
      exact ⟨qv0, _, cv0, acc, K2.and (Know.bats (.slice qv0 acc.length cv0) acc), rfl, Know.has_trans (Know.has_left (Know.has_refl _)) HKK.out, fun _ => ⟨rfl, hl9, Know.has_right (Know.has_refl _), HMP.out⟩, hf.drop.drop⟩
    · have hlp : (0 : Int) < (lf : Int) := by omega
      have hR0 : d.drop pos ≠ [] := by intro hh; have := congrArg List.length hh; rw [List.length_drop, List.length_nil] at this; omega
      cases hrb2 : reBat (d.drop pos) with
      | error e =>
       have HRB := Lib.hid hrb2
       have HE0 := Lib.hid (reBat_ne hrb2)
       have HBE := Lib.hid (show batsS d = .error e by rw [← hpre, batsS_err hR0 hrb2]; rfl)
       clear hlf hlf2 hpd hnb hn hpre hrec hmp hR0 hrb2 hz
       go_wp2_with (first
  | (go_at_call 48; (with_reducible refine (p_left bi _ _ HLF.out H.out.p2).mono ?_); rintro e_ wn ⟨rfl, h⟩; have h := h.p2.p2; replace H := Lib.hid h; clear h)
  | (go_at_call 23; (try clear y0 y1 w0 w1 v0 v1); (with_reducible refine (p_err bi _ 0 rfl H.out.p2).mono ?_); rintro e_ wn ⟨rfl, h⟩; have h := h.p2.p2; have y0 := h.p1.rawCell 0; have y1 := h.p1.rawCell 1; have w0 := h.p3.rawFree 0; have w1 := h.p3.rawFree 1; have v0 := h.p3.rawCell 0; have v1 := h.p3.rawCell 1; simp at y0 y1 v0 v1; replace H := Lib.hid h; clear h))
       have hs := H.out.drew
       refine wp_region_held_drew (S := fun _ => True) (by kernel_rfl) trivial (fun hHeld => ?_)
       refine tQ 0 ⟨some 27, .fieldAddr 36 (.tmp 3) 1, 0, "produce.go:112", #[], none⟩ ?_; simp only [Act.put, sA, sB, sC]
       refine tQ 2 ⟨some 29, .move (.tmp 5), 23, "produce.go:112", #[], none⟩ ?_; simp only [Act.put, sA, sB, sC]
       refine wpAnyH_ready (rs := [1, 3]) (by kernel_rfl) (by simp) (AllReadyH.cons (o := ⟨some 28, .load 34 (.tmp 27), 34, "produce.go:112", #[.mk 0 .data], none⟩) rfl (fun KK hK => ?_) (AllReadyH.cons (o := ⟨some 30, .call { callee := .value (.func 30), args := #[.tmp 29], argTypes := #[23] }, 39, "produce.go:112", #[.mk 2 .data], none⟩) rfl (fun KK hK => ?_) AllReadyH.nil))
       · have z1 := hs.p1.rawCell 1
         simp at z1
         go_simp
         refine hK.out _ _ (trivial) (fun hHeld => ?_)
         clear hK KK
         try simp only [Act.put, sA, sB, sC]
         clear z1
         refine wpAnyH_ready (rs := [3]) (by kernel_rfl) (by simp) (AllReadyH.cons (o := ⟨some 30, .call { callee := .value (.func 30), args := #[.tmp 29], argTypes := #[23] }, 39, "produce.go:112", #[.mk 2 .data], none⟩) rfl (fun KK hK => ?_) AllReadyH.nil)
         · go_simp
           go_at_call 30
           with_reducible refine (bat_read_bad bi d pos HDL.out HPD.out e HRB.out hs.p2).mono ?_
           rintro e wq ⟨rfl, pq, hpq, hs⟩
           refine hK.out _ _ (trivial) (fun hHeld => ?_)
           clear hK KK
           try simp only [Act.put, sA, sB, sC]
           have hs := hs.p2.p2
           clear hpq
           refine wpAnyH_ready (rs := [4]) (by kernel_rfl) (by simp) (AllReadyH.cons (o := ⟨some 31, .buildSlice 34 1 #[(0, .tmp 30)], 34, "produce.go:112", #[.mk 3 .data], none⟩) rfl (fun KK hK => ?_) AllReadyH.nil)
           · rw [if_pos (by rfl)]
             refine op_value (exec_buildB _ _ _ _ (by kernel_rfl) (buildBatZ _)) ?_
             obtain ⟨wy, b2, ey, eb, hs⟩ := hs.allocEx #[.int .i64 0, .int .i64 0, .bool false, .bool false, .bool false, .int .i64 0, .int .i64 0, .int .i64 0, .int .i64 0, .int .i64 0, .int .i64 0, .slice none 0 0] 39
             rw [ey, eb]
             clear ey eb
             refine hK.out _ _ (trivial) (fun hHeld => ?_)
             clear hK KK
             try simp only [Act.put, sA, sB, sC]
             refine wpAnyH_ready (rs := [5]) (by kernel_rfl) (by simp) (AllReadyH.cons (o := ⟨some 32, .call { callee := .builtin .append, args := #[.tmp 28, .tmp 31], argTypes := #[34, 34] }, 34, "produce.go:112", #[.mk 1 .data, .mk 4 .data, .mk 3 .chain], none⟩) rfl (fun KK hK => ?_) AllReadyH.nil)
             · rw [if_pos (by rfl)]
               refine op_app1 (.tmp 28) (.tmp 31) 34 rfl 39 Try.underlying34 elem_batP _ _ _ (by rfl) b2 #[.int .i64 0, .int .i64 0, .bool false, .bool false, .bool false, .int .i64 0, .int .i64 0, .int .i64 0, .int .i64 0, .int .i64 0, .int .i64 0, .slice none 0 0] 39 hs (by rfl) rfl (by simp [Value.oneCell']) (by have := HNB.out; unfold maxLen; omega) (by have := HNB.out; omega) (fun v' w' h => ?_)
               have hs := h
               clear h
               obtain ⟨qv, cv, hv⟩ := hs.rowAny
               subst hv
               refine hK.out _ _ (trivial) (fun hHeld => ?_)
               clear hK KK
               try simp only [Act.put, sA, sB, sC]
               refine tQ 6 ⟨some 33, .fieldAddr 36 (.tmp 3) 1, 0, "produce.go:112", #[.mk 0 .phase, .mk 1 .phase, .mk 2 .phase, .mk 3 .phase, .mk 4 .phase, .mk 5 .phase], none⟩ ?_; simp only [Act.put, sA, sB, sC]
               refine wpAnyH_ready (rs := [7]) (by kernel_rfl) (by simp) (AllReadyH.cons (o := ⟨none, .store 34 (.tmp 33) (.tmp 32), 0, "produce.go:112", #[.mk 6 .data, .mk 5 .data, .mk 5 .chain, .mk 0 .phase, .mk 1 .phase, .mk 2 .phase, .mk 3 .phase, .mk 4 .phase, .mk 5 .phase], none⟩) rfl (fun KK hK => ?_) AllReadyH.nil)
               · have hs := hs.p1
                 have q1 := hs.rawFree 1
                 have z1 := hs.rawCell 1
                 simp at z1
                 rw [if_pos (by rfl)]
                 refine op_skip (w' := w'.setCell ⟨pb, 1, none⟩ (.slice qv (n + 1) cv)) (by go_simp) ?_
                 obtain ⟨wz, ez, hs⟩ := hs.setExP 1 (.slice qv (n + 1) cv)
                 rw [ez]
                 clear ez q1 z1
                 have hs := hs.p1
                 refine hK.out _ _ (trivial) (fun hHeld => ?_)
                 clear hK KK
                 try simp only [Act.put]
                 refine wpAnyH_done (by kernel_rfl) ?_ _
                 clear hHeld
                 go_wp2_with fail
                 go_roundw
                 case rel =>
                  refine ⟨.slice qv (n + 1) cv, n + 1, acc.flatMap pbcells ++ [.int .i64 0, .int .i64 0, .bool false, .bool false, .bool false, .int .i64 0, .int .i64 0, .int .i64 0, .int .i64 0, .int .i64 0, .int .i64 0, .slice none 0 0], pq, e, K2, ?_, ?_, ?_⟩
                  · exact HKK
                  · exact Lib.hid (.inr ⟨HE0.out, HBE.out⟩)
                  · exact hs
                 case measure =>
                  rw [pinM hs.p2, HMS.out]
                  have := HPD.out
                  show (if e ≠ 0 then 0 else d.length + 1 - pq) < if (0 : Int) ≠ 0 then 0 else d.length + 1 - pos
                  rw [if_pos HE0.out, if_neg (by simp)]
                  omega
       · go_simp
         go_at_call 30
         with_reducible refine (bat_read_bad bi d pos HDL.out HPD.out e HRB.out hs.p2).mono ?_
         rintro e wq ⟨rfl, pq, hpq, hs⟩
         refine hK.out _ _ (trivial) (fun hHeld => ?_)
         clear hK KK
         try simp only [Act.put, sA, sB, sC]
         have hs := hs.p2.p2
         clear hpq
         refine wpAnyH_ready (rs := [1, 4]) (by kernel_rfl) (by simp) (AllReadyH.cons (o := ⟨some 28, .load 34 (.tmp 27), 34, "produce.go:112", #[.mk 0 .data], none⟩) rfl (fun KK hK => ?_) (AllReadyH.cons (o := ⟨some 31, .buildSlice 34 1 #[(0, .tmp 30)], 34, "produce.go:112", #[.mk 3 .data], none⟩) rfl (fun KK hK => ?_) AllReadyH.nil))
         · have z1 := hs.p1.rawCell 1
           simp at z1
           go_simp
           refine hK.out _ _ (trivial) (fun hHeld => ?_)
           clear hK KK
           try simp only [Act.put, sA, sB, sC]
           clear z1
           refine wpAnyH_ready (rs := [4]) (by kernel_rfl) (by simp) (AllReadyH.cons (o := ⟨some 31, .buildSlice 34 1 #[(0, .tmp 30)], 34, "produce.go:112", #[.mk 3 .data], none⟩) rfl (fun KK hK => ?_) AllReadyH.nil)
           · rw [if_pos (by rfl)]
             refine op_value (exec_buildB _ _ _ _ (by kernel_rfl) (buildBatZ _)) ?_
             obtain ⟨wy, b2, ey, eb, hs⟩ := hs.allocEx #[.int .i64 0, .int .i64 0, .bool false, .bool false, .bool false, .int .i64 0, .int .i64 0, .int .i64 0, .int .i64 0, .int .i64 0, .int .i64 0, .slice none 0 0] 39
             rw [ey, eb]
             clear ey eb
             refine hK.out _ _ (trivial) (fun hHeld => ?_)
             clear hK KK
             try simp only [Act.put, sA, sB, sC]
             refine wpAnyH_ready (rs := [5]) (by kernel_rfl) (by simp) (AllReadyH.cons (o := ⟨some 32, .call { callee := .builtin .append, args := #[.tmp 28, .tmp 31], argTypes := #[34, 34] }, 34, "produce.go:112", #[.mk 1 .data, .mk 4 .data, .mk 3 .chain], none⟩) rfl (fun KK hK => ?_) AllReadyH.nil)
             · rw [if_pos (by rfl)]
               refine op_app1 (.tmp 28) (.tmp 31) 34 rfl 39 Try.underlying34 elem_batP _ _ _ (by rfl) b2 #[.int .i64 0, .int .i64 0, .bool false, .bool false, .bool false, .int .i64 0, .int .i64 0, .int .i64 0, .int .i64 0, .int .i64 0, .int .i64 0, .slice none 0 0] 39 hs (by rfl) rfl (by simp [Value.oneCell']) (by have := HNB.out; unfold maxLen; omega) (by have := HNB.out; omega) (fun v' w' h => ?_)
               have hs := h
               clear h
               obtain ⟨qv, cv, hv⟩ := hs.rowAny
               subst hv
               refine hK.out _ _ (trivial) (fun hHeld => ?_)
               clear hK KK
               try simp only [Act.put, sA, sB, sC]
               refine tQ 6 ⟨some 33, .fieldAddr 36 (.tmp 3) 1, 0, "produce.go:112", #[.mk 0 .phase, .mk 1 .phase, .mk 2 .phase, .mk 3 .phase, .mk 4 .phase, .mk 5 .phase], none⟩ ?_; simp only [Act.put, sA, sB, sC]
               refine wpAnyH_ready (rs := [7]) (by kernel_rfl) (by simp) (AllReadyH.cons (o := ⟨none, .store 34 (.tmp 33) (.tmp 32), 0, "produce.go:112", #[.mk 6 .data, .mk 5 .data, .mk 5 .chain, .mk 0 .phase, .mk 1 .phase, .mk 2 .phase, .mk 3 .phase, .mk 4 .phase, .mk 5 .phase], none⟩) rfl (fun KK hK => ?_) AllReadyH.nil)
               · have hs := hs.p1
                 have q1 := hs.rawFree 1
                 have z1 := hs.rawCell 1
                 simp at z1
                 rw [if_pos (by rfl)]
                 refine op_skip (w' := w'.setCell ⟨pb, 1, none⟩ (.slice qv (n + 1) cv)) (by go_simp) ?_
                 obtain ⟨wz, ez, hs⟩ := hs.setExP 1 (.slice qv (n + 1) cv)
                 rw [ez]
                 clear ez q1 z1
                 have hs := hs.p1
                 refine hK.out _ _ (trivial) (fun hHeld => ?_)
                 clear hK KK
                 try simp only [Act.put]
                 refine wpAnyH_done (by kernel_rfl) ?_ _
                 clear hHeld
                 go_wp2_with fail
                 go_roundw
                 case rel =>
                  refine ⟨.slice qv (n + 1) cv, n + 1, acc.flatMap pbcells ++ [.int .i64 0, .int .i64 0, .bool false, .bool false, .bool false, .int .i64 0, .int .i64 0, .int .i64 0, .int .i64 0, .int .i64 0, .int .i64 0, .slice none 0 0], pq, e, K2, ?_, ?_, ?_⟩
                  · exact HKK
                  · exact Lib.hid (.inr ⟨HE0.out, HBE.out⟩)
                  · exact hs
                 case measure =>
                  rw [pinM hs.p2, HMS.out]
                  have := HPD.out
                  show (if e ≠ 0 then 0 else d.length + 1 - pq) < if (0 : Int) ≠ 0 then 0 else d.length + 1 - pos
                  rw [if_pos HE0.out, if_neg (by simp)]
                  omega
         · rw [if_pos (by rfl)]
           refine op_value (exec_buildB _ _ _ _ (by kernel_rfl) (buildBatZ _)) ?_
           obtain ⟨wy, b2, ey, eb, hs⟩ := hs.allocEx #[.int .i64 0, .int .i64 0, .bool false, .bool false, .bool false, .int .i64 0, .int .i64 0, .int .i64 0, .int .i64 0, .int .i64 0, .int .i64 0, .slice none 0 0] 39
           rw [ey, eb]
           clear ey eb
           refine hK.out _ _ (trivial) (fun hHeld => ?_)
           clear hK KK
           try simp only [Act.put, sA, sB, sC]
           refine wpAnyH_ready (rs := [1]) (by kernel_rfl) (by simp) (AllReadyH.cons (o := ⟨some 28, .load 34 (.tmp 27), 34, "produce.go:112", #[.mk 0 .data], none⟩) rfl (fun KK hK => ?_) AllReadyH.nil)
           · have z1 := hs.p2.rawCell 1
             simp at z1
             go_simp
             refine hK.out _ _ (trivial) (fun hHeld => ?_)
             clear hK KK
             try simp only [Act.put, sA, sB, sC]
             clear z1
             refine wpAnyH_ready (rs := [5]) (by kernel_rfl) (by simp) (AllReadyH.cons (o := ⟨some 32, .call { callee := .builtin .append, args := #[.tmp 28, .tmp 31], argTypes := #[34, 34] }, 34, "produce.go:112", #[.mk 1 .data, .mk 4 .data, .mk 3 .chain], none⟩) rfl (fun KK hK => ?_) AllReadyH.nil)
             · rw [if_pos (by rfl)]
               refine op_app1 (.tmp 28) (.tmp 31) 34 rfl 39 Try.underlying34 elem_batP _ _ _ (by rfl) b2 #[.int .i64 0, .int .i64 0, .bool false, .bool false, .bool false, .int .i64 0, .int .i64 0, .int .i64 0, .int .i64 0, .int .i64 0, .int .i64 0, .slice none 0 0] 39 hs (by rfl) rfl (by simp [Value.oneCell']) (by have := HNB.out; unfold maxLen; omega) (by have := HNB.out; omega) (fun v' w' h => ?_)
               have hs := h
               clear h
               obtain ⟨qv, cv, hv⟩ := hs.rowAny
               subst hv
               refine hK.out _ _ (trivial) (fun hHeld => ?_)
               clear hK KK
               try simp only [Act.put, sA, sB, sC]
               refine tQ 6 ⟨some 33, .fieldAddr 36 (.tmp 3) 1, 0, "produce.go:112", #[.mk 0 .phase, .mk 1 .phase, .mk 2 .phase, .mk 3 .phase, .mk 4 .phase, .mk 5 .phase], none⟩ ?_; simp only [Act.put, sA, sB, sC]
               refine wpAnyH_ready (rs := [7]) (by kernel_rfl) (by simp) (AllReadyH.cons (o := ⟨none, .store 34 (.tmp 33) (.tmp 32), 0, "produce.go:112", #[.mk 6 .data, .mk 5 .data, .mk 5 .chain, .mk 0 .phase, .mk 1 .phase, .mk 2 .phase, .mk 3 .phase, .mk 4 .phase, .mk 5 .phase], none⟩) rfl (fun KK hK => ?_) AllReadyH.nil)
               · have hs := hs.p1
                 have q1 := hs.rawFree 1
                 have z1 := hs.rawCell 1
                 simp at z1
                 rw [if_pos (by rfl)]
                 refine op_skip (w' := w'.setCell ⟨pb, 1, none⟩ (.slice qv (n + 1) cv)) (by go_simp) ?_
                 obtain ⟨wz, ez, hs⟩ := hs.setExP 1 (.slice qv (n + 1) cv)
                 rw [ez]
                 clear ez q1 z1
                 have hs := hs.p1
                 refine hK.out _ _ (trivial) (fun hHeld => ?_)
                 clear hK KK
                 try simp only [Act.put]
                 refine wpAnyH_done (by kernel_rfl) ?_ _
                 clear hHeld
                 go_wp2_with fail
                 go_roundw
                 case rel =>
                  refine ⟨.slice qv (n + 1) cv, n + 1, acc.flatMap pbcells ++ [.int .i64 0, .int .i64 0, .bool false, .bool false, .bool false, .int .i64 0, .int .i64 0, .int .i64 0, .int .i64 0, .int .i64 0, .int .i64 0, .slice none 0 0], pq, e, K2, ?_, ?_, ?_⟩
                  · exact HKK
                  · exact Lib.hid (.inr ⟨HE0.out, HBE.out⟩)
                  · exact hs
                 case measure =>
                  rw [pinM hs.p2, HMS.out]
                  have := HPD.out
                  show (if e ≠ 0 then 0 else d.length + 1 - pq) < if (0 : Int) ≠ 0 then 0 else d.length + 1 - pos
                  rw [if_pos HE0.out, if_neg (by simp)]
                  omega
      | ok y =>
       obtain ⟨b, n2⟩ := y
       obtain ⟨xp, _, hn61, hnl, _⟩ := reBat_ok hrb2
       rw [List.length_drop] at hnl
       have HRB := Lib.hid hrb2
       have HN2 := Lib.hid (show 61 ≤ n2 by omega)
       have HPN := Lib.hid (show pos + n2 ≤ d.length by omega)
       have HNX := Lib.hid (show ∀ (q : Option Addr) (l : List (RecS × Value)) (cap : Nat), l.map (·.1) = b.recs → PartJ (K2.and (Know.recs (.slice q l.length cap) l)) d (n + 1) (acc.flatMap pbcells ++ [.int .i64 b.base, .int .i64 b.leader, .bool b.app, .bool b.txn, .bool b.ctl, .int .i64 b.last, .int .i64 b.first, .int .i64 b.maxt, .int .i64 b.prod, .int .i64 b.epoch, .int .i64 b.seq, .slice q l.length cap]) (pos + n2) 0 from fun q l cap hl => .inl ⟨rfl, by omega, by omega, acc ++ [⟨b, l, q, cap⟩], by rw [List.length_append, hn]; rfl, by rw [List.flatMap_append]; rfl, by
         rw [List.map_append]
         show preB (acc.map BatR.b ++ [b]) _ = _
         rw [preB_snoc, ← List.drop_drop, ← batsS_ok hR0 hrb2]
         exact hpre, fun x hx => by
         rcases List.mem_append.1 hx with hx | hx
         · exact Know.has_left (hrec x hx)
         · rw [List.mem_singleton.1 hx]; exact Know.has_right (Know.has_refl _), fun x hx => by
         rcases List.mem_append.1 hx with hx | hx
         · exact hmp x hx
         · rw [List.mem_singleton.1 hx]; exact hl⟩)
       clear hlf hlf2 hpd hnb hn hpre hrec hmp hR0 hrb2 hz hn61 hnl
       go_wp2_with (first
  | (go_at_call 48; (with_reducible refine (p_left bi _ _ HLF.out H.out.p2).mono ?_); rintro e_ wn ⟨rfl, h⟩; have h := h.p2.p2; replace H := Lib.hid h; clear h)
  | (go_at_call 23; (try clear y0 y1 w0 w1 v0 v1); (with_reducible refine (p_err bi _ 0 rfl H.out.p2).mono ?_); rintro e_ wn ⟨rfl, h⟩; have h := h.p2.p2; have y0 := h.p1.rawCell 0; have y1 := h.p1.rawCell 1; have w0 := h.p3.rawFree 0; have w1 := h.p3.rawFree 1; have v0 := h.p3.rawCell 0; have v1 := h.p3.rawCell 1; simp at y0 y1 v0 v1; replace H := Lib.hid h; clear h))
       have hs := H.out.drew
       refine wp_region_held_drew (S := fun _ => True) (by kernel_rfl) trivial (fun hHeld => ?_)
       refine tQ 0 ⟨some 27, .fieldAddr 36 (.tmp 3) 1, 0, "produce.go:112", #[], none⟩ ?_; simp only [Act.put, sA, sB, sC]
       refine tQ 2 ⟨some 29, .move (.tmp 5), 23, "produce.go:112", #[], none⟩ ?_; simp only [Act.put, sA, sB, sC]
       refine wpAnyH_ready (rs := [1, 3]) (by kernel_rfl) (by simp) (AllReadyH.cons (o := ⟨some 28, .load 34 (.tmp 27), 34, "produce.go:112", #[.mk 0 .data], none⟩) rfl (fun KK hK => ?_) (AllReadyH.cons (o := ⟨some 30, .call { callee := .value (.func 30), args := #[.tmp 29], argTypes := #[23] }, 39, "produce.go:112", #[.mk 2 .data], none⟩) rfl (fun KK hK => ?_) AllReadyH.nil))
       · have z1 := hs.p1.rawCell 1
         simp at z1
         go_simp
         refine hK.out _ _ (trivial) (fun hHeld => ?_)
         clear hK KK
         try simp only [Act.put, sA, sB, sC]
         clear z1
         refine wpAnyH_ready (rs := [3]) (by kernel_rfl) (by simp) (AllReadyH.cons (o := ⟨some 30, .call { callee := .value (.func 30), args := #[.tmp 29], argTypes := #[23] }, 39, "produce.go:112", #[.mk 2 .data], none⟩) rfl (fun KK hK => ?_) AllReadyH.nil)
         · go_simp
           go_at_call 30
           with_reducible refine (bat_read_good bi d pos HDL.out HPD.out b n2 HRB.out hs.p2).mono ?_
           rintro e wq ⟨q, l, cap, rfl, hlr, hs⟩
           refine hK.out _ _ (trivial) (fun hHeld => ?_)
           clear hK KK
           try simp only [Act.put, sA, sB, sC]
           have hs := hs.p2.p2
           have HLR := Lib.hid hlr
           clear hlr
           refine wpAnyH_ready (rs := [4]) (by kernel_rfl) (by simp) (AllReadyH.cons (o := ⟨some 31, .buildSlice 34 1 #[(0, .tmp 30)], 34, "produce.go:112", #[.mk 3 .data], none⟩) rfl (fun KK hK => ?_) AllReadyH.nil)
           · rw [if_pos (by rfl)]
             refine op_value (exec_buildB _ _ _ _ (by kernel_rfl) (buildBatV b (.slice q l.length cap) _)) ?_
             obtain ⟨wy, b2, ey, eb, hs⟩ := hs.allocEx #[.int .i64 b.base, .int .i64 b.leader, .bool b.app, .bool b.txn, .bool b.ctl, .int .i64 b.last, .int .i64 b.first, .int .i64 b.maxt, .int .i64 b.prod, .int .i64 b.epoch, .int .i64 b.seq, .slice q l.length cap] 39
             rw [ey, eb]
             clear ey eb
             refine hK.out _ _ (trivial) (fun hHeld => ?_)
             clear hK KK
             try simp only [Act.put, sA, sB, sC]
             refine wpAnyH_ready (rs := [5]) (by kernel_rfl) (by simp) (AllReadyH.cons (o := ⟨some 32, .call { callee := .builtin .append, args := #[.tmp 28, .tmp 31], argTypes := #[34, 34] }, 34, "produce.go:112", #[.mk 1 .data, .mk 4 .data, .mk 3 .chain], none⟩) rfl (fun KK hK => ?_) AllReadyH.nil)
             · rw [if_pos (by rfl)]
               refine op_app1 (.tmp 28) (.tmp 31) 34 rfl 39 Try.underlying34 elem_batP _ _ _ (by rfl) b2 #[.int .i64 b.base, .int .i64 b.leader, .bool b.app, .bool b.txn, .bool b.ctl, .int .i64 b.last, .int .i64 b.first, .int .i64 b.maxt, .int .i64 b.prod, .int .i64 b.epoch, .int .i64 b.seq, .slice q l.length cap] 39 hs (by rfl) rfl (by simp [Value.oneCell']) (by have := HNB.out; unfold maxLen; omega) (by have := HNB.out; omega) (fun v' w' h => ?_)
               have hs := h
               clear h
               obtain ⟨qv, cv, hv⟩ := hs.rowAny
               subst hv
               refine hK.out _ _ (trivial) (fun hHeld => ?_)
               clear hK KK
               try simp only [Act.put, sA, sB, sC]
               refine tQ 6 ⟨some 33, .fieldAddr 36 (.tmp 3) 1, 0, "produce.go:112", #[.mk 0 .phase, .mk 1 .phase, .mk 2 .phase, .mk 3 .phase, .mk 4 .phase, .mk 5 .phase], none⟩ ?_; simp only [Act.put, sA, sB, sC]
               refine wpAnyH_ready (rs := [7]) (by kernel_rfl) (by simp) (AllReadyH.cons (o := ⟨none, .store 34 (.tmp 33) (.tmp 32), 0, "produce.go:112", #[.mk 6 .data, .mk 5 .data, .mk 5 .chain, .mk 0 .phase, .mk 1 .phase, .mk 2 .phase, .mk 3 .phase, .mk 4 .phase, .mk 5 .phase], none⟩) rfl (fun KK hK => ?_) AllReadyH.nil)
               · have hs := hs.p1
                 have q1 := hs.rawFree 1
                 have z1 := hs.rawCell 1
                 simp at z1
                 rw [if_pos (by rfl)]
                 refine op_skip (w' := w'.setCell ⟨pb, 1, none⟩ (.slice qv (n + 1) cv)) (by go_simp) ?_
                 obtain ⟨wz, ez, hs⟩ := hs.setExP 1 (.slice qv (n + 1) cv)
                 rw [ez]
                 clear ez q1 z1
                 have hs := hs.p1
                 refine hK.out _ _ (trivial) (fun hHeld => ?_)
                 clear hK KK
                 try simp only [Act.put]
                 refine wpAnyH_done (by kernel_rfl) ?_ _
                 clear hHeld
                 go_wp2_with fail
                 go_roundw
                 case rel =>
                  refine ⟨.slice qv (n + 1) cv, n + 1, acc.flatMap pbcells ++ [.int .i64 b.base, .int .i64 b.leader, .bool b.app, .bool b.txn, .bool b.ctl, .int .i64 b.last, .int .i64 b.first, .int .i64 b.maxt, .int .i64 b.prod, .int .i64 b.epoch, .int .i64 b.seq, .slice q l.length cap], pos + n2, 0, K2.and (Know.recs (.slice q l.length cap) l), ?_, ?_, ?_⟩
                  · exact Lib.hid (Know.has_trans (Know.has_left (Know.has_refl _)) HKK.out)
                  · exact Lib.hid (HNX.out q l cap HLR.out)
                  · exact hs
                 case measure =>
                  rw [pinM hs.p2, HMS.out]
                  have := HN2.out
                  have := HPN.out
                  show (if (0 : Int) ≠ 0 then 0 else d.length + 1 - (pos + n2)) < if (0 : Int) ≠ 0 then 0 else d.length + 1 - pos
                  rw [if_neg (by simp), if_neg (by simp)]
                  omega
       · go_simp
         go_at_call 30
         with_reducible refine (bat_read_good bi d pos HDL.out HPD.out b n2 HRB.out hs.p2).mono ?_
         rintro e wq ⟨q, l, cap, rfl, hlr, hs⟩
         refine hK.out _ _ (trivial) (fun hHeld => ?_)
         clear hK KK
         try simp only [Act.put, sA, sB, sC]
         have hs := hs.p2.p2
         have HLR := Lib.hid hlr
         clear hlr
         refine wpAnyH_ready (rs := [1, 4]) (by kernel_rfl) (by simp) (AllReadyH.cons (o := ⟨some 28, .load 34 (.tmp 27), 34, "produce.go:112", #[.mk 0 .data], none⟩) rfl (fun KK hK => ?_) (AllReadyH.cons (o := ⟨some 31, .buildSlice 34 1 #[(0, .tmp 30)], 34, "produce.go:112", #[.mk 3 .data], none⟩) rfl (fun KK hK => ?_) AllReadyH.nil))
         · have z1 := hs.p1.rawCell 1
           simp at z1
           go_simp
           refine hK.out _ _ (trivial) (fun hHeld => ?_)
           clear hK KK
           try simp only [Act.put, sA, sB, sC]
           clear z1
           refine wpAnyH_ready (rs := [4]) (by kernel_rfl) (by simp) (AllReadyH.cons (o := ⟨some 31, .buildSlice 34 1 #[(0, .tmp 30)], 34, "produce.go:112", #[.mk 3 .data], none⟩) rfl (fun KK hK => ?_) AllReadyH.nil)
           · rw [if_pos (by rfl)]
             refine op_value (exec_buildB _ _ _ _ (by kernel_rfl) (buildBatV b (.slice q l.length cap) _)) ?_
             obtain ⟨wy, b2, ey, eb, hs⟩ := hs.allocEx #[.int .i64 b.base, .int .i64 b.leader, .bool b.app, .bool b.txn, .bool b.ctl, .int .i64 b.last, .int .i64 b.first, .int .i64 b.maxt, .int .i64 b.prod, .int .i64 b.epoch, .int .i64 b.seq, .slice q l.length cap] 39
             rw [ey, eb]
             clear ey eb
             refine hK.out _ _ (trivial) (fun hHeld => ?_)
             clear hK KK
             try simp only [Act.put, sA, sB, sC]
             refine wpAnyH_ready (rs := [5]) (by kernel_rfl) (by simp) (AllReadyH.cons (o := ⟨some 32, .call { callee := .builtin .append, args := #[.tmp 28, .tmp 31], argTypes := #[34, 34] }, 34, "produce.go:112", #[.mk 1 .data, .mk 4 .data, .mk 3 .chain], none⟩) rfl (fun KK hK => ?_) AllReadyH.nil)
             · rw [if_pos (by rfl)]
               refine op_app1 (.tmp 28) (.tmp 31) 34 rfl 39 Try.underlying34 elem_batP _ _ _ (by rfl) b2 #[.int .i64 b.base, .int .i64 b.leader, .bool b.app, .bool b.txn, .bool b.ctl, .int .i64 b.last, .int .i64 b.first, .int .i64 b.maxt, .int .i64 b.prod, .int .i64 b.epoch, .int .i64 b.seq, .slice q l.length cap] 39 hs (by rfl) rfl (by simp [Value.oneCell']) (by have := HNB.out; unfold maxLen; omega) (by have := HNB.out; omega) (fun v' w' h => ?_)
               have hs := h
               clear h
               obtain ⟨qv, cv, hv⟩ := hs.rowAny
               subst hv
               refine hK.out _ _ (trivial) (fun hHeld => ?_)
               clear hK KK
               try simp only [Act.put, sA, sB, sC]
               refine tQ 6 ⟨some 33, .fieldAddr 36 (.tmp 3) 1, 0, "produce.go:112", #[.mk 0 .phase, .mk 1 .phase, .mk 2 .phase, .mk 3 .phase, .mk 4 .phase, .mk 5 .phase], none⟩ ?_; simp only [Act.put, sA, sB, sC]
               refine wpAnyH_ready (rs := [7]) (by kernel_rfl) (by simp) (AllReadyH.cons (o := ⟨none, .store 34 (.tmp 33) (.tmp 32), 0, "produce.go:112", #[.mk 6 .data, .mk 5 .data, .mk 5 .chain, .mk 0 .phase, .mk 1 .phase, .mk 2 .phase, .mk 3 .phase, .mk 4 .phase, .mk 5 .phase], none⟩) rfl (fun KK hK => ?_) AllReadyH.nil)
               · have hs := hs.p1
                 have q1 := hs.rawFree 1
                 have z1 := hs.rawCell 1
                 simp at z1
                 rw [if_pos (by rfl)]
                 refine op_skip (w' := w'.setCell ⟨pb, 1, none⟩ (.slice qv (n + 1) cv)) (by go_simp) ?_
                 obtain ⟨wz, ez, hs⟩ := hs.setExP 1 (.slice qv (n + 1) cv)
                 rw [ez]
                 clear ez q1 z1
                 have hs := hs.p1
                 refine hK.out _ _ (trivial) (fun hHeld => ?_)
                 clear hK KK
                 try simp only [Act.put]
                 refine wpAnyH_done (by kernel_rfl) ?_ _
                 clear hHeld
                 go_wp2_with fail
                 go_roundw
                 case rel =>
                  refine ⟨.slice qv (n + 1) cv, n + 1, acc.flatMap pbcells ++ [.int .i64 b.base, .int .i64 b.leader, .bool b.app, .bool b.txn, .bool b.ctl, .int .i64 b.last, .int .i64 b.first, .int .i64 b.maxt, .int .i64 b.prod, .int .i64 b.epoch, .int .i64 b.seq, .slice q l.length cap], pos + n2, 0, K2.and (Know.recs (.slice q l.length cap) l), ?_, ?_, ?_⟩
                  · exact Lib.hid (Know.has_trans (Know.has_left (Know.has_refl _)) HKK.out)
                  · exact Lib.hid (HNX.out q l cap HLR.out)
                  · exact hs
                 case measure =>
                  rw [pinM hs.p2, HMS.out]
                  have := HN2.out
                  have := HPN.out
                  show (if (0 : Int) ≠ 0 then 0 else d.length + 1 - (pos + n2)) < if (0 : Int) ≠ 0 then 0 else d.length + 1 - pos
                  rw [if_neg (by simp), if_neg (by simp)]
                  omega
         · rw [if_pos (by rfl)]
           refine op_value (exec_buildB _ _ _ _ (by kernel_rfl) (buildBatV b (.slice q l.length cap) _)) ?_
           obtain ⟨wy, b2, ey, eb, hs⟩ := hs.allocEx #[.int .i64 b.base, .int .i64 b.leader, .bool b.app, .bool b.txn, .bool b.ctl, .int .i64 b.last, .int .i64 b.first, .int .i64 b.maxt, .int .i64 b.prod, .int .i64 b.epoch, .int .i64 b.seq, .slice q l.length cap] 39
           rw [ey, eb]
           clear ey eb
           refine hK.out _ _ (trivial) (fun hHeld => ?_)
           clear hK KK
           try simp only [Act.put, sA, sB, sC]
           refine wpAnyH_ready (rs := [1]) (by kernel_rfl) (by simp) (AllReadyH.cons (o := ⟨some 28, .load 34 (.tmp 27), 34, "produce.go:112", #[.mk 0 .data], none⟩) rfl (fun KK hK => ?_) AllReadyH.nil)
           · have z1 := hs.p2.rawCell 1
             simp at z1
             go_simp
             refine hK.out _ _ (trivial) (fun hHeld => ?_)
             clear hK KK
             try simp only [Act.put, sA, sB, sC]
             clear z1
             refine wpAnyH_ready (rs := [5]) (by kernel_rfl) (by simp) (AllReadyH.cons (o := ⟨some 32, .call { callee := .builtin .append, args := #[.tmp 28, .tmp 31], argTypes := #[34, 34] }, 34, "produce.go:112", #[.mk 1 .data, .mk 4 .data, .mk 3 .chain], none⟩) rfl (fun KK hK => ?_) AllReadyH.nil)
             · rw [if_pos (by rfl)]
               refine op_app1 (.tmp 28) (.tmp 31) 34 rfl 39 Try.underlying34 elem_batP _ _ _ (by rfl) b2 #[.int .i64 b.base, .int .i64 b.leader, .bool b.app, .bool b.txn, .bool b.ctl, .int .i64 b.last, .int .i64 b.first, .int .i64 b.maxt, .int .i64 b.prod, .int .i64 b.epoch, .int .i64 b.seq, .slice q l.length cap] 39 hs (by rfl) rfl (by simp [Value.oneCell']) (by have := HNB.out; unfold maxLen; omega) (by have := HNB.out; omega) (fun v' w' h => ?_)
               have hs := h
               clear h
               obtain ⟨qv, cv, hv⟩ := hs.rowAny
               subst hv
               refine hK.out _ _ (trivial) (fun hHeld => ?_)
               clear hK KK
               try simp only [Act.put, sA, sB, sC]
               refine tQ 6 ⟨some 33, .fieldAddr 36 (.tmp 3) 1, 0, "produce.go:112", #[.mk 0 .phase, .mk 1 .phase, .mk 2 .phase, .mk 3 .phase, .mk 4 .phase, .mk 5 .phase], none⟩ ?_; simp only [Act.put, sA, sB, sC]
               refine wpAnyH_ready (rs := [7]) (by kernel_rfl) (by simp) (AllReadyH.cons (o := ⟨none, .store 34 (.tmp 33) (.tmp 32), 0, "produce.go:112", #[.mk 6 .data, .mk 5 .data, .mk 5 .chain, .mk 0 .phase, .mk 1 .phase, .mk 2 .phase, .mk 3 .phase, .mk 4 .phase, .mk 5 .phase], none⟩) rfl (fun KK hK => ?_) AllReadyH.nil)
               · have hs := hs.p1
                 have q1 := hs.rawFree 1
                 have z1 := hs.rawCell 1
                 simp at z1
                 rw [if_pos (by rfl)]
                 refine op_skip (w' := w'.setCell ⟨pb, 1, none⟩ (.slice qv (n + 1) cv)) (by go_simp) ?_
                 obtain ⟨wz, ez, hs⟩ := hs.setExP 1 (.slice qv (n + 1) cv)
                 rw [ez]
                 clear ez q1 z1
                 have hs := hs.p1
                 refine hK.out _ _ (trivial) (fun hHeld => ?_)
                 clear hK KK
                 try simp only [Act.put]
                 refine wpAnyH_done (by kernel_rfl) ?_ _
                 clear hHeld
                 go_wp2_with fail
                 go_roundw
                 case rel =>
                  refine ⟨.slice qv (n + 1) cv, n + 1, acc.flatMap pbcells ++ [.int .i64 b.base, .int .i64 b.leader, .bool b.app, .bool b.txn, .bool b.ctl, .int .i64 b.last, .int .i64 b.first, .int .i64 b.maxt, .int .i64 b.prod, .int .i64 b.epoch, .int .i64 b.seq, .slice q l.length cap], pos + n2, 0, K2.and (Know.recs (.slice q l.length cap) l), ?_, ?_, ?_⟩
                  · exact Lib.hid (Know.has_trans (Know.has_left (Know.has_refl _)) HKK.out)
                  · exact Lib.hid (HNX.out q l cap HLR.out)
                  · exact hs
                 case measure =>
                  rw [pinM hs.p2, HMS.out]
                  have := HN2.out
                  have := HPN.out
                  show (if (0 : Int) ≠ 0 then 0 else d.length + 1 - (pos + n2)) < if (0 : Int) ≠ 0 then 0 else d.length + 1 - pos
                  rw [if_neg (by simp), if_neg (by simp)]
                  omega
  · have HB := Lib.hid (show ([] : List BatS) = l ∧ i3.fail er = j by
      have hj := HJ.out
      rw [hbe] at hj
      simp only [Prod.mk.injEq, true_and] at hj
      exact hj)
    have HE0 := Lib.hid he0
    have g1 : (er == 0) = false := by rw [beq_eq_false_iff_ne]; exact he0
    have g2 : (er != 0) = true := by simp [bne, g1]
    clear hbe he0
    by_cases hz : lf = 0
    · subst hz
      clear hlf
      go_wp2_with (first
  | (go_at_call 48; (with_reducible refine (p_left bi _ _ HLF.out H.out.p2).mono ?_); rintro e_ wn ⟨rfl, h⟩; have h := h.p2.p2; replace H := Lib.hid h; clear h)
  | (go_at_call 23; (try clear y0 y1 w0 w1 v0 v1); (with_reducible refine (p_err bi _ er rfl H.out.p2).mono ?_); rintro e_ wn ⟨rfl, h⟩; have h := h.p2.p2; have y0 := h.p1.rawCell 0; have y1 := h.p1.rawCell 1; have w0 := h.p3.rawFree 0; have w1 := h.p3.rawFree 1; have v0 := h.p3.rawCell 0; have v1 := h.p3.rawCell 1; simp at y0 y1 v0 v1; replace H := Lib.hid h; clear h)
  | (go_at_call 24; (try clear y0 y1 w0 w1 v0 v1); (with_reducible refine (p_fail p i3 j er HB.out.2 H.out.p4).mono ?_); rintro e_ wn ⟨rfl, h⟩; have h := h.p4.p4.p4.p4; have y0 := h.p1.rawCell 0; have y1 := h.p1.rawCell 1; have w0 := h.p3.rawFree 0; have w1 := h.p3.rawFree 1; have v0 := h.p3.rawCell 0; have v1 := h.p3.rawCell 1; simp at y0 y1 v0 v1; replace H := Lib.hid h; clear h))
      have hz : St W0 _ _ (.raw rb #[.int .i64 a, .slice qv0 n cv0] 36 :: _) := ((H.out.p3.rawSet 0 (.int .i64 a)).rawSet 1 (.slice qv0 n cv0))
      refine bodyPost_ret (rc_cell_onlyP rfl _ _ rb [.int .i64 a, .slice qv0 n cv0] _ rfl (rc_rangeP hz) Try.underlying36 rfl (by kernel_rfl)) rfl ?_
      exact ⟨qv0, n, cv0, [], K2, rfl, HKK.out, fun hj => absurd hj (fail_ne HB.out.2 HE0.out), hz.drop.drop.drop.drop⟩
    · have hlp : (0 : Int) < (lf : Int) := by omega
      clear hlf hz
      go_wp2_with (first
  | (go_at_call 48; (with_reducible refine (p_left bi _ _ HLF.out H.out.p2).mono ?_); rintro e_ wn ⟨rfl, h⟩; have h := h.p2.p2; replace H := Lib.hid h; clear h)
  | (go_at_call 23; (try clear y0 y1 w0 w1 v0 v1); (with_reducible refine (p_err bi _ er rfl H.out.p2).mono ?_); rintro e_ wn ⟨rfl, h⟩; have h := h.p2.p2; have y0 := h.p1.rawCell 0; have y1 := h.p1.rawCell 1; have w0 := h.p3.rawFree 0; have w1 := h.p3.rawFree 1; have v0 := h.p3.rawCell 0; have v1 := h.p3.rawCell 1; simp at y0 y1 v0 v1; replace H := Lib.hid h; clear h)
  | (go_at_call 24; (try clear y0 y1 w0 w1 v0 v1); (with_reducible refine (p_fail p i3 j er HB.out.2 H.out.p4).mono ?_); rintro e_ wn ⟨rfl, h⟩; have h := h.p4.p4.p4.p4; have y0 := h.p1.rawCell 0; have y1 := h.p1.rawCell 1; have w0 := h.p3.rawFree 0; have w1 := h.p3.rawFree 1; have v0 := h.p3.rawCell 0; have v1 := h.p3.rawCell 1; simp at y0 y1 v0 v1; replace H := Lib.hid h; clear h))
      have hz : St W0 _ _ (.raw rb #[.int .i64 a, .slice qv0 n cv0] 36 :: _) := ((H.out.p3.rawSet 0 (.int .i64 a)).rawSet 1 (.slice qv0 n cv0))
      refine bodyPost_ret (rc_cell_onlyP rfl _ _ rb [.int .i64 a, .slice qv0 n cv0] _ rfl (rc_rangeP hz) Try.underlying36 rfl (by kernel_rfl)) rfl ?_
      exact ⟨qv0, n, cv0, [], K2, rfl, HKK.out, fun hj => absurd hj (fail_ne HB.out.2 HE0.out), hz.drop.drop.drop.drop⟩

theorem read_part (p : Nat) (i j : InS) (a : Int) (l : List BatS) (hx : i.ppart = ((a, l), j)) (hd : (((i.int 4).2.fixed 4).1.data).length ≤ 1000000) {W0 w : World} {K : Know} {L : List Res} (h : St W0 w K (.inp p i :: L)) :
  Calls Try.prog 50 #[inPtr p] w fun en w' => ∃ (q : Option Addr) (n cap : Nat) (lr : List BatR) (K2 : Know), en = .returned (.agg #[.int .i64 a, .slice q n cap]) ∧ K2.has K ∧ (j.err = 0 → n = lr.length ∧ lr.map BatR.b = l ∧ K2.has (Know.bats (.slice q n cap) lr) ∧ ∀ x ∈ lr, x.l.map (·.1) = x.b.recs) ∧ St W0 w' K2 (.inp p j :: L) := by
 obtain ⟨⟨a1, i1⟩, h1⟩ : ∃ r, i.int 4 = r := ⟨_, rfl⟩
 obtain ⟨⟨⟨nu, d⟩, i2⟩, h2⟩ : ∃ r, i1.fixed 4 = r := ⟨_, rfl⟩
 unfold InS.ppart at hx
 rw [h1] at hx hd
 simp only at hx hd
 rw [h2] at hx hd
 simp only at hx hd
 have ha : a1 = a := by
  revert hx
  cases batsS d <;> intro hx <;> simp only [Prod.mk.injEq] at hx <;> exact hx.1.1
 subst ha
 cases nu with
 | true => exact read_part_true p i i1 i2 _ j a1 d l h1 h2 rfl (by rw [if_pos rfl] at hx; exact hx) hd h
 | false => exact read_part_false p i i1 i2 _ j a1 d l h1 h2 rfl (by rw [if_neg (by simp)] at hx; exact hx) hd h

end Go.Proofs.Ytnnnglklgofabaa
