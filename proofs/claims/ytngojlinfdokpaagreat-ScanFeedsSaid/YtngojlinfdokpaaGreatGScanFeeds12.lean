/- A text. -/
import Derived.Test.YtngojlinfdokpaaGreatGScanFeeds11
import Derived.Test.YtngojlinfdokpaaGreatGScanFeeds7
import Derived.Laws.AppendOwnNone
import Derived.RegionTactic
import Derived.Deep.RegionHeld3
import Derived.Deep.DeepCutAuto
import Derived.WalkMore
import Derived.Test.YtngojlinfdokpaaGreatGScanFeeds8
import Derived.Test.YtngojlinfdokpaaGreatGScanFeeds6
import Derived.Test.YtngojlinfdokpaaGreatGScanFeeds3
import Derived.Test.YtngojlinfdokpaaGreatGScanFeeds10
import Derived.Test.YtngojlinfdokpaaGreatGScanFeeds4
import Derived.Test.YtngojlinfdokpaaGreatArgs
import Derived.SizedLaws
import Derived.Deep.Slices
import Derived.Test.YtngojlinfdokpaaGreatGScanFeeds9
/- A text. -/
namespace Go.Proofs.YtngojlinfdokpaaGreat
open Go.RowKit

theorem flat_bats (l : List BatR) (i : Nat) (hi : i < l.length) (r : Nat) (hr : r < 12) : (l.flatMap batcells)[i * 12 + r]? = (batcells l[i])[r]? := flatMap_get l batcells 12 (fun _ _ => rfl) i hi r hr
theorem flat_batsL (l : List BatR) : (l.flatMap batcells).length = l.length * 12 := by
 induction l with
 | nil => rfl
 | cons x t ih => rw [List.flatMap_cons, List.length_append, ih, List.length_cons]; show 12 + _ = _; omega
theorem flat_batsO (l : List BatR) : ∀ u ∈ l.flatMap batcells, u.oneCell' = true := by
 intro u hu
 obtain ⟨x, _, hx⟩ := List.mem_flatMap.1 hu
 unfold batcells at hx
 simp only [List.mem_cons, List.not_mem_nil, or_false] at hx
 rcases hx with rfl | rfl | rfl | rfl | rfl | rfl | rfl | rfl | rfl | rfl | rfl | rfl <;> rfl
theorem bats_cellsAt {W0 w : World} {K : Know} {L : List Res} {b off n cap : Nat} {l : List BatR} (hk : K.has (Know.bats (.slice (some ⟨b, off, none⟩) n cap) l)) (h : St W0 w K L) (j : Nat) (u : Value) (hu : (l.flatMap batcells)[j]? = some u) : w.cell? ((⟨b, off, none⟩ : Addr).add j) = some u := by
 have hj : j < (l.flatMap batcells).length := (List.getElem?_eq_some_iff.1 hu).1
 rw [flat_batsL] at hj
 have hi : j / 12 < l.length := by omega
 have hr : j % 12 < 12 := Nat.mod_lt _ (by decide)
 have hjj : j / 12 * 12 + j % 12 = j := by omega
 rw [← hjj, flat_bats l _ hi _ hr] at hu
 obtain ⟨F, hF, _⟩ := h.get
 obtain ⟨q2, cap2, hv, hrr⟩ := (bats_flat hk _ _ hF).at
 obtain ⟨b2, off2, hq, hc⟩ := hrr (by omega)
 rw [hq] at hv
 simp at hv
 obtain ⟨⟨rfl, rfl⟩, _, _⟩ := hv
 obtain ⟨cs, _, hR, hcs⟩ := hc (j / 12) hi
 unfold RBat at hR
 have ha : (⟨b, off, none⟩ : Addr).add j = ⟨b, off + (j / 12 * 12 + j % 12), none⟩ := by unfold Addr.add; split <;> simp_all <;> omega
 rw [ha]
 skip
 refine hcs (j % 12) u ?_
 rw [hR]
 exact hu
theorem wpl_appbats {W0 w : World} {K : Know} {L : List Res} {ops : Array Oper} {rest : List Oper} {o : Oper} {a : Act} {Q : Exit → Act → World → Prop} (hgd : o.guard = none) (sl x : Operand)
    (ho : o.op = .call { callee := .builtin .append, args := #[sl, x], argTypes := #[28, 28] })
    (v : Value) (n : Nat) (xs : List Value) (hs : a.eval sl = v) (hst : St W0 w K (.row v 43 12 n xs :: L)) (q : Option Addr) (cap : Nat) (lr : List BatR) (hx : a.eval x = .slice q lr.length cap) (hk : K.has (Know.bats (.slice q lr.length cap) lr)) (hqc : q = none → cap = 0)
    (hb : n + lr.length ≤ 1000000) (h : ∀ v' w', St W0 w' K (.row v' 43 12 (n + lr.length) (xs ++ lr.flatMap batcells) :: L) → wpList Tryz.prog ops Q rest (a.put o.dst v') w') : wpList Tryz.prog ops Q (o :: rest) a w := by
  by_cases h0 : lr = []
  · subst h0
    cases q with
    | none =>
      obtain rfl := hqc rfl
      obtain ⟨i0, hi, _⟩ := elem_bat.1
      refine wpList_append_own_none hgd sl x 28 ho 0 43 i0 12 Tryz.underlying28 hi v n xs hs hst.rowGet hx (h v w ?_)
      show St W0 w K (.row v 43 12 (n + 0) (xs ++ []) :: L)
      rw [List.append_nil]
      exact hst
    | some ad =>
      exact wpl_app_st hgd sl x 28 ho 43 Tryz.underlying28 elem_bat v n xs hs hst ad 0 cap [] hx rfl (fun j u hj => by simp at hj) (fun u hu => by cases hu) (by simp only [List.length_nil] at hb; unfold maxLen; omega) (by simp only [List.length_nil] at hb; omega) h
  · obtain ⟨b, off, rfl⟩ := bats_at hk hst (List.length_pos_iff.2 h0)
    exact wpl_app_st hgd sl x 28 ho 43 Tryz.underlying28 elem_bat v n xs hs hst ⟨b, off, none⟩ lr.length cap (lr.flatMap batcells) hx (flat_batsL lr) (fun j u hj => bats_cellsAt hk hst j u hj) (flat_batsO lr) (by unfold maxLen; omega) (by omega) h
theorem St.raw_neS {W0 w : World} {K : Know} {L : List Res} {a b : Nat} {c c' : Array Value} {T T' : TypeId} (h : St W0 w K (.raw a c T :: .raw b c' T' :: L)) : ¬ (a = b) := by
 rintro rfl
 obtain ⟨_, S, F, ⟨S1, S2, h1, ⟨S3, S4, h3, _, _, e3⟩, d1, _⟩, _⟩ := h
 exact d1 a ((h1.2 a).2 rfl) ((e3 a).2 (.inl ((h3.2 a).2 rfl)))
set_option maxHeartbeats 2000000 in
set_option maxRecDepth 100000 in
theorem feed_bad (sb : Nat) (chunk : Bs) (c v : Value) (e : Int) (h0 : e ≠ 0) {W0 w : World} {K : Know} {L : List Res} (h : St W0 w K (.raw sb #[c, v, .int .i64 e] 52 :: L)) :
  Calls Tryz.prog 10 #[.pointer (some ⟨sb, 0, none⟩), .string (bb chunk)] w fun en w' => en = .returned (.slice none 0 0) ∧ St W0 w' K (.raw sb #[c, v, .int .i64 e] 52 :: L) := by
 have H := Lib.hid h
 have c2 := h.rawCell 2
 simp at c2
 have g1e : (e == 0) = false := by rw [beq_eq_false_iff_ne]; exact h0
 have g2e : (e != 0) = true := by simp [bne, g1e]
 clear h h0
 go_enter Tryz.func10, Tryz.ntmps10
 go_wp2
 refine wp_scope_straight ?_
 go_wp2
 rw [Exit.noGoto_ret]
 go_ret
 exact ⟨rfl, H.out⟩
set_option maxHeartbeats 2000000 in
set_option maxRecDepth 100000 in
theorem scan_new {W0 w : World} {K : Know} {L : List Res} (h : St W0 w K L) :
  Calls Tryz.prog 6 #[] w fun en w' => ∃ sb, en = .returned (.pointer (some ⟨sb, 0, none⟩)) ∧ St W0 w' K (.raw sb #[.int .i64 0, .slice none 0 0, .int .i64 0] 52 :: L) := by
 have g1 := h.allocRaw #[.int .i64 0, .slice none 0 0, .int .i64 0] 52
 have H := Lib.hid g1
 clear h g1
 go_enter Tryz.func6, Tryz.ntmps6
 go_wp2
 go_ret
 exact ⟨_, rfl, H.out⟩
theorem fin_count (R : Bs) : 61 * (finS R).1.length ≤ R.length := by
 obtain ⟨k, a1, _, _, _, _, _, a7⟩ := scan_rest _ R (Nat.le_refl _)
 show 61 * (scanS R).1.length ≤ _
 omega
theorem fin_rest (R : Bs) : (finS R).2.2.1.length ≤ R.length ∧ (finS R).2.1 ≤ R.length := by
 obtain ⟨k, a1, a2, _⟩ := scan_rest _ R (Nat.le_refl _)
 unfold finS
 simp only
 refine ⟨?_, by omega⟩
 by_cases h : (scanS R).2.2 ≠ 0
 · rw [if_pos h]; exact Nat.zero_le _
 · rw [if_neg h, a2, List.length_drop]; omega
theorem rc_tmp_cellS {P : Program} {fn : Func} {p t : Tmp} {ty : TypeId} (h : fn.results = #[.tmp t, .cell p ty]) (tmps : Array Value) (w : World) (b : Nat) (cs : List Value) (d : TypeDesc)
    (hp : tmps.getD p undef = .pointer (some ⟨b, 0, none⟩)) (hc : w.rangeAt b 0 cs) (hu : P.underlying ty = some d) (hd : d.isRow = true) (hi : (P.info? ty).map (·.size) = some cs.length) :
    (results fn tmps).run P w = .ok (.tuple #[tmps.getD t undef, .agg cs.toArray]) w := by
  have hp' : tmps[p]?.getD undef = .pointer (some ⟨b, 0, none⟩) := by simpa using hp
  simp [results, h, hp', asAddr, run_loadVar_mid w b 0 ty cs d hc hu hd hi]
set_option maxHeartbeats 4000000 in
set_option maxRecDepth 100000 in
theorem close_bad (sb valid : Nat) (p : Option Addr) (n cap : Nat) (e : Int) (h0 : e ≠ 0) {W0 w : World} {K : Know} {L : List Res} (h : St W0 w K (.raw sb #[.int .i64 valid, .slice p n cap, .int .i64 e] 52 :: L)) :
  Calls Tryz.prog 11 #[.pointer (some ⟨sb, 0, none⟩)] w fun en w' => en = .returned (.agg #[.int .i64 valid, .int .i64 2, .int .i64 e]) ∧ St W0 w' K (.raw sb #[.int .i64 valid, .slice p n cap, .int .i64 e] 52 :: L) := by
 obtain ⟨rb, hrb⟩ : ∃ b, w.heap.size = b := ⟨_, rfl⟩
 have g1 := h.allocRaw #[.int .i64 0, .int .i64 0, .int .i64 0] 36
 rw [hrb] at g1
 have H := Lib.hid g1
 have g1e : (e == 0) = false := by rw [beq_eq_false_iff_ne]; exact h0
 have g2e : (e != 0) = true := by simp [bne, g1e]
 clear h g1 h0
 go_enter Tryz.func11, Tryz.ntmps11
 go_upto_region 1 with (fail)
 go_cut [3] (fun s3 wx => ∃ tb : Nat, s3 = .pointer (some ⟨tb, 0, none⟩) ∧ St W0 wx K (.raw tb #[.int .i64 valid, .int .i64 0, .int .i64 e] 36 :: .raw rb #[.int .i64 0, .int .i64 0, .int .i64 0] 36 :: .raw sb #[.int .i64 valid, .slice p n cap, .int .i64 e] 52 :: L))
 case first =>
  have hs := H.out.drew
  refine wp_region_held_drew (S := fun w' => w'.cell? ⟨sb, 0, none⟩ = some (.int .i64 valid) ∧ w'.cell? ⟨sb, 2, none⟩ = some (.int .i64 e)) (by kernel_rfl) ⟨hs.p1.rawCell 0, hs.p1.rawCell 2⟩ (fun hHeld => ?_)
  refine tQ 0 ⟨some 4, .move (.tmp 0), 24, "scan.go:75", #[], none⟩ ?_; simp only [Act.put, sA, sB, sC]
  refine tQ 1 ⟨some 5, .nilCheck (.tmp 4), 0, "scan.go:75", #[.mk 0 .data], none⟩ ?_; simp only [Act.put, sA, sB, sC]
  refine tQ 2 ⟨some 6, .fieldAddr 52 (.tmp 5) 0, 0, "scan.go:75", #[.mk 1 .data], none⟩ ?_; simp only [Act.put, sA, sB, sC]
  refine tQ 3 ⟨some 7, .load 3 (.tmp 6), 3, "scan.go:75", #[.mk 2 .data], none⟩ ?_; simp only [Act.put, sA, sB, sC]
  refine tQ 4 ⟨some 8, .move (.tmp 0), 24, "scan.go:75", #[], none⟩ ?_; simp only [Act.put, sA, sB, sC]
  refine tQ 5 ⟨some 9, .nilCheck (.tmp 8), 0, "scan.go:75", #[.mk 4 .data], none⟩ ?_; simp only [Act.put, sA, sB, sC]
  refine tQ 6 ⟨some 10, .fieldAddr 52 (.tmp 9) 2, 0, "scan.go:75", #[.mk 5 .data], none⟩ ?_; simp only [Act.put, sA, sB, sC]
  refine tQ 7 ⟨some 11, .load 34 (.tmp 10), 34, "scan.go:75", #[.mk 6 .data], none⟩ ?_; simp only [Act.put, sA, sB, sC]
  refine tQ 8 ⟨some 12, .build 36 #[(0, .tmp 7), (1, .const (Value.int IntKind.i64 0)), (2, .tmp 11)], 36, "scan.go:75", #[.mk 3 .data, .mk 7 .data], none⟩ ?_; simp only [Act.put, sA, sB, sC]
  refine wpAnyH_ready (rs := [9]) (by kernel_rfl) (by simp) (AllReadyH.cons (o := ⟨some 3, .alloc 36, 0, "scan.go:75", #[], none⟩) rfl (fun KK hK => ?_) AllReadyH.nil)
  · obtain ⟨wy, tb, ey, er, hs⟩ := hs.allocEx #[.int .i64 0, .int .i64 0, .int .i64 0] 36
    go_simp
    try rw [ey]
    try rw [er]
    clear ey er
    refine hK.out _ _ (⟨hs.p2.rawCell 0, hs.p2.rawCell 2⟩) (fun hHeld => ?_)
    clear hK KK
    try simp only [Act.put, sA, sB, sC]
    refine wpAnyH_ready (rs := [10]) (by kernel_rfl) (by simp) (AllReadyH.cons (o := ⟨none, .store 36 (.tmp 3) (.tmp 12), 0, "scan.go:75", #[.mk 9 .data, .mk 8 .data, .mk 0 .phase, .mk 1 .phase, .mk 2 .phase, .mk 3 .phase, .mk 4 .phase, .mk 5 .phase, .mk 6 .phase, .mk 7 .phase, .mk 8 .phase, .mk 9 .phase], none⟩) rfl (fun KK hK => ?_) AllReadyH.nil)
    · rw [if_pos (by rfl)]
      refine wp_store_mid 36 (.tmp 3) (.tmp 12) rfl tb 0 #[.int .i64 valid, .int .i64 0, .int .i64 e] (by rfl) (by rfl) hs.there (by kernel_rfl) (by simp [Value.oneCell']) ?_
      obtain ⟨wz, ez, hs⟩ := hs.storeEx #[.int .i64 valid, .int .i64 0, .int .i64 e]
      rw [ez]
      clear ez
      rw [setAll_allV] at hs
      rotate_left
      · rfl
      refine hK.out _ _ (⟨hs.p2.rawCell 0, hs.p2.rawCell 2⟩) (fun hHeld => ?_)
      clear hK KK
      try simp only [Act.put, sA, sB, sC]
      refine wpAnyH_done (by kernel_rfl) ?_ _
      clear hHeld
      go_wp2_with fail
      go_meet
      exact ⟨tb, rfl, hs⟩
 obtain ⟨tb, rfl, h⟩ := hcut
 clear H
 have H := Lib.hid h
 have hne := St.raw_neS h
 have hne2 := fun hh => hne (Eq.symm hh)
 have a0 := h.rawCell 0
 have a1 := h.rawCell 1
 have a2 := h.rawCell 2
 have r1 := h.rawFree 1
 have b0 := h.p1.rawFree 0
 have b1 := h.p1.rawFree 1
 have b2 := h.p1.rawFree 2
 have d0 := h.p1.rawCell 0
 have d1 := h.p1.rawCell 1
 have d2 := h.p1.rawCell 2
 have c0 := h.p2.rawCell 0
 have c1 := h.p2.rawCell 1
 have c2 := h.p2.rawCell 2
 simp at a0 a1 a2 d0 d1 d2 c0 c1 c2
 clear h
 go_wp2_with fail
 have hz : St W0 _ _ (.raw rb #[.int .i64 valid, .int .i64 2, .int .i64 e] 36 :: .raw tb _ 36 :: _) := ((((H.out.rawSet 1 (.int .i64 2)).p1.rawSet 0 (.int .i64 valid)).rawSet 1 (.int .i64 2)).rawSet 2 (.int .i64 e))
 refine bodyPost_ret (rc_cell_only rfl _ _ rb [.int .i64 valid, .int .i64 2, .int .i64 e] _ rfl (rc_range hz) Tryz.underlying36 rfl (by kernel_rfl)) rfl ?_
 exact ⟨rfl, hz.drop.drop⟩

set_option maxHeartbeats 4000000 in
set_option maxRecDepth 100000 in
theorem close_torn (sb valid : Nat) (p : Option Addr) (n cap : Nat) (hn : 0 < n) {W0 w : World} {K : Know} {L : List Res} (h : St W0 w K (.raw sb #[.int .i64 valid, .slice p n cap, .int .i64 0] 52 :: L)) :
  Calls Tryz.prog 11 #[.pointer (some ⟨sb, 0, none⟩)] w fun en w' => en = .returned (.agg #[.int .i64 valid, .int .i64 1, .int .i64 0]) ∧ St W0 w' K (.raw sb #[.int .i64 valid, .slice p n cap, .int .i64 0] 52 :: L) := by
 obtain ⟨rb, hrb⟩ : ∃ b, w.heap.size = b := ⟨_, rfl⟩
 have g1 := h.allocRaw #[.int .i64 0, .int .i64 0, .int .i64 0] 36
 rw [hrb] at g1
 have H := Lib.hid g1
 have hni : 0 < (n : Int) := by omega
 clear h g1 hn
 go_enter Tryz.func11, Tryz.ntmps11
 go_upto_region 1 with (fail)
 go_cut [3] (fun s3 wx => ∃ tb : Nat, s3 = .pointer (some ⟨tb, 0, none⟩) ∧ St W0 wx K (.raw tb #[.int .i64 valid, .int .i64 0, .int .i64 0] 36 :: .raw rb #[.int .i64 0, .int .i64 0, .int .i64 0] 36 :: .raw sb #[.int .i64 valid, .slice p n cap, .int .i64 0] 52 :: L))
 case first =>
  have hs := H.out.drew
  refine wp_region_held_drew (S := fun w' => w'.cell? ⟨sb, 0, none⟩ = some (.int .i64 valid) ∧ w'.cell? ⟨sb, 2, none⟩ = some (.int .i64 0)) (by kernel_rfl) ⟨hs.p1.rawCell 0, hs.p1.rawCell 2⟩ (fun hHeld => ?_)
  refine tQ 0 ⟨some 4, .move (.tmp 0), 24, "scan.go:75", #[], none⟩ ?_; simp only [Act.put, sA, sB, sC]
  refine tQ 1 ⟨some 5, .nilCheck (.tmp 4), 0, "scan.go:75", #[.mk 0 .data], none⟩ ?_; simp only [Act.put, sA, sB, sC]
  refine tQ 2 ⟨some 6, .fieldAddr 52 (.tmp 5) 0, 0, "scan.go:75", #[.mk 1 .data], none⟩ ?_; simp only [Act.put, sA, sB, sC]
  refine tQ 3 ⟨some 7, .load 3 (.tmp 6), 3, "scan.go:75", #[.mk 2 .data], none⟩ ?_; simp only [Act.put, sA, sB, sC]
  refine tQ 4 ⟨some 8, .move (.tmp 0), 24, "scan.go:75", #[], none⟩ ?_; simp only [Act.put, sA, sB, sC]
  refine tQ 5 ⟨some 9, .nilCheck (.tmp 8), 0, "scan.go:75", #[.mk 4 .data], none⟩ ?_; simp only [Act.put, sA, sB, sC]
  refine tQ 6 ⟨some 10, .fieldAddr 52 (.tmp 9) 2, 0, "scan.go:75", #[.mk 5 .data], none⟩ ?_; simp only [Act.put, sA, sB, sC]
  refine tQ 7 ⟨some 11, .load 34 (.tmp 10), 34, "scan.go:75", #[.mk 6 .data], none⟩ ?_; simp only [Act.put, sA, sB, sC]
  refine tQ 8 ⟨some 12, .build 36 #[(0, .tmp 7), (1, .const (Value.int IntKind.i64 0)), (2, .tmp 11)], 36, "scan.go:75", #[.mk 3 .data, .mk 7 .data], none⟩ ?_; simp only [Act.put, sA, sB, sC]
  refine wpAnyH_ready (rs := [9]) (by kernel_rfl) (by simp) (AllReadyH.cons (o := ⟨some 3, .alloc 36, 0, "scan.go:75", #[], none⟩) rfl (fun KK hK => ?_) AllReadyH.nil)
  · obtain ⟨wy, tb, ey, er, hs⟩ := hs.allocEx #[.int .i64 0, .int .i64 0, .int .i64 0] 36
    go_simp
    try rw [ey]
    try rw [er]
    clear ey er
    refine hK.out _ _ (⟨hs.p2.rawCell 0, hs.p2.rawCell 2⟩) (fun hHeld => ?_)
    clear hK KK
    try simp only [Act.put, sA, sB, sC]
    refine wpAnyH_ready (rs := [10]) (by kernel_rfl) (by simp) (AllReadyH.cons (o := ⟨none, .store 36 (.tmp 3) (.tmp 12), 0, "scan.go:75", #[.mk 9 .data, .mk 8 .data, .mk 0 .phase, .mk 1 .phase, .mk 2 .phase, .mk 3 .phase, .mk 4 .phase, .mk 5 .phase, .mk 6 .phase, .mk 7 .phase, .mk 8 .phase, .mk 9 .phase], none⟩) rfl (fun KK hK => ?_) AllReadyH.nil)
    · rw [if_pos (by rfl)]
      refine wp_store_mid 36 (.tmp 3) (.tmp 12) rfl tb 0 #[.int .i64 valid, .int .i64 0, .int .i64 0] (by rfl) (by rfl) hs.there (by kernel_rfl) (by simp [Value.oneCell']) ?_
      obtain ⟨wz, ez, hs⟩ := hs.storeEx #[.int .i64 valid, .int .i64 0, .int .i64 0]
      rw [ez]
      clear ez
      rw [setAll_allV] at hs
      rotate_left
      · rfl
      refine hK.out _ _ (⟨hs.p2.rawCell 0, hs.p2.rawCell 2⟩) (fun hHeld => ?_)
      clear hK KK
      try simp only [Act.put, sA, sB, sC]
      refine wpAnyH_done (by kernel_rfl) ?_ _
      clear hHeld
      go_wp2_with fail
      go_meet
      exact ⟨tb, rfl, hs⟩
 obtain ⟨tb, rfl, h⟩ := hcut
 clear H
 have H := Lib.hid h
 have hne := St.raw_neS h
 have hne2 := fun hh => hne (Eq.symm hh)
 have a0 := h.rawCell 0
 have a1 := h.rawCell 1
 have a2 := h.rawCell 2
 have r1 := h.rawFree 1
 have b0 := h.p1.rawFree 0
 have b1 := h.p1.rawFree 1
 have b2 := h.p1.rawFree 2
 have d0 := h.p1.rawCell 0
 have d1 := h.p1.rawCell 1
 have d2 := h.p1.rawCell 2
 have c0 := h.p2.rawCell 0
 have c1 := h.p2.rawCell 1
 have c2 := h.p2.rawCell 2
 simp at a0 a1 a2 d0 d1 d2 c0 c1 c2
 clear h
 go_wp2_with fail
 have hz : St W0 _ _ (.raw rb #[.int .i64 valid, .int .i64 1, .int .i64 0] 36 :: .raw tb _ 36 :: _) := ((((H.out.rawSet 1 (.int .i64 1)).p1.rawSet 0 (.int .i64 valid)).rawSet 1 (.int .i64 1)).rawSet 2 (.int .i64 0))
 refine bodyPost_ret (rc_cell_only rfl _ _ rb [.int .i64 valid, .int .i64 1, .int .i64 0] _ rfl (rc_range hz) Tryz.underlying36 rfl (by kernel_rfl)) rfl ?_
 exact ⟨rfl, hz.drop.drop⟩

set_option maxHeartbeats 4000000 in
set_option maxRecDepth 100000 in
theorem close_clean (sb valid : Nat) (p : Option Addr) (n cap : Nat) (hn : n = 0) {W0 w : World} {K : Know} {L : List Res} (h : St W0 w K (.raw sb #[.int .i64 valid, .slice p n cap, .int .i64 0] 52 :: L)) :
  Calls Tryz.prog 11 #[.pointer (some ⟨sb, 0, none⟩)] w fun en w' => en = .returned (.agg #[.int .i64 valid, .int .i64 0, .int .i64 0]) ∧ St W0 w' K (.raw sb #[.int .i64 valid, .slice p n cap, .int .i64 0] 52 :: L) := by
 obtain ⟨rb, hrb⟩ : ∃ b, w.heap.size = b := ⟨_, rfl⟩
 have g1 := h.allocRaw #[.int .i64 0, .int .i64 0, .int .i64 0] 36
 rw [hrb] at g1
 have H := Lib.hid g1
 have hni : ¬ 0 < (n : Int) := by omega
 clear h g1 hn
 go_enter Tryz.func11, Tryz.ntmps11
 go_upto_region 1 with (fail)
 go_cut [3] (fun s3 wx => ∃ tb : Nat, s3 = .pointer (some ⟨tb, 0, none⟩) ∧ St W0 wx K (.raw tb #[.int .i64 valid, .int .i64 0, .int .i64 0] 36 :: .raw rb #[.int .i64 0, .int .i64 0, .int .i64 0] 36 :: .raw sb #[.int .i64 valid, .slice p n cap, .int .i64 0] 52 :: L))
 case first =>
  have hs := H.out.drew
  refine wp_region_held_drew (S := fun w' => w'.cell? ⟨sb, 0, none⟩ = some (.int .i64 valid) ∧ w'.cell? ⟨sb, 2, none⟩ = some (.int .i64 0)) (by kernel_rfl) ⟨hs.p1.rawCell 0, hs.p1.rawCell 2⟩ (fun hHeld => ?_)
  refine tQ 0 ⟨some 4, .move (.tmp 0), 24, "scan.go:75", #[], none⟩ ?_; simp only [Act.put, sA, sB, sC]
  refine tQ 1 ⟨some 5, .nilCheck (.tmp 4), 0, "scan.go:75", #[.mk 0 .data], none⟩ ?_; simp only [Act.put, sA, sB, sC]
  refine tQ 2 ⟨some 6, .fieldAddr 52 (.tmp 5) 0, 0, "scan.go:75", #[.mk 1 .data], none⟩ ?_; simp only [Act.put, sA, sB, sC]
  refine tQ 3 ⟨some 7, .load 3 (.tmp 6), 3, "scan.go:75", #[.mk 2 .data], none⟩ ?_; simp only [Act.put, sA, sB, sC]
  refine tQ 4 ⟨some 8, .move (.tmp 0), 24, "scan.go:75", #[], none⟩ ?_; simp only [Act.put, sA, sB, sC]
  refine tQ 5 ⟨some 9, .nilCheck (.tmp 8), 0, "scan.go:75", #[.mk 4 .data], none⟩ ?_; simp only [Act.put, sA, sB, sC]
  refine tQ 6 ⟨some 10, .fieldAddr 52 (.tmp 9) 2, 0, "scan.go:75", #[.mk 5 .data], none⟩ ?_; simp only [Act.put, sA, sB, sC]
  refine tQ 7 ⟨some 11, .load 34 (.tmp 10), 34, "scan.go:75", #[.mk 6 .data], none⟩ ?_; simp only [Act.put, sA, sB, sC]
  refine tQ 8 ⟨some 12, .build 36 #[(0, .tmp 7), (1, .const (Value.int IntKind.i64 0)), (2, .tmp 11)], 36, "scan.go:75", #[.mk 3 .data, .mk 7 .data], none⟩ ?_; simp only [Act.put, sA, sB, sC]
  refine wpAnyH_ready (rs := [9]) (by kernel_rfl) (by simp) (AllReadyH.cons (o := ⟨some 3, .alloc 36, 0, "scan.go:75", #[], none⟩) rfl (fun KK hK => ?_) AllReadyH.nil)
  · obtain ⟨wy, tb, ey, er, hs⟩ := hs.allocEx #[.int .i64 0, .int .i64 0, .int .i64 0] 36
    go_simp
    try rw [ey]
    try rw [er]
    clear ey er
    refine hK.out _ _ (⟨hs.p2.rawCell 0, hs.p2.rawCell 2⟩) (fun hHeld => ?_)
    clear hK KK
    try simp only [Act.put, sA, sB, sC]
    refine wpAnyH_ready (rs := [10]) (by kernel_rfl) (by simp) (AllReadyH.cons (o := ⟨none, .store 36 (.tmp 3) (.tmp 12), 0, "scan.go:75", #[.mk 9 .data, .mk 8 .data, .mk 0 .phase, .mk 1 .phase, .mk 2 .phase, .mk 3 .phase, .mk 4 .phase, .mk 5 .phase, .mk 6 .phase, .mk 7 .phase, .mk 8 .phase, .mk 9 .phase], none⟩) rfl (fun KK hK => ?_) AllReadyH.nil)
    · rw [if_pos (by rfl)]
      refine wp_store_mid 36 (.tmp 3) (.tmp 12) rfl tb 0 #[.int .i64 valid, .int .i64 0, .int .i64 0] (by rfl) (by rfl) hs.there (by kernel_rfl) (by simp [Value.oneCell']) ?_
      obtain ⟨wz, ez, hs⟩ := hs.storeEx #[.int .i64 valid, .int .i64 0, .int .i64 0]
      rw [ez]
      clear ez
      rw [setAll_allV] at hs
      rotate_left
      · rfl
      refine hK.out _ _ (⟨hs.p2.rawCell 0, hs.p2.rawCell 2⟩) (fun hHeld => ?_)
      clear hK KK
      try simp only [Act.put, sA, sB, sC]
      refine wpAnyH_done (by kernel_rfl) ?_ _
      clear hHeld
      go_wp2_with fail
      go_meet
      exact ⟨tb, rfl, hs⟩
 obtain ⟨tb, rfl, h⟩ := hcut
 clear H
 have H := Lib.hid h
 have hne := St.raw_neS h
 have hne2 := fun hh => hne (Eq.symm hh)
 have a0 := h.rawCell 0
 have a1 := h.rawCell 1
 have a2 := h.rawCell 2
 have r1 := h.rawFree 1
 have b0 := h.p1.rawFree 0
 have b1 := h.p1.rawFree 1
 have b2 := h.p1.rawFree 2
 have d0 := h.p1.rawCell 0
 have d1 := h.p1.rawCell 1
 have d2 := h.p1.rawCell 2
 have c0 := h.p2.rawCell 0
 have c1 := h.p2.rawCell 1
 have c2 := h.p2.rawCell 2
 simp at a0 a1 a2 d0 d1 d2 c0 c1 c2
 clear h
 go_wp2_with fail
 have hz : St W0 _ _ (.raw rb #[.int .i64 valid, .int .i64 0, .int .i64 0] 36 :: .raw tb _ 36 :: _) := (((H.out.p1.rawSet 0 (.int .i64 valid)).rawSet 1 (.int .i64 0)).rawSet 2 (.int .i64 0))
 refine bodyPost_ret (rc_cell_only rfl _ _ rb [.int .i64 valid, .int .i64 0, .int .i64 0] _ rfl (rc_range hz) Tryz.underlying36 rfl (by kernel_rfl)) rfl ?_
 exact ⟨rfl, hz.drop.drop⟩
theorem attr_one (a : Int) (h : chk a = 0) : attrN (bitAt a 3) (bitAt a 4) (bitAt a 5) 3 = a ∧ (bitAt a 5 = true → bitAt a 4 = true) := by
 have hr : 0 ≤ a ∧ a ≤ 63 := by
  unfold chk at h
  split at h
  · cases h
  · split at h
    · cases h
    · rename_i _ h2
      simp only [Bool.or_eq_true, decide_eq_true_eq, not_or] at h2
      omega
 have key : ∀ k : Fin 64, chk (k.val : Int) = 0 → attrN (bitAt k.val 3) (bitAt k.val 4) (bitAt k.val 5) 3 = k.val ∧ (bitAt k.val 5 = true → bitAt k.val 4 = true) := by decide
 have := key ⟨a.toNat, by omega⟩
 simp only at this
 rw [show ((a.toNat : Nat) : Int) = a by omega] at this
 exact this h
theorem sumItem_back (v : Int) (h : -2147483648 ≤ v ∧ v < 2147483648) : sumItem (v % 4294967296) = v := by
 unfold sumItem
 rw [if_neg (by omega)]
 split <;> omega
theorem preX_bytes {s : Bs} (h : 61 ≤ s.length) (h2 : (preX s).2 = 2) : encInts (preX s).1.items = s.take 61 := by
 have e := enc_intsOf preSizes s h
 have hs : preSizes.sum = 61 := rfl
 rw [hs] at e
 rw [← e]
 have h4 := sInt_range4 ((s.drop 17).take 4) (by rw [List.length_take]; omega)
 have h5 := sumItem_back _ h4
 have e2 : intsOf preSizes s = [sInt (s.take 8), sInt ((s.drop 8).take 4), sInt ((s.drop 12).take 4), sInt ((s.drop 16).take 1), sInt ((s.drop 17).take 4), sInt ((s.drop 21).take 2), sInt ((s.drop 23).take 4), sInt ((s.drop 27).take 8), sInt ((s.drop 35).take 8), sInt ((s.drop 43).take 8), sInt ((s.drop 51).take 2), sInt ((s.drop 53).take 4), sInt ((s.drop 57).take 4)] := by
  unfold preSizes
  simp only [intsOf, List.drop_drop, Nat.reduceAdd]
 unfold preX at h2 ⊢
 rw [e2] at h2 ⊢
 have h3 : sInt ((s.drop 16).take 1) = 2 := h2
 rw [h3]
 show encInts (PreS.items ⟨_, _, _, sInt ((s.drop 17).take 4) % 4294967296, _, _, _, _, _, _, _, _⟩) = _
 unfold PreS.items
 simp only [h5]
 rfl
theorem unp_enc : ∀ (n : Nat) (rows : Bs) (pos : Nat) (rs : List RecS), pos ≤ rows.length → unp n ⟨rows, pos, 0⟩ = .ok rs → rows.drop pos = rs.flatMap encR
  | 0, rows, pos, rs, hp, h => by
    have h : (if (⟨rows, pos, 0⟩ : InS).left = 0 then Except.ok [] else Except.error (10 : Int)) = Except.ok rs := h
    by_cases c1 : (⟨rows, pos, 0⟩ : InS).left = 0
    · rw [if_pos c1] at h
      cases h
      have c2 : rows.length - pos = 0 := c1
      rw [List.drop_of_length_le (by omega)]
      rfl
    · rw [if_neg c1] at h; cases h
  | n + 1, rows, pos, rs, hp, h => by
    have h : (if (⟨rows, pos, 0⟩ : InS).left = 0 then .error 10 else if (⟨rows, pos, 0⟩ : InS).record.2.err = 0 then consE (⟨rows, pos, 0⟩ : InS).record.1 (unp n (⟨rows, pos, 0⟩ : InS).record.2) else .error (⟨rows, pos, 0⟩ : InS).record.2.err) = .ok rs := h
    by_cases c1 : (⟨rows, pos, 0⟩ : InS).left = 0
    · rw [if_pos c1] at h; cases h
    rw [if_neg c1] at h
    cases hr : reRec (rows.drop pos) with
    | error e =>
      obtain ⟨he, q, _, hf⟩ := rds_rec.err rows pos e hp hr
      rw [hf] at h
      simp only at h
      rw [if_neg he] at h
      cases h
    | ok y =>
      obtain ⟨x, m⟩ := y
      obtain ⟨hpm, hf⟩ := rds_rec.ok rows pos x m hp hr
      rw [hf] at h
      simp only [if_true] at h
      cases hu : unp n ⟨rows, pos + m, 0⟩ with
      | error e => rw [hu] at h; cases h
      | ok t =>
        rw [hu] at h
        have h : Except.ok (x :: t) = Except.ok rs := h
        injection h with h
        subst h
        have i1 := unp_enc n rows (pos + m) t hpm hu
        have j1 := (reRec_one hr).1
        rw [List.flatMap_cons, ← i1, j1, ← List.drop_drop, List.take_append_drop]
theorem reBat_one {s : Bs} {b : BatS} {n : Nat} (h : reBat s = .ok (b, n)) : b.enc = s.take n ∧ batErr b = 0 ∧ b.rowsB.length ≤ s.length ∧ b.recs.length ≤ s.length ∧ ∀ x ∈ b.recs, x.R ∧ recOk x = 0 ∧ x.sum ≤ s.length := by
 obtain ⟨x, hp, hn, hns, ha⟩ := reBat_ok h
 obtain ⟨p1, p2, p3, p4, p5⟩ := rePre_ok hp
 obtain ⟨a1, a2, rs, a3, a4, a5⟩ := asmB_ok ha
 obtain ⟨k, hk⟩ : ∃ k, (x.len - 49).toNat = k := ⟨_, rfl⟩
 rw [hk] at hn a1 a3
 obtain ⟨rows, hrw⟩ : ∃ r, (s.drop 61).take k = r := ⟨_, rfl⟩
 rw [hrw] at a1 a3
 have hrl : rows.length = k := by rw [← hrw, List.length_take, List.length_drop]; omega
 have u1 := unp_enc _ _ _ _ (Nat.zero_le _) a3
 obtain ⟨u2, u3, u4⟩ := unp_fit _ _ _ _ (Nat.zero_le _) a3
 rw [List.drop_zero] at u1
 have hrb : b.rowsB = rows := by rw [u1, a5]; rfl
 have hrc : b.recs = rs := by rw [a5]
 obtain ⟨at1, at2⟩ := attr_one x.attr a2
 have hpre : b.pre x.sum = x := by
   unfold BatS.pre
   rw [hrb, hrc, hrl, u2]
   rw [a5]
   simp only
   rw [at1, show 49 + ((k : Nat) : Int) = x.len by omega, show ((x.count.toNat : Nat) : Int) = x.count by omega]
 have hby := preX_bytes p1 p3
 rw [p2] at hby
 have hbk : (s.take 61).drop 21 = b.back := by rw [← hby, ← hpre, b.pre_drop]
 have hcr : (b.crc : Int) = x.sum := by
   unfold BatS.crc
   rw [← hbk, hrb]
   exact a1
 refine ⟨?_, by rw [a5]; exact a4, by rw [hrb, hrl]; omega, by rw [hrc]; omega, fun y hy => ?_⟩
 · unfold BatS.enc
   rw [hcr, hpre, hby, hrb, ← hrw, hn, List.take_add]
 · rw [hrc] at hy
   obtain ⟨v1, v2, v3⟩ := u4 y hy
   exact ⟨v1, v2, by omega⟩
theorem pre_R64 {s : Bs} {x : PreS} (h : rePre s = .ok x) : Rn x.base ∧ Rn x.leader ∧ Rn x.last ∧ Rn x.first ∧ Rn x.maxt ∧ Rn x.prod ∧ Rn x.epoch ∧ Rn x.seq := by
 obtain ⟨h1, h2, _, h3, h4⟩ := rePre_ok h
 rw [preX_eq] at h2
 have h2 := h2.symm
 subst h2
 have r : ∀ (k m : Nat), m ≤ 8 → Rn (sInt ((s.drop k).take m)) := fun k m hm => sInt_range _ (by rw [List.length_take]; omega)
 exact ⟨r 0 8 (by decide), r 12 4 (by decide), r 23 4 (by decide), r 27 8 (by decide), r 35 8 (by decide), r 43 8 (by decide), r 51 2 (by decide), r 53 4 (by decide)⟩
structure MidOk (b : BatS) : Prop where
  fit : ∀ x ∈ b.recs, x.R ∧ recOk x = 0 ∧ x.sum ≤ 2000
  len : b.recs.length ≤ 1000
  err : batErr b = 0
  rng : b.R
  rows : b.rowsB.length ≤ 2000
theorem rows_two : ∀ (l : List RecS), 2 * l.length ≤ (l.flatMap encR).length
  | [] => by simp
  | x :: t => by
    have h1 := rows_two t
    have h2 : 2 ≤ (encR x).length := by
      have h3 := encV_pos x.key
      have h4 : 2 ≤ (recF x).length := by unfold recF; simp only [List.length_append, List.length_cons, List.length_nil]; omega
      show 2 ≤ (putU _ ++ recF x).length
      rw [List.length_append]
      omega
    rw [List.flatMap_cons, List.length_append, List.length_cons]
    omega
theorem MidOk.of {s : Bs} {b : BatS} {n : Nat} (h : reBat s = .ok (b, n)) (hl : s.length ≤ 1500) : MidOk b := by
 obtain ⟨h1, h2, h3, h4, h5⟩ := reBat_one h
 obtain ⟨x, hp, _, _, ha⟩ := reBat_ok h
 obtain ⟨_, _, rs, _, _, hb⟩ := asmB_ok ha
 have hr := pre_R64 hp
 have h6 := rows_two b.recs
 have h7 : (b.recs.flatMap encR).length = b.rowsB.length := rfl
 refine ⟨fun y hy => ?_, by omega, h2, ?_, by omega⟩
 · obtain ⟨v1, v2, v3⟩ := h5 y hy
   exact ⟨v1, v2, by omega⟩
 · rw [hb]; exact hr
theorem fs_nil : firstS [] = .ok none := by unfold firstS; rw [if_pos (by decide)]
theorem strs_at {W0 w : World} {K : Know} {L : List Res} {q : Option Addr} {n cap : Nat} {l : List Bs} (hk : K.has (Know.strs (.slice q n cap) l)) (h : St W0 w K L) (h0 : 0 < l.length) : ∃ b off, q = some ⟨b, off, none⟩ := by
 obtain ⟨F, hF, _⟩ := h.get
 obtain ⟨q2, cap2, hv, hr⟩ := strRows.at (hk _ _ hF)
 obtain ⟨b, off, hq, _⟩ := hr h0
 simp at hv
 exact ⟨b, off, hv.1.trans hq⟩
theorem strs_cell {W0 w : World} {K : Know} {L : List Res} {b off n cap : Nat} {l : List Bs} (hk : K.has (Know.strs (.slice (some ⟨b, off, none⟩) n cap) l)) (h : St W0 w K L) (i : Nat) (hi : i < l.length) (x : Bs) (hx : l[i] = x) :
  w.cell? ⟨b, off + i, none⟩ = some (.string (bb x)) := by
 subst hx
 obtain ⟨F, hF, _⟩ := h.get
 obtain ⟨q2, cap2, hv, hr⟩ := strRows.at (hk _ _ hF)
 obtain ⟨b2, off2, hq, hc⟩ := hr (by omega)
 rw [hq] at hv
 simp at hv
 obtain ⟨⟨rfl, rfl⟩, _, _⟩ := hv
 exact hc i hi
set_option maxHeartbeats 8000000 in
set_option maxRecDepth 100000 in
theorem scan_scan (l : List Bs) (A : Bs) (hA : l.flatten = A) (hAl : A.length ≤ 90000) (q : Option Addr) (cap : Nat) (hll : l.length ≤ 1000000) {W0 w : World} {K : Know} {L : List Res} (hk : K.has (Know.strs (.slice q l.length cap) l)) (h : St W0 w K L) :
  Calls Tryz.prog 15 #[.slice q l.length cap] w fun en w' => ∃ (q2 : Option Addr) (cap2 : Nat) (lr : List BatR), en = .returned (.tuple #[.slice q2 lr.length cap2, .agg #[.int .i64 ((finS A).2.1 : Nat), .int .i64 (stopS (finS A).2.2.1 (finS A).2.2.2), .int .i64 (finS A).2.2.2]]) ∧ lr.map BatR.b = (finS A).1 ∧ (∀ x ∈ lr, LiteR x) ∧ 61 * lr.length ≤ A.length ∧ (((q2 = none ∧ cap2 = 0) ∨ ∃ g, q2 = some ⟨g, 0, none⟩) ∧ lr.length ≤ cap2) ∧ St W0 w' (K.and (Know.bats (.slice q2 lr.length cap2) lr)) L := by
 obtain ⟨rb, hrb⟩ : ∃ b, w.heap.size = b := ⟨_, rfl⟩
 have g1 := h.allocRaw #[.int .i64 0, .int .i64 0, .int .i64 0] 36
 rw [hrb] at g1
 have H := Lib.hid g1
 have HK := Lib.hid hk
 have HAE := Lib.hid hA
 have HAL := Lib.hid hAl
 have hli : (l.length : Int) ≤ 1000000 := by omega
 clear h g1 hk hA hAl hll
 go_enter Tryz.func15, Tryz.ntmps15
 go_wp2_with (go_at_call 6; (with_reducible refine (scan_new H.out).mono ?_); rintro e_ wn ⟨sb, rfl, h⟩; replace H := Lib.hid h; clear h)
 go_loopw [5, 7, 11] (fun lv _ iv wr => ∃ (k : Nat) (acc : List BatR) (K2 : Know) (v : Value), k ≤ l.length ∧ iv = .int .i64 k ∧ Hid (acc.map BatR.b = (finS ((l.take k).flatten)).1) ∧ Hid (K2.has K) ∧ Hid (∀ x ∈ acc, K2.has (Know.recs (.slice x.q x.l.length x.cap) x.l)) ∧ Hid (∀ x ∈ acc, LiteR x) ∧ St W0 wr K2 (.row lv 43 12 acc.length (acc.flatMap batcells) :: .raw sb #[.int .i64 ((finS ((l.take k).flatten)).2.1 : Nat), v, .int .i64 (finS ((l.take k).flatten)).2.2.2] 52 :: .row v 5 1 (finS ((l.take k).flatten)).2.2.1.length (bvals (finS ((l.take k).flatten)).2.2.1) :: .raw rb #[.int .i64 0, .int .i64 0, .int .i64 0] 36 :: L)) (fun _ _ iv _ => l.length - (intOf iv).toNat)
 case atStart => exact ⟨0, [], K, .slice none 0 0, Nat.zero_le _, rfl, Lib.hid (by rw [List.take_zero]; show _ = (finS []).1; rw [fin_nil]; rfl), Lib.hid (Know.has_refl _), Lib.hid (fun x hx => by cases hx), Lib.hid (fun x hx => by cases hx), by
  rw [List.take_zero]
  show St W0 _ K (.row (.slice none 0 0) 43 12 0 [] :: .raw sb #[.int .i64 ((finS []).2.1 : Nat), .slice none 0 0, .int .i64 (finS []).2.2.2] 52 :: .row (.slice none 0 0) 5 1 (finS []).2.2.1.length (bvals (finS []).2.2.1) :: .raw rb #[.int .i64 0, .int .i64 0, .int .i64 0] 36 :: L)
  rw [fin_nil]
  exact (H.out.nilRow 5 1).p1.nilRow 43 12⟩
 case round =>
  obtain ⟨k, acc, K2, v, hkl, rfl, HMAP, HKK, HREC, HLIT, hst⟩ := hrel
  clear H
  have hAk : ((l.take k).flatten).length ≤ 90000 := by
    have h1 : l.flatten = ((l.take k).flatten) ++ (l.drop k).flatten := by rw [← List.flatten_append, List.take_append_drop]
    have h2 := congrArg List.length h1
    rw [List.length_append, HAE.out] at h2
    have := HAL.out
    omega
  have hcn := fin_count ((l.take k).flatten)
  have hfr := fin_rest ((l.take k).flatten)
  have hac := congrArg List.length HMAP.out
  rw [List.length_map] at hac
  have HAB := Lib.hid (show acc.length ≤ 2000 by omega)
  obtain ⟨⟨bs, vd, rs, er⟩, hfe⟩ : ∃ r, finS ((l.take k).flatten) = r := ⟨_, rfl⟩
  replace hst : St W0 wr K2 (.row u5 43 12 acc.length (acc.flatMap batcells) :: .raw sb #[.int .i64 (vd : Nat), v, .int .i64 er] 52 :: .row v 5 1 rs.length (bvals rs) :: .raw rb #[.int .i64 0, .int .i64 0, .int .i64 0] 36 :: L) := by rw [hfe] at hst; exact hst
  rw [hfe] at hfr
  simp only at hfr
  have H := Lib.hid hst
  by_cases hlt : k < l.length
  · obtain ⟨b0, off, hqq⟩ := strs_at HK.out (H.out.know HKK.out) (by omega)
    subst hqq
    obtain ⟨c, hc⟩ : ∃ c, l[k] = c := ⟨_, rfl⟩
    have c0 := strs_cell HK.out (H.out.know HKK.out) k hlt c hc
    have hkn : (k : Int) < (l.length : Int) := by omega
    have hAn : (l.take (k + 1)).flatten = ((l.take k).flatten) ++ c := by rw [List.take_succ_eq_append_getElem hlt, List.flatten_append, hc]; simp
    have hAkn : ((l.take (k + 1)).flatten).length ≤ 90000 := by
      have h1 : l.flatten = (l.take (k + 1)).flatten ++ (l.drop (k + 1)).flatten := by rw [← List.flatten_append, List.take_append_drop]
      have h2 := congrArg List.length h1
      rw [List.length_append, HAE.out] at h2
      have := HAL.out
      omega
    rw [hAn, List.length_append] at hAkn
    have HANX := Lib.hid hAn
    have HFE := Lib.hid hfe
    by_cases he : er = 0
    · subst he
      obtain ⟨T, hT⟩ : ∃ T, rs ++ c = T := ⟨_, rfl⟩
      have hTl := congrArg List.length hT
      rw [List.length_append] at hTl
      have HT := Lib.hid hT
      have HTL := Lib.hid (show T.length ≤ 100000 by omega)
      have HV := Lib.hid (show vd ≤ 1000000 by omega)
      have HSL := Lib.hid (show (scanS T).1.length ≤ 10000 by
        have := fin_count T
        have h8 : (finS T).1 = (scanS T).1 := rfl
        rw [h8] at this
        omega)
      have HFG := Lib.hid (show finS ((l.take (k + 1)).flatten) = (bs ++ (scanS T).1, vd + (T.length - (scanS T).2.1.length), (if (scanS T).2.2 ≠ 0 then [] else (scanS T).2.1), (scanS T).2.2) by
        have h7 := fin_good ((l.take k).flatten) c (by rw [hfe])
        rw [hAn, h7, hfe]
        simp only
        rw [hT])
      clear hst hc hAn hAkn hfe hfr hcn hac hAk hT hTl
      go_wp2_with (first
  | (go_at_call 10; (with_reducible refine (scan_feed sb vd rs c T HT.out v HTL.out HV.out H.out.p2.p2).mono ?_); rintro e_ wn ⟨v', q', cap', lr', rfl, hqc, hlr, hlit, _, h⟩; have h := h.p2; have HQC := Lib.hid hqc; have HLR := Lib.hid hlr; have HLIT2 := Lib.hid hlit; clear hqc hlr hlit; replace H := Lib.hid h; clear h)
  | (at_builtin; refine wpl_appbats rfl _ _ rfl u5 _ _ rfl H.out q' cap' lr' rfl (Know.has_right (Know.has_refl _)) HQC.out (by have := HAB.out; have h9 := congrArg List.length HLR.out; rw [List.length_map] at h9; have := HSL.out; omega) ?_; intro v2 w2 h; replace H := Lib.hid h; clear h))
      go_roundw
      case rel => exact ⟨k + 1, acc ++ lr', K2.and (Know.bats (.slice q' lr'.length cap') lr'), v', hlt, by go_num, Lib.hid (by rw [HFG.out, List.map_append, HMAP.out, HLR.out, HFE.out]), Lib.hid (Know.has_trans (Know.has_left (Know.has_refl _)) HKK.out), Lib.hid (fun x hx => by
        rcases List.mem_append.1 hx with hx | hx
        · exact Know.has_left (HREC.out x hx)
        · exact bats_recs (Know.has_right (Know.has_refl _)) hx), Lib.hid (fun x hx => by
        rcases List.mem_append.1 hx with hx | hx
        · exact HLIT.out x hx
        · exact HLIT2.out x hx), by rw [HFG.out, List.length_append, List.flatMap_append]; exact H.out⟩
      case measure => first | (simp [intOf]; done) | (simp [intOf]; omega)
    · have HER := Lib.hid he
      have HFG := Lib.hid (show finS ((l.take (k + 1)).flatten) = (bs, vd, rs, er) by
        rw [hAn, fin_bad ((l.take k).flatten) c (by rw [hfe]; exact he), hfe])
      clear hst hc hAn hAkn hfe hfr hcn hac hAk he
      go_wp2_with (first
  | (go_at_call 10; (with_reducible refine (feed_bad sb c _ v er HER.out H.out.p1).mono ?_); rintro e_ wn ⟨rfl, h⟩; have h := h.p1; replace H := Lib.hid h; clear h)
  | (at_builtin; refine wpl_appbats rfl _ _ rfl u5 _ _ rfl H.out none 0 [] rfl (bats_nilS _) (fun _ => rfl) (by have := HAB.out; simp only [List.length_nil]; omega) ?_; intro v2 w2 h; replace H := Lib.hid h; clear h))
      go_roundw
      case rel => exact ⟨k + 1, acc, K2, v, hlt, by go_num, Lib.hid (by rw [HFG.out, HMAP.out, HFE.out]), Lib.hid HKK.out, Lib.hid HREC.out, Lib.hid HLIT.out, by rw [HFG.out]; have h := H.out; simp only [List.flatMap_nil, List.append_nil, List.length_nil, Nat.add_zero] at h; exact h⟩
      case measure => first | (simp [intOf]; done) | (simp [intOf]; omega)
  · obtain rfl : k = l.length := by omega
    have HFE := Lib.hid (show finS A = (bs, vd, rs, er) by rw [← HAE.out, ← hfe, List.take_length])
    have HMAP2 := Lib.hid (show acc.map BatR.b = bs by rw [HMAP.out, hfe])
    have HCNT := Lib.hid (show 61 * acc.length ≤ A.length by rw [List.take_length, HAE.out] at hcn; rw [List.take_length, HAE.out] at hac; omega)
    have hform : ∃ q2 cap2, u5 = .slice q2 acc.length cap2 ∧ ((q2 = none ∧ cap2 = 0) ∨ ∃ g, q2 = some ⟨g, 0, none⟩) ∧ acc.length ≤ cap2 := by
      rcases hst.rowGet.2 with ⟨e1, e2⟩ | ⟨g2, cap2, _, e1, _, _, e4, _⟩
      · exact ⟨none, 0, by rw [e1, e2], .inl ⟨rfl, rfl⟩, by omega⟩
      · exact ⟨_, cap2, e1, .inr ⟨g2, rfl⟩, e4⟩
    obtain ⟨q2, cap2, rfl, hq2⟩ := hform
    have HQ2 := Lib.hid hq2
    have hf := hst.freezeBats HREC.out
    have hf := hf.know (K' := K.and (Know.bats _ acc)) (fun w F hh => ⟨HKK.out _ _ hh.1, hh.2⟩)
    obtain ⟨pv, cv, hpv⟩ := hf.p1.rowAny
    subst hpv
    clear H HMAP
    have HMAP := HMAP2
    clear HMAP2
    have H := Lib.hid hf
    clear hst hfe hfr hcn hac hAk hf hq2
    by_cases he : er = 0
    · subst he
      by_cases hr : rs = []
      · subst hr
        go_wp2_with (go_at_call 11; (with_reducible refine (close_clean sb vd pv _ cv rfl H.out).mono ?_); rintro e_ wn ⟨rfl, h⟩; have h := h.p2; have d0 := h.rawCell 0; have b0 := h.rawFree 0; have d1 := h.rawCell 1; have b1 := h.rawFree 1; have d2 := h.rawCell 2; have b2 := h.rawFree 2; simp at d0 d1 d2; replace H := Lib.hid h; clear h)
        have hz : St W0 _ _ (.raw rb #[.int .i64 vd, .int .i64 0, .int .i64 0] 36 :: _) := (((H.out.rawSet 0 (.int .i64 vd)).rawSet 1 (.int .i64 0)).rawSet 2 (.int .i64 0))
        refine bodyPost_ret (rc_tmp_cellS rfl _ _ rb [.int .i64 vd, .int .i64 0, .int .i64 0] _ rfl (rc_range hz) Tryz.underlying36 rfl (by kernel_rfl)) rfl ?_
        exact ⟨q2, cap2, acc, by rw [HFE.out]; rfl, by rw [HFE.out]; exact HMAP.out, HLIT.out, HCNT.out, HQ2.out, hz.drop.drop.drop⟩
      · have hrl := List.length_pos_iff.2 hr
        have HRL2 := Lib.hid hrl
        have hst2 : stopS rs 0 = 1 := by unfold stopS; rw [if_neg (by simp), if_pos hr]
        have HST2 := Lib.hid hst2
        clear hr hrl hst2
        go_wp2_with (go_at_call 11; (with_reducible refine (close_torn sb vd pv _ cv HRL2.out H.out).mono ?_); rintro e_ wn ⟨rfl, h⟩; have h := h.p2; have d0 := h.rawCell 0; have b0 := h.rawFree 0; have d1 := h.rawCell 1; have b1 := h.rawFree 1; have d2 := h.rawCell 2; have b2 := h.rawFree 2; simp at d0 d1 d2; replace H := Lib.hid h; clear h)
        have hz : St W0 _ _ (.raw rb #[.int .i64 vd, .int .i64 1, .int .i64 0] 36 :: _) := (((H.out.rawSet 0 (.int .i64 vd)).rawSet 1 (.int .i64 1)).rawSet 2 (.int .i64 0))
        refine bodyPost_ret (rc_tmp_cellS rfl _ _ rb [.int .i64 vd, .int .i64 1, .int .i64 0] _ rfl (rc_range hz) Tryz.underlying36 rfl (by kernel_rfl)) rfl ?_
        exact ⟨q2, cap2, acc, by rw [HFE.out]; show _ = Ending.returned (.tuple #[_, .agg #[_, .int .i64 (stopS rs 0), _]]); rw [HST2.out]; rfl, by rw [HFE.out]; exact HMAP.out, HLIT.out, HCNT.out, HQ2.out, hz.drop.drop.drop⟩
    · have HER := Lib.hid he
      have hst2 : stopS rs er = 2 := by unfold stopS; rw [if_pos he]
      have HST2 := Lib.hid hst2
      clear he hst2
      go_wp2_with (go_at_call 11; (with_reducible refine (close_bad sb vd pv _ cv er HER.out H.out).mono ?_); rintro e_ wn ⟨rfl, h⟩; have h := h.p2; have d0 := h.rawCell 0; have b0 := h.rawFree 0; have d1 := h.rawCell 1; have b1 := h.rawFree 1; have d2 := h.rawCell 2; have b2 := h.rawFree 2; simp at d0 d1 d2; replace H := Lib.hid h; clear h)
      have hz : St W0 _ _ (.raw rb #[.int .i64 vd, .int .i64 2, .int .i64 er] 36 :: _) := (((H.out.rawSet 0 (.int .i64 vd)).rawSet 1 (.int .i64 2)).rawSet 2 (.int .i64 er))
      refine bodyPost_ret (rc_tmp_cellS rfl _ _ rb [.int .i64 vd, .int .i64 2, .int .i64 er] _ rfl (rc_range hz) Tryz.underlying36 rfl (by kernel_rfl)) rfl ?_
      exact ⟨q2, cap2, acc, by rw [HFE.out]; show _ = Ending.returned (.tuple #[_, .agg #[_, .int .i64 (stopS rs er), _]]); rw [HST2.out]; rfl, by rw [HFE.out]; exact HMAP.out, HLIT.out, HCNT.out, HQ2.out, hz.drop.drop.drop⟩
open Go.ChangeShapes Go.WideShapes Go.ChangeAt Go.Deep

def Light {H : Type} (t : TypeId) (d : DataW H) : Prop := ∀ k ∈ d.weights Tryz.prog t, k ≤ reachBytes
theorem reach_eq : reachBytes = 140737488351232 := rfl

section
variable {H : Type} {enc : TypeId × Value → H} {w : World} {spare : Nat → Bool} {held : Bool}

theorem light_arg {ts : List TypeId} {ds : List (DataW H)} (h : (DataW.weightsEach Tryz.prog ts ds).all (· ≤ reachBytes) = true) {j : Nat} {t : TypeId} {d : DataW H} (ht : ts[j]? = some t) (hd : ds[j]? = some d) : Light t d := by
 intro k hk
 have := List.all_eq_true.1 h k (DataW.weights_mem_each ht hd k hk)
 simpa using this

theorem weightsAll_mem' {P : Program} {e : TypeId} : ∀ {l : List (DataW H)} {d : DataW H}, d ∈ l → ∀ k ∈ d.weights P e, k ∈ DataW.weightsAll P e l
  | a :: l, d, hd, k, hk => by
    simp only [DataW.weightsAll, List.mem_append]
    rcases List.mem_cons.1 hd with rfl | hd
    · exact .inl hk
    · exact .inr (weightsAll_mem' hd k hk)

theorem opens_rows {α : Type} {R : World → List Value → α → Prop} {t e : TypeId} {sz N : Nat} (ht : Tryz.prog.underlying t = some (.slice e)) (hC : Tryz.prog.cellsOf e = sz) (hsz : 0 < sz)
    (hR : ∀ n cs y, DataW.trod enc Tryz.prog w 0 spare held n e cs = some y → Light e y.1 → (∀ x ∈ y.2, x.block < N) → ∃ x, R w cs x)
    {fuel : Nat} {cs : List Value} {x : DataW H × List MemPlace} (h : DataW.trod enc Tryz.prog w 0 spare held fuel t cs = some x) (hl : Light t x.1) (hlt : ∀ y ∈ x.2, y.block < N) (hN : N ≤ w.heap.size) :
    ∃ v l, cs = [v] ∧ RowsOf R (· < N) w v sz l ∧ l.length * Tryz.prog.bytesOf e ≤ 140737488351232 ∧ l.length ≤ maxLen := by
  rcases open_slice ht h with ⟨rfl, rfl⟩ | ⟨a, len, cap, m, n, D, Pl, rfl, hb, hlc, hm, hmm, hx, hi⟩
  · exact ⟨_, [], rfl, ⟨none, 0, rfl, fun h => absurd h (by simp)⟩, by simp, by simp⟩
  · have hlm : len ≤ m := by rw [hmm]; split <;> omega
    have hp2 : x.2 = MemPlace.row a (m * Tryz.prog.cellsOf e) ++ (List.range m).flatMap Pl := by rw [hx]
    have hx1 : x.1 = .slice ((List.range len).map D) ((List.range (m - len)).map fun j => D (len + j)) := by rw [hx]
    have hsum : len * Tryz.prog.bytesOf e ≤ 140737488351232 := by
      have := hl (((List.range len).map D).length * Tryz.prog.bytesOf e + ((List.range (m - len)).map fun j => D (len + j)).length * Tryz.prog.bytesOf e) (by rw [hx1]; simp [DataW.weights, ht, Nat.add_mul])
      rw [reach_eq] at this
      simp only [List.length_map, List.length_range] at this
      omega
    have hle : ∀ i, i < len → Light e (D i) := by
      intro i hil k hk
      refine hl k ?_
      rw [hx1]
      simp only [DataW.weights, ht, List.mem_cons, List.mem_append]
      exact .inr (.inl (weightsAll_mem' (List.mem_map.2 ⟨i, List.mem_range.2 hil, rfl⟩) k hk))
    have key : ∀ i, i < len → ∃ y : α, ∃ cs', cs'.length = sz ∧ R w cs' y ∧ (∀ f u, cs'[f]? = some u → w.cell? ((a.add (i * sz)).add f) = some u) := by
      intro i hil
      obtain ⟨cs', hc, htr⟩ := hi i (by omega)
      obtain ⟨_, hcl, hat⟩ := World.cells?_some hc
      obtain ⟨y, hy⟩ := hR n cs' _ htr (hle i hil) (fun z hz => hlt z (by rw [hp2, List.mem_append]; exact .inr (List.mem_flatMap.2 ⟨i, by simp; omega, hz⟩)))
      rw [hC] at hcl hat
      refine ⟨y, cs', hcl, hy, fun f u hu => ?_⟩
      have hf : f < sz := by rw [← hcl]; exact (List.getElem?_eq_some_iff.1 hu).1
      rw [hat f hf, hu]
    obtain ⟨l, hll, hq⟩ := list_of len _ key
    refine ⟨_, l, rfl, ⟨some a, cap, by rw [hll], fun h0 => ?_⟩, by rw [hll]; exact hsum, by omega⟩
    obtain ⟨cs0, h1, h2, h3⟩ := hq 0 h0
    have hc0 : w.cell? a = some (cs0[0]'(by omega)) := by
      have := h3 0 _ (List.getElem?_eq_getElem (by omega))
      simpa [Addr.add] using this
    have hsp : a.spot = none := by
      cases hs : a.spot with
      | none => rfl
      | some s =>
        unfold World.cell? at hc0
        split at hc0 <;> simp_all
    obtain ⟨ab, ao, asp⟩ := a
    simp only at hsp
    subst hsp
    have hlt0 : ab < N := hlt (.cell ab ao) (by
      rw [hp2, List.mem_append]
      left
      simp only [MemPlace.row, List.mem_map, List.mem_range]
      exact ⟨0, by rw [hC]; exact Nat.mul_pos (by omega) hsz, by simp⟩)
    refine ⟨ab, ao, rfl, hlt0, Nat.lt_of_lt_of_le hlt0 hN, fun i hi => ?_⟩
    obtain ⟨cs', g1, g2, g3⟩ := hq i hi
    refine ⟨cs', g1, g2, fun f u hu => ?_⟩
    have := g3 f u hu
    have e1 : ∀ (o q : Nat), (⟨ab, o, none⟩ : Addr).add q = ⟨ab, o + q, none⟩ := by intro o q; unfold Addr.add; split <;> simp_all
    rw [e1, e1, Nat.add_assoc] at this
    exact this
end

theorem RowsOf.part {α : Type} {R : World → List Value → α → Prop} {Q : α → Prop} {D : Nat → Prop} {w : World} {v : Value} {sz : Nat} {l : List α} (h : RowsOf (fun w cs x => R w cs x ∧ Q x) D w v sz l) : RowsOf R D w v sz l ∧ ∀ x ∈ l, Q x := by
 refine ⟨h.mono (fun _ _ h => h) (fun _ _ h => h.1), fun x hx => ?_⟩
 obtain ⟨i, hi, rfl⟩ := List.mem_iff_getElem.1 hx
 obtain ⟨p, cap, rfl, h⟩ := h
 obtain ⟨b, off, rfl, _, _, hc⟩ := h (by omega)
 obtain ⟨cs, _, h2, _⟩ := hc i hi
 exact h2.2

end Go.Proofs.YtngojlinfdokpaaGreat
namespace Go.Proofs.YtngojlinfdokpaaGreat
open Go.RowKit

theorem elem_strS : ElemT Tryz.prog 9 (.string ⟨#[]⟩) 1 16 := elemT_of (by kernel_rfl) rfl (by decide)
def RU8 (cs : List Value) (x : Int) : Prop := cs = [.int .u8 x]
theorem cells_u8S : Tryz.prog.cellsOf 5 = 1 := by kernel_rfl
theorem flat_atS {α : Type} {R : List Value → α → Prop} {sz n cap : Nat} {q : Option Addr} {l : List α} {W0 w : World} {K : Know} {L : List Res} (hk : K.has (Know.flat R (.slice q n cap) sz l)) (h : St W0 w K L) (h0 : 0 < l.length) : ∃ b off, q = some ⟨b, off, none⟩ := by
 obtain ⟨F, hF, _⟩ := h.get
 obtain ⟨q2, cap2, hv, hr⟩ := (hk _ _ hF).at
 obtain ⟨b, off, hq, _⟩ := hr h0
 simp at hv
 exact ⟨b, off, hv.1.trans hq⟩
theorem u8_cell {W0 w : World} {K : Know} {L : List Res} {b off n cap : Nat} {l : List Int} (hk : K.has (Know.flat RU8 (.slice (some ⟨b, off, none⟩) n cap) 1 l)) (h : St W0 w K L) (i : Nat) (hi : i < l.length) (x : Int) (hx : l[i] = x) : w.cell? ⟨b, off + i, none⟩ = some (.int .u8 x) := by
 subst hx
 obtain ⟨F, hF, _⟩ := h.get
 obtain ⟨q2, cap2, hv, hr⟩ := (hk _ _ hF).at
 obtain ⟨b2, off2, hq, hc⟩ := hr (by omega)
 rw [hq] at hv
 simp at hv
 obtain ⟨⟨rfl, rfl⟩, _, _⟩ := hv
 obtain ⟨cs, _, hR, hcs⟩ := hc i hi
 unfold RU8 at hR
 subst hR
 have := hcs 0 _ rfl
 simpa using this
section
variable {H : Type} {enc : TypeId × Value → H} {w : World} {spare : Nat → Bool} {held : Bool}
open Go.ChangeShapes Go.WideShapes Go.ChangeAt Go.Deep
theorem ru8_opens {N : Nat} : ∀ n cs y, DataW.trod enc Tryz.prog w 0 spare held n 5 cs = some y → Light 5 y.1 → (∀ x ∈ y.2, x.block < N) → ∃ x : Int, RU8 cs x ∧ (0 ≤ x ∧ x < 256) := fun n cs y h _ _ => by
  obtain ⟨x, e, _, q⟩ := DataW.trod_int Tryz.underlying5 h
  exact ⟨x, e, wf_u8 q⟩
end
def cutS (s : Bs) : List Int → List Bs
  | [] => [s]
  | n :: t => s.take n.toNat :: cutS (s.drop n.toNat) t
theorem cutS_flat : ∀ (ns : List Int) (s : Bs), (cutS s ns).flatten = s
  | [], s => by simp [cutS]
  | n :: t, s => by rw [cutS, List.flatten_cons, cutS_flat t, List.take_append_drop]
theorem cutS_len : ∀ (ns : List Int) (s : Bs), (cutS s ns).length = ns.length + 1
  | [], s => rfl
  | n :: t, s => by rw [cutS, List.length_cons, cutS_len t, List.length_cons]
theorem buildStrS (s : ByteArray) (w : World) : (Instr.buildSlice 26 1 #[(0, .string s)]).run Tryz.prog w = .ok (.slice (some ⟨w.heap.size, 0, none⟩) 1 1) (w.alloc (.cells #[.string s] 9 (0, 0))) := by go_simp
theorem exec_buildS {o : Oper} {ρ : Operand → Value} (ps : Array (Nat × Value)) (v : Value) (w w' : World) (ho : execOp ρ o = (do pure (Next.value (← Instr.buildSlice 26 1 ps)))) (hb : (Instr.buildSlice 26 1 ps).run Tryz.prog w = .ok v w') : (execOp ρ o).run Tryz.prog w = .ok (.value v) w' := by
 rw [ho]
 simp [hb]
def scell (s : Bs) : List Value := [.string (bb s)]
theorem St.freezeTexts {W0 w : World} {K : Know} {L : List Res} {v : Value} {T : TypeId} {l : List Bs} (h : St W0 w K (.row v T 1 l.length (l.flatMap scell) :: L)) : St W0 w (K.and (Know.strs v l)) L := by
 refine h.freeze fun F S1 _ h1 => ?_
 obtain ⟨⟨g1, g2⟩, g3⟩ := h1
 rcases g2 with ⟨rfl, h0⟩ | ⟨g, cap, cur, rfl, _, hg, hn, hcm, hcs, htake⟩
 · exact ⟨none, 0, by rw [h0], fun hh => absurd hh (by omega)⟩
 · have hS : S1 g := (g3 g).2 rfl
   have hlt := heap_lt hg
   refine ⟨_, cap, rfl, fun _ => ⟨g, 0, rfl, .inr ⟨hS, hlt⟩, hlt, fun i hi => ?_⟩⟩
   refine ⟨[.string (bb l[i])], rfl, rfl, fun q u hu => ?_⟩
   have hq : q < 1 := (List.getElem?_eq_some_iff.1 hu).1
   obtain rfl : q = 0 := by omega
   rw [cell_at hg, Nat.zero_add]
   have e : (l.flatMap scell)[i * 1 + 0]? = some u := by
    rw [flatMap_get l scell 1 (fun x hx => rfl) i hi 0 (by decide)]
    exact hu
   rw [← htake, List.getElem?_take_of_lt (by omega)] at e
   simpa using e

end Go.Proofs.YtngojlinfdokpaaGreat
namespace Go.Proofs.YtngojlinfdokpaaGreat
open Go.RowKit

set_option maxHeartbeats 6000000 in
set_option maxRecDepth 100000 in
theorem law22_cut (s0 : Bs) (ns : List Int) (hs0 : s0.length ≤ 90000) (hns : ∀ x ∈ ns, 0 ≤ x ∧ x < 256) (hnl : ns.length ≤ 1000) (q : Option Addr) (cap : Nat) {W0 w : World} {K : Know} {L : List Res} (hk : K.has (Know.flat RU8 (.slice q ns.length cap) 1 ns)) (h : St W0 w K L) :
  Calls Tryz.prog 7 #[.string (bb s0), .slice q ns.length cap] w fun en w' => ∃ (q2 : Option Addr) (cap2 : Nat), en = .returned (.slice q2 (cutS s0 ns).length cap2) ∧ St W0 w' (K.and (Know.strs (.slice q2 (cutS s0 ns).length cap2) (cutS s0 ns))) L := by
 have H := Lib.hid h
 have HK := Lib.hid hk
 have HNS := Lib.hid hns
 have HNL := Lib.hid hnl
 have HS0 := Lib.hid hs0
 have hni : (ns.length : Int) ≤ 1000 := by omega
 clear h hk hns hs0 hnl
 go_enter Tryz.func7, Tryz.ntmps7
 go_wp2
 go_loopw [0, 5, 7, 8, 11] (fun sv ov _ _ iv wr => ∃ (k : Nat) (acc : List Bs) (s : Bs), k ≤ ns.length ∧ iv = .int .i64 k ∧ sv = .string (bb s) ∧ Hid (acc.length = k) ∧ Hid (acc ++ cutS s (ns.drop k) = cutS s0 ns) ∧ Hid (s.length ≤ s0.length) ∧ St W0 wr K (.row ov 9 1 acc.length (acc.flatMap scell) :: L)) (fun _ _ _ _ iv _ => ns.length - (intOf iv).toNat)
 case atStart => exact ⟨0, [], s0, Nat.zero_le _, rfl, rfl, Lib.hid rfl, Lib.hid (by rw [List.drop_zero]; rfl), Lib.hid (Nat.le_refl _), H.out.nilRow 9 1⟩
 case round =>
  obtain ⟨k, acc, s, hkl, rfl, rfl, HAL, HEQ, HSL, hst⟩ := hrel
  clear H
  have H := Lib.hid hst
  clear hst
  have HAB := Lib.hid (show acc.length ≤ 1000 by have := HAL.out; have := HNL.out; omega)
  have hsl : (s.length : Int) ≤ 90000 := by have := HSL.out; have := HS0.out; omega
  by_cases hlt : k < ns.length
  · obtain ⟨b0, off, hqq⟩ := flat_atS HK.out H.out (by omega)
    subst hqq
    obtain ⟨x, hx⟩ : ∃ x, ns[k] = x := ⟨_, rfl⟩
    have c0 := u8_cell HK.out H.out k hlt x hx
    obtain ⟨hx0, hx1⟩ := HNS.out x (hx ▸ List.getElem_mem hlt)
    have hkn : (k : Int) < (ns.length : Int) := by omega
    have HNX := Lib.hid (show (acc ++ [s.take x.toNat]) ++ cutS (s.drop x.toNat) (ns.drop (k + 1)) = cutS s0 ns by
      rw [← HEQ.out, List.drop_eq_getElem_cons hlt, hx, cutS, List.append_assoc]; rfl)
    have HSD := Lib.hid (show (s.drop x.toNat).length ≤ s0.length by rw [List.length_drop]; have := HSL.out; omega)
    have hwx : IntKind.i64.wrap x = x := by rw [IntKind.wrap_i64]; omega
    by_cases hxs : x ≤ (s.length : Int)
    · have hxn : x.toNat ≤ s.length := by omega
      have hxt : ((x.toNat : Nat) : Int) = x := by omega
      have HDR := Lib.hid (show List.take (s.length - x.toNat) (s.drop x.toNat) = s.drop x.toNat from List.take_of_length_le (by rw [List.length_drop]; exact Nat.le_refl _))
      clear hx
      go_wp2_with fail
      have hs := H.out.drew
      refine wp_region_held_drew (S := fun _ => True) (by kernel_rfl) trivial (fun hHeld => ?_)
      refine tQ 0 ⟨some 20, .move (.tmp 5), 26, "law.go:32", #[], none⟩ ?_; simp only [Act.put, sA, sB, sC]
      refine tQ 1 ⟨some 21, .move (.tmp 0), 9, "law.go:32", #[], none⟩ ?_; simp only [Act.put, sA, sB, sC]
      refine tQ 2 ⟨some 22, .move (.tmp 8), 3, "law.go:32", #[], none⟩ ?_; simp only [Act.put, sA, sB, sC]
      refine tQ 3 ⟨some 23, .slice 9 (.tmp 21) none (some (.tmp 22)) none, 9, "law.go:32", #[.mk 1 .data, .mk 2 .data], none⟩ ?_; simp only [Act.put, sA, sB, sC]
      refine tQ 6 ⟨some 26, .move (.tmp 0), 9, "law.go:32", #[], none⟩ ?_; simp only [Act.put, sA, sB, sC]
      refine tQ 7 ⟨some 27, .move (.tmp 8), 3, "law.go:32", #[], none⟩ ?_; simp only [Act.put, sA, sB, sC]
      refine tQ 8 ⟨some 28, .slice 9 (.tmp 26) (some (.tmp 27)) none none, 9, "law.go:32", #[.mk 6 .data, .mk 7 .data], none⟩ ?_; simp only [Act.put, sA, sB, sC]
      refine wpAnyH_ready (rs := [4]) (by kernel_rfl) (by simp) (AllReadyH.cons (o := ⟨some 24, .buildSlice 26 1 #[(0, .tmp 23)], 26, "law.go:32", #[.mk 3 .data], none⟩) rfl (fun KK hK => ?_) AllReadyH.nil)
      · rw [if_pos (by rfl)]
        refine op_value (exec_buildS _ _ _ _ (by kernel_rfl) (buildStrS (bb (s.take x.toNat)) _)) ?_
        obtain ⟨wy, bS, ey, eb, hs⟩ := hs.allocEx #[.string (bb (s.take x.toNat))] 9
        rw [ey, eb]
        clear ey eb
        refine hK.out _ _ (trivial) (fun hHeld => ?_)
        clear hK KK
        try simp only [Act.put, sA, sB, sC]
        refine wpAnyH_ready (rs := [5]) (by kernel_rfl) (by simp) (AllReadyH.cons (o := ⟨some 25, .call { callee := .builtin .append, args := #[.tmp 20, .tmp 24], argTypes := #[26, 26] }, 26, "law.go:32", #[.mk 0 .data, .mk 4 .data], none⟩) rfl (fun KK hK => ?_) AllReadyH.nil)
        · rw [if_pos (by rfl)]
          refine op_app1 (.tmp 20) (.tmp 24) 26 rfl 9 Tryz.underlying26 elem_strS _ _ _ (by rfl) bS #[.string (bb (s.take x.toNat))] 9 hs (by rfl) rfl (by simp [Value.oneCell']) (by have := HAB.out; unfold maxLen; omega) (by have := HAB.out; omega) (fun v' w' h => ?_)
          have hs := h
          clear h
          refine hK.out _ _ (trivial) (fun hHeld => ?_)
          clear hK KK
          try simp only [Act.put, sA, sB, sC]
          refine tQ 9 ⟨some 5, .assign (.tmp 25), 26, "law.go:32", #[.mk 5 .data, .mk 5 .chain, .mk 0 .phase, .mk 1 .phase, .mk 2 .phase, .mk 3 .phase, .mk 4 .phase, .mk 5 .phase, { on := 6, ground := Ground.textOnly Departure.lateStores }, { on := 7, ground := Ground.textOnly Departure.lateStores }, { on := 8, ground := Ground.textOnly Departure.lateStoresUnsure }], none⟩ ?_; simp only [Act.put, sA, sB, sC]
          refine tQ 10 ⟨some 0, .assign (.tmp 28), 9, "law.go:32", #[.mk 8 .data, .mk 9 .chain, .mk 0 .phase, .mk 1 .phase, .mk 2 .phase, .mk 3 .phase, .mk 4 .phase, .mk 5 .phase, .mk 6 .phase, .mk 7 .phase, .mk 8 .phase, .mk 9 .phase], none⟩ ?_; simp only [Act.put, sA, sB, sC]
          refine wpAnyH_done (by kernel_rfl) ?_ _
          clear hHeld
          go_wp2_with fail
          go_roundw
          case rel => exact ⟨k + 1, acc ++ [s.take x.toNat], s.drop x.toNat, hlt, by go_num, by first | rfl | (rw [HDR.out]) | (simp only [HDR.out]), Lib.hid (by rw [List.length_append, HAL.out]; rfl), Lib.hid HNX.out, Lib.hid HSD.out, by rw [List.length_append, List.flatMap_append]; exact hs⟩
          case measure => first | (simp [intOf]; done) | (simp [intOf]; omega)
    · have hxn : s.length ≤ x.toNat := by omega
      have HTK := Lib.hid (show s.take x.toNat = s from List.take_of_length_le hxn)
      have HDR := Lib.hid (show s.drop x.toNat = [] from List.drop_of_length_le hxn)
      clear hx
      rw [HTK.out, HDR.out] at HNX
      rw [HDR.out] at HSD
      go_wp2_with fail
      have hs := H.out.drew
      refine wp_region_held_drew (S := fun _ => True) (by kernel_rfl) trivial (fun hHeld => ?_)
      refine tQ 0 ⟨some 20, .move (.tmp 5), 26, "law.go:32", #[], none⟩ ?_; simp only [Act.put, sA, sB, sC]
      refine tQ 1 ⟨some 21, .move (.tmp 0), 9, "law.go:32", #[], none⟩ ?_; simp only [Act.put, sA, sB, sC]
      refine tQ 2 ⟨some 22, .move (.tmp 8), 3, "law.go:32", #[], none⟩ ?_; simp only [Act.put, sA, sB, sC]
      refine tQ 3 ⟨some 23, .slice 9 (.tmp 21) none (some (.tmp 22)) none, 9, "law.go:32", #[.mk 1 .data, .mk 2 .data], none⟩ ?_; simp only [Act.put, sA, sB, sC]
      refine tQ 6 ⟨some 26, .move (.tmp 0), 9, "law.go:32", #[], none⟩ ?_; simp only [Act.put, sA, sB, sC]
      refine tQ 7 ⟨some 27, .move (.tmp 8), 3, "law.go:32", #[], none⟩ ?_; simp only [Act.put, sA, sB, sC]
      refine tQ 8 ⟨some 28, .slice 9 (.tmp 26) (some (.tmp 27)) none none, 9, "law.go:32", #[.mk 6 .data, .mk 7 .data], none⟩ ?_; simp only [Act.put, sA, sB, sC]
      refine wpAnyH_ready (rs := [4]) (by kernel_rfl) (by simp) (AllReadyH.cons (o := ⟨some 24, .buildSlice 26 1 #[(0, .tmp 23)], 26, "law.go:32", #[.mk 3 .data], none⟩) rfl (fun KK hK => ?_) AllReadyH.nil)
      · rw [if_pos (by rfl)]
        refine op_value (exec_buildS _ _ _ _ (by kernel_rfl) (buildStrS (bb (s)) _)) ?_
        obtain ⟨wy, bS, ey, eb, hs⟩ := hs.allocEx #[.string (bb (s))] 9
        rw [ey, eb]
        clear ey eb
        refine hK.out _ _ (trivial) (fun hHeld => ?_)
        clear hK KK
        try simp only [Act.put, sA, sB, sC]
        refine wpAnyH_ready (rs := [5]) (by kernel_rfl) (by simp) (AllReadyH.cons (o := ⟨some 25, .call { callee := .builtin .append, args := #[.tmp 20, .tmp 24], argTypes := #[26, 26] }, 26, "law.go:32", #[.mk 0 .data, .mk 4 .data], none⟩) rfl (fun KK hK => ?_) AllReadyH.nil)
        · rw [if_pos (by rfl)]
          refine op_app1 (.tmp 20) (.tmp 24) 26 rfl 9 Tryz.underlying26 elem_strS _ _ _ (by rfl) bS #[.string (bb (s))] 9 hs (by rfl) rfl (by simp [Value.oneCell']) (by have := HAB.out; unfold maxLen; omega) (by have := HAB.out; omega) (fun v' w' h => ?_)
          have hs := h
          clear h
          refine hK.out _ _ (trivial) (fun hHeld => ?_)
          clear hK KK
          try simp only [Act.put, sA, sB, sC]
          refine tQ 9 ⟨some 5, .assign (.tmp 25), 26, "law.go:32", #[.mk 5 .data, .mk 5 .chain, .mk 0 .phase, .mk 1 .phase, .mk 2 .phase, .mk 3 .phase, .mk 4 .phase, .mk 5 .phase, { on := 6, ground := Ground.textOnly Departure.lateStores }, { on := 7, ground := Ground.textOnly Departure.lateStores }, { on := 8, ground := Ground.textOnly Departure.lateStoresUnsure }], none⟩ ?_; simp only [Act.put, sA, sB, sC]
          refine tQ 10 ⟨some 0, .assign (.tmp 28), 9, "law.go:32", #[.mk 8 .data, .mk 9 .chain, .mk 0 .phase, .mk 1 .phase, .mk 2 .phase, .mk 3 .phase, .mk 4 .phase, .mk 5 .phase, .mk 6 .phase, .mk 7 .phase, .mk 8 .phase, .mk 9 .phase], none⟩ ?_; simp only [Act.put, sA, sB, sC]
          refine wpAnyH_done (by kernel_rfl) ?_ _
          clear hHeld
          go_wp2_with fail
          go_roundw
          case rel => exact ⟨k + 1, acc ++ [s], [], hlt, by go_num, by first | rfl | simp, Lib.hid (by rw [List.length_append, HAL.out]; rfl), Lib.hid HNX.out, Lib.hid HSD.out, by rw [List.length_append, List.flatMap_append]; exact hs⟩
          case measure => first | (simp [intOf]; done) | (simp [intOf]; omega)
  · obtain rfl : k = ns.length := by omega
    have HEND := Lib.hid (show acc ++ [s] = cutS s0 ns by have := HEQ.out; rw [List.drop_length] at this; exact this)
    go_wp2_with (at_builtin; refine wpl_app1_st rfl _ _ 26 rfl 9 Tryz.underlying26 elem_strS _ _ _ rfl H.out [.string (bb s)] 9 rfl rfl (by simp [Value.oneCell']) (by have := HAB.out; unfold maxLen; omega) (by have := HAB.out; omega) ?_; intro v' w' h; replace H := Lib.hid h; clear h)
    have h3 := H.out
    rw [show acc.length + 1 = (acc ++ [s]).length by rw [List.length_append]; rfl, show acc.flatMap scell ++ [Value.string (bb s)] = (acc ++ [s]).flatMap scell by rw [List.flatMap_append]; rfl] at h3
    obtain ⟨q2, cap2, hv⟩ := h3.rowAny
    subst hv
    have h4 := h3.freezeTexts
    rw [HEND.out] at h4
    go_ret
    exact ⟨q2, cap2, by rw [← HEND.out, List.length_append]; rfl, h4⟩

end Go.Proofs.YtngojlinfdokpaaGreat
namespace Go.Proofs.YtngojlinfdokpaaGreat
open Go.RowKit

theorem lite_hdrs {x : BatR} (h : LiteR x) : x.l.length ≤ 1000000 ∧ ∀ y ∈ x.l, y.1.hdrs.length ≤ 9223372036854775807 := by
 obtain ⟨h1, h2, h3⟩ := h
 refine ⟨by have := congrArg List.length h1; rw [List.length_map] at this; omega, fun y hy => ?_⟩
 have := sum_hdrs (h3 y.1 (by rw [← h1]; exact List.mem_map_of_mem hy))
 omega
set_option maxHeartbeats 6000000 in
set_option maxRecDepth 100000 in
theorem ref11_rowsT (l1 l2 : List BatR) (q1 q2 : Option Addr) (cap1 cap2 : Nat) (hx : l1.map BatR.b = l2.map BatR.b) (hf1 : ∀ x ∈ l1, LiteR x) (hf2 : ∀ x ∈ l2, LiteR x) (hn : l1.length ≤ 100000) {W0 w : World} {K : Know} {L : List Res} (hk1 : K.has (Know.bats (.slice q1 l1.length cap1) l1)) (hk2 : K.has (Know.bats (.slice q2 l2.length cap2) l2)) (h : St W0 w K L) :
  Calls Tryz.prog 9 #[.slice q1 l1.length cap1, .slice q2 l2.length cap2] w fun en w' => en = .returned (.bool true) ∧ St W0 w' K L := by
 have H := Lib.hid h
 have HK1 := Lib.hid hk1
 have HK2 := Lib.hid hk2
 have HF1 := Lib.hid hf1
 have HF2 := Lib.hid hf2
 have HX := Lib.hid hx
 have hll : l1.length = l2.length := by have := congrArg List.length hx; rwa [List.length_map, List.length_map] at this
 have HLL := Lib.hid hll
 have hni : (l1.length : Int) ≤ 100000 := by omega
 have g0 : ((l1.length : Int) == (l2.length : Int)) = true := by rw [hll]; exact beq_self_eq_true _
 have g1 : ((l1.length : Int) != (l2.length : Int)) = false := by simp [bne, g0]
 clear h hk1 hk2 hf1 hf2 hx hll
 go_enter Tryz.func9, Tryz.ntmps9
 go_wp2
 go_loopw [5] (fun iv wr => ∃ k : Nat, k ≤ l1.length ∧ iv = .int .i64 k ∧ St W0 wr K L) (fun iv _ => l1.length - (intOf iv).toNat)
 case atStart => exact ⟨0, Nat.zero_le _, rfl, H.out⟩
 case round =>
  obtain ⟨k, hkl, rfl, hst⟩ := hrel
  clear H
  have H := Lib.hid hst
  clear hst
  by_cases hlt : k < l1.length
  · have hlt2 : k < l2.length := by rw [← HLL.out]; exact hlt
    obtain ⟨bk1, off1, hq1⟩ := bats_at HK1.out H.out (by omega)
    obtain ⟨bk2, off2, hq2⟩ := bats_at HK2.out H.out (by omega)
    subst hq1
    subst hq2
    obtain ⟨⟨b, xl1, xq1, xc1⟩, hx1⟩ : ∃ x, l1[k] = x := ⟨_, rfl⟩
    obtain ⟨⟨b2, xl2, xq2, xc2⟩, hx2⟩ : ∃ x, l2[k] = x := ⟨_, rfl⟩
    have hm1 : (⟨b, xl1, xq1, xc1⟩ : BatR) ∈ l1 := hx1 ▸ List.getElem_mem hlt
    have hm2 : (⟨b2, xl2, xq2, xc2⟩ : BatR) ∈ l2 := hx2 ▸ List.getElem_mem hlt2
    obtain rfl : b = b2 := by
      have h1 : (l1.map BatR.b)[k]? = some b := by rw [List.getElem?_map, List.getElem?_eq_getElem hlt, hx1]; rfl
      have h2 : (l2.map BatR.b)[k]? = some b2 := by rw [List.getElem?_map, List.getElem?_eq_getElem hlt2, hx2]; rfl
      rw [HX.out, h2] at h1
      exact (Option.some.inj h1).symm
    have hkn : (k : Int) < (l1.length : Int) := by omega
    have hkn2 : (k : Int) < (l2.length : Int) := by omega
    have HKA := Lib.hid (show K.has (Know.recs (.slice xq1 xl1.length xc1) xl1) from bats_recs HK1.out hm1)
    have HKB := Lib.hid (show K.has (Know.recs (.slice xq2 xl2.length xc2) xl2) from bats_recs HK2.out hm2)
    have HN1 := Lib.hid (show xl1.length ≤ 1000000 from (lite_hdrs (HF1.out _ hm1)).1)
    have HD1 := Lib.hid (show ∀ y ∈ xl1, y.1.hdrs.length ≤ 9223372036854775807 from (lite_hdrs (HF1.out _ hm1)).2)
    have HD2 := Lib.hid (show ∀ y ∈ xl2, y.1.hdrs.length ≤ 9223372036854775807 from (lite_hdrs (HF2.out _ hm2)).2)
    have HX1 := Lib.hid (show xl1.map (·.1) = b.recs from (HF1.out _ hm1).1)
    have HX2 := Lib.hid (show xl2.map (·.1) = b.recs from (HF2.out _ hm2).1)
    have HKP := Lib.hid (show ∀ w', St W0 w' K L → (w'.cell? ⟨bk1, off1 + k * 12, none⟩ = some (.int .i64 b.base) ∧ w'.cell? ⟨bk1, off1 + k * 12 + 1, none⟩ = some (.int .i64 b.leader) ∧ w'.cell? ⟨bk1, off1 + k * 12 + 2, none⟩ = some (.bool b.app) ∧ w'.cell? ⟨bk1, off1 + k * 12 + 3, none⟩ = some (.bool b.txn) ∧ w'.cell? ⟨bk1, off1 + k * 12 + 4, none⟩ = some (.bool b.ctl) ∧ w'.cell? ⟨bk1, off1 + k * 12 + 5, none⟩ = some (.int .i64 b.last) ∧ w'.cell? ⟨bk1, off1 + k * 12 + 6, none⟩ = some (.int .i64 b.first) ∧ w'.cell? ⟨bk1, off1 + k * 12 + 7, none⟩ = some (.int .i64 b.maxt) ∧ w'.cell? ⟨bk1, off1 + k * 12 + 8, none⟩ = some (.int .i64 b.prod) ∧ w'.cell? ⟨bk1, off1 + k * 12 + 9, none⟩ = some (.int .i64 b.epoch) ∧ w'.cell? ⟨bk1, off1 + k * 12 + 10, none⟩ = some (.int .i64 b.seq) ∧ w'.cell? ⟨bk1, off1 + k * 12 + 11, none⟩ = some (.slice xq1 xl1.length xc1) ∧ w'.cell? ⟨bk2, off2 + k * 12, none⟩ = some (.int .i64 b.base) ∧ w'.cell? ⟨bk2, off2 + k * 12 + 1, none⟩ = some (.int .i64 b.leader) ∧ w'.cell? ⟨bk2, off2 + k * 12 + 2, none⟩ = some (.bool b.app) ∧ w'.cell? ⟨bk2, off2 + k * 12 + 3, none⟩ = some (.bool b.txn) ∧ w'.cell? ⟨bk2, off2 + k * 12 + 4, none⟩ = some (.bool b.ctl) ∧ w'.cell? ⟨bk2, off2 + k * 12 + 5, none⟩ = some (.int .i64 b.last) ∧ w'.cell? ⟨bk2, off2 + k * 12 + 6, none⟩ = some (.int .i64 b.first) ∧ w'.cell? ⟨bk2, off2 + k * 12 + 7, none⟩ = some (.int .i64 b.maxt) ∧ w'.cell? ⟨bk2, off2 + k * 12 + 8, none⟩ = some (.int .i64 b.prod) ∧ w'.cell? ⟨bk2, off2 + k * 12 + 9, none⟩ = some (.int .i64 b.epoch) ∧ w'.cell? ⟨bk2, off2 + k * 12 + 10, none⟩ = some (.int .i64 b.seq) ∧ w'.cell? ⟨bk2, off2 + k * 12 + 11, none⟩ = some (.slice xq2 xl2.length xc2)) from fun w' hs => by
      obtain ⟨a0, a1, a2, a3, a4, a5, a6, a7, a8, a9, a10, a11⟩ := bats_cell HK1.out hs k hlt _ hx1
      obtain ⟨d0, d1, d2, d3, d4, d5, d6, d7, d8, d9, d10, d11⟩ := bats_cell HK2.out hs k hlt2 _ hx2
      exact ⟨a0, a1, a2, a3, a4, a5, a6, a7, a8, a9, a10, a11, d0, d1, d2, d3, d4, d5, d6, d7, d8, d9, d10, d11⟩)
    clear hx1 hx2 hm1 hm2
    go_wp2
    have hs := H.out.drew
    refine wp_region_held_drew (S := fun w' => w'.cell? ⟨bk1, off1 + k * 12, none⟩ = some (.int .i64 b.base) ∧ w'.cell? ⟨bk1, off1 + k * 12 + 1, none⟩ = some (.int .i64 b.leader) ∧ w'.cell? ⟨bk1, off1 + k * 12 + 2, none⟩ = some (.bool b.app) ∧ w'.cell? ⟨bk1, off1 + k * 12 + 3, none⟩ = some (.bool b.txn) ∧ w'.cell? ⟨bk1, off1 + k * 12 + 4, none⟩ = some (.bool b.ctl) ∧ w'.cell? ⟨bk1, off1 + k * 12 + 5, none⟩ = some (.int .i64 b.last) ∧ w'.cell? ⟨bk1, off1 + k * 12 + 6, none⟩ = some (.int .i64 b.first) ∧ w'.cell? ⟨bk1, off1 + k * 12 + 7, none⟩ = some (.int .i64 b.maxt) ∧ w'.cell? ⟨bk1, off1 + k * 12 + 8, none⟩ = some (.int .i64 b.prod) ∧ w'.cell? ⟨bk1, off1 + k * 12 + 9, none⟩ = some (.int .i64 b.epoch) ∧ w'.cell? ⟨bk1, off1 + k * 12 + 10, none⟩ = some (.int .i64 b.seq) ∧ w'.cell? ⟨bk1, off1 + k * 12 + 11, none⟩ = some (.slice xq1 xl1.length xc1) ∧ w'.cell? ⟨bk2, off2 + k * 12, none⟩ = some (.int .i64 b.base) ∧ w'.cell? ⟨bk2, off2 + k * 12 + 1, none⟩ = some (.int .i64 b.leader) ∧ w'.cell? ⟨bk2, off2 + k * 12 + 2, none⟩ = some (.bool b.app) ∧ w'.cell? ⟨bk2, off2 + k * 12 + 3, none⟩ = some (.bool b.txn) ∧ w'.cell? ⟨bk2, off2 + k * 12 + 4, none⟩ = some (.bool b.ctl) ∧ w'.cell? ⟨bk2, off2 + k * 12 + 5, none⟩ = some (.int .i64 b.last) ∧ w'.cell? ⟨bk2, off2 + k * 12 + 6, none⟩ = some (.int .i64 b.first) ∧ w'.cell? ⟨bk2, off2 + k * 12 + 7, none⟩ = some (.int .i64 b.maxt) ∧ w'.cell? ⟨bk2, off2 + k * 12 + 8, none⟩ = some (.int .i64 b.prod) ∧ w'.cell? ⟨bk2, off2 + k * 12 + 9, none⟩ = some (.int .i64 b.epoch) ∧ w'.cell? ⟨bk2, off2 + k * 12 + 10, none⟩ = some (.int .i64 b.seq) ∧ w'.cell? ⟨bk2, off2 + k * 12 + 11, none⟩ = some (.slice xq2 xl2.length xc2)) (by kernel_rfl) (HKP.out _ hs) (fun hHeld => ?_)
    refine tQ 0 ⟨some 17, .move (.tmp 0), 28, "ref.go:193", #[], none⟩ ?_; simp only [Act.put, sA, sB, sC]
    refine tQ 1 ⟨some 18, .move (.tmp 5), 3, "ref.go:193", #[], none⟩ ?_; simp only [Act.put, sA, sB, sC]
    refine tQ 2 ⟨some 19, .indexAddr 28 (.tmp 17) (.tmp 18), 0, "ref.go:193", #[.mk 0 .data, .mk 1 .data], none⟩ ?_; simp only [Act.put, sA, sB, sC]
    refine tQ 3 ⟨some 20, .load 43 (.tmp 19), 43, "ref.go:193", #[.mk 2 .data], none⟩ ?_; simp only [Act.put, sA, sB, sC]
    refine tQ 4 ⟨some 21, .move (.tmp 1), 28, "ref.go:193", #[], none⟩ ?_; simp only [Act.put, sA, sB, sC]
    refine tQ 5 ⟨some 22, .move (.tmp 5), 3, "ref.go:193", #[], none⟩ ?_; simp only [Act.put, sA, sB, sC]
    refine tQ 6 ⟨some 23, .indexAddr 28 (.tmp 21) (.tmp 22), 0, "ref.go:193", #[.mk 4 .data, .mk 5 .data], none⟩ ?_; simp only [Act.put, sA, sB, sC]
    refine tQ 7 ⟨some 24, .load 43 (.tmp 23), 43, "ref.go:193", #[.mk 6 .data], none⟩ ?_; simp only [Act.put, sA, sB, sC]
    refine wpAnyH_ready (rs := [8]) (by kernel_rfl) (by simp) (AllReadyH.cons (o := ⟨some 25, .call { callee := .value (.func 19), args := #[.tmp 20, .tmp 24], argTypes := #[43, 43] }, 4, "ref.go:193", #[.mk 3 .data, .mk 7 .data], none⟩) rfl (fun KK hK => ?_) AllReadyH.nil)
    · go_simp
      go_at_call 19
      with_reducible refine (ref11_sameT b xl1 xl2 xq1 xq2 xc1 xc2 HN1.out HX1.out HX2.out HD1.out HD2.out HKA.out HKB.out hs).mono ?_
      rintro e wq ⟨rfl, hs⟩
      refine hK.out _ _ (HKP.out _ hs) (fun hHeld => ?_)
      clear hK KK
      try simp only [Act.put, sA, sB, sC]
      refine tQ 9 ⟨some 26, .unOp UnOp.not 4 (.tmp 25), 4, "ref.go:193", #[.mk 8 .data], none⟩ ?_; simp only [Act.put, sA, sB, sC]
      refine wpAnyH_done (by kernel_rfl) ?_ _
      clear hHeld
      go_wp2_with fail
      go_roundw
      case rel => exact ⟨k + 1, hlt, by go_num, hs⟩
      case measure => first | (simp [intOf]; done) | (simp [intOf]; omega)
  · obtain rfl : k = l1.length := by omega
    go_wp2
    go_ret
    exact ⟨rfl, H.out⟩

end Go.Proofs.YtngojlinfdokpaaGreat
namespace Go.Proofs.YtngojlinfdokpaaGreat
open Go.RowKit

theorem scan_any (l : List Bs) (A : Bs) (hA : l.flatten = A) (bs : List BatS) (pv : Nat) (rest : Bs) (pe ps : Int) (hf : finS A = (bs, pv, rest, pe)) (hps : stopS rest pe = ps) (hl : A.length ≤ 90000) (q : Option Addr) (cap : Nat) (hll : l.length ≤ 1000000) {W0 w : World} {K : Know} {L : List Res} (hk : K.has (Know.strs (.slice q l.length cap) l)) (h : St W0 w K L) :
  Calls Tryz.prog 15 #[.slice q l.length cap] w fun en w' => ∃ (q : Option Addr) (cap : Nat) (lr : List BatR), en = .returned (.tuple #[.slice q lr.length cap, .agg #[.int .i64 (pv : Nat), .int .i64 ps, .int .i64 pe]]) ∧ lr.map BatR.b = bs ∧ (∀ x ∈ lr, LiteR x) ∧ 61 * lr.length ≤ A.length ∧ (((q = none ∧ cap = 0) ∨ ∃ g, q = some ⟨g, 0, none⟩) ∧ lr.length ≤ cap) ∧ St W0 w' (K.and (Know.bats (.slice q lr.length cap) lr)) L := by
 refine (scan_scan l A hA hl q cap hll hk h).mono ?_
 rintro en wn ⟨q2, cap2, lr, rfl, h1, h2, h3, h4, h5⟩
 rw [hf] at h1
 refine ⟨q2, cap2, lr, ?_, h1, h2, h3, h4, h5⟩
 rw [hf, ← hps]
theorem scan_two (s t A : Bs) (hA : s ++ t = A) (bs : List BatS) (pv : Nat) (rest : Bs) (pe ps : Int) (hf : finS A = (bs, pv, rest, pe)) (hps : stopS rest pe = ps) (hl : A.length ≤ 90000) (r : Nat) {W0 w : World} {K : Know} {L : List Res} (h : St W0 w K (.raw r #[.string (bb s), .string (bb t)] 9 :: L)) :
  Calls Tryz.prog 15 #[.slice (some ⟨r, 0, none⟩) 2 2] w fun en w' => ∃ (q : Option Addr) (cap : Nat) (lr : List BatR), en = .returned (.tuple #[.slice q lr.length cap, .agg #[.int .i64 (pv : Nat), .int .i64 ps, .int .i64 pe]]) ∧ lr.map BatR.b = bs ∧ (∀ x ∈ lr, LiteR x) ∧ 61 * lr.length ≤ A.length ∧ (((q = none ∧ cap = 0) ∨ ∃ g, q = some ⟨g, 0, none⟩) ∧ lr.length ≤ cap) ∧ St W0 w' (K.and (Know.bats (.slice q lr.length cap) lr)) L := by
 refine (scan_any [s, t] A (by simpa using hA) bs pv rest pe ps hf hps hl (some ⟨r, 0, none⟩) 2 (by show 2 ≤ 1000000; decide) (Know.has_right (Know.has_refl _)) (St.freezeStrs [s, t] h)).mono ?_
 rintro en wn ⟨q2, cap2, lr, h0, h1, h2, h3, h4, h5⟩
 exact ⟨q2, cap2, lr, h0, h1, h2, h3, h4, h5.know (Know.has_and (Know.has_left (Know.has_left (Know.has_refl _))) (Know.has_right (Know.has_refl _)))⟩
theorem bats_drop {K : Know} {b off n cap cap2 : Nat} {l : List BatR} (m : Nat) (h : K.has (Know.bats (.slice (some ⟨b, off, none⟩) n cap) l)) : K.has (Know.bats (.slice (some ⟨b, off + m * 12, none⟩) (l.drop m).length cap2) (l.drop m)) := by
 intro w F hF
 obtain ⟨⟨q2, c2, hv, hr⟩, ht⟩ := h w F hF
 simp at hv
 obtain ⟨rfl, _, rfl⟩ := hv
 refine ⟨⟨_, cap2, rfl, fun h0 => ?_⟩, fun x hx => ht x (List.mem_of_mem_drop hx)⟩
 rw [List.length_drop] at h0
 obtain ⟨b2, off2, hq, hb, hs, hc⟩ := hr (by omega)
 simp at hq
 obtain ⟨rfl, rfl⟩ := hq
 refine ⟨b, off + m * 12, rfl, hb, hs, fun i hi => ?_⟩
 rw [List.length_drop] at hi
 obtain ⟨cs, a1, a2, a3⟩ := hc (m + i) (by omega)
 refine ⟨cs, a1, by rw [List.getElem_drop]; exact a2, fun f u hu => ?_⟩
 have := a3 f u hu
 rw [show off + m * 12 + (i * 12 + f) = off + ((m + i) * 12 + f) by rw [Nat.add_mul]; omega]
 exact this
theorem ref11_rowsN (l1 l2 : List BatR) (n1 n2 : Nat) (h1 : l1.length = n1) (h2 : l2.length = n2) (q1 q2 : Option Addr) (cap1 cap2 : Nat) (hx : l1.map BatR.b = l2.map BatR.b) (hf1 : ∀ x ∈ l1, LiteR x) (hf2 : ∀ x ∈ l2, LiteR x) (hn : n1 ≤ 100000) {W0 w : World} {K : Know} {L : List Res} (hk1 : K.has (Know.bats (.slice q1 n1 cap1) l1)) (hk2 : K.has (Know.bats (.slice q2 n2 cap2) l2)) (h : St W0 w K L) :
  Calls Tryz.prog 9 #[.slice q1 n1 cap1, .slice q2 n2 cap2] w fun en w' => en = .returned (.bool true) ∧ St W0 w' K L := by
 subst h1 h2
 exact ref11_rowsT l1 l2 q1 q2 cap1 cap2 hx hf1 hf2 hn hk1 hk2 h
theorem bats_empty (K : Know) (q : Option Addr) (cap : Nat) : K.has (Know.bats (.slice q 0 cap) []) := bats_know (fun _ _ _ => ⟨q, cap, rfl, fun h => absurd h (by simp)⟩) (fun x hx => by cases hx)
theorem bats_drop0 {K : Know} {b n cap cap2 k : Nat} {l : List BatR} (m : Nat) (hk : k = l.length - m) (h : K.has (Know.bats (.slice (some ⟨b, 0, none⟩) n cap) l)) : K.has (Know.bats (.slice (some ⟨b, m * 12, none⟩) k cap2) (l.drop m)) := by
 have h2 := bats_drop (cap2 := cap2) m h
 rw [Nat.zero_add, List.length_drop, ← hk] at h2
 exact h2
end Go.Proofs.YtngojlinfdokpaaGreat
namespace Go.Proofs.YtngojlinfdokpaaGreat
open Go.RowKit

theorem feed_any (sb : Nat) (R c A : Bs) (hA : R ++ c = A) (v : Value) (hl : A.length ≤ 90000) {W0 w : World} {K : Know} {L : List Res} (h : St W0 w K (.raw sb #[.int .i64 ((finS R).2.1 : Nat), v, .int .i64 (finS R).2.2.2] 52 :: .row v 5 1 (finS R).2.2.1.length (bvals (finS R).2.2.1) :: L)) :
   Calls Tryz.prog 10 #[.pointer (some ⟨sb, 0, none⟩), .string (bb c)] w fun en w' => ∃ (v' : Value) (q : Option Addr) (cap : Nat) (lr : List BatR), en = .returned (.slice q lr.length cap) ∧ (q = none → cap = 0) ∧ lr.map BatR.b = (finS A).1.drop (finS R).1.length ∧ (∀ x ∈ lr, LiteR x) ∧ 61 * lr.length ≤ A.length ∧ (finS R).1.length ≤ (finS A).1.length ∧ St W0 w' (K.and (Know.bats (.slice q lr.length cap) lr)) (.raw sb #[.int .i64 ((finS A).2.1 : Nat), v', .int .i64 (finS A).2.2.2] 52 :: .row v' 5 1 (finS A).2.2.1.length (bvals (finS A).2.2.1) :: L) := by
 subst hA
 rw [List.length_append] at hl
 by_cases he : (finS R).2.2.2 = 0
 · have hg := fin_good R c he
   have hr := fin_rest R
   obtain ⟨T, hT⟩ : ∃ T, (finS R).2.2.1 ++ c = T := ⟨_, rfl⟩
   have hTl := congrArg List.length hT
   rw [List.length_append] at hTl
   rw [hT] at hg
   rw [he] at h
   refine (scan_feed sb (finS R).2.1 (finS R).2.2.1 c T hT v (by omega) (by omega) h).mono ?_
   rintro en w' ⟨v', q, cap, lr, rfl, h1, h2, h3, h4, h5⟩
   refine ⟨v', q, cap, lr, rfl, h1, ?_, h3, by rw [List.length_append]; omega, ?_, ?_⟩
   · rw [hg]
     show lr.map BatR.b = ((finS R).1 ++ (scanS T).1).drop (finS R).1.length
     rw [List.drop_left]
     exact h2
   · rw [hg]
     show _ ≤ ((finS R).1 ++ (scanS T).1).length
     rw [List.length_append]
     omega
   · rw [hg]
     exact h5
 · have hb := fin_bad R c he
   refine (feed_bad sb c _ v _ he h).mono ?_
   rintro en w' ⟨rfl, h2⟩
   refine ⟨v, none, 0, [], rfl, (fun _ => rfl), ?_, (fun x hx => by cases hx), Nat.zero_le _, (by rw [hb]; exact Nat.le_refl _), ?_⟩
   · rw [hb, List.drop_length]
     rfl
   · rw [hb]
     exact h2.know (Know.has_and (Know.has_refl _) (bats_nilS _))
theorem close_any (sb : Nat) (R : Bs) (v : Value) (V : Nat) (rs : Bs) (e st : Int) (bs : List BatS) (hf : finS R = (bs, V, rs, e)) (hst : stopS rs e = st) {W0 w : World} {K : Know} {L : List Res} (h : St W0 w K (.raw sb #[.int .i64 ((finS R).2.1 : Nat), v, .int .i64 (finS R).2.2.2] 52 :: .row v 5 1 (finS R).2.2.1.length (bvals (finS R).2.2.1) :: L)) :
   Calls Tryz.prog 11 #[.pointer (some ⟨sb, 0, none⟩)] w fun en w' => en = .returned (.agg #[.int .i64 V, .int .i64 st, .int .i64 e]) ∧ St W0 w' K (.raw sb #[.int .i64 ((finS R).2.1 : Nat), v, .int .i64 (finS R).2.2.2] 52 :: .row v 5 1 (finS R).2.2.1.length (bvals (finS R).2.2.1) :: L) := by
 rw [hf] at h ⊢
 obtain ⟨p, cap, hv⟩ := h.p1.rowAny
 subst hv
 subst hst
 by_cases he : e = 0
 · subst he
   by_cases hr : rs = []
   · subst hr
     exact close_clean sb V p _ cap rfl h
   · have : stopS rs 0 = 1 := by unfold stopS; rw [if_neg (by simp), if_pos hr]
     rw [this]
     exact close_torn sb V p _ cap (List.length_pos_iff.2 hr) h
 · have : stopS rs e = 2 := by unfold stopS; rw [if_pos he]
   rw [this]
   exact close_bad sb V p _ cap e he h
def ValM (ob : Nat) (w : World) : Nat := (intOf ((w.cell? ⟨ob, 1, none⟩).getD undef)).toNat
theorem lt_of_eqS {a b c : Nat} (h : a = b) (h2 : b < c) : a < c := h ▸ h2
theorem valM {W0 w : World} {K : Know} {L : List Res} {ob V : Nat} {a c d : Value} {T : TypeId} (h : St W0 w K (.raw ob #[a, .int .i64 V, c, d] T :: L)) : ValM ob w = V := by
 have := h.rawCell 1
 unfold ValM
 rw [this]
 rfl

theorem fin_none {A : Bs} {V : Nat} {acc : List BatS} (hV : V ≤ A.length) (hs : scanS A = (acc ++ (scanS (A.drop V)).1, (scanS (A.drop V)).2)) (hf : firstS (A.drop V) = .ok none) : finS A = (acc, V, A.drop V, 0) := by
 rw [scanS_none hf] at hs
 simp only at hs
 unfold finS
 rw [hs]
 simp only
 rw [List.append_nil, if_neg (by simp), List.length_drop]
 congr 2
 omega
theorem fin_err {A : Bs} {V : Nat} {acc : List BatS} {e : Int} (hV : V ≤ A.length) (hs : scanS A = (acc ++ (scanS (A.drop V)).1, (scanS (A.drop V)).2)) (hf : firstS (A.drop V) = .error e) : finS A = (acc, V, [], e) := by
 have h0 := fs_err hf
 rw [scanS_err hf] at hs
 simp only at hs
 unfold finS
 rw [hs]
 simp only
 rw [List.append_nil, if_pos h0, List.length_drop]
 congr 2
 omega
theorem scan_next {A : Bs} {V n : Nat} {acc : List BatS} {b : BatS} (hs : scanS A = (acc ++ (scanS (A.drop V)).1, (scanS (A.drop V)).2)) (hf : firstS (A.drop V) = .ok (some (b, n))) : scanS A = ((acc ++ [b]) ++ (scanS (A.drop (V + n))).1, (scanS (A.drop (V + n))).2) := by
 rw [scanS_some hf, List.drop_drop] at hs
 rw [hs, List.append_assoc]
 rfl

end Go.Proofs.YtngojlinfdokpaaGreat
