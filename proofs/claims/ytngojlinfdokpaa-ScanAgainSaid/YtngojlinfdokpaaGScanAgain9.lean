/- A text. -/
import Derived.Test.YtngojlinfdokpaaGScanAgain8
import Derived.Test.YtngojlinfdokpaaGScanAgain5
import Derived.Laws.AppendOwnNone
import Derived.RegionTactic
import Derived.Deep.RegionHeld3
import Derived.Deep.DeepCutAuto
import Derived.WalkMore
import Derived.Test.YtngojlinfdokpaaGScanAgain7
import Derived.Test.YtngojlinfdokpaaGScanAgain3
import Derived.Test.YtngojlinfdokpaaArgs
import Derived.SizedLaws
import Derived.Deep.Slices
import Derived.Test.YtngojlinfdokpaaGScanAgain6
import Derived.Test.YtngojlinfdokpaaGScanAgain4
/- A text. -/
namespace Go.Proofs.Ytngojlinfdokpaa
open Go.RowKit

theorem flat_bats (l : List BatR) (i : Nat) (hi : i < l.length) (r : Nat) (hr : r < 12) : (l.flatMap batcells)[i * 12 + r]? = (batcells l[i])[r]? := flatMap_get l batcells 12 (fun _ _ => rfl) i hi r hr
theorem flat_batsL (l : List BatR) : (l.flatMap batcells).length = l.length * 12 := by
 induction l with
 | nil => rfl
 | cons x t ih => rw [List.flatMap_cons, List.length_append, ih, List.length_cons]; show 12 + _ = _; omega
theorem flat_batsO (l : List BatR) : ∀ u ∈ l.flatMap batcells, u.oneCell' = true := by
 intro u hu
 obtain ⟨x, _, hx⟩ := List.mem_flatMap.1 hu
 unfold batcells at hx
 simp only [List.mem_cons, List.not_mem_nil, or_false] at hx
 rcases hx with rfl | rfl | rfl | rfl | rfl | rfl | rfl | rfl | rfl | rfl | rfl | rfl <;> rfl
theorem bats_cellsAt {W0 w : World} {K : Know} {L : List Res} {b off n cap : Nat} {l : List BatR} (hk : K.has (Know.bats (.slice (some ⟨b, off, none⟩) n cap) l)) (h : St W0 w K L) (j : Nat) (u : Value) (hu : (l.flatMap batcells)[j]? = some u) : w.cell? ((⟨b, off, none⟩ : Addr).add j) = some u := by
 have hj : j < (l.flatMap batcells).length := (List.getElem?_eq_some_iff.1 hu).1
 rw [flat_batsL] at hj
 have hi : j / 12 < l.length := by omega
 have hr : j % 12 < 12 := Nat.mod_lt _ (by decide)
 have hjj : j / 12 * 12 + j % 12 = j := by omega
 rw [← hjj, flat_bats l _ hi _ hr] at hu
 obtain ⟨F, hF, _⟩ := h.get
 obtain ⟨q2, cap2, hv, hrr⟩ := (bats_flat hk _ _ hF).at
 obtain ⟨b2, off2, hq, hc⟩ := hrr (by omega)
 rw [hq] at hv
 simp at hv
 obtain ⟨⟨rfl, rfl⟩, _, _⟩ := hv
 obtain ⟨cs, _, hR, hcs⟩ := hc (j / 12) hi
 unfold RBat at hR
 have ha : (⟨b, off, none⟩ : Addr).add j = ⟨b, off + (j / 12 * 12 + j % 12), none⟩ := by unfold Addr.add; split <;> simp_all <;> omega
 rw [ha]
 skip
 refine hcs (j % 12) u ?_
 rw [hR]
 exact hu
theorem wpl_appbats {W0 w : World} {K : Know} {L : List Res} {ops : Array Oper} {rest : List Oper} {o : Oper} {a : Act} {Q : Exit → Act → World → Prop} (hgd : o.guard = none) (sl x : Operand)
    (ho : o.op = .call { callee := .builtin .append, args := #[sl, x], argTypes := #[23, 23] })
    (v : Value) (n : Nat) (xs : List Value) (hs : a.eval sl = v) (hst : St W0 w K (.row v 37 12 n xs :: L)) (q : Option Addr) (cap : Nat) (lr : List BatR) (hx : a.eval x = .slice q lr.length cap) (hk : K.has (Know.bats (.slice q lr.length cap) lr)) (hqc : q = none → cap = 0)
    (hb : n + lr.length ≤ 1000000) (h : ∀ v' w', St W0 w' K (.row v' 37 12 (n + lr.length) (xs ++ lr.flatMap batcells) :: L) → wpList Try.prog ops Q rest (a.put o.dst v') w') : wpList Try.prog ops Q (o :: rest) a w := by
  by_cases h0 : lr = []
  · subst h0
    cases q with
    | none =>
      obtain rfl := hqc rfl
      obtain ⟨i0, hi, _⟩ := elem_bat.1
      refine wpList_append_own_none hgd sl x 23 ho 0 37 i0 12 Try.underlying23 hi v n xs hs hst.rowGet hx (h v w ?_)
      show St W0 w K (.row v 37 12 (n + 0) (xs ++ []) :: L)
      rw [List.append_nil]
      exact hst
    | some ad =>
      exact wpl_app_st hgd sl x 23 ho 37 Try.underlying23 elem_bat v n xs hs hst ad 0 cap [] hx rfl (fun j u hj => by simp at hj) (fun u hu => by cases hu) (by simp only [List.length_nil] at hb; unfold maxLen; omega) (by simp only [List.length_nil] at hb; omega) h
  · obtain ⟨b, off, rfl⟩ := bats_at hk hst (List.length_pos_iff.2 h0)
    exact wpl_app_st hgd sl x 23 ho 37 Try.underlying23 elem_bat v n xs hs hst ⟨b, off, none⟩ lr.length cap (lr.flatMap batcells) hx (flat_batsL lr) (fun j u hj => bats_cellsAt hk hst j u hj) (flat_batsO lr) (by unfold maxLen; omega) (by omega) h
theorem St.raw_neS {W0 w : World} {K : Know} {L : List Res} {a b : Nat} {c c' : Array Value} {T T' : TypeId} (h : St W0 w K (.raw a c T :: .raw b c' T' :: L)) : ¬ (a = b) := by
 rintro rfl
 obtain ⟨_, S, F, ⟨S1, S2, h1, ⟨S3, S4, h3, _, _, e3⟩, d1, _⟩, _⟩ := h
 exact d1 a ((h1.2 a).2 rfl) ((e3 a).2 (.inl ((h3.2 a).2 rfl)))
set_option maxHeartbeats 2000000 in
set_option maxRecDepth 100000 in
theorem feed_bad (sb : Nat) (chunk : Bs) (c v : Value) (e : Int) (h0 : e ≠ 0) {W0 w : World} {K : Know} {L : List Res} (h : St W0 w K (.raw sb #[c, v, .int .i64 e] 78 :: L)) :
  Calls Try.prog 17 #[.pointer (some ⟨sb, 0, none⟩), .string (bb chunk)] w fun en w' => en = .returned (.slice none 0 0) ∧ St W0 w' K (.raw sb #[c, v, .int .i64 e] 78 :: L) := by
 have H := Lib.hid h
 have c2 := h.rawCell 2
 simp at c2
 have g1e : (e == 0) = false := by rw [beq_eq_false_iff_ne]; exact h0
 have g2e : (e != 0) = true := by simp [bne, g1e]
 clear h h0
 go_enter Try.func17, Try.ntmps17
 go_wp2
 refine wp_scope_straight ?_
 go_wp2
 rw [Exit.noGoto_ret]
 go_ret
 exact ⟨rfl, H.out⟩
set_option maxHeartbeats 2000000 in
set_option maxRecDepth 100000 in
theorem scan_new {W0 w : World} {K : Know} {L : List Res} (h : St W0 w K L) :
  Calls Try.prog 16 #[] w fun en w' => ∃ sb, en = .returned (.pointer (some ⟨sb, 0, none⟩)) ∧ St W0 w' K (.raw sb #[.int .i64 0, .slice none 0 0, .int .i64 0] 78 :: L) := by
 have g1 := h.allocRaw #[.int .i64 0, .slice none 0 0, .int .i64 0] 78
 have H := Lib.hid g1
 clear h g1
 go_enter Try.func16, Try.ntmps16
 go_wp2
 go_ret
 exact ⟨_, rfl, H.out⟩

end Go.Proofs.Ytngojlinfdokpaa

/- A text. -/
namespace Go.Proofs.Ytngojlinfdokpaa
open Go.RowKit

theorem fin_count (R : Bs) : 61 * (finS R).1.length ≤ R.length := by
 obtain ⟨k, a1, _, _, _, _, _, a7⟩ := scan_rest _ R (Nat.le_refl _)
 show 61 * (scanS R).1.length ≤ _
 omega
theorem fin_rest (R : Bs) : (finS R).2.2.1.length ≤ R.length ∧ (finS R).2.1 ≤ R.length := by
 obtain ⟨k, a1, a2, _⟩ := scan_rest _ R (Nat.le_refl _)
 unfold finS
 simp only
 refine ⟨?_, by omega⟩
 by_cases h : (scanS R).2.2 ≠ 0
 · rw [if_pos h]; exact Nat.zero_le _
 · rw [if_neg h, a2, List.length_drop]; omega
theorem rc_tmp_cellS {P : Program} {fn : Func} {p t : Tmp} {ty : TypeId} (h : fn.results = #[.tmp t, .cell p ty]) (tmps : Array Value) (w : World) (b : Nat) (cs : List Value) (d : TypeDesc)
    (hp : tmps.getD p undef = .pointer (some ⟨b, 0, none⟩)) (hc : w.rangeAt b 0 cs) (hu : P.underlying ty = some d) (hd : d.isRow = true) (hi : (P.info? ty).map (·.size) = some cs.length) :
    (results fn tmps).run P w = .ok (.tuple #[tmps.getD t undef, .agg cs.toArray]) w := by
  have hp' : tmps[p]?.getD undef = .pointer (some ⟨b, 0, none⟩) := by simpa using hp
  simp [results, h, hp', asAddr, run_loadVar_mid w b 0 ty cs d hc hu hd hi]

end Go.Proofs.Ytngojlinfdokpaa

/- A text. -/
namespace Go.Proofs.Ytngojlinfdokpaa
open Go.RowKit

end Go.Proofs.Ytngojlinfdokpaa

/- A text. -/
namespace Go.Proofs.Ytngojlinfdokpaa
open Go.RowKit

theorem fs_of_re {R : Bs} {b : BatS} {n : Nat} (h : reBat R = .ok (b, n)) : firstS R = .ok (some (b, n)) := by
 obtain ⟨x, hp, rfl, hn, ha⟩ := reBat_ok h
 unfold firstS
 rw [if_neg (by omega), hp]
 simp only
 rw [if_neg (by omega), ha]
theorem fs_part {R M : Bs} {b : BatS} {n : Nat} (h : reBat (R ++ M) = .ok (b, n)) (hl : R.length < n) : firstS R = .ok none := by
 obtain ⟨x, hp, hnn, hn, ha⟩ := reBat_ok h
 unfold firstS
 by_cases c : R.length < 61
 · rw [if_pos c]
 · rw [if_neg c, ← rePre_app R M (by omega), hp]
   simp only
   rw [if_pos (by omega)]
theorem scan_enc (R : Bs) : ∀ (l : List BatR), (∀ x ∈ l, SmallOk x.b) → scanS (encB l ++ R) = (l.map BatR.b ++ (scanS R).1, (scanS R).2)
  | [], _ => rfl
  | x :: t, h => by
    have h1 := fs_of_re ((h x (by simp)).back (encB t ++ R))
    rw [encB_cons, List.append_assoc, scanS_some h1, List.drop_left, scan_enc R t (fun y hy => h y (by simp [hy]))]
    rfl
theorem fin_cut (l : List BatR) (h : ∀ x ∈ l, SmallOk x.b) (k n : Nat) (hk : k ≤ (encB l).length) (hn : n ≤ l.length) (h1 : (encB (l.take n)).length ≤ k) (h2 : ∀ hh : n < l.length, k < (encB (l.take (n + 1))).length) :
  ∃ rest, finS ((encB l).take k) = ((l.take n).map BatR.b, (encB (l.take n)).length, rest, 0) ∧ rest.length = k - (encB (l.take n)).length := by
 have hs := encB_split l n
 have ht : (encB l).take k = encB (l.take n) ++ (encB (l.drop n)).take (k - (encB (l.take n)).length) := by
  rw [hs, List.take_append, List.take_of_length_le h1]
 obtain ⟨R, hR⟩ : ∃ R, (encB (l.drop n)).take (k - (encB (l.take n)).length) = R := ⟨_, rfl⟩
 have hRl : R.length = k - (encB (l.take n)).length := by
  have h3 := congrArg List.length hs
  rw [List.length_append] at h3
  rw [← hR, List.length_take]
  omega
 have hf : firstS R = .ok none := by
  by_cases hh : n < l.length
  · have e1 : encB (l.drop n) = l[n].b.enc ++ encB (l.drop (n + 1)) := by rw [List.drop_eq_getElem_cons hh, encB_cons]
    have e2 := encB_take l n hh
    have h4 := h2 hh
    rw [e2, List.length_append] at h4
    refine fs_part (M := (encB (l.drop n)).drop (k - (encB (l.take n)).length)) (b := l[n].b) (n := l[n].b.enc.length) ?_ (by omega)
    rw [← hR, List.take_append_drop, e1]
    exact (h l[n] (List.getElem_mem hh)).back _
  · have e1 : l.drop n = [] := List.drop_of_length_le (by omega)
    rw [e1] at hR
    have : R = [] := by rw [← hR]; simp [encB]
    rw [this]
    unfold firstS
    rw [if_pos (by decide)]
 refine ⟨R, ?_, hRl⟩
 have hsc := scan_enc R (l.take n) (fun x hx => h x (List.mem_of_mem_take hx))
 unfold finS
 rw [ht, hR, hsc, scanS_none hf]
 simp only
 rw [List.append_nil, List.length_append, if_neg (by simp)]
 congr 2
 omega
theorem nobody_enc : noneB.enc.length = 61 := by kernel_rfl

end Go.Proofs.Ytngojlinfdokpaa

/- A text. -/
namespace Go.Proofs.Ytngojlinfdokpaa
open Go.RowKit

set_option maxHeartbeats 4000000 in
set_option maxRecDepth 100000 in
theorem close_bad (sb valid : Nat) (p : Option Addr) (n cap : Nat) (e : Int) (h0 : e ≠ 0) {W0 w : World} {K : Know} {L : List Res} (h : St W0 w K (.raw sb #[.int .i64 valid, .slice p n cap, .int .i64 e] 78 :: L)) :
  Calls Try.prog 18 #[.pointer (some ⟨sb, 0, none⟩)] w fun en w' => en = .returned (.agg #[.int .i64 valid, .int .i64 2, .int .i64 e]) ∧ St W0 w' K (.raw sb #[.int .i64 valid, .slice p n cap, .int .i64 e] 78 :: L) := by
 obtain ⟨rb, hrb⟩ : ∃ b, w.heap.size = b := ⟨_, rfl⟩
 have g1 := h.allocRaw #[.int .i64 0, .int .i64 0, .int .i64 0] 26
 rw [hrb] at g1
 have H := Lib.hid g1
 have g1e : (e == 0) = false := by rw [beq_eq_false_iff_ne]; exact h0
 have g2e : (e != 0) = true := by simp [bne, g1e]
 clear h g1 h0
 go_enter Try.func18, Try.ntmps18
 go_upto_region 1 with (fail)
 go_cut [3] (fun s3 wx => ∃ tb : Nat, s3 = .pointer (some ⟨tb, 0, none⟩) ∧ St W0 wx K (.raw tb #[.int .i64 valid, .int .i64 0, .int .i64 e] 26 :: .raw rb #[.int .i64 0, .int .i64 0, .int .i64 0] 26 :: .raw sb #[.int .i64 valid, .slice p n cap, .int .i64 e] 78 :: L))
 case first =>
  have hs := H.out.drew
  refine wp_region_held_drew (S := fun w' => w'.cell? ⟨sb, 0, none⟩ = some (.int .i64 valid) ∧ w'.cell? ⟨sb, 2, none⟩ = some (.int .i64 e)) (by kernel_rfl) ⟨hs.p1.rawCell 0, hs.p1.rawCell 2⟩ (fun hHeld => ?_)
  refine wpAnyH_take (i := 0) (oi := ⟨some 4, .move (.tmp 0), 50, "scan.go:75", #[], none⟩) (v := ?_) rfl (by kernel_rfl) (by kernel_rfl) (by kernel_rfl) (fun _ _ _ h => h) (Or.inl ⟨by rfl, ?_⟩) (by assumption) ?_
  rotate_left
  · intro w hSw; (try dsimp only at hSw); go_simp; try with_reducible rfl
  simp only [Act.put, sA, sB, sC]
  refine wpAnyH_take (i := 1) (oi := ⟨some 5, .nilCheck (.tmp 4), 0, "scan.go:75", #[.mk 0 .data], none⟩) (v := ?_) rfl (by kernel_rfl) (by kernel_rfl) (by kernel_rfl) (fun _ _ _ h => h) (Or.inl ⟨by rfl, ?_⟩) (by assumption) ?_
  rotate_left
  · intro w hSw; (try dsimp only at hSw); go_simp; try with_reducible rfl
  simp only [Act.put, sA, sB, sC]
  refine wpAnyH_take (i := 2) (oi := ⟨some 6, .fieldAddr 78 (.tmp 5) 0, 0, "scan.go:75", #[.mk 1 .data], none⟩) (v := ?_) rfl (by kernel_rfl) (by kernel_rfl) (by kernel_rfl) (fun _ _ _ h => h) (Or.inl ⟨by rfl, ?_⟩) (by assumption) ?_
  rotate_left
  · intro w hSw; (try dsimp only at hSw); go_simp; try with_reducible rfl
  simp only [Act.put, sA, sB, sC]
  refine wpAnyH_take (i := 3) (oi := ⟨some 7, .load 3 (.tmp 6), 3, "scan.go:75", #[.mk 2 .data], none⟩) (v := ?_) rfl (by kernel_rfl) (by kernel_rfl) (by kernel_rfl) (fun _ _ _ h => h) (Or.inl ⟨by rfl, ?_⟩) (by assumption) ?_
  rotate_left
  · intro w hSw; (try dsimp only at hSw); go_simp; try with_reducible rfl
  simp only [Act.put, sA, sB, sC]
  refine wpAnyH_take (i := 4) (oi := ⟨some 8, .move (.tmp 0), 50, "scan.go:75", #[], none⟩) (v := ?_) rfl (by kernel_rfl) (by kernel_rfl) (by kernel_rfl) (fun _ _ _ h => h) (Or.inl ⟨by rfl, ?_⟩) (by assumption) ?_
  rotate_left
  · intro w hSw; (try dsimp only at hSw); go_simp; try with_reducible rfl
  simp only [Act.put, sA, sB, sC]
  refine wpAnyH_take (i := 5) (oi := ⟨some 9, .nilCheck (.tmp 8), 0, "scan.go:75", #[.mk 4 .data], none⟩) (v := ?_) rfl (by kernel_rfl) (by kernel_rfl) (by kernel_rfl) (fun _ _ _ h => h) (Or.inl ⟨by rfl, ?_⟩) (by assumption) ?_
  rotate_left
  · intro w hSw; (try dsimp only at hSw); go_simp; try with_reducible rfl
  simp only [Act.put, sA, sB, sC]
  refine wpAnyH_take (i := 6) (oi := ⟨some 10, .fieldAddr 78 (.tmp 9) 2, 0, "scan.go:75", #[.mk 5 .data], none⟩) (v := ?_) rfl (by kernel_rfl) (by kernel_rfl) (by kernel_rfl) (fun _ _ _ h => h) (Or.inl ⟨by rfl, ?_⟩) (by assumption) ?_
  rotate_left
  · intro w hSw; (try dsimp only at hSw); go_simp; try with_reducible rfl
  simp only [Act.put, sA, sB, sC]
  refine wpAnyH_take (i := 7) (oi := ⟨some 11, .load 24 (.tmp 10), 24, "scan.go:75", #[.mk 6 .data], none⟩) (v := ?_) rfl (by kernel_rfl) (by kernel_rfl) (by kernel_rfl) (fun _ _ _ h => h) (Or.inl ⟨by rfl, ?_⟩) (by assumption) ?_
  rotate_left
  · intro w hSw; (try dsimp only at hSw); go_simp; try with_reducible rfl
  simp only [Act.put, sA, sB, sC]
  refine wpAnyH_take (i := 8) (oi := ⟨some 12, .build 26 #[(0, .tmp 7), (1, .const (Value.int IntKind.i64 0)), (2, .tmp 11)], 26, "scan.go:75", #[.mk 3 .data, .mk 7 .data], none⟩) (v := ?_) rfl (by kernel_rfl) (by kernel_rfl) (by kernel_rfl) (fun _ _ _ h => h) (Or.inl ⟨by rfl, ?_⟩) (by assumption) ?_
  rotate_left
  · intro w hSw; (try dsimp only at hSw); go_simp; try with_reducible rfl
  simp only [Act.put, sA, sB, sC]
  refine wpAnyH_ready (rs := [9]) (by kernel_rfl) (by simp) (AllReadyH.cons (o := ⟨some 3, .alloc 26, 0, "scan.go:75", #[], none⟩) rfl (fun KK hK => ?_) AllReadyH.nil)
  · obtain ⟨wy, tb, ey, er, hs⟩ := hs.allocEx #[.int .i64 0, .int .i64 0, .int .i64 0] 26
    go_simp
    try rw [ey]
    try rw [er]
    clear ey er
    refine hK.out _ _ (⟨hs.p2.rawCell 0, hs.p2.rawCell 2⟩) (fun hHeld => ?_)
    clear hK KK
    try simp only [Act.put, sA, sB, sC]
    refine wpAnyH_ready (rs := [10]) (by kernel_rfl) (by simp) (AllReadyH.cons (o := ⟨none, .store 26 (.tmp 3) (.tmp 12), 0, "scan.go:75", #[.mk 9 .data, .mk 8 .data, .mk 0 .phase, .mk 1 .phase, .mk 2 .phase, .mk 3 .phase, .mk 4 .phase, .mk 5 .phase, .mk 6 .phase, .mk 7 .phase, .mk 8 .phase, .mk 9 .phase], none⟩) rfl (fun KK hK => ?_) AllReadyH.nil)
    · rw [if_pos (by rfl)]
      refine wp_store_mid 26 (.tmp 3) (.tmp 12) rfl tb 0 #[.int .i64 valid, .int .i64 0, .int .i64 e] (by rfl) (by rfl) hs.there (by kernel_rfl) (by simp [Value.oneCell']) ?_
      obtain ⟨wz, ez, hs⟩ := hs.storeEx #[.int .i64 valid, .int .i64 0, .int .i64 e]
      rw [ez]
      clear ez
      rw [setAll_allV] at hs
      rotate_left
      · rfl
      refine hK.out _ _ (⟨hs.p2.rawCell 0, hs.p2.rawCell 2⟩) (fun hHeld => ?_)
      clear hK KK
      try simp only [Act.put, sA, sB, sC]
      refine wpAnyH_done (by kernel_rfl) ?_ _
      clear hHeld
      go_wp2_with fail
      go_meet
      exact ⟨tb, rfl, hs⟩
 obtain ⟨tb, rfl, h⟩ := hcut
 clear H
 have H := Lib.hid h
 have hne := St.raw_neS h
 have hne2 := fun hh => hne (Eq.symm hh)
 have a0 := h.rawCell 0
 have a1 := h.rawCell 1
 have a2 := h.rawCell 2
 have r1 := h.rawFree 1
 have b0 := h.p1.rawFree 0
 have b1 := h.p1.rawFree 1
 have b2 := h.p1.rawFree 2
 have d0 := h.p1.rawCell 0
 have d1 := h.p1.rawCell 1
 have d2 := h.p1.rawCell 2
 have c0 := h.p2.rawCell 0
 have c1 := h.p2.rawCell 1
 have c2 := h.p2.rawCell 2
 simp at a0 a1 a2 d0 d1 d2 c0 c1 c2
 clear h
 go_wp2_with fail
 have hz : St W0 _ _ (.raw rb #[.int .i64 valid, .int .i64 2, .int .i64 e] 26 :: .raw tb _ 26 :: _) := ((((H.out.rawSet 1 (.int .i64 2)).p1.rawSet 0 (.int .i64 valid)).rawSet 1 (.int .i64 2)).rawSet 2 (.int .i64 e))
 refine bodyPost_ret (rc_cell_only rfl _ _ rb [.int .i64 valid, .int .i64 2, .int .i64 e] _ rfl (rc_range hz) Try.underlying26 rfl (by kernel_rfl)) rfl ?_
 exact ⟨rfl, hz.drop.drop⟩

set_option maxHeartbeats 4000000 in
set_option maxRecDepth 100000 in
theorem close_torn (sb valid : Nat) (p : Option Addr) (n cap : Nat) (hn : 0 < n) {W0 w : World} {K : Know} {L : List Res} (h : St W0 w K (.raw sb #[.int .i64 valid, .slice p n cap, .int .i64 0] 78 :: L)) :
  Calls Try.prog 18 #[.pointer (some ⟨sb, 0, none⟩)] w fun en w' => en = .returned (.agg #[.int .i64 valid, .int .i64 1, .int .i64 0]) ∧ St W0 w' K (.raw sb #[.int .i64 valid, .slice p n cap, .int .i64 0] 78 :: L) := by
 obtain ⟨rb, hrb⟩ : ∃ b, w.heap.size = b := ⟨_, rfl⟩
 have g1 := h.allocRaw #[.int .i64 0, .int .i64 0, .int .i64 0] 26
 rw [hrb] at g1
 have H := Lib.hid g1
 have hni : 0 < (n : Int) := by omega
 clear h g1 hn
 go_enter Try.func18, Try.ntmps18
 go_upto_region 1 with (fail)
 go_cut [3] (fun s3 wx => ∃ tb : Nat, s3 = .pointer (some ⟨tb, 0, none⟩) ∧ St W0 wx K (.raw tb #[.int .i64 valid, .int .i64 0, .int .i64 0] 26 :: .raw rb #[.int .i64 0, .int .i64 0, .int .i64 0] 26 :: .raw sb #[.int .i64 valid, .slice p n cap, .int .i64 0] 78 :: L))
 case first =>
  have hs := H.out.drew
  refine wp_region_held_drew (S := fun w' => w'.cell? ⟨sb, 0, none⟩ = some (.int .i64 valid) ∧ w'.cell? ⟨sb, 2, none⟩ = some (.int .i64 0)) (by kernel_rfl) ⟨hs.p1.rawCell 0, hs.p1.rawCell 2⟩ (fun hHeld => ?_)
  refine wpAnyH_take (i := 0) (oi := ⟨some 4, .move (.tmp 0), 50, "scan.go:75", #[], none⟩) (v := ?_) rfl (by kernel_rfl) (by kernel_rfl) (by kernel_rfl) (fun _ _ _ h => h) (Or.inl ⟨by rfl, ?_⟩) (by assumption) ?_
  rotate_left
  · intro w hSw; (try dsimp only at hSw); go_simp; try with_reducible rfl
  simp only [Act.put, sA, sB, sC]
  refine wpAnyH_take (i := 1) (oi := ⟨some 5, .nilCheck (.tmp 4), 0, "scan.go:75", #[.mk 0 .data], none⟩) (v := ?_) rfl (by kernel_rfl) (by kernel_rfl) (by kernel_rfl) (fun _ _ _ h => h) (Or.inl ⟨by rfl, ?_⟩) (by assumption) ?_
  rotate_left
  · intro w hSw; (try dsimp only at hSw); go_simp; try with_reducible rfl
  simp only [Act.put, sA, sB, sC]
  refine wpAnyH_take (i := 2) (oi := ⟨some 6, .fieldAddr 78 (.tmp 5) 0, 0, "scan.go:75", #[.mk 1 .data], none⟩) (v := ?_) rfl (by kernel_rfl) (by kernel_rfl) (by kernel_rfl) (fun _ _ _ h => h) (Or.inl ⟨by rfl, ?_⟩) (by assumption) ?_
  rotate_left
  · intro w hSw; (try dsimp only at hSw); go_simp; try with_reducible rfl
  simp only [Act.put, sA, sB, sC]
  refine wpAnyH_take (i := 3) (oi := ⟨some 7, .load 3 (.tmp 6), 3, "scan.go:75", #[.mk 2 .data], none⟩) (v := ?_) rfl (by kernel_rfl) (by kernel_rfl) (by kernel_rfl) (fun _ _ _ h => h) (Or.inl ⟨by rfl, ?_⟩) (by assumption) ?_
  rotate_left
  · intro w hSw; (try dsimp only at hSw); go_simp; try with_reducible rfl
  simp only [Act.put, sA, sB, sC]
  refine wpAnyH_take (i := 4) (oi := ⟨some 8, .move (.tmp 0), 50, "scan.go:75", #[], none⟩) (v := ?_) rfl (by kernel_rfl) (by kernel_rfl) (by kernel_rfl) (fun _ _ _ h => h) (Or.inl ⟨by rfl, ?_⟩) (by assumption) ?_
  rotate_left
  · intro w hSw; (try dsimp only at hSw); go_simp; try with_reducible rfl
  simp only [Act.put, sA, sB, sC]
  refine wpAnyH_take (i := 5) (oi := ⟨some 9, .nilCheck (.tmp 8), 0, "scan.go:75", #[.mk 4 .data], none⟩) (v := ?_) rfl (by kernel_rfl) (by kernel_rfl) (by kernel_rfl) (fun _ _ _ h => h) (Or.inl ⟨by rfl, ?_⟩) (by assumption) ?_
  rotate_left
  · intro w hSw; (try dsimp only at hSw); go_simp; try with_reducible rfl
  simp only [Act.put, sA, sB, sC]
  refine wpAnyH_take (i := 6) (oi := ⟨some 10, .fieldAddr 78 (.tmp 9) 2, 0, "scan.go:75", #[.mk 5 .data], none⟩) (v := ?_) rfl (by kernel_rfl) (by kernel_rfl) (by kernel_rfl) (fun _ _ _ h => h) (Or.inl ⟨by rfl, ?_⟩) (by assumption) ?_
  rotate_left
  · intro w hSw; (try dsimp only at hSw); go_simp; try with_reducible rfl
  simp only [Act.put, sA, sB, sC]
  refine wpAnyH_take (i := 7) (oi := ⟨some 11, .load 24 (.tmp 10), 24, "scan.go:75", #[.mk 6 .data], none⟩) (v := ?_) rfl (by kernel_rfl) (by kernel_rfl) (by kernel_rfl) (fun _ _ _ h => h) (Or.inl ⟨by rfl, ?_⟩) (by assumption) ?_
  rotate_left
  · intro w hSw; (try dsimp only at hSw); go_simp; try with_reducible rfl
  simp only [Act.put, sA, sB, sC]
  refine wpAnyH_take (i := 8) (oi := ⟨some 12, .build 26 #[(0, .tmp 7), (1, .const (Value.int IntKind.i64 0)), (2, .tmp 11)], 26, "scan.go:75", #[.mk 3 .data, .mk 7 .data], none⟩) (v := ?_) rfl (by kernel_rfl) (by kernel_rfl) (by kernel_rfl) (fun _ _ _ h => h) (Or.inl ⟨by rfl, ?_⟩) (by assumption) ?_
  rotate_left
  · intro w hSw; (try dsimp only at hSw); go_simp; try with_reducible rfl
  simp only [Act.put, sA, sB, sC]
  refine wpAnyH_ready (rs := [9]) (by kernel_rfl) (by simp) (AllReadyH.cons (o := ⟨some 3, .alloc 26, 0, "scan.go:75", #[], none⟩) rfl (fun KK hK => ?_) AllReadyH.nil)
  · obtain ⟨wy, tb, ey, er, hs⟩ := hs.allocEx #[.int .i64 0, .int .i64 0, .int .i64 0] 26
    go_simp
    try rw [ey]
    try rw [er]
    clear ey er
    refine hK.out _ _ (⟨hs.p2.rawCell 0, hs.p2.rawCell 2⟩) (fun hHeld => ?_)
    clear hK KK
    try simp only [Act.put, sA, sB, sC]
    refine wpAnyH_ready (rs := [10]) (by kernel_rfl) (by simp) (AllReadyH.cons (o := ⟨none, .store 26 (.tmp 3) (.tmp 12), 0, "scan.go:75", #[.mk 9 .data, .mk 8 .data, .mk 0 .phase, .mk 1 .phase, .mk 2 .phase, .mk 3 .phase, .mk 4 .phase, .mk 5 .phase, .mk 6 .phase, .mk 7 .phase, .mk 8 .phase, .mk 9 .phase], none⟩) rfl (fun KK hK => ?_) AllReadyH.nil)
    · rw [if_pos (by rfl)]
      refine wp_store_mid 26 (.tmp 3) (.tmp 12) rfl tb 0 #[.int .i64 valid, .int .i64 0, .int .i64 0] (by rfl) (by rfl) hs.there (by kernel_rfl) (by simp [Value.oneCell']) ?_
      obtain ⟨wz, ez, hs⟩ := hs.storeEx #[.int .i64 valid, .int .i64 0, .int .i64 0]
      rw [ez]
      clear ez
      rw [setAll_allV] at hs
      rotate_left
      · rfl
      refine hK.out _ _ (⟨hs.p2.rawCell 0, hs.p2.rawCell 2⟩) (fun hHeld => ?_)
      clear hK KK
      try simp only [Act.put, sA, sB, sC]
      refine wpAnyH_done (by kernel_rfl) ?_ _
      clear hHeld
      go_wp2_with fail
      go_meet
      exact ⟨tb, rfl, hs⟩
 obtain ⟨tb, rfl, h⟩ := hcut
 clear H
 have H := Lib.hid h
 have hne := St.raw_neS h
 have hne2 := fun hh => hne (Eq.symm hh)
 have a0 := h.rawCell 0
 have a1 := h.rawCell 1
 have a2 := h.rawCell 2
 have r1 := h.rawFree 1
 have b0 := h.p1.rawFree 0
 have b1 := h.p1.rawFree 1
 have b2 := h.p1.rawFree 2
 have d0 := h.p1.rawCell 0
 have d1 := h.p1.rawCell 1
 have d2 := h.p1.rawCell 2
 have c0 := h.p2.rawCell 0
 have c1 := h.p2.rawCell 1
 have c2 := h.p2.rawCell 2
 simp at a0 a1 a2 d0 d1 d2 c0 c1 c2
 clear h
 go_wp2_with fail
 have hz : St W0 _ _ (.raw rb #[.int .i64 valid, .int .i64 1, .int .i64 0] 26 :: .raw tb _ 26 :: _) := ((((H.out.rawSet 1 (.int .i64 1)).p1.rawSet 0 (.int .i64 valid)).rawSet 1 (.int .i64 1)).rawSet 2 (.int .i64 0))
 refine bodyPost_ret (rc_cell_only rfl _ _ rb [.int .i64 valid, .int .i64 1, .int .i64 0] _ rfl (rc_range hz) Try.underlying26 rfl (by kernel_rfl)) rfl ?_
 exact ⟨rfl, hz.drop.drop⟩

set_option maxHeartbeats 4000000 in
set_option maxRecDepth 100000 in
theorem close_clean (sb valid : Nat) (p : Option Addr) (n cap : Nat) (hn : n = 0) {W0 w : World} {K : Know} {L : List Res} (h : St W0 w K (.raw sb #[.int .i64 valid, .slice p n cap, .int .i64 0] 78 :: L)) :
  Calls Try.prog 18 #[.pointer (some ⟨sb, 0, none⟩)] w fun en w' => en = .returned (.agg #[.int .i64 valid, .int .i64 0, .int .i64 0]) ∧ St W0 w' K (.raw sb #[.int .i64 valid, .slice p n cap, .int .i64 0] 78 :: L) := by
 obtain ⟨rb, hrb⟩ : ∃ b, w.heap.size = b := ⟨_, rfl⟩
 have g1 := h.allocRaw #[.int .i64 0, .int .i64 0, .int .i64 0] 26
 rw [hrb] at g1
 have H := Lib.hid g1
 have hni : ¬ 0 < (n : Int) := by omega
 clear h g1 hn
 go_enter Try.func18, Try.ntmps18
 go_upto_region 1 with (fail)
 go_cut [3] (fun s3 wx => ∃ tb : Nat, s3 = .pointer (some ⟨tb, 0, none⟩) ∧ St W0 wx K (.raw tb #[.int .i64 valid, .int .i64 0, .int .i64 0] 26 :: .raw rb #[.int .i64 0, .int .i64 0, .int .i64 0] 26 :: .raw sb #[.int .i64 valid, .slice p n cap, .int .i64 0] 78 :: L))
 case first =>
  have hs := H.out.drew
  refine wp_region_held_drew (S := fun w' => w'.cell? ⟨sb, 0, none⟩ = some (.int .i64 valid) ∧ w'.cell? ⟨sb, 2, none⟩ = some (.int .i64 0)) (by kernel_rfl) ⟨hs.p1.rawCell 0, hs.p1.rawCell 2⟩ (fun hHeld => ?_)
  refine wpAnyH_take (i := 0) (oi := ⟨some 4, .move (.tmp 0), 50, "scan.go:75", #[], none⟩) (v := ?_) rfl (by kernel_rfl) (by kernel_rfl) (by kernel_rfl) (fun _ _ _ h => h) (Or.inl ⟨by rfl, ?_⟩) (by assumption) ?_
  rotate_left
  · intro w hSw; (try dsimp only at hSw); go_simp; try with_reducible rfl
  simp only [Act.put, sA, sB, sC]
  refine wpAnyH_take (i := 1) (oi := ⟨some 5, .nilCheck (.tmp 4), 0, "scan.go:75", #[.mk 0 .data], none⟩) (v := ?_) rfl (by kernel_rfl) (by kernel_rfl) (by kernel_rfl) (fun _ _ _ h => h) (Or.inl ⟨by rfl, ?_⟩) (by assumption) ?_
  rotate_left
  · intro w hSw; (try dsimp only at hSw); go_simp; try with_reducible rfl
  simp only [Act.put, sA, sB, sC]
  refine wpAnyH_take (i := 2) (oi := ⟨some 6, .fieldAddr 78 (.tmp 5) 0, 0, "scan.go:75", #[.mk 1 .data], none⟩) (v := ?_) rfl (by kernel_rfl) (by kernel_rfl) (by kernel_rfl) (fun _ _ _ h => h) (Or.inl ⟨by rfl, ?_⟩) (by assumption) ?_
  rotate_left
  · intro w hSw; (try dsimp only at hSw); go_simp; try with_reducible rfl
  simp only [Act.put, sA, sB, sC]
  refine wpAnyH_take (i := 3) (oi := ⟨some 7, .load 3 (.tmp 6), 3, "scan.go:75", #[.mk 2 .data], none⟩) (v := ?_) rfl (by kernel_rfl) (by kernel_rfl) (by kernel_rfl) (fun _ _ _ h => h) (Or.inl ⟨by rfl, ?_⟩) (by assumption) ?_
  rotate_left
  · intro w hSw; (try dsimp only at hSw); go_simp; try with_reducible rfl
  simp only [Act.put, sA, sB, sC]
  refine wpAnyH_take (i := 4) (oi := ⟨some 8, .move (.tmp 0), 50, "scan.go:75", #[], none⟩) (v := ?_) rfl (by kernel_rfl) (by kernel_rfl) (by kernel_rfl) (fun _ _ _ h => h) (Or.inl ⟨by rfl, ?_⟩) (by assumption) ?_
  rotate_left
  · intro w hSw; (try dsimp only at hSw); go_simp; try with_reducible rfl
  simp only [Act.put, sA, sB, sC]
  refine wpAnyH_take (i := 5) (oi := ⟨some 9, .nilCheck (.tmp 8), 0, "scan.go:75", #[.mk 4 .data], none⟩) (v := ?_) rfl (by kernel_rfl) (by kernel_rfl) (by kernel_rfl) (fun _ _ _ h => h) (Or.inl ⟨by rfl, ?_⟩) (by assumption) ?_
  rotate_left
  · intro w hSw; (try dsimp only at hSw); go_simp; try with_reducible rfl
  simp only [Act.put, sA, sB, sC]
  refine wpAnyH_take (i := 6) (oi := ⟨some 10, .fieldAddr 78 (.tmp 9) 2, 0, "scan.go:75", #[.mk 5 .data], none⟩) (v := ?_) rfl (by kernel_rfl) (by kernel_rfl) (by kernel_rfl) (fun _ _ _ h => h) (Or.inl ⟨by rfl, ?_⟩) (by assumption) ?_
  rotate_left
  · intro w hSw; (try dsimp only at hSw); go_simp; try with_reducible rfl
  simp only [Act.put, sA, sB, sC]
  refine wpAnyH_take (i := 7) (oi := ⟨some 11, .load 24 (.tmp 10), 24, "scan.go:75", #[.mk 6 .data], none⟩) (v := ?_) rfl (by kernel_rfl) (by kernel_rfl) (by kernel_rfl) (fun _ _ _ h => h) (Or.inl ⟨by rfl, ?_⟩) (by assumption) ?_
  rotate_left
  · intro w hSw; (try dsimp only at hSw); go_simp; try with_reducible rfl
  simp only [Act.put, sA, sB, sC]
  refine wpAnyH_take (i := 8) (oi := ⟨some 12, .build 26 #[(0, .tmp 7), (1, .const (Value.int IntKind.i64 0)), (2, .tmp 11)], 26, "scan.go:75", #[.mk 3 .data, .mk 7 .data], none⟩) (v := ?_) rfl (by kernel_rfl) (by kernel_rfl) (by kernel_rfl) (fun _ _ _ h => h) (Or.inl ⟨by rfl, ?_⟩) (by assumption) ?_
  rotate_left
  · intro w hSw; (try dsimp only at hSw); go_simp; try with_reducible rfl
  simp only [Act.put, sA, sB, sC]
  refine wpAnyH_ready (rs := [9]) (by kernel_rfl) (by simp) (AllReadyH.cons (o := ⟨some 3, .alloc 26, 0, "scan.go:75", #[], none⟩) rfl (fun KK hK => ?_) AllReadyH.nil)
  · obtain ⟨wy, tb, ey, er, hs⟩ := hs.allocEx #[.int .i64 0, .int .i64 0, .int .i64 0] 26
    go_simp
    try rw [ey]
    try rw [er]
    clear ey er
    refine hK.out _ _ (⟨hs.p2.rawCell 0, hs.p2.rawCell 2⟩) (fun hHeld => ?_)
    clear hK KK
    try simp only [Act.put, sA, sB, sC]
    refine wpAnyH_ready (rs := [10]) (by kernel_rfl) (by simp) (AllReadyH.cons (o := ⟨none, .store 26 (.tmp 3) (.tmp 12), 0, "scan.go:75", #[.mk 9 .data, .mk 8 .data, .mk 0 .phase, .mk 1 .phase, .mk 2 .phase, .mk 3 .phase, .mk 4 .phase, .mk 5 .phase, .mk 6 .phase, .mk 7 .phase, .mk 8 .phase, .mk 9 .phase], none⟩) rfl (fun KK hK => ?_) AllReadyH.nil)
    · rw [if_pos (by rfl)]
      refine wp_store_mid 26 (.tmp 3) (.tmp 12) rfl tb 0 #[.int .i64 valid, .int .i64 0, .int .i64 0] (by rfl) (by rfl) hs.there (by kernel_rfl) (by simp [Value.oneCell']) ?_
      obtain ⟨wz, ez, hs⟩ := hs.storeEx #[.int .i64 valid, .int .i64 0, .int .i64 0]
      rw [ez]
      clear ez
      rw [setAll_allV] at hs
      rotate_left
      · rfl
      refine hK.out _ _ (⟨hs.p2.rawCell 0, hs.p2.rawCell 2⟩) (fun hHeld => ?_)
      clear hK KK
      try simp only [Act.put, sA, sB, sC]
      refine wpAnyH_done (by kernel_rfl) ?_ _
      clear hHeld
      go_wp2_with fail
      go_meet
      exact ⟨tb, rfl, hs⟩
 obtain ⟨tb, rfl, h⟩ := hcut
 clear H
 have H := Lib.hid h
 have hne := St.raw_neS h
 have hne2 := fun hh => hne (Eq.symm hh)
 have a0 := h.rawCell 0
 have a1 := h.rawCell 1
 have a2 := h.rawCell 2
 have r1 := h.rawFree 1
 have b0 := h.p1.rawFree 0
 have b1 := h.p1.rawFree 1
 have b2 := h.p1.rawFree 2
 have d0 := h.p1.rawCell 0
 have d1 := h.p1.rawCell 1
 have d2 := h.p1.rawCell 2
 have c0 := h.p2.rawCell 0
 have c1 := h.p2.rawCell 1
 have c2 := h.p2.rawCell 2
 simp at a0 a1 a2 d0 d1 d2 c0 c1 c2
 clear h
 go_wp2_with fail
 have hz : St W0 _ _ (.raw rb #[.int .i64 valid, .int .i64 0, .int .i64 0] 26 :: .raw tb _ 26 :: _) := (((H.out.p1.rawSet 0 (.int .i64 valid)).rawSet 1 (.int .i64 0)).rawSet 2 (.int .i64 0))
 refine bodyPost_ret (rc_cell_only rfl _ _ rb [.int .i64 valid, .int .i64 0, .int .i64 0] _ rfl (rc_range hz) Try.underlying26 rfl (by kernel_rfl)) rfl ?_
 exact ⟨rfl, hz.drop.drop⟩

end Go.Proofs.Ytngojlinfdokpaa

/- A text. -/
namespace Go.Proofs.Ytngojlinfdokpaa
open Go.RowKit

theorem strs_at {W0 w : World} {K : Know} {L : List Res} {q : Option Addr} {n cap : Nat} {l : List Bs} (hk : K.has (Know.strs (.slice q n cap) l)) (h : St W0 w K L) (h0 : 0 < l.length) : ∃ b off, q = some ⟨b, off, none⟩ := by
 obtain ⟨F, hF, _⟩ := h.get
 obtain ⟨q2, cap2, hv, hr⟩ := strRows.at (hk _ _ hF)
 obtain ⟨b, off, hq, _⟩ := hr h0
 simp at hv
 exact ⟨b, off, hv.1.trans hq⟩
theorem strs_cell {W0 w : World} {K : Know} {L : List Res} {b off n cap : Nat} {l : List Bs} (hk : K.has (Know.strs (.slice (some ⟨b, off, none⟩) n cap) l)) (h : St W0 w K L) (i : Nat) (hi : i < l.length) (x : Bs) (hx : l[i] = x) :
  w.cell? ⟨b, off + i, none⟩ = some (.string (bb x)) := by
 subst hx
 obtain ⟨F, hF, _⟩ := h.get
 obtain ⟨q2, cap2, hv, hr⟩ := strRows.at (hk _ _ hF)
 obtain ⟨b2, off2, hq, hc⟩ := hr (by omega)
 rw [hq] at hv
 simp at hv
 obtain ⟨⟨rfl, rfl⟩, _, _⟩ := hv
 exact hc i hi
end Go.Proofs.Ytngojlinfdokpaa

/- A text. -/
namespace Go.Proofs.Ytngojlinfdokpaa
open Go.RowKit

set_option maxHeartbeats 8000000 in
set_option maxRecDepth 100000 in
theorem scan_scan (l : List Bs) (A : Bs) (hA : l.flatten = A) (hAl : A.length ≤ 90000) (q : Option Addr) (cap : Nat) (hll : l.length ≤ 1000000) {W0 w : World} {K : Know} {L : List Res} (hk : K.has (Know.strs (.slice q l.length cap) l)) (h : St W0 w K L) :
  Calls Try.prog 7 #[.slice q l.length cap] w fun en w' => ∃ (q2 : Option Addr) (cap2 : Nat) (lr : List BatR), en = .returned (.tuple #[.slice q2 lr.length cap2, .agg #[.int .i64 ((finS A).2.1 : Nat), .int .i64 (stopS (finS A).2.2.1 (finS A).2.2.2), .int .i64 (finS A).2.2.2]]) ∧ lr.map BatR.b = (finS A).1 ∧ (∀ x ∈ lr, LiteR x) ∧ 61 * lr.length ≤ A.length ∧ (((q2 = none ∧ cap2 = 0) ∨ ∃ g, q2 = some ⟨g, 0, none⟩) ∧ lr.length ≤ cap2) ∧ St W0 w' (K.and (Know.bats (.slice q2 lr.length cap2) lr)) L := by
 obtain ⟨rb, hrb⟩ : ∃ b, w.heap.size = b := ⟨_, rfl⟩
 have g1 := h.allocRaw #[.int .i64 0, .int .i64 0, .int .i64 0] 26
 rw [hrb] at g1
 have H := Lib.hid g1
 have HK := Lib.hid hk
 have HAE := Lib.hid hA
 have HAL := Lib.hid hAl
 have hli : (l.length : Int) ≤ 1000000 := by omega
 clear h g1 hk hA hAl hll
 go_enter Try.func7, Try.ntmps7
 go_wp2_with (go_at_call 16; (with_reducible refine (scan_new H.out).mono ?_); rintro e_ wn ⟨sb, rfl, h⟩; replace H := Lib.hid h; clear h)
 go_loopw [5, 7, 11] (fun lv _ iv wr => ∃ (k : Nat) (acc : List BatR) (K2 : Know) (v : Value), k ≤ l.length ∧ iv = .int .i64 k ∧ Hid (acc.map BatR.b = (finS ((l.take k).flatten)).1) ∧ Hid (K2.has K) ∧ Hid (∀ x ∈ acc, K2.has (Know.recs (.slice x.q x.l.length x.cap) x.l)) ∧ Hid (∀ x ∈ acc, LiteR x) ∧ St W0 wr K2 (.row lv 37 12 acc.length (acc.flatMap batcells) :: .raw sb #[.int .i64 ((finS ((l.take k).flatten)).2.1 : Nat), v, .int .i64 (finS ((l.take k).flatten)).2.2.2] 78 :: .row v 5 1 (finS ((l.take k).flatten)).2.2.1.length (bvals (finS ((l.take k).flatten)).2.2.1) :: .raw rb #[.int .i64 0, .int .i64 0, .int .i64 0] 26 :: L)) (fun _ _ iv _ => l.length - (intOf iv).toNat)
 case atStart => exact ⟨0, [], K, .slice none 0 0, Nat.zero_le _, rfl, Lib.hid (by rw [List.take_zero]; show _ = (finS []).1; rw [fin_nil]; rfl), Lib.hid (Know.has_refl _), Lib.hid (fun x hx => by cases hx), Lib.hid (fun x hx => by cases hx), by
  rw [List.take_zero]
  show St W0 _ K (.row (.slice none 0 0) 37 12 0 [] :: .raw sb #[.int .i64 ((finS []).2.1 : Nat), .slice none 0 0, .int .i64 (finS []).2.2.2] 78 :: .row (.slice none 0 0) 5 1 (finS []).2.2.1.length (bvals (finS []).2.2.1) :: .raw rb #[.int .i64 0, .int .i64 0, .int .i64 0] 26 :: L)
  rw [fin_nil]
  exact (H.out.nilRow 5 1).p1.nilRow 37 12⟩
 case round =>
  obtain ⟨k, acc, K2, v, hkl, rfl, HMAP, HKK, HREC, HLIT, hst⟩ := hrel
  clear H
  have hAk : ((l.take k).flatten).length ≤ 90000 := by
    have h1 : l.flatten = ((l.take k).flatten) ++ (l.drop k).flatten := by rw [← List.flatten_append, List.take_append_drop]
    have h2 := congrArg List.length h1
    rw [List.length_append, HAE.out] at h2
    have := HAL.out
    omega
  have hcn := fin_count ((l.take k).flatten)
  have hfr := fin_rest ((l.take k).flatten)
  have hac := congrArg List.length HMAP.out
  rw [List.length_map] at hac
  have HAB := Lib.hid (show acc.length ≤ 2000 by omega)
  obtain ⟨⟨bs, vd, rs, er⟩, hfe⟩ : ∃ r, finS ((l.take k).flatten) = r := ⟨_, rfl⟩
  replace hst : St W0 wr K2 (.row u5 37 12 acc.length (acc.flatMap batcells) :: .raw sb #[.int .i64 (vd : Nat), v, .int .i64 er] 78 :: .row v 5 1 rs.length (bvals rs) :: .raw rb #[.int .i64 0, .int .i64 0, .int .i64 0] 26 :: L) := by rw [hfe] at hst; exact hst
  rw [hfe] at hfr
  simp only at hfr
  have H := Lib.hid hst
  by_cases hlt : k < l.length
  · obtain ⟨b0, off, hqq⟩ := strs_at HK.out (H.out.know HKK.out) (by omega)
    subst hqq
    obtain ⟨c, hc⟩ : ∃ c, l[k] = c := ⟨_, rfl⟩
    have c0 := strs_cell HK.out (H.out.know HKK.out) k hlt c hc
    have hkn : (k : Int) < (l.length : Int) := by omega
    have hAn : (l.take (k + 1)).flatten = ((l.take k).flatten) ++ c := by rw [List.take_succ_eq_append_getElem hlt, List.flatten_append, hc]; simp
    have hAkn : ((l.take (k + 1)).flatten).length ≤ 90000 := by
      have h1 : l.flatten = (l.take (k + 1)).flatten ++ (l.drop (k + 1)).flatten := by rw [← List.flatten_append, List.take_append_drop]
      have h2 := congrArg List.length h1
      rw [List.length_append, HAE.out] at h2
      have := HAL.out
      omega
    rw [hAn, List.length_append] at hAkn
    have HANX := Lib.hid hAn
    have HFE := Lib.hid hfe
    by_cases he : er = 0
    · subst he
      obtain ⟨T, hT⟩ : ∃ T, rs ++ c = T := ⟨_, rfl⟩
      have hTl := congrArg List.length hT
      rw [List.length_append] at hTl
      have HT := Lib.hid hT
      have HTL := Lib.hid (show T.length ≤ 100000 by omega)
      have HV := Lib.hid (show vd ≤ 1000000 by omega)
      have HSL := Lib.hid (show (scanS T).1.length ≤ 10000 by
        have := fin_count T
        have h8 : (finS T).1 = (scanS T).1 := rfl
        rw [h8] at this
        omega)
      have HFG := Lib.hid (show finS ((l.take (k + 1)).flatten) = (bs ++ (scanS T).1, vd + (T.length - (scanS T).2.1.length), (if (scanS T).2.2 ≠ 0 then [] else (scanS T).2.1), (scanS T).2.2) by
        have h7 := fin_good ((l.take k).flatten) c (by rw [hfe])
        rw [hAn, h7, hfe]
        simp only
        rw [hT])
      clear hst hc hAn hAkn hfe hfr hcn hac hAk hT hTl
      go_wp2_with (first
  | (go_at_call 17; (with_reducible refine (scan_feed sb vd rs c T HT.out v HTL.out HV.out H.out.p2.p2).mono ?_); rintro e_ wn ⟨v', q', cap', lr', rfl, hqc, hlr, hlit, _, h⟩; have h := h.p2; have HQC := Lib.hid hqc; have HLR := Lib.hid hlr; have HLIT2 := Lib.hid hlit; clear hqc hlr hlit; replace H := Lib.hid h; clear h)
  | (at_builtin; refine wpl_appbats rfl _ _ rfl u5 _ _ rfl H.out q' cap' lr' rfl (Know.has_right (Know.has_refl _)) HQC.out (by have := HAB.out; have h9 := congrArg List.length HLR.out; rw [List.length_map] at h9; have := HSL.out; omega) ?_; intro v2 w2 h; replace H := Lib.hid h; clear h))
      go_roundw
      case rel => exact ⟨k + 1, acc ++ lr', K2.and (Know.bats (.slice q' lr'.length cap') lr'), v', hlt, by go_num, Lib.hid (by rw [HFG.out, List.map_append, HMAP.out, HLR.out, HFE.out]), Lib.hid (Know.has_trans (Know.has_left (Know.has_refl _)) HKK.out), Lib.hid (fun x hx => by
        rcases List.mem_append.1 hx with hx | hx
        · exact Know.has_left (HREC.out x hx)
        · exact bats_recs (Know.has_right (Know.has_refl _)) hx), Lib.hid (fun x hx => by
        rcases List.mem_append.1 hx with hx | hx
        · exact HLIT.out x hx
        · exact HLIT2.out x hx), by rw [HFG.out, List.length_append, List.flatMap_append]; exact H.out⟩
      case measure => first | (simp [intOf]; done) | (simp [intOf]; omega)
    · have HER := Lib.hid he
      have HFG := Lib.hid (show finS ((l.take (k + 1)).flatten) = (bs, vd, rs, er) by
        rw [hAn, fin_bad ((l.take k).flatten) c (by rw [hfe]; exact he), hfe])
      clear hst hc hAn hAkn hfe hfr hcn hac hAk he
      go_wp2_with (first
  | (go_at_call 17; (with_reducible refine (feed_bad sb c _ v er HER.out H.out.p1).mono ?_); rintro e_ wn ⟨rfl, h⟩; have h := h.p1; replace H := Lib.hid h; clear h)
  | (at_builtin; refine wpl_appbats rfl _ _ rfl u5 _ _ rfl H.out none 0 [] rfl (bats_nilS _) (fun _ => rfl) (by have := HAB.out; simp only [List.length_nil]; omega) ?_; intro v2 w2 h; replace H := Lib.hid h; clear h))
      go_roundw
      case rel => exact ⟨k + 1, acc, K2, v, hlt, by go_num, Lib.hid (by rw [HFG.out, HMAP.out, HFE.out]), Lib.hid HKK.out, Lib.hid HREC.out, Lib.hid HLIT.out, by rw [HFG.out]; have h := H.out; simp only [List.flatMap_nil, List.append_nil, List.length_nil, Nat.add_zero] at h; exact h⟩
      case measure => first | (simp [intOf]; done) | (simp [intOf]; omega)
  · obtain rfl : k = l.length := by omega
    have HFE := Lib.hid (show finS A = (bs, vd, rs, er) by rw [← HAE.out, ← hfe, List.take_length])
    have HMAP2 := Lib.hid (show acc.map BatR.b = bs by rw [HMAP.out, hfe])
    have HCNT := Lib.hid (show 61 * acc.length ≤ A.length by rw [List.take_length, HAE.out] at hcn; rw [List.take_length, HAE.out] at hac; omega)
    have hform : ∃ q2 cap2, u5 = .slice q2 acc.length cap2 ∧ ((q2 = none ∧ cap2 = 0) ∨ ∃ g, q2 = some ⟨g, 0, none⟩) ∧ acc.length ≤ cap2 := by
      rcases hst.rowGet.2 with ⟨e1, e2⟩ | ⟨g2, cap2, _, e1, _, _, e4, _⟩
      · exact ⟨none, 0, by rw [e1, e2], .inl ⟨rfl, rfl⟩, by omega⟩
      · exact ⟨_, cap2, e1, .inr ⟨g2, rfl⟩, e4⟩
    obtain ⟨q2, cap2, rfl, hq2⟩ := hform
    have HQ2 := Lib.hid hq2
    have hf := hst.freezeBats HREC.out
    have hf := hf.know (K' := K.and (Know.bats _ acc)) (fun w F hh => ⟨HKK.out _ _ hh.1, hh.2⟩)
    obtain ⟨pv, cv, hpv⟩ := hf.p1.rowAny
    subst hpv
    clear H HMAP
    have HMAP := HMAP2
    clear HMAP2
    have H := Lib.hid hf
    clear hst hfe hfr hcn hac hAk hf hq2
    by_cases he : er = 0
    · subst he
      by_cases hr : rs = []
      · subst hr
        go_wp2_with (go_at_call 18; (with_reducible refine (close_clean sb vd pv _ cv rfl H.out).mono ?_); rintro e_ wn ⟨rfl, h⟩; have h := h.p2; have d0 := h.rawCell 0; have b0 := h.rawFree 0; have d1 := h.rawCell 1; have b1 := h.rawFree 1; have d2 := h.rawCell 2; have b2 := h.rawFree 2; simp at d0 d1 d2; replace H := Lib.hid h; clear h)
        have hz : St W0 _ _ (.raw rb #[.int .i64 vd, .int .i64 0, .int .i64 0] 26 :: _) := (((H.out.rawSet 0 (.int .i64 vd)).rawSet 1 (.int .i64 0)).rawSet 2 (.int .i64 0))
        refine bodyPost_ret (rc_tmp_cellS rfl _ _ rb [.int .i64 vd, .int .i64 0, .int .i64 0] _ rfl (rc_range hz) Try.underlying26 rfl (by kernel_rfl)) rfl ?_
        exact ⟨q2, cap2, acc, by rw [HFE.out]; rfl, by rw [HFE.out]; exact HMAP.out, HLIT.out, HCNT.out, HQ2.out, hz.drop.drop.drop⟩
      · have hrl := List.length_pos_iff.2 hr
        have HRL2 := Lib.hid hrl
        have hst2 : stopS rs 0 = 1 := by unfold stopS; rw [if_neg (by simp), if_pos hr]
        have HST2 := Lib.hid hst2
        clear hr hrl hst2
        go_wp2_with (go_at_call 18; (with_reducible refine (close_torn sb vd pv _ cv HRL2.out H.out).mono ?_); rintro e_ wn ⟨rfl, h⟩; have h := h.p2; have d0 := h.rawCell 0; have b0 := h.rawFree 0; have d1 := h.rawCell 1; have b1 := h.rawFree 1; have d2 := h.rawCell 2; have b2 := h.rawFree 2; simp at d0 d1 d2; replace H := Lib.hid h; clear h)
        have hz : St W0 _ _ (.raw rb #[.int .i64 vd, .int .i64 1, .int .i64 0] 26 :: _) := (((H.out.rawSet 0 (.int .i64 vd)).rawSet 1 (.int .i64 1)).rawSet 2 (.int .i64 0))
        refine bodyPost_ret (rc_tmp_cellS rfl _ _ rb [.int .i64 vd, .int .i64 1, .int .i64 0] _ rfl (rc_range hz) Try.underlying26 rfl (by kernel_rfl)) rfl ?_
        exact ⟨q2, cap2, acc, by rw [HFE.out]; show _ = Ending.returned (.tuple #[_, .agg #[_, .int .i64 (stopS rs 0), _]]); rw [HST2.out]; rfl, by rw [HFE.out]; exact HMAP.out, HLIT.out, HCNT.out, HQ2.out, hz.drop.drop.drop⟩
    · have HER := Lib.hid he
      have hst2 : stopS rs er = 2 := by unfold stopS; rw [if_pos he]
      have HST2 := Lib.hid hst2
      clear he hst2
      go_wp2_with (go_at_call 18; (with_reducible refine (close_bad sb vd pv _ cv er HER.out H.out).mono ?_); rintro e_ wn ⟨rfl, h⟩; have h := h.p2; have d0 := h.rawCell 0; have b0 := h.rawFree 0; have d1 := h.rawCell 1; have b1 := h.rawFree 1; have d2 := h.rawCell 2; have b2 := h.rawFree 2; simp at d0 d1 d2; replace H := Lib.hid h; clear h)
      have hz : St W0 _ _ (.raw rb #[.int .i64 vd, .int .i64 2, .int .i64 er] 26 :: _) := (((H.out.rawSet 0 (.int .i64 vd)).rawSet 1 (.int .i64 2)).rawSet 2 (.int .i64 er))
      refine bodyPost_ret (rc_tmp_cellS rfl _ _ rb [.int .i64 vd, .int .i64 2, .int .i64 er] _ rfl (rc_range hz) Try.underlying26 rfl (by kernel_rfl)) rfl ?_
      exact ⟨q2, cap2, acc, by rw [HFE.out]; show _ = Ending.returned (.tuple #[_, .agg #[_, .int .i64 (stopS rs er), _]]); rw [HST2.out]; rfl, by rw [HFE.out]; exact HMAP.out, HLIT.out, HCNT.out, HQ2.out, hz.drop.drop.drop⟩

end Go.Proofs.Ytngojlinfdokpaa

/- A text. -/
namespace Go.Proofs.Ytngojlinfdokpaa
open Go.RowKit

end Go.Proofs.Ytngojlinfdokpaa

/- A text. -/
namespace Go.Proofs.Ytngojlinfdokpaa
open Go.RowKit
open Go.ChangeShapes Go.WideShapes Go.ChangeAt Go.Deep

section
variable {H : Type} {enc : TypeId × Value → H} {w : World} {spare : Nat → Bool} {held : Bool}

end

theorem RowsOf.part {α : Type} {R : World → List Value → α → Prop} {Q : α → Prop} {D : Nat → Prop} {w : World} {v : Value} {sz : Nat} {l : List α} (h : RowsOf (fun w cs x => R w cs x ∧ Q x) D w v sz l) : RowsOf R D w v sz l ∧ ∀ x ∈ l, Q x := by
 refine ⟨h.mono (fun _ _ h => h) (fun _ _ h => h.1), fun x hx => ?_⟩
 obtain ⟨i, hi, rfl⟩ := List.mem_iff_getElem.1 hx
 obtain ⟨p, cap, rfl, h⟩ := h
 obtain ⟨b, off, rfl, _, _, hc⟩ := h (by omega)
 obtain ⟨cs, _, h2, _⟩ := hc i hi
 exact h2.2

end Go.Proofs.Ytngojlinfdokpaa

/- A text. -/
namespace Go.Proofs.Ytngojlinfdokpaa
open Go.RowKit

section
variable {H : Type} {enc : TypeId × Value → H} {w : World} {spare : Nat → Bool} {held : Bool}
open Go.ChangeShapes Go.WideShapes Go.ChangeAt Go.Deep
end
end Go.Proofs.Ytngojlinfdokpaa

/- A text. -/
namespace Go.Proofs.Ytngojlinfdokpaa
open Go.RowKit

end Go.Proofs.Ytngojlinfdokpaa

/- A text. -/
namespace Go.Proofs.Ytngojlinfdokpaa
open Go.RowKit

theorem lite_hdrs {x : BatR} (h : LiteR x) : x.l.length ≤ 1000000 ∧ ∀ y ∈ x.l, y.1.hdrs.length ≤ 9223372036854775807 := by
 obtain ⟨h1, h2, h3⟩ := h
 refine ⟨by have := congrArg List.length h1; rw [List.length_map] at this; omega, fun y hy => ?_⟩
 have := sum_hdrs (h3 y.1 (by rw [← h1]; exact List.mem_map_of_mem hy))
 omega
set_option maxHeartbeats 6000000 in
set_option maxRecDepth 100000 in
theorem ref11_rowsT (l1 l2 : List BatR) (q1 q2 : Option Addr) (cap1 cap2 : Nat) (hx : l1.map BatR.b = l2.map BatR.b) (hf1 : ∀ x ∈ l1, LiteR x) (hf2 : ∀ x ∈ l2, LiteR x) (hn : l1.length ≤ 100000) {W0 w : World} {K : Know} {L : List Res} (hk1 : K.has (Know.bats (.slice q1 l1.length cap1) l1)) (hk2 : K.has (Know.bats (.slice q2 l2.length cap2) l2)) (h : St W0 w K L) :
  Calls Try.prog 9 #[.slice q1 l1.length cap1, .slice q2 l2.length cap2] w fun en w' => en = .returned (.bool true) ∧ St W0 w' K L := by
 have H := Lib.hid h
 have HK1 := Lib.hid hk1
 have HK2 := Lib.hid hk2
 have HF1 := Lib.hid hf1
 have HF2 := Lib.hid hf2
 have HX := Lib.hid hx
 have hll : l1.length = l2.length := by have := congrArg List.length hx; rwa [List.length_map, List.length_map] at this
 have HLL := Lib.hid hll
 have hni : (l1.length : Int) ≤ 100000 := by omega
 have g0 : ((l1.length : Int) == (l2.length : Int)) = true := by rw [hll]; exact beq_self_eq_true _
 have g1 : ((l1.length : Int) != (l2.length : Int)) = false := by simp [bne, g0]
 clear h hk1 hk2 hf1 hf2 hx hll
 go_enter Try.func9, Try.ntmps9
 go_wp2
 go_loopw [5] (fun iv wr => ∃ k : Nat, k ≤ l1.length ∧ iv = .int .i64 k ∧ St W0 wr K L) (fun iv _ => l1.length - (intOf iv).toNat)
 case atStart => exact ⟨0, Nat.zero_le _, rfl, H.out⟩
 case round =>
  obtain ⟨k, hkl, rfl, hst⟩ := hrel
  clear H
  have H := Lib.hid hst
  clear hst
  by_cases hlt : k < l1.length
  · have hlt2 : k < l2.length := by rw [← HLL.out]; exact hlt
    obtain ⟨bk1, off1, hq1⟩ := bats_at HK1.out H.out (by omega)
    obtain ⟨bk2, off2, hq2⟩ := bats_at HK2.out H.out (by omega)
    subst hq1
    subst hq2
    obtain ⟨⟨b, xl1, xq1, xc1⟩, hx1⟩ : ∃ x, l1[k] = x := ⟨_, rfl⟩
    obtain ⟨⟨b2, xl2, xq2, xc2⟩, hx2⟩ : ∃ x, l2[k] = x := ⟨_, rfl⟩
    have hm1 : (⟨b, xl1, xq1, xc1⟩ : BatR) ∈ l1 := hx1 ▸ List.getElem_mem hlt
    have hm2 : (⟨b2, xl2, xq2, xc2⟩ : BatR) ∈ l2 := hx2 ▸ List.getElem_mem hlt2
    obtain rfl : b = b2 := by
      have h1 : (l1.map BatR.b)[k]? = some b := by rw [List.getElem?_map, List.getElem?_eq_getElem hlt, hx1]; rfl
      have h2 : (l2.map BatR.b)[k]? = some b2 := by rw [List.getElem?_map, List.getElem?_eq_getElem hlt2, hx2]; rfl
      rw [HX.out, h2] at h1
      exact (Option.some.inj h1).symm
    have hkn : (k : Int) < (l1.length : Int) := by omega
    have hkn2 : (k : Int) < (l2.length : Int) := by omega
    have HKA := Lib.hid (show K.has (Know.recs (.slice xq1 xl1.length xc1) xl1) from bats_recs HK1.out hm1)
    have HKB := Lib.hid (show K.has (Know.recs (.slice xq2 xl2.length xc2) xl2) from bats_recs HK2.out hm2)
    have HN1 := Lib.hid (show xl1.length ≤ 1000000 from (lite_hdrs (HF1.out _ hm1)).1)
    have HD1 := Lib.hid (show ∀ y ∈ xl1, y.1.hdrs.length ≤ 9223372036854775807 from (lite_hdrs (HF1.out _ hm1)).2)
    have HD2 := Lib.hid (show ∀ y ∈ xl2, y.1.hdrs.length ≤ 9223372036854775807 from (lite_hdrs (HF2.out _ hm2)).2)
    have HX1 := Lib.hid (show xl1.map (·.1) = b.recs from (HF1.out _ hm1).1)
    have HX2 := Lib.hid (show xl2.map (·.1) = b.recs from (HF2.out _ hm2).1)
    have HKP := Lib.hid (show ∀ w', St W0 w' K L → (w'.cell? ⟨bk1, off1 + k * 12, none⟩ = some (.int .i64 b.base) ∧ w'.cell? ⟨bk1, off1 + k * 12 + 1, none⟩ = some (.int .i64 b.leader) ∧ w'.cell? ⟨bk1, off1 + k * 12 + 2, none⟩ = some (.bool b.app) ∧ w'.cell? ⟨bk1, off1 + k * 12 + 3, none⟩ = some (.bool b.txn) ∧ w'.cell? ⟨bk1, off1 + k * 12 + 4, none⟩ = some (.bool b.ctl) ∧ w'.cell? ⟨bk1, off1 + k * 12 + 5, none⟩ = some (.int .i64 b.last) ∧ w'.cell? ⟨bk1, off1 + k * 12 + 6, none⟩ = some (.int .i64 b.first) ∧ w'.cell? ⟨bk1, off1 + k * 12 + 7, none⟩ = some (.int .i64 b.maxt) ∧ w'.cell? ⟨bk1, off1 + k * 12 + 8, none⟩ = some (.int .i64 b.prod) ∧ w'.cell? ⟨bk1, off1 + k * 12 + 9, none⟩ = some (.int .i64 b.epoch) ∧ w'.cell? ⟨bk1, off1 + k * 12 + 10, none⟩ = some (.int .i64 b.seq) ∧ w'.cell? ⟨bk1, off1 + k * 12 + 11, none⟩ = some (.slice xq1 xl1.length xc1) ∧ w'.cell? ⟨bk2, off2 + k * 12, none⟩ = some (.int .i64 b.base) ∧ w'.cell? ⟨bk2, off2 + k * 12 + 1, none⟩ = some (.int .i64 b.leader) ∧ w'.cell? ⟨bk2, off2 + k * 12 + 2, none⟩ = some (.bool b.app) ∧ w'.cell? ⟨bk2, off2 + k * 12 + 3, none⟩ = some (.bool b.txn) ∧ w'.cell? ⟨bk2, off2 + k * 12 + 4, none⟩ = some (.bool b.ctl) ∧ w'.cell? ⟨bk2, off2 + k * 12 + 5, none⟩ = some (.int .i64 b.last) ∧ w'.cell? ⟨bk2, off2 + k * 12 + 6, none⟩ = some (.int .i64 b.first) ∧ w'.cell? ⟨bk2, off2 + k * 12 + 7, none⟩ = some (.int .i64 b.maxt) ∧ w'.cell? ⟨bk2, off2 + k * 12 + 8, none⟩ = some (.int .i64 b.prod) ∧ w'.cell? ⟨bk2, off2 + k * 12 + 9, none⟩ = some (.int .i64 b.epoch) ∧ w'.cell? ⟨bk2, off2 + k * 12 + 10, none⟩ = some (.int .i64 b.seq) ∧ w'.cell? ⟨bk2, off2 + k * 12 + 11, none⟩ = some (.slice xq2 xl2.length xc2)) from fun w' hs => by
      obtain ⟨a0, a1, a2, a3, a4, a5, a6, a7, a8, a9, a10, a11⟩ := bats_cell HK1.out hs k hlt _ hx1
      obtain ⟨d0, d1, d2, d3, d4, d5, d6, d7, d8, d9, d10, d11⟩ := bats_cell HK2.out hs k hlt2 _ hx2
      exact ⟨a0, a1, a2, a3, a4, a5, a6, a7, a8, a9, a10, a11, d0, d1, d2, d3, d4, d5, d6, d7, d8, d9, d10, d11⟩)
    clear hx1 hx2 hm1 hm2
    go_wp2
    have hs := H.out.drew
    refine wp_region_held_drew (S := fun w' => w'.cell? ⟨bk1, off1 + k * 12, none⟩ = some (.int .i64 b.base) ∧ w'.cell? ⟨bk1, off1 + k * 12 + 1, none⟩ = some (.int .i64 b.leader) ∧ w'.cell? ⟨bk1, off1 + k * 12 + 2, none⟩ = some (.bool b.app) ∧ w'.cell? ⟨bk1, off1 + k * 12 + 3, none⟩ = some (.bool b.txn) ∧ w'.cell? ⟨bk1, off1 + k * 12 + 4, none⟩ = some (.bool b.ctl) ∧ w'.cell? ⟨bk1, off1 + k * 12 + 5, none⟩ = some (.int .i64 b.last) ∧ w'.cell? ⟨bk1, off1 + k * 12 + 6, none⟩ = some (.int .i64 b.first) ∧ w'.cell? ⟨bk1, off1 + k * 12 + 7, none⟩ = some (.int .i64 b.maxt) ∧ w'.cell? ⟨bk1, off1 + k * 12 + 8, none⟩ = some (.int .i64 b.prod) ∧ w'.cell? ⟨bk1, off1 + k * 12 + 9, none⟩ = some (.int .i64 b.epoch) ∧ w'.cell? ⟨bk1, off1 + k * 12 + 10, none⟩ = some (.int .i64 b.seq) ∧ w'.cell? ⟨bk1, off1 + k * 12 + 11, none⟩ = some (.slice xq1 xl1.length xc1) ∧ w'.cell? ⟨bk2, off2 + k * 12, none⟩ = some (.int .i64 b.base) ∧ w'.cell? ⟨bk2, off2 + k * 12 + 1, none⟩ = some (.int .i64 b.leader) ∧ w'.cell? ⟨bk2, off2 + k * 12 + 2, none⟩ = some (.bool b.app) ∧ w'.cell? ⟨bk2, off2 + k * 12 + 3, none⟩ = some (.bool b.txn) ∧ w'.cell? ⟨bk2, off2 + k * 12 + 4, none⟩ = some (.bool b.ctl) ∧ w'.cell? ⟨bk2, off2 + k * 12 + 5, none⟩ = some (.int .i64 b.last) ∧ w'.cell? ⟨bk2, off2 + k * 12 + 6, none⟩ = some (.int .i64 b.first) ∧ w'.cell? ⟨bk2, off2 + k * 12 + 7, none⟩ = some (.int .i64 b.maxt) ∧ w'.cell? ⟨bk2, off2 + k * 12 + 8, none⟩ = some (.int .i64 b.prod) ∧ w'.cell? ⟨bk2, off2 + k * 12 + 9, none⟩ = some (.int .i64 b.epoch) ∧ w'.cell? ⟨bk2, off2 + k * 12 + 10, none⟩ = some (.int .i64 b.seq) ∧ w'.cell? ⟨bk2, off2 + k * 12 + 11, none⟩ = some (.slice xq2 xl2.length xc2)) (by kernel_rfl) (HKP.out _ hs) (fun hHeld => ?_)
    refine wpAnyH_take (i := 0) (oi := ⟨some 17, .move (.tmp 0), 23, "ref.go:193", #[], none⟩) (v := ?_) rfl (by kernel_rfl) (by kernel_rfl) (by kernel_rfl) (fun _ _ _ h => h) (Or.inl ⟨by rfl, ?_⟩) (by assumption) ?_
    rotate_left
    · intro w hSw; (try dsimp only at hSw); go_simp; try with_reducible rfl
    simp only [Act.put, sA, sB, sC]
    refine wpAnyH_take (i := 1) (oi := ⟨some 18, .move (.tmp 5), 3, "ref.go:193", #[], none⟩) (v := ?_) rfl (by kernel_rfl) (by kernel_rfl) (by kernel_rfl) (fun _ _ _ h => h) (Or.inl ⟨by rfl, ?_⟩) (by assumption) ?_
    rotate_left
    · intro w hSw; (try dsimp only at hSw); go_simp; try with_reducible rfl
    simp only [Act.put, sA, sB, sC]
    refine wpAnyH_take (i := 2) (oi := ⟨some 19, .indexAddr 23 (.tmp 17) (.tmp 18), 0, "ref.go:193", #[.mk 0 .data, .mk 1 .data], none⟩) (v := ?_) rfl (by kernel_rfl) (by kernel_rfl) (by kernel_rfl) (fun _ _ _ h => h) (Or.inl ⟨by rfl, ?_⟩) (by assumption) ?_
    rotate_left
    · intro w hSw; (try dsimp only at hSw); go_simp; try with_reducible rfl
    simp only [Act.put, sA, sB, sC]
    refine wpAnyH_take (i := 3) (oi := ⟨some 20, .load 37 (.tmp 19), 37, "ref.go:193", #[.mk 2 .data], none⟩) (v := ?_) rfl (by kernel_rfl) (by kernel_rfl) (by kernel_rfl) (fun _ _ _ h => h) (Or.inl ⟨by rfl, ?_⟩) (by assumption) ?_
    rotate_left
    · intro w hSw; (try dsimp only at hSw); go_simp; try with_reducible rfl
    simp only [Act.put, sA, sB, sC]
    refine wpAnyH_take (i := 4) (oi := ⟨some 21, .move (.tmp 1), 23, "ref.go:193", #[], none⟩) (v := ?_) rfl (by kernel_rfl) (by kernel_rfl) (by kernel_rfl) (fun _ _ _ h => h) (Or.inl ⟨by rfl, ?_⟩) (by assumption) ?_
    rotate_left
    · intro w hSw; (try dsimp only at hSw); go_simp; try with_reducible rfl
    simp only [Act.put, sA, sB, sC]
    refine wpAnyH_take (i := 5) (oi := ⟨some 22, .move (.tmp 5), 3, "ref.go:193", #[], none⟩) (v := ?_) rfl (by kernel_rfl) (by kernel_rfl) (by kernel_rfl) (fun _ _ _ h => h) (Or.inl ⟨by rfl, ?_⟩) (by assumption) ?_
    rotate_left
    · intro w hSw; (try dsimp only at hSw); go_simp; try with_reducible rfl
    simp only [Act.put, sA, sB, sC]
    refine wpAnyH_take (i := 6) (oi := ⟨some 23, .indexAddr 23 (.tmp 21) (.tmp 22), 0, "ref.go:193", #[.mk 4 .data, .mk 5 .data], none⟩) (v := ?_) rfl (by kernel_rfl) (by kernel_rfl) (by kernel_rfl) (fun _ _ _ h => h) (Or.inl ⟨by rfl, ?_⟩) (by assumption) ?_
    rotate_left
    · intro w hSw; (try dsimp only at hSw); go_simp; try with_reducible rfl
    simp only [Act.put, sA, sB, sC]
    refine wpAnyH_take (i := 7) (oi := ⟨some 24, .load 37 (.tmp 23), 37, "ref.go:193", #[.mk 6 .data], none⟩) (v := ?_) rfl (by kernel_rfl) (by kernel_rfl) (by kernel_rfl) (fun _ _ _ h => h) (Or.inl ⟨by rfl, ?_⟩) (by assumption) ?_
    rotate_left
    · intro w hSw; (try dsimp only at hSw); go_simp; try with_reducible rfl
    simp only [Act.put, sA, sB, sC]
    refine wpAnyH_ready (rs := [8]) (by kernel_rfl) (by simp) (AllReadyH.cons (o := ⟨some 25, .call { callee := .value (.func 21), args := #[.tmp 20, .tmp 24], argTypes := #[37, 37] }, 4, "ref.go:193", #[.mk 3 .data, .mk 7 .data], none⟩) rfl (fun KK hK => ?_) AllReadyH.nil)
    · go_simp
      go_at_call 21
      with_reducible refine (ref11_sameT b xl1 xl2 xq1 xq2 xc1 xc2 HN1.out HX1.out HX2.out HD1.out HD2.out HKA.out HKB.out hs).mono ?_
      rintro e wq ⟨rfl, hs⟩
      refine hK.out _ _ (HKP.out _ hs) (fun hHeld => ?_)
      clear hK KK
      try simp only [Act.put, sA, sB, sC]
      refine wpAnyH_take (i := 9) (oi := ⟨some 26, .unOp UnOp.not 4 (.tmp 25), 4, "ref.go:193", #[.mk 8 .data], none⟩) (v := ?_) rfl (by kernel_rfl) (by kernel_rfl) (by kernel_rfl) (fun _ _ _ h => h) (Or.inl ⟨by rfl, ?_⟩) (by assumption) ?_
      rotate_left
      · intro w hSw; (try dsimp only at hSw); go_simp; try with_reducible rfl
      simp only [Act.put, sA, sB, sC]
      refine wpAnyH_done (by kernel_rfl) ?_ _
      clear hHeld
      go_wp2_with fail
      go_roundw
      case rel => exact ⟨k + 1, hlt, by go_num, hs⟩
      case measure => first | (simp [intOf]; done) | (simp [intOf]; omega)
  · obtain rfl : k = l1.length := by omega
    go_wp2
    go_ret
    exact ⟨rfl, H.out⟩

end Go.Proofs.Ytngojlinfdokpaa

/- A text. -/
namespace Go.Proofs.Ytngojlinfdokpaa
open Go.RowKit

theorem scan_any (l : List Bs) (A : Bs) (hA : l.flatten = A) (bs : List BatS) (pv : Nat) (rest : Bs) (pe ps : Int) (hf : finS A = (bs, pv, rest, pe)) (hps : stopS rest pe = ps) (hl : A.length ≤ 90000) (q : Option Addr) (cap : Nat) (hll : l.length ≤ 1000000) {W0 w : World} {K : Know} {L : List Res} (hk : K.has (Know.strs (.slice q l.length cap) l)) (h : St W0 w K L) :
  Calls Try.prog 7 #[.slice q l.length cap] w fun en w' => ∃ (q : Option Addr) (cap : Nat) (lr : List BatR), en = .returned (.tuple #[.slice q lr.length cap, .agg #[.int .i64 (pv : Nat), .int .i64 ps, .int .i64 pe]]) ∧ lr.map BatR.b = bs ∧ (∀ x ∈ lr, LiteR x) ∧ 61 * lr.length ≤ A.length ∧ (((q = none ∧ cap = 0) ∨ ∃ g, q = some ⟨g, 0, none⟩) ∧ lr.length ≤ cap) ∧ St W0 w' (K.and (Know.bats (.slice q lr.length cap) lr)) L := by
 refine (scan_scan l A hA hl q cap hll hk h).mono ?_
 rintro en wn ⟨q2, cap2, lr, rfl, h1, h2, h3, h4, h5⟩
 rw [hf] at h1
 refine ⟨q2, cap2, lr, ?_, h1, h2, h3, h4, h5⟩
 rw [hf, ← hps]
theorem scan_one (A : Bs) (bs : List BatS) (pv : Nat) (rest : Bs) (pe ps : Int) (hf : finS A = (bs, pv, rest, pe)) (hps : stopS rest pe = ps) (hl : A.length ≤ 90000) (r : Nat) {W0 w : World} {K : Know} {L : List Res} (h : St W0 w K (.raw r #[.string (bb A)] 9 :: L)) :
  Calls Try.prog 7 #[.slice (some ⟨r, 0, none⟩) 1 1] w fun en w' => ∃ (q : Option Addr) (cap : Nat) (lr : List BatR), en = .returned (.tuple #[.slice q lr.length cap, .agg #[.int .i64 (pv : Nat), .int .i64 ps, .int .i64 pe]]) ∧ lr.map BatR.b = bs ∧ (∀ x ∈ lr, LiteR x) ∧ 61 * lr.length ≤ A.length ∧ (((q = none ∧ cap = 0) ∨ ∃ g, q = some ⟨g, 0, none⟩) ∧ lr.length ≤ cap) ∧ St W0 w' (K.and (Know.bats (.slice q lr.length cap) lr)) L := by
 refine (scan_any [A] A (by simp) bs pv rest pe ps hf hps hl (some ⟨r, 0, none⟩) 1 (by show 1 ≤ 1000000; decide) (Know.has_right (Know.has_refl _)) h.freezeStr).mono ?_
 rintro en wn ⟨q2, cap2, lr, h0, h1, h2, h3, h4, h5⟩
 exact ⟨q2, cap2, lr, h0, h1, h2, h3, h4, h5.know (Know.has_and (Know.has_left (Know.has_left (Know.has_refl _))) (Know.has_right (Know.has_refl _)))⟩
theorem scan_two (s t A : Bs) (hA : s ++ t = A) (bs : List BatS) (pv : Nat) (rest : Bs) (pe ps : Int) (hf : finS A = (bs, pv, rest, pe)) (hps : stopS rest pe = ps) (hl : A.length ≤ 90000) (r : Nat) {W0 w : World} {K : Know} {L : List Res} (h : St W0 w K (.raw r #[.string (bb s), .string (bb t)] 9 :: L)) :
  Calls Try.prog 7 #[.slice (some ⟨r, 0, none⟩) 2 2] w fun en w' => ∃ (q : Option Addr) (cap : Nat) (lr : List BatR), en = .returned (.tuple #[.slice q lr.length cap, .agg #[.int .i64 (pv : Nat), .int .i64 ps, .int .i64 pe]]) ∧ lr.map BatR.b = bs ∧ (∀ x ∈ lr, LiteR x) ∧ 61 * lr.length ≤ A.length ∧ (((q = none ∧ cap = 0) ∨ ∃ g, q = some ⟨g, 0, none⟩) ∧ lr.length ≤ cap) ∧ St W0 w' (K.and (Know.bats (.slice q lr.length cap) lr)) L := by
 refine (scan_any [s, t] A (by simpa using hA) bs pv rest pe ps hf hps hl (some ⟨r, 0, none⟩) 2 (by show 2 ≤ 1000000; decide) (Know.has_right (Know.has_refl _)) (St.freezeStrs [s, t] h)).mono ?_
 rintro en wn ⟨q2, cap2, lr, h0, h1, h2, h3, h4, h5⟩
 exact ⟨q2, cap2, lr, h0, h1, h2, h3, h4, h5.know (Know.has_and (Know.has_left (Know.has_left (Know.has_refl _))) (Know.has_right (Know.has_refl _)))⟩
end Go.Proofs.Ytngojlinfdokpaa

/- A text. -/
namespace Go.Proofs.Ytngojlinfdokpaa
open Go.RowKit

end Go.Proofs.Ytngojlinfdokpaa

/- A text. -/
namespace Go.Proofs.Ytngojlinfdokpaa
open Go.RowKit

end Go.Proofs.Ytngojlinfdokpaa

/- A text. -/
namespace Go.Proofs.Ytngojlinfdokpaa
open Go.RowKit

theorem fin_speak (s : Bs) (hs : noneB.enc = s) : ∃ rest, finS (s ++ s.take 30) = ([noneB], 61, rest, 0) ∧ stopS rest 0 = 1 := by
 have hl : s.length = 61 := by rw [← hs]; exact nobody_enc
 obtain ⟨x, hx⟩ : ∃ x : BatR, x.b = noneB := ⟨⟨noneB, [], none, 0⟩, rfl⟩
 have e2 : encB [x, x] = s ++ s := by rw [encB_cons, encB_one, hx, hs]
 have e1 : encB ([x, x].take 1) = s := by show encB [x] = s; rw [encB_one, hx, hs]
 obtain ⟨rest, h1, h2⟩ := fin_cut [x, x] (by intro y hy; have : y = x := by simpa using hy
                                             subst this; rw [hx]; exact so_none) 91 1 (by rw [e2, List.length_append]; omega) (Nat.le_add_left 1 1) (by rw [e1]; omega) (fun _ => by show 91 < (encB [x, x]).length; rw [e2, List.length_append]; omega)
 rw [e1] at h1 h2
 rw [e2, hl, List.take_append, List.take_of_length_le (by omega), hl] at h1
 refine ⟨rest, ?_, ?_⟩
 · rw [h1]; show ([x.b], 61, rest, 0) = _; rw [hx]
 · unfold stopS
   rw [if_neg (by simp), if_pos (by intro h; rw [h, hl] at h2; simp at h2)]

end Go.Proofs.Ytngojlinfdokpaa

/- A text. -/
namespace Go.Proofs.Ytngojlinfdokpaa
open Go.RowKit

set_option maxHeartbeats 4000000 in
set_option maxRecDepth 100000 in
theorem speaks23 {W0 w : World} {K : Know} {L : List Res} (h : St W0 w K L) :
  Calls Try.prog 6 #[] w fun en w' => en = .returned (.bool true) ∧ ∃ K2 : Know, K2.has K ∧ St W0 w' K2 L := by
 obtain ⟨s, hs⟩ : ∃ s, noneB.enc = s := ⟨_, rfl⟩
 have HS := Lib.hid hs
 have hsl : s.length = 61 := by rw [← hs]; exact nobody_enc
 have c1 : ((s.length : Int) == 61) = true := by rw [hsl]; rfl
 have c2 : ((s.length : Int) != 61) = false := by rw [hsl]; rfl
 have c3 : (30 : Int) ≤ (s.length : Int) := by omega
 have c4 : 30 ≤ s.length := by omega
 obtain ⟨rest, hfs, hst⟩ := fin_speak s hs
 obtain ⟨T, hT⟩ : ∃ T, s ++ s.take 30 = T := ⟨_, rfl⟩
 obtain ⟨pv, hpv⟩ : ∃ pv : Nat, 61 = pv := ⟨_, rfl⟩
 have c5 : ((pv : Int) == 61) = true := by rw [← hpv]; rfl
 rw [hT, hpv] at hfs
 have HF := Lib.hid hfs
 have HP := Lib.hid hst
 have HT := Lib.hid hT
 have HTL := Lib.hid (show T.length ≤ 90000 by rw [← hT, List.length_append, List.length_take]; omega)
 have H := Lib.hid h
 clear h hs hsl hfs hst hT hpv
 go_enter Try.func6, Try.ntmps6
 go_wp2_with (first
  | (go_at_call 15; (with_reducible refine (encode_none s HS.out H.out).mono ?_); rintro e_ wn ⟨rfl, h⟩; replace H := Lib.hid h; clear h)
  | (go_at_call 7; (with_reducible refine (scan_two s (s.take 30) T HT.out [noneB] pv rest 0 1 HF.out HP.out HTL.out _ (H.out.allocRaw _ _)).mono ?_); rintro e_ wn ⟨qa, capa, la, rfl, hma, hla, hca, hqa, h⟩; have HMa := Lib.hid hma; have HLa := Lib.hid hla; have HCa := Lib.hid hca; have HQa := Lib.hid hqa; clear hma hla hca hqa; obtain ⟨px, hpx⟩ : ∃ b, wn.heap.size = b := ⟨_, rfl⟩; have h := h.allocRaw #[.int .i64 pv, .int .i64 1, .int .i64 0] 26; rw [hpx] at h; have px0 := h.rawCell 0; have px1 := h.rawCell 1; have px2 := h.rawCell 2; simp at px0 px1 px2; have hla1 : ((la.length : Int) == 1) = true := (by have h7 := congrArg List.length HMa.out; rw [List.length_map] at h7; rw [h7]; rfl); replace H := Lib.hid h; clear h))
 go_ret
 exact ⟨rfl, _, Know.has_left (Know.has_refl _), H.out.drop⟩

end Go.Proofs.Ytngojlinfdokpaa

/- A text. -/
namespace Go.Proofs.Ytngojlinfdokpaa
open Go.RowKit

theorem attr_one (a : Int) (h : chk a = 0) : attrN (bitAt a 3) (bitAt a 4) (bitAt a 5) 3 = a ∧ (bitAt a 5 = true → bitAt a 4 = true) := by
 have hr : 0 ≤ a ∧ a ≤ 63 := by
  unfold chk at h
  split at h
  · cases h
  · split at h
    · cases h
    · rename_i _ h2
      simp only [Bool.or_eq_true, decide_eq_true_eq, not_or] at h2
      omega
 have key : ∀ k : Fin 64, chk (k.val : Int) = 0 → attrN (bitAt k.val 3) (bitAt k.val 4) (bitAt k.val 5) 3 = k.val ∧ (bitAt k.val 5 = true → bitAt k.val 4 = true) := by decide
 have := key ⟨a.toNat, by omega⟩
 simp only at this
 rw [show ((a.toNat : Nat) : Int) = a by omega] at this
 exact this h
theorem sumItem_back (v : Int) (h : -2147483648 ≤ v ∧ v < 2147483648) : sumItem (v % 4294967296) = v := by
 unfold sumItem
 rw [if_neg (by omega)]
 split <;> omega
theorem preX_bytes {s : Bs} (h : 61 ≤ s.length) (h2 : (preX s).2 = 2) : encInts (preX s).1.items = s.take 61 := by
 have e := enc_intsOf preSizes s h
 have hs : preSizes.sum = 61 := rfl
 rw [hs] at e
 rw [← e]
 have h4 := sInt_range4 ((s.drop 17).take 4) (by rw [List.length_take]; omega)
 have h5 := sumItem_back _ h4
 have e2 : intsOf preSizes s = [sInt (s.take 8), sInt ((s.drop 8).take 4), sInt ((s.drop 12).take 4), sInt ((s.drop 16).take 1), sInt ((s.drop 17).take 4), sInt ((s.drop 21).take 2), sInt ((s.drop 23).take 4), sInt ((s.drop 27).take 8), sInt ((s.drop 35).take 8), sInt ((s.drop 43).take 8), sInt ((s.drop 51).take 2), sInt ((s.drop 53).take 4), sInt ((s.drop 57).take 4)] := by
  unfold preSizes
  simp only [intsOf, List.drop_drop, Nat.reduceAdd]
 unfold preX at h2 ⊢
 rw [e2] at h2 ⊢
 have h3 : sInt ((s.drop 16).take 1) = 2 := h2
 rw [h3]
 show encInts (PreS.items ⟨_, _, _, sInt ((s.drop 17).take 4) % 4294967296, _, _, _, _, _, _, _, _⟩) = _
 unfold PreS.items
 simp only [h5]
 rfl
theorem unp_enc : ∀ (n : Nat) (rows : Bs) (pos : Nat) (rs : List RecS), pos ≤ rows.length → unp n ⟨rows, pos, 0⟩ = .ok rs → rows.drop pos = rs.flatMap encR
  | 0, rows, pos, rs, hp, h => by
    have h : (if (⟨rows, pos, 0⟩ : InS).left = 0 then Except.ok [] else Except.error (10 : Int)) = Except.ok rs := h
    by_cases c1 : (⟨rows, pos, 0⟩ : InS).left = 0
    · rw [if_pos c1] at h
      cases h
      have c2 : rows.length - pos = 0 := c1
      rw [List.drop_of_length_le (by omega)]
      rfl
    · rw [if_neg c1] at h; cases h
  | n + 1, rows, pos, rs, hp, h => by
    have h : (if (⟨rows, pos, 0⟩ : InS).left = 0 then .error 10 else if (⟨rows, pos, 0⟩ : InS).record.2.err = 0 then consE (⟨rows, pos, 0⟩ : InS).record.1 (unp n (⟨rows, pos, 0⟩ : InS).record.2) else .error (⟨rows, pos, 0⟩ : InS).record.2.err) = .ok rs := h
    by_cases c1 : (⟨rows, pos, 0⟩ : InS).left = 0
    · rw [if_pos c1] at h; cases h
    rw [if_neg c1] at h
    cases hr : reRec (rows.drop pos) with
    | error e =>
      obtain ⟨he, q, _, hf⟩ := rds_rec.err rows pos e hp hr
      rw [hf] at h
      simp only at h
      rw [if_neg he] at h
      cases h
    | ok y =>
      obtain ⟨x, m⟩ := y
      obtain ⟨hpm, hf⟩ := rds_rec.ok rows pos x m hp hr
      rw [hf] at h
      simp only [if_true] at h
      cases hu : unp n ⟨rows, pos + m, 0⟩ with
      | error e => rw [hu] at h; cases h
      | ok t =>
        rw [hu] at h
        have h : Except.ok (x :: t) = Except.ok rs := h
        injection h with h
        subst h
        have i1 := unp_enc n rows (pos + m) t hpm hu
        have j1 := (reRec_one hr).1
        rw [List.flatMap_cons, ← i1, j1, ← List.drop_drop, List.take_append_drop]
theorem reBat_one {s : Bs} {b : BatS} {n : Nat} (h : reBat s = .ok (b, n)) : b.enc = s.take n ∧ batErr b = 0 ∧ b.rowsB.length ≤ s.length ∧ b.recs.length ≤ s.length ∧ ∀ x ∈ b.recs, x.R ∧ recOk x = 0 ∧ x.sum ≤ s.length := by
 obtain ⟨x, hp, hn, hns, ha⟩ := reBat_ok h
 obtain ⟨p1, p2, p3, p4, p5⟩ := rePre_ok hp
 obtain ⟨a1, a2, rs, a3, a4, a5⟩ := asmB_ok ha
 obtain ⟨k, hk⟩ : ∃ k, (x.len - 49).toNat = k := ⟨_, rfl⟩
 rw [hk] at hn a1 a3
 obtain ⟨rows, hrw⟩ : ∃ r, (s.drop 61).take k = r := ⟨_, rfl⟩
 rw [hrw] at a1 a3
 have hrl : rows.length = k := by rw [← hrw, List.length_take, List.length_drop]; omega
 have u1 := unp_enc _ _ _ _ (Nat.zero_le _) a3
 obtain ⟨u2, u3, u4⟩ := unp_fit _ _ _ _ (Nat.zero_le _) a3
 rw [List.drop_zero] at u1
 have hrb : b.rowsB = rows := by rw [u1, a5]; rfl
 have hrc : b.recs = rs := by rw [a5]
 obtain ⟨at1, at2⟩ := attr_one x.attr a2
 have hpre : b.pre x.sum = x := by
   unfold BatS.pre
   rw [hrb, hrc, hrl, u2]
   rw [a5]
   simp only
   rw [at1, show 49 + ((k : Nat) : Int) = x.len by omega, show ((x.count.toNat : Nat) : Int) = x.count by omega]
 have hby := preX_bytes p1 p3
 rw [p2] at hby
 have hbk : (s.take 61).drop 21 = b.back := by rw [← hby, ← hpre, b.pre_drop]
 have hcr : (b.crc : Int) = x.sum := by
   unfold BatS.crc
   rw [← hbk, hrb]
   exact a1
 refine ⟨?_, by rw [a5]; exact a4, by rw [hrb, hrl]; omega, by rw [hrc]; omega, fun y hy => ?_⟩
 · unfold BatS.enc
   rw [hcr, hpre, hby, hrb, ← hrw, hn, List.take_add]
 · rw [hrc] at hy
   obtain ⟨v1, v2, v3⟩ := u4 y hy
   exact ⟨v1, v2, by omega⟩

end Go.Proofs.Ytngojlinfdokpaa

/- A text. -/
namespace Go.Proofs.Ytngojlinfdokpaa
open Go.RowKit

theorem re_of_fs {R : Bs} {b : BatS} {n : Nat} (h : firstS R = .ok (some (b, n))) : reBat R = .ok (b, n) := by
 unfold firstS at h
 by_cases c1 : R.length < 61
 · rw [if_pos c1] at h; cases h
 rw [if_neg c1] at h
 unfold reBat
 cases hp : rePre R with
 | error e2 => rw [hp] at h; cases h
 | ok x =>
  rw [hp] at h
  simp only at h ⊢
  by_cases c2 : R.length < 61 + (x.len - 49).toNat
  · rw [if_pos c2] at h; cases h
  rw [if_neg c2] at h
  rw [if_neg c2]
  cases ha : asmB x (R.take 61) ((R.drop 61).take (x.len - 49).toNat) with
  | error e2 => rw [ha] at h; cases h
  | ok b2 => rw [ha] at h; cases h; rfl
theorem pre_R64 {s : Bs} {x : PreS} (h : rePre s = .ok x) : Rn x.base ∧ Rn x.leader ∧ Rn x.last ∧ Rn x.first ∧ Rn x.maxt ∧ Rn x.prod ∧ Rn x.epoch ∧ Rn x.seq := by
 obtain ⟨h1, h2, _, h3, h4⟩ := rePre_ok h
 rw [preX_eq] at h2
 have h2 := h2.symm
 subst h2
 have r : ∀ (k m : Nat), m ≤ 8 → Rn (sInt ((s.drop k).take m)) := fun k m hm => sInt_range _ (by rw [List.length_take]; omega)
 exact ⟨r 0 8 (by decide), r 12 4 (by decide), r 23 4 (by decide), r 27 8 (by decide), r 35 8 (by decide), r 43 8 (by decide), r 51 2 (by decide), r 53 4 (by decide)⟩
structure MidOk (b : BatS) : Prop where
  fit : ∀ x ∈ b.recs, x.R ∧ recOk x = 0 ∧ x.sum ≤ 2000
  len : b.recs.length ≤ 1000
  err : batErr b = 0
  rng : b.R
  rows : b.rowsB.length ≤ 2000
theorem rows_two : ∀ (l : List RecS), 2 * l.length ≤ (l.flatMap encR).length
  | [] => by simp
  | x :: t => by
    have h1 := rows_two t
    have h2 : 2 ≤ (encR x).length := by
      have h3 := encV_pos x.key
      have h4 : 2 ≤ (recF x).length := by unfold recF; simp only [List.length_append, List.length_cons, List.length_nil]; omega
      show 2 ≤ (putU _ ++ recF x).length
      rw [List.length_append]
      omega
    rw [List.flatMap_cons, List.length_append, List.length_cons]
    omega
theorem MidOk.of {s : Bs} {b : BatS} {n : Nat} (h : reBat s = .ok (b, n)) (hl : s.length ≤ 1500) : MidOk b := by
 obtain ⟨h1, h2, h3, h4, h5⟩ := reBat_one h
 obtain ⟨x, hp, _, _, ha⟩ := reBat_ok h
 obtain ⟨_, _, rs, _, _, hb⟩ := asmB_ok ha
 have hr := pre_R64 hp
 have h6 := rows_two b.recs
 have h7 : (b.recs.flatMap encR).length = b.rowsB.length := rfl
 refine ⟨fun y hy => ?_, by omega, h2, ?_, by omega⟩
 · obtain ⟨v1, v2, v3⟩ := h5 y hy
   exact ⟨v1, v2, by omega⟩
 · rw [hb]; exact hr
theorem fs_nil : firstS [] = .ok none := by unfold firstS; rw [if_pos (by decide)]
theorem scan_back : ∀ (f : Nat) (R : Bs), R.length ≤ f → (scanS R).2.1 = [] → (scanS R).1.flatMap BatS.enc = R := by
 intro f
 induction f with
 | zero =>
  intro R h _
  obtain rfl : R = [] := List.eq_nil_of_length_eq_zero (by omega)
  rw [scanS_none fs_nil]
  rfl
 | succ f ih =>
  intro R h hr
  cases hf : firstS R with
  | error e =>
   rw [scanS_err hf] at hr
   have hr : R = [] := hr
   rw [hr, fs_nil] at hf
   cases hf
  | ok o =>
   cases o with
   | none => rw [scanS_none hf] at hr ⊢; exact (show R = [] from hr).symm
   | some y =>
    obtain ⟨b, n⟩ := y
    have h3 := (fs_some hf).1
    rw [scanS_some hf] at hr ⊢
    have h4 := ih (R.drop n) (by rw [List.length_drop]; omega) hr
    show (b :: (scanS (R.drop n)).1).flatMap BatS.enc = R
    rw [List.flatMap_cons, h4, (reBat_one (re_of_fs hf)).1, List.take_append_drop]
theorem scan_mid : ∀ (f : Nat) (R : Bs), R.length ≤ f → R.length ≤ 1500 → ∀ b ∈ (scanS R).1, MidOk b := by
 intro f
 induction f with
 | zero =>
  intro R h _ b hb
  obtain rfl : R = [] := List.eq_nil_of_length_eq_zero (by omega)
  rw [scanS_none fs_nil] at hb
  cases hb
 | succ f ih =>
  intro R h hl b hb
  cases hf : firstS R with
  | error e => rw [scanS_err hf] at hb; cases hb
  | ok o =>
   cases o with
   | none => rw [scanS_none hf] at hb; cases hb
   | some y =>
    obtain ⟨c, n⟩ := y
    have h3 := (fs_some hf).1
    rw [scanS_some hf] at hb
    rcases List.mem_cons.1 hb with rfl | hb
    · exact MidOk.of (re_of_fs hf) hl
    · exact ih (R.drop n) (by rw [List.length_drop]; omega) (by rw [List.length_drop]; omega) b hb
theorem again_facts (s : Bs) (hl : s.length ≤ 1500) : ∃ (bs : List BatS) (V : Nat) (rest : Bs) (e : Int), finS s = (bs, V, rest, e) ∧ V ≤ s.length ∧ finS (s.take V) = (bs, V, [], 0) ∧ bs.flatMap BatS.enc = s.take V ∧ (stopS rest e = 0 ↔ V = s.length) ∧ (stopS rest e = 2 ↔ e ≠ 0) ∧ ∀ b ∈ bs, MidOk b := by
 obtain ⟨k, hk, h1, h2, h3, h4, _⟩ := scan_rest s.length s (Nat.le_refl _)
 have hm := scan_mid s.length s (Nat.le_refl _) hl
 have hkl : (s.take k).length = k := by rw [List.length_take]; omega
 have hb := scan_back k (s.take k) (by omega) (by rw [h4])
 rw [h4] at hb
 have hV : s.length - (scanS s).2.1.length = k := by rw [h1, List.length_drop]; omega
 have h6 : finS (s.take k) = ((scanS s).1, k, [], 0) := by unfold finS; rw [h4, hkl]; simp
 by_cases he : (scanS s).2.2 = 0
 · refine ⟨(scanS s).1, k, s.drop k, 0, by unfold finS; rw [hV, he, if_neg (by simp), h1], hk, h6, hb, ?_, ?_, hm⟩
   · unfold stopS
     rw [if_neg (by simp)]
     by_cases c : k = s.length
     · rw [if_neg (by rw [c, List.drop_length]; simp)]; simp [c]
     · rw [if_pos (by intro hh; have := congrArg List.length hh; rw [List.length_drop] at this; simp at this; omega)]; simp [c]
   · unfold stopS
     rw [if_neg (by simp)]
     by_cases c : s.drop k = []
     · rw [if_neg (by simp [c])]; simp
     · rw [if_pos c]; simp
 · refine ⟨(scanS s).1, k, [], (scanS s).2.2, by unfold finS; rw [hV, if_pos he], hk, h6, hb, ?_, ?_, hm⟩
   · unfold stopS
     rw [if_pos he]
     have h5 := h3 he
     constructor
     · intro hh; exact absurd hh (by decide)
     · intro hh; rw [hh, List.drop_length, fs_nil] at h5; cases h5
   · unfold stopS
     rw [if_pos he]
     simp [he]

end Go.Proofs.Ytngojlinfdokpaa

/- A text. -/
namespace Go.Proofs.Ytngojlinfdokpaa
open Go.RowKit

theorem bat_encode_mid (b : BatS) (l : List (RecS × Value)) (q : Option Addr) (cap : Nat) (hl : l.map (·.1) = b.recs) (so : MidOk b) {W0 w : World} {K : Know} {L : List Res} (hk : K.has (Know.recs (.slice q l.length cap) l)) (h : St W0 w K L) :
  Calls Try.prog 15 #[.agg #[.int .i64 b.base, .int .i64 b.leader, .bool b.app, .bool b.txn, .bool b.ctl, .int .i64 b.last, .int .i64 b.first, .int .i64 b.maxt, .int .i64 b.prod, .int .i64 b.epoch, .int .i64 b.seq, .slice q l.length cap]] w fun en w' => en = .returned (.tuple #[.string (bb b.enc), .int .i64 0]) ∧ St W0 w' K L := by
 have hrow := so.rows
 have hlen := so.len
 have hcr := b.crc_lt
 have hml : l.length = b.recs.length := by rw [← hl, List.length_map]
 have f0 := BatS.fitsAll so.err so.rng 0 (by decide) (by omega) (by omega)
 have f1 := BatS.fitsAll so.err so.rng b.crc (by omega) (by omega) (by omega)
 have r0 := BatS.pre_R so.err so.rng 0 (by decide) (by omega) (by omega)
 have r1 := BatS.pre_R so.err so.rng b.crc (by omega) (by omega) (by omega)
 have hmx : b.first ≤ 9223372036854775807 := by have := so.rng.2.2.2.1.2; omega
 have e0 : b.pre 0 = (⟨b.base, 49 + (b.rowsB.length : Int), b.leader, 0, attrN b.app b.txn b.ctl 3, b.last, b.first, b.maxt, b.prod, b.epoch, b.seq, (l.length : Int)⟩ : PreS) := by unfold BatS.pre; rw [hml]
 have e1 : b.pre b.crc = (⟨b.base, 49 + (b.rowsB.length : Int), b.leader, (b.crc : Int), attrN b.app b.txn b.ctl 3, b.last, b.first, b.maxt, b.prod, b.epoch, b.seq, (l.length : Int)⟩ : PreS) := by unfold BatS.pre; rw [hml]
 have i0 := ints_items f0
 have i1 := ints_items f1
 have hd0 := b.pre_drop 0
 have l0 := items_len (b.pre 0)
 have l1 := items_len (b.pre b.crc)
 have he : batErr ⟨b.base, b.leader, b.app, b.txn, b.ctl, b.last, b.first, b.maxt, b.prod, b.epoch, b.seq, l.map (·.1)⟩ = 0 := by rw [hl]; exact so.err
 have hrc : recsC (l.map (·.1)) = 0 := by rw [hl]; exact (batErr_zero so.err).2.2.2
 have hrw : encAll l = b.rowsB := by rw [encAll_rows, hl]; rfl
 have hfb : FitB l := by
  intro x hx
  obtain ⟨a, c, d⟩ := so.fit x.1 (by rw [← hl]; exact List.mem_map.2 ⟨x, hx, rfl⟩)
  have := hsum_fit x.1.hdrs 2000 (by unfold RecS.sum at d; omega)
  exact ⟨a, fun y hy => by have := this y hy; omega, by omega⟩
 have hall : encInts (b.pre b.crc).items ++ b.rowsB = b.enc := rfl
 have hx : (crcMore 0#32 ((encInts (b.pre 0).items).drop 21 ++ b.rowsB)).toNat = b.crc := by rw [hd0]; rfl
 rw [e0] at r0 i0
 rw [e1] at r1 i1
 obtain ⟨s0, hs0⟩ : ∃ s, encInts (b.pre 0).items = s := ⟨_, rfl⟩
 obtain ⟨s1, hs1⟩ : ∃ s, encInts (b.pre b.crc).items = s := ⟨_, rfl⟩
 have g0 : encInts (⟨b.base, 49 + (b.rowsB.length : Int), b.leader, 0, attrN b.app b.txn b.ctl 3, b.last, b.first, b.maxt, b.prod, b.epoch, b.seq, (l.length : Int)⟩ : PreS).items = s0 := e0 ▸ hs0
 have g1 : encInts (⟨b.base, 49 + (b.rowsB.length : Int), b.leader, (b.crc : Int), attrN b.app b.txn b.ctl 3, b.last, b.first, b.maxt, b.prod, b.epoch, b.seq, (l.length : Int)⟩ : PreS).items = s1 := e1 ▸ hs1
 rw [g0] at i0
 rw [g1] at i1
 rw [hs0] at hx l0
 rw [hs1] at hall l1
 exact bat_encode_ok b.base b.leader b.app b.txn b.ctl b.last b.first b.maxt b.prod b.epoch b.seq l q cap he hmx hfb (by omega) b.rowsB s0 s1 b.enc b.crc (attrN b.app b.txn b.ctl 3) hrc hrw (by omega) rfl r0 r1 i0 i1 l0 l1 hx hall hk h

theorem bat_encode_midE (b : BatS) (s : Bs) (hs : b.enc = s) (l : List (RecS × Value)) (q : Option Addr) (cap : Nat) (hl : l.map (·.1) = b.recs) (so : MidOk b) {W0 w : World} {K : Know} {L : List Res} (hk : K.has (Know.recs (.slice q l.length cap) l)) (h : St W0 w K L) :
  Calls Try.prog 15 #[.agg #[.int .i64 b.base, .int .i64 b.leader, .bool b.app, .bool b.txn, .bool b.ctl, .int .i64 b.last, .int .i64 b.first, .int .i64 b.maxt, .int .i64 b.prod, .int .i64 b.epoch, .int .i64 b.seq, .slice q l.length cap]] w fun en w' => en = .returned (.tuple #[.string (bb s), .int .i64 0]) ∧ St W0 w' K L := by
 subst hs
 exact bat_encode_mid b l q cap hl so hk h
theorem MidOk.elen {b : BatS} (h : MidOk b) : b.enc.length ≤ 2061 := by rw [b.enc_len]; have := h.rows; omega
theorem encB_le3 : ∀ (l : List BatR), (∀ x ∈ l, MidOk x.b) → (encB l).length ≤ 2061 * l.length
  | [], _ => by simp [encB]
  | x :: t, h => by
    have h1 := encB_le3 t (fun y hy => h y (by simp [hy]))
    have h2 := (h x (by simp)).elen
    have e : encB (x :: t) = x.b.enc ++ encB t := rfl
    rw [e, List.length_append, List.length_cons]
    omega

set_option maxHeartbeats 2000000 in
set_option maxRecDepth 100000 in
theorem bat_all_mid (l : List BatR) (q : Option Addr) (cap : Nat) (s : Bs) (hs : encB l = s) (hf : ∀ x ∈ l, x.l.map (·.1) = x.b.recs ∧ MidOk x.b) (hll : l.length ≤ 30) {W0 w : World} {K : Know} {L : List Res} (hk : K.has (Know.bats (.slice q l.length cap) l)) (h : St W0 w K L) :
  Calls Try.prog 8 #[.slice q l.length cap] w fun en w' => en = .returned (.tuple #[.string (bb s), .int .i64 0]) ∧ St W0 w' K L := by
 have g1 := h.allocOut
 obtain ⟨po, hpo⟩ : ∃ b, w.heap.size = b := ⟨_, rfl⟩
 rw [hpo] at g1
 have H := Lib.hid g1
 have HK := Lib.hid hk
 have HFT := Lib.hid hf
 have HLL := Lib.hid hll
 have HSE := Lib.hid hs
 clear h g1 hk hf hll hs
 go_enter Try.func8, Try.ntmps8
 go_wp2
 go_loopw [6, 7, 8, 11] (fun _ _ _ iv wr => ∃ k : Nat, k ≤ l.length ∧ iv = .int .i64 k ∧ St W0 wr K (.out po ⟨encB (l.take k), 0⟩ :: L)) (fun _ _ _ iv _ => l.length - (intOf iv).toNat)
 case atStart => exact ⟨0, Nat.zero_le _, rfl, H.out⟩
 case round =>
  obtain ⟨k, hkl, rfl, hst⟩ := hrel
  clear H
  have H := Lib.hid hst
  clear hst
  by_cases hlt : k < l.length
  · have hl20 : (l.length : Int) ≤ 30 := by have := HLL.out; omega
    have het := encB_take l k hlt
    obtain ⟨b, off, hqq⟩ := bats_at HK.out H.out (by omega)
    subst hqq
    obtain ⟨x, hx⟩ : ∃ x, l[k] = x := ⟨_, rfl⟩
    have cc := bats_cell HK.out H.out k hlt x hx
    have hmem : x ∈ l := hx ▸ List.getElem_mem hlt
    have XF := Lib.hid (HFT.out x hmem)
    have XR3 := Lib.hid XF.out.1
    have XM := Lib.hid XF.out.2
    have XK := Lib.hid (bats_recs HK.out hmem)
    obtain ⟨c0, c1, c2, c3, c4, c5, c6, c7, c8, c9, c10, c11⟩ := cc
    obtain ⟨wE, hwE⟩ : ∃ b, wr.heap.size = b := ⟨_, rfl⟩
    have hki : (k : Int) < (l.length : Int) := by omega
    have h := H.out.allocRaw #[.int .i64 x.b.base, .int .i64 x.b.leader, .bool x.b.app, .bool x.b.txn, .bool x.b.ctl, .int .i64 x.b.last, .int .i64 x.b.first, .int .i64 x.b.maxt, .int .i64 x.b.prod, .int .i64 x.b.epoch, .int .i64 x.b.seq, .slice x.q x.l.length x.cap] 37
    rw [hwE] at h
    clear H
    have H := Lib.hid h
    clear h
    rw [hx] at het
    obtain ⟨x0, x1, x2, x3, x4, x5, x6, x7, x8, x9, x10, x11, y0, y1, y2, y3, y4, y5, y6, y7, y8, y9, y10, y11⟩ := raw12 (b := wE) (H.out)
    obtain ⟨s0, hs0⟩ : ∃ s, x.b.enc = s := ⟨_, rfl⟩
    have HS := Lib.hid hs0
    rw [hs0] at het
    have OK := Lib.hid (show (⟨encB (l.take k), 0⟩ : OutS).ok s0.length by
     have h1 := encB_le3 (l.take k) (fun y hy => (HFT.out y (List.mem_of_mem_take hy)).2)
     have h2 := HLL.out
     have h3 := XM.out.elen
     rw [HS.out] at h3
     rw [List.length_take] at h1
     unfold OutS.ok
     simp only
     omega)
    have EP := Lib.hid (show (⟨encB (l.take k), 0⟩ : OutS).put s0 = ⟨encB (l.take (k + 1)), 0⟩ by rw [het]; rfl)
    clear het hs0 hx hmem
    go_wp2_with (first
  | (go_at_call 15; clear x0 y0 x1 y1 x2 y2 x3 y3 x4 y4 x5 y5 x6 y6 x7 y7 x8 y8 x9 y9 x10 y10 x11 y11; (with_reducible refine (bat_encode_midE x.b s0 HS.out x.l _ _ XR3.out XM.out XK.out H.out).mono ?_); rintro e_ wn ⟨rfl, h⟩; replace H := Lib.hid h; clear h; obtain ⟨x0, x1, x2, x3, x4, x5, x6, x7, x8, x9, x10, x11, y0, y1, y2, y3, y4, y5, y6, y7, y8, y9, y10, y11⟩ := raw12 (b := wE) (H.out))
  | (go_at_call 19; (with_reducible refine (so_put po _ _ H.out.p1 OK.out).mono ?_); rw [EP.out]; rintro e_ wn ⟨rfl, h⟩; replace H := Lib.hid h; clear h))
    go_roundw
    case rel => exact ⟨k + 1, hlt, by go_num, H.out.p1.drop⟩
    case measure => first | (simp [intOf]; done) | (simp [intOf]; omega)
  · obtain rfl : k = l.length := by omega
    have h := H.out
    rw [List.take_length, HSE.out] at h
    clear H
    have H := Lib.hid h
    clear h
    have ET := Lib.hid (show (⟨s, 0⟩ : OutS).text = (s, 0) from rfl)
    go_wp2_with (first
  | (go_at_call 20; (with_reducible refine (so_text po _ H.out).mono ?_); rw [ET.out]; rintro e_ wn ⟨rfl, h⟩; replace H := Lib.hid h; clear h))
    go_ret2
    exact ⟨rfl, H.out.drop⟩

end Go.Proofs.Ytngojlinfdokpaa
