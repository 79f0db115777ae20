/- A text. -/
import Derived.Test.YtngojlinfdokpaaGWholeTorn8
import Derived.Test.YtngojlinfdokpaaGWholeTorn5
import Derived.Laws.AppendOwnNone
import Derived.RegionTactic
import Derived.Deep.RegionHeld3
import Derived.Deep.DeepCutAuto
import Derived.WalkMore
import Derived.Test.YtngojlinfdokpaaGWholeTorn7
import Derived.Test.YtngojlinfdokpaaGWholeTorn3
import Derived.Test.YtngojlinfdokpaaArgs
import Derived.SizedLaws
import Derived.Deep.Slices
/- A text. -/
namespace Go.Proofs.Ytngojlinfdokpaa
open Go.RowKit

theorem flat_bats (l : List BatR) (i : Nat) (hi : i < l.length) (r : Nat) (hr : r < 12) : (l.flatMap batcells)[i * 12 + r]? = (batcells l[i])[r]? := flatMap_get l batcells 12 (fun _ _ => rfl) i hi r hr
theorem flat_batsL (l : List BatR) : (l.flatMap batcells).length = l.length * 12 := by
 induction l with
 | nil => rfl
 | cons x t ih => rw [List.flatMap_cons, List.length_append, ih, List.length_cons]; show 12 + _ = _; omega
theorem flat_batsO (l : List BatR) : ∀ u ∈ l.flatMap batcells, u.oneCell' = true := by
 intro u hu
 obtain ⟨x, _, hx⟩ := List.mem_flatMap.1 hu
 unfold batcells at hx
 simp only [List.mem_cons, List.not_mem_nil, or_false] at hx
 rcases hx with rfl | rfl | rfl | rfl | rfl | rfl | rfl | rfl | rfl | rfl | rfl | rfl <;> rfl
theorem bats_cellsAt {W0 w : World} {K : Know} {L : List Res} {b off n cap : Nat} {l : List BatR} (hk : K.has (Know.bats (.slice (some ⟨b, off, none⟩) n cap) l)) (h : St W0 w K L) (j : Nat) (u : Value) (hu : (l.flatMap batcells)[j]? = some u) : w.cell? ((⟨b, off, none⟩ : Addr).add j) = some u := by
 have hj : j < (l.flatMap batcells).length := (List.getElem?_eq_some_iff.1 hu).1
 rw [flat_batsL] at hj
 have hi : j / 12 < l.length := by omega
 have hr : j % 12 < 12 := Nat.mod_lt _ (by decide)
 have hjj : j / 12 * 12 + j % 12 = j := by omega
 rw [← hjj, flat_bats l _ hi _ hr] at hu
 obtain ⟨F, hF, _⟩ := h.get
 obtain ⟨q2, cap2, hv, hrr⟩ := (bats_flat hk _ _ hF).at
 obtain ⟨b2, off2, hq, hc⟩ := hrr (by omega)
 rw [hq] at hv
 simp at hv
 obtain ⟨⟨rfl, rfl⟩, _, _⟩ := hv
 obtain ⟨cs, _, hR, hcs⟩ := hc (j / 12) hi
 unfold RBat at hR
 have ha : (⟨b, off, none⟩ : Addr).add j = ⟨b, off + (j / 12 * 12 + j % 12), none⟩ := by unfold Addr.add; split <;> simp_all <;> omega
 rw [ha]
 skip
 refine hcs (j % 12) u ?_
 rw [hR]
 exact hu
theorem wpl_appbats {W0 w : World} {K : Know} {L : List Res} {ops : Array Oper} {rest : List Oper} {o : Oper} {a : Act} {Q : Exit → Act → World → Prop} (hgd : o.guard = none) (sl x : Operand)
    (ho : o.op = .call { callee := .builtin .append, args := #[sl, x], argTypes := #[23, 23] })
    (v : Value) (n : Nat) (xs : List Value) (hs : a.eval sl = v) (hst : St W0 w K (.row v 37 12 n xs :: L)) (q : Option Addr) (cap : Nat) (lr : List BatR) (hx : a.eval x = .slice q lr.length cap) (hk : K.has (Know.bats (.slice q lr.length cap) lr)) (hqc : q = none → cap = 0)
    (hb : n + lr.length ≤ 1000000) (h : ∀ v' w', St W0 w' K (.row v' 37 12 (n + lr.length) (xs ++ lr.flatMap batcells) :: L) → wpList Try.prog ops Q rest (a.put o.dst v') w') : wpList Try.prog ops Q (o :: rest) a w := by
  by_cases h0 : lr = []
  · subst h0
    cases q with
    | none =>
      obtain rfl := hqc rfl
      obtain ⟨i0, hi, _⟩ := elem_bat.1
      refine wpList_append_own_none hgd sl x 23 ho 0 37 i0 12 Try.underlying23 hi v n xs hs hst.rowGet hx (h v w ?_)
      show St W0 w K (.row v 37 12 (n + 0) (xs ++ []) :: L)
      rw [List.append_nil]
      exact hst
    | some ad =>
      exact wpl_app_st hgd sl x 23 ho 37 Try.underlying23 elem_bat v n xs hs hst ad 0 cap [] hx rfl (fun j u hj => by simp at hj) (fun u hu => by cases hu) (by simp only [List.length_nil] at hb; unfold maxLen; omega) (by simp only [List.length_nil] at hb; omega) h
  · obtain ⟨b, off, rfl⟩ := bats_at hk hst (List.length_pos_iff.2 h0)
    exact wpl_app_st hgd sl x 23 ho 37 Try.underlying23 elem_bat v n xs hs hst ⟨b, off, none⟩ lr.length cap (lr.flatMap batcells) hx (flat_batsL lr) (fun j u hj => bats_cellsAt hk hst j u hj) (flat_batsO lr) (by unfold maxLen; omega) (by omega) h
theorem St.raw_neS {W0 w : World} {K : Know} {L : List Res} {a b : Nat} {c c' : Array Value} {T T' : TypeId} (h : St W0 w K (.raw a c T :: .raw b c' T' :: L)) : ¬ (a = b) := by
 rintro rfl
 obtain ⟨_, S, F, ⟨S1, S2, h1, ⟨S3, S4, h3, _, _, e3⟩, d1, _⟩, _⟩ := h
 exact d1 a ((h1.2 a).2 rfl) ((e3 a).2 (.inl ((h3.2 a).2 rfl)))
set_option maxHeartbeats 2000000 in
set_option maxRecDepth 100000 in
theorem feed_bad (sb : Nat) (chunk : Bs) (c v : Value) (e : Int) (h0 : e ≠ 0) {W0 w : World} {K : Know} {L : List Res} (h : St W0 w K (.raw sb #[c, v, .int .i64 e] 78 :: L)) :
  Calls Try.prog 17 #[.pointer (some ⟨sb, 0, none⟩), .string (bb chunk)] w fun en w' => en = .returned (.slice none 0 0) ∧ St W0 w' K (.raw sb #[c, v, .int .i64 e] 78 :: L) := by
 have H := Lib.hid h
 have c2 := h.rawCell 2
 simp at c2
 have g1e : (e == 0) = false := by rw [beq_eq_false_iff_ne]; exact h0
 have g2e : (e != 0) = true := by simp [bne, g1e]
 clear h h0
 go_enter Try.func17, Try.ntmps17
 go_wp2
 refine wp_scope_straight ?_
 go_wp2
 rw [Exit.noGoto_ret]
 go_ret
 exact ⟨rfl, H.out⟩
set_option maxHeartbeats 2000000 in
set_option maxRecDepth 100000 in
theorem scan_new {W0 w : World} {K : Know} {L : List Res} (h : St W0 w K L) :
  Calls Try.prog 16 #[] w fun en w' => ∃ sb, en = .returned (.pointer (some ⟨sb, 0, none⟩)) ∧ St W0 w' K (.raw sb #[.int .i64 0, .slice none 0 0, .int .i64 0] 78 :: L) := by
 have g1 := h.allocRaw #[.int .i64 0, .slice none 0 0, .int .i64 0] 78
 have H := Lib.hid g1
 clear h g1
 go_enter Try.func16, Try.ntmps16
 go_wp2
 go_ret
 exact ⟨_, rfl, H.out⟩

end Go.Proofs.Ytngojlinfdokpaa

/- A text. -/
namespace Go.Proofs.Ytngojlinfdokpaa
open Go.RowKit

theorem fin_count (R : Bs) : 61 * (finS R).1.length ≤ R.length := by
 obtain ⟨k, a1, _, _, _, _, _, a7⟩ := scan_rest _ R (Nat.le_refl _)
 show 61 * (scanS R).1.length ≤ _
 omega
theorem fin_rest (R : Bs) : (finS R).2.2.1.length ≤ R.length ∧ (finS R).2.1 ≤ R.length := by
 obtain ⟨k, a1, a2, _⟩ := scan_rest _ R (Nat.le_refl _)
 unfold finS
 simp only
 refine ⟨?_, by omega⟩
 by_cases h : (scanS R).2.2 ≠ 0
 · rw [if_pos h]; exact Nat.zero_le _
 · rw [if_neg h, a2, List.length_drop]; omega
theorem rc_tmp_cellS {P : Program} {fn : Func} {p t : Tmp} {ty : TypeId} (h : fn.results = #[.tmp t, .cell p ty]) (tmps : Array Value) (w : World) (b : Nat) (cs : List Value) (d : TypeDesc)
    (hp : tmps.getD p undef = .pointer (some ⟨b, 0, none⟩)) (hc : w.rangeAt b 0 cs) (hu : P.underlying ty = some d) (hd : d.isRow = true) (hi : (P.info? ty).map (·.size) = some cs.length) :
    (results fn tmps).run P w = .ok (.tuple #[tmps.getD t undef, .agg cs.toArray]) w := by
  have hp' : tmps[p]?.getD undef = .pointer (some ⟨b, 0, none⟩) := by simpa using hp
  simp [results, h, hp', asAddr, run_loadVar_mid w b 0 ty cs d hc hu hd hi]

end Go.Proofs.Ytngojlinfdokpaa

/- A text. -/
namespace Go.Proofs.Ytngojlinfdokpaa
open Go.RowKit

set_option maxHeartbeats 4000000 in
set_option maxRecDepth 100000 in
theorem top_none {W0 w : World} {K : Know} {L : List Res} (h : St W0 w K L) :
  Calls Try.prog 10 #[] w fun en w' => ∃ s : Bs, en = .returned (.tuple #[.agg #[.int .i64 0, .int .i64 0, .bool false, .bool false, .bool false, .int .i64 0, .int .i64 0, .int .i64 0, .int .i64 (-1), .int .i64 (-1), .int .i64 (-1), .slice none 0 0], .string (bb s), .bool true]) ∧ St W0 w' K L := by
 obtain ⟨s, hs⟩ : ∃ s, noneB.enc = s := ⟨_, rfl⟩
 have HS := Lib.hid hs
 have hsl : s.length = 61 := by rw [← hs]; exact len_none
 have hl61 : ((s.length : Int) == 61) = true := by rw [hsl]; rfl
 obtain ⟨rb, hrb⟩ : ∃ b, w.heap.size = b := ⟨_, rfl⟩
 obtain ⟨nb, hnb⟩ : ∃ b, rb + 1 = b := ⟨_, rfl⟩
 have h1 := (h.allocRaw #[.int .i64 0, .int .i64 0, .bool false, .bool false, .bool false, .int .i64 0, .int .i64 0, .int .i64 0, .int .i64 0, .int .i64 0, .int .i64 0, .slice none 0 0] 37).allocRaw #[.int .i64 0, .int .i64 0, .bool false, .bool false, .bool false, .int .i64 0, .int .i64 0, .int .i64 0, .int .i64 (-1), .int .i64 (-1), .int .i64 (-1), .slice none 0 0] 37
 simp only [World.size_alloc, hrb, hnb] at h1
 obtain ⟨x0, x1, x2, x3, x4, x5, x6, x7, x8, x9, x10, x11, y0, y1, y2, y3, y4, y5, y6, y7, y8, y9, y10, y11⟩ := raw12 (b := nb) (h1)
 obtain ⟨z0, z1, z2, z3, z4, z5, z6, z7, z8, z9, z10, z11, v0, v1, v2, v3, v4, v5, v6, v7, v8, v9, v10, v11⟩ := raw12 (b := rb) (h1.p1)
 have H := Lib.hid h1
 clear h h1 hs hsl
 go_enter Try.func10, Try.ntmps10
 go_wp2_with (go_at_call 15; clear x0 y0 z0 v0 x1 y1 z1 v1 x2 y2 z2 v2 x3 y3 z3 v3 x4 y4 z4 v4 x5 y5 z5 v5 x6 y6 z6 v6 x7 y7 z7 v7 x8 y8 z8 v8 x9 y9 z9 v9 x10 y10 z10 v10 x11 y11 z11 v11; (with_reducible refine (encode_none s HS.out H.out).mono ?_); rintro e_ wn ⟨rfl, h⟩; obtain ⟨x0, x1, x2, x3, x4, x5, x6, x7, x8, x9, x10, x11, y0, y1, y2, y3, y4, y5, y6, y7, y8, y9, y10, y11⟩ := raw12 (b := nb) (h); obtain ⟨z0, z1, z2, z3, z4, z5, z6, z7, z8, z9, z10, z11, v0, v1, v2, v3, v4, v5, v6, v7, v8, v9, v10, v11⟩ := raw12 (b := rb) (h.p1); replace H := Lib.hid h; clear h)
 have hz : St W0 _ K (.raw rb #[.int .i64 0, .int .i64 0, .bool false, .bool false, .bool false, .int .i64 0, .int .i64 0, .int .i64 0, .int .i64 (-1), .int .i64 (-1), .int .i64 (-1), .slice none 0 0] 37 :: _) := St.sets12 _ _ _ _ _ _ _ _ _ _ _ _ (H.out.p1)
 refine bodyPost_ret (results_cell_tmp2 rfl _ _ rb [.int .i64 0, .int .i64 0, .bool false, .bool false, .bool false, .int .i64 0, .int .i64 0, .int .i64 0, .int .i64 (-1), .int .i64 (-1), .int .i64 (-1), .slice none 0 0] _ rfl (rc_range hz) Try.underlying37 rfl (by kernel_rfl)) rfl ?_
 exact ⟨s, rfl, hz.drop.drop⟩

end Go.Proofs.Ytngojlinfdokpaa

/- A text. -/
namespace Go.Proofs.Ytngojlinfdokpaa
open Go.RowKit

theorem fs_of_re {R : Bs} {b : BatS} {n : Nat} (h : reBat R = .ok (b, n)) : firstS R = .ok (some (b, n)) := by
 obtain ⟨x, hp, rfl, hn, ha⟩ := reBat_ok h
 unfold firstS
 rw [if_neg (by omega), hp]
 simp only
 rw [if_neg (by omega), ha]
theorem fs_part {R M : Bs} {b : BatS} {n : Nat} (h : reBat (R ++ M) = .ok (b, n)) (hl : R.length < n) : firstS R = .ok none := by
 obtain ⟨x, hp, hnn, hn, ha⟩ := reBat_ok h
 unfold firstS
 by_cases c : R.length < 61
 · rw [if_pos c]
 · rw [if_neg c, ← rePre_app R M (by omega), hp]
   simp only
   rw [if_pos (by omega)]
theorem scan_enc (R : Bs) : ∀ (l : List BatR), (∀ x ∈ l, SmallOk x.b) → scanS (encB l ++ R) = (l.map BatR.b ++ (scanS R).1, (scanS R).2)
  | [], _ => rfl
  | x :: t, h => by
    have h1 := fs_of_re ((h x (by simp)).back (encB t ++ R))
    rw [encB_cons, List.append_assoc, scanS_some h1, List.drop_left, scan_enc R t (fun y hy => h y (by simp [hy]))]
    rfl
theorem fin_cut (l : List BatR) (h : ∀ x ∈ l, SmallOk x.b) (k n : Nat) (hk : k ≤ (encB l).length) (hn : n ≤ l.length) (h1 : (encB (l.take n)).length ≤ k) (h2 : ∀ hh : n < l.length, k < (encB (l.take (n + 1))).length) :
  ∃ rest, finS ((encB l).take k) = ((l.take n).map BatR.b, (encB (l.take n)).length, rest, 0) ∧ rest.length = k - (encB (l.take n)).length := by
 have hs := encB_split l n
 have ht : (encB l).take k = encB (l.take n) ++ (encB (l.drop n)).take (k - (encB (l.take n)).length) := by
  rw [hs, List.take_append, List.take_of_length_le h1]
 obtain ⟨R, hR⟩ : ∃ R, (encB (l.drop n)).take (k - (encB (l.take n)).length) = R := ⟨_, rfl⟩
 have hRl : R.length = k - (encB (l.take n)).length := by
  have h3 := congrArg List.length hs
  rw [List.length_append] at h3
  rw [← hR, List.length_take]
  omega
 have hf : firstS R = .ok none := by
  by_cases hh : n < l.length
  · have e1 : encB (l.drop n) = l[n].b.enc ++ encB (l.drop (n + 1)) := by rw [List.drop_eq_getElem_cons hh, encB_cons]
    have e2 := encB_take l n hh
    have h4 := h2 hh
    rw [e2, List.length_append] at h4
    refine fs_part (M := (encB (l.drop n)).drop (k - (encB (l.take n)).length)) (b := l[n].b) (n := l[n].b.enc.length) ?_ (by omega)
    rw [← hR, List.take_append_drop, e1]
    exact (h l[n] (List.getElem_mem hh)).back _
  · have e1 : l.drop n = [] := List.drop_of_length_le (by omega)
    rw [e1] at hR
    have : R = [] := by rw [← hR]; simp [encB]
    rw [this]
    unfold firstS
    rw [if_pos (by decide)]
 refine ⟨R, ?_, hRl⟩
 have hsc := scan_enc R (l.take n) (fun x hx => h x (List.mem_of_mem_take hx))
 unfold finS
 rw [ht, hR, hsc, scanS_none hf]
 simp only
 rw [List.append_nil, List.length_append, if_neg (by simp)]
 congr 2
 omega
end Go.Proofs.Ytngojlinfdokpaa

/- A text. -/
namespace Go.Proofs.Ytngojlinfdokpaa
open Go.RowKit

set_option maxHeartbeats 4000000 in
set_option maxRecDepth 100000 in
theorem close_bad (sb valid : Nat) (p : Option Addr) (n cap : Nat) (e : Int) (h0 : e ≠ 0) {W0 w : World} {K : Know} {L : List Res} (h : St W0 w K (.raw sb #[.int .i64 valid, .slice p n cap, .int .i64 e] 78 :: L)) :
  Calls Try.prog 18 #[.pointer (some ⟨sb, 0, none⟩)] w fun en w' => en = .returned (.agg #[.int .i64 valid, .int .i64 2, .int .i64 e]) ∧ St W0 w' K (.raw sb #[.int .i64 valid, .slice p n cap, .int .i64 e] 78 :: L) := by
 obtain ⟨rb, hrb⟩ : ∃ b, w.heap.size = b := ⟨_, rfl⟩
 have g1 := h.allocRaw #[.int .i64 0, .int .i64 0, .int .i64 0] 26
 rw [hrb] at g1
 have H := Lib.hid g1
 have g1e : (e == 0) = false := by rw [beq_eq_false_iff_ne]; exact h0
 have g2e : (e != 0) = true := by simp [bne, g1e]
 clear h g1 h0
 go_enter Try.func18, Try.ntmps18
 go_upto_region 1 with (fail)
 go_cut [3] (fun s3 wx => ∃ tb : Nat, s3 = .pointer (some ⟨tb, 0, none⟩) ∧ St W0 wx K (.raw tb #[.int .i64 valid, .int .i64 0, .int .i64 e] 26 :: .raw rb #[.int .i64 0, .int .i64 0, .int .i64 0] 26 :: .raw sb #[.int .i64 valid, .slice p n cap, .int .i64 e] 78 :: L))
 case first =>
  have hs := H.out.drew
  refine wp_region_held_drew (S := fun w' => w'.cell? ⟨sb, 0, none⟩ = some (.int .i64 valid) ∧ w'.cell? ⟨sb, 2, none⟩ = some (.int .i64 e)) (by kernel_rfl) ⟨hs.p1.rawCell 0, hs.p1.rawCell 2⟩ (fun hHeld => ?_)
  refine wpAnyH_take (i := 0) (oi := ⟨some 4, .move (.tmp 0), 50, "scan.go:75", #[], none⟩) (v := ?_) rfl (by kernel_rfl) (by kernel_rfl) (by kernel_rfl) (fun _ _ _ h => h) (Or.inl ⟨by rfl, ?_⟩) (by assumption) ?_
  rotate_left
  · intro w hSw; (try dsimp only at hSw); go_simp; try with_reducible rfl
  simp only [Act.put, sA, sB, sC]
  refine wpAnyH_take (i := 1) (oi := ⟨some 5, .nilCheck (.tmp 4), 0, "scan.go:75", #[.mk 0 .data], none⟩) (v := ?_) rfl (by kernel_rfl) (by kernel_rfl) (by kernel_rfl) (fun _ _ _ h => h) (Or.inl ⟨by rfl, ?_⟩) (by assumption) ?_
  rotate_left
  · intro w hSw; (try dsimp only at hSw); go_simp; try with_reducible rfl
  simp only [Act.put, sA, sB, sC]
  refine wpAnyH_take (i := 2) (oi := ⟨some 6, .fieldAddr 78 (.tmp 5) 0, 0, "scan.go:75", #[.mk 1 .data], none⟩) (v := ?_) rfl (by kernel_rfl) (by kernel_rfl) (by kernel_rfl) (fun _ _ _ h => h) (Or.inl ⟨by rfl, ?_⟩) (by assumption) ?_
  rotate_left
  · intro w hSw; (try dsimp only at hSw); go_simp; try with_reducible rfl
  simp only [Act.put, sA, sB, sC]
  refine wpAnyH_take (i := 3) (oi := ⟨some 7, .load 3 (.tmp 6), 3, "scan.go:75", #[.mk 2 .data], none⟩) (v := ?_) rfl (by kernel_rfl) (by kernel_rfl) (by kernel_rfl) (fun _ _ _ h => h) (Or.inl ⟨by rfl, ?_⟩) (by assumption) ?_
  rotate_left
  · intro w hSw; (try dsimp only at hSw); go_simp; try with_reducible rfl
  simp only [Act.put, sA, sB, sC]
  refine wpAnyH_take (i := 4) (oi := ⟨some 8, .move (.tmp 0), 50, "scan.go:75", #[], none⟩) (v := ?_) rfl (by kernel_rfl) (by kernel_rfl) (by kernel_rfl) (fun _ _ _ h => h) (Or.inl ⟨by rfl, ?_⟩) (by assumption) ?_
  rotate_left
  · intro w hSw; (try dsimp only at hSw); go_simp; try with_reducible rfl
  simp only [Act.put, sA, sB, sC]
  refine wpAnyH_take (i := 5) (oi := ⟨some 9, .nilCheck (.tmp 8), 0, "scan.go:75", #[.mk 4 .data], none⟩) (v := ?_) rfl (by kernel_rfl) (by kernel_rfl) (by kernel_rfl) (fun _ _ _ h => h) (Or.inl ⟨by rfl, ?_⟩) (by assumption) ?_
  rotate_left
  · intro w hSw; (try dsimp only at hSw); go_simp; try with_reducible rfl
  simp only [Act.put, sA, sB, sC]
  refine wpAnyH_take (i := 6) (oi := ⟨some 10, .fieldAddr 78 (.tmp 9) 2, 0, "scan.go:75", #[.mk 5 .data], none⟩) (v := ?_) rfl (by kernel_rfl) (by kernel_rfl) (by kernel_rfl) (fun _ _ _ h => h) (Or.inl ⟨by rfl, ?_⟩) (by assumption) ?_
  rotate_left
  · intro w hSw; (try dsimp only at hSw); go_simp; try with_reducible rfl
  simp only [Act.put, sA, sB, sC]
  refine wpAnyH_take (i := 7) (oi := ⟨some 11, .load 24 (.tmp 10), 24, "scan.go:75", #[.mk 6 .data], none⟩) (v := ?_) rfl (by kernel_rfl) (by kernel_rfl) (by kernel_rfl) (fun _ _ _ h => h) (Or.inl ⟨by rfl, ?_⟩) (by assumption) ?_
  rotate_left
  · intro w hSw; (try dsimp only at hSw); go_simp; try with_reducible rfl
  simp only [Act.put, sA, sB, sC]
  refine wpAnyH_take (i := 8) (oi := ⟨some 12, .build 26 #[(0, .tmp 7), (1, .const (Value.int IntKind.i64 0)), (2, .tmp 11)], 26, "scan.go:75", #[.mk 3 .data, .mk 7 .data], none⟩) (v := ?_) rfl (by kernel_rfl) (by kernel_rfl) (by kernel_rfl) (fun _ _ _ h => h) (Or.inl ⟨by rfl, ?_⟩) (by assumption) ?_
  rotate_left
  · intro w hSw; (try dsimp only at hSw); go_simp; try with_reducible rfl
  simp only [Act.put, sA, sB, sC]
  refine wpAnyH_ready (rs := [9]) (by kernel_rfl) (by simp) (AllReadyH.cons (o := ⟨some 3, .alloc 26, 0, "scan.go:75", #[], none⟩) rfl (fun KK hK => ?_) AllReadyH.nil)
  · obtain ⟨wy, tb, ey, er, hs⟩ := hs.allocEx #[.int .i64 0, .int .i64 0, .int .i64 0] 26
    go_simp
    try rw [ey]
    try rw [er]
    clear ey er
    refine hK.out _ _ (⟨hs.p2.rawCell 0, hs.p2.rawCell 2⟩) (fun hHeld => ?_)
    clear hK KK
    try simp only [Act.put, sA, sB, sC]
    refine wpAnyH_ready (rs := [10]) (by kernel_rfl) (by simp) (AllReadyH.cons (o := ⟨none, .store 26 (.tmp 3) (.tmp 12), 0, "scan.go:75", #[.mk 9 .data, .mk 8 .data, .mk 0 .phase, .mk 1 .phase, .mk 2 .phase, .mk 3 .phase, .mk 4 .phase, .mk 5 .phase, .mk 6 .phase, .mk 7 .phase, .mk 8 .phase, .mk 9 .phase], none⟩) rfl (fun KK hK => ?_) AllReadyH.nil)
    · rw [if_pos (by rfl)]
      refine wp_store_mid 26 (.tmp 3) (.tmp 12) rfl tb 0 #[.int .i64 valid, .int .i64 0, .int .i64 e] (by rfl) (by rfl) hs.there (by kernel_rfl) (by simp [Value.oneCell']) ?_
      obtain ⟨wz, ez, hs⟩ := hs.storeEx #[.int .i64 valid, .int .i64 0, .int .i64 e]
      rw [ez]
      clear ez
      rw [setAll_allV] at hs
      rotate_left
      · rfl
      refine hK.out _ _ (⟨hs.p2.rawCell 0, hs.p2.rawCell 2⟩) (fun hHeld => ?_)
      clear hK KK
      try simp only [Act.put, sA, sB, sC]
      refine wpAnyH_done (by kernel_rfl) ?_ _
      clear hHeld
      go_wp2_with fail
      go_meet
      exact ⟨tb, rfl, hs⟩
 obtain ⟨tb, rfl, h⟩ := hcut
 clear H
 have H := Lib.hid h
 have hne := St.raw_neS h
 have hne2 := fun hh => hne (Eq.symm hh)
 have a0 := h.rawCell 0
 have a1 := h.rawCell 1
 have a2 := h.rawCell 2
 have r1 := h.rawFree 1
 have b0 := h.p1.rawFree 0
 have b1 := h.p1.rawFree 1
 have b2 := h.p1.rawFree 2
 have d0 := h.p1.rawCell 0
 have d1 := h.p1.rawCell 1
 have d2 := h.p1.rawCell 2
 have c0 := h.p2.rawCell 0
 have c1 := h.p2.rawCell 1
 have c2 := h.p2.rawCell 2
 simp at a0 a1 a2 d0 d1 d2 c0 c1 c2
 clear h
 go_wp2_with fail
 have hz : St W0 _ _ (.raw rb #[.int .i64 valid, .int .i64 2, .int .i64 e] 26 :: .raw tb _ 26 :: _) := ((((H.out.rawSet 1 (.int .i64 2)).p1.rawSet 0 (.int .i64 valid)).rawSet 1 (.int .i64 2)).rawSet 2 (.int .i64 e))
 refine bodyPost_ret (rc_cell_only rfl _ _ rb [.int .i64 valid, .int .i64 2, .int .i64 e] _ rfl (rc_range hz) Try.underlying26 rfl (by kernel_rfl)) rfl ?_
 exact ⟨rfl, hz.drop.drop⟩

set_option maxHeartbeats 4000000 in
set_option maxRecDepth 100000 in
theorem close_torn (sb valid : Nat) (p : Option Addr) (n cap : Nat) (hn : 0 < n) {W0 w : World} {K : Know} {L : List Res} (h : St W0 w K (.raw sb #[.int .i64 valid, .slice p n cap, .int .i64 0] 78 :: L)) :
  Calls Try.prog 18 #[.pointer (some ⟨sb, 0, none⟩)] w fun en w' => en = .returned (.agg #[.int .i64 valid, .int .i64 1, .int .i64 0]) ∧ St W0 w' K (.raw sb #[.int .i64 valid, .slice p n cap, .int .i64 0] 78 :: L) := by
 obtain ⟨rb, hrb⟩ : ∃ b, w.heap.size = b := ⟨_, rfl⟩
 have g1 := h.allocRaw #[.int .i64 0, .int .i64 0, .int .i64 0] 26
 rw [hrb] at g1
 have H := Lib.hid g1
 have hni : 0 < (n : Int) := by omega
 clear h g1 hn
 go_enter Try.func18, Try.ntmps18
 go_upto_region 1 with (fail)
 go_cut [3] (fun s3 wx => ∃ tb : Nat, s3 = .pointer (some ⟨tb, 0, none⟩) ∧ St W0 wx K (.raw tb #[.int .i64 valid, .int .i64 0, .int .i64 0] 26 :: .raw rb #[.int .i64 0, .int .i64 0, .int .i64 0] 26 :: .raw sb #[.int .i64 valid, .slice p n cap, .int .i64 0] 78 :: L))
 case first =>
  have hs := H.out.drew
  refine wp_region_held_drew (S := fun w' => w'.cell? ⟨sb, 0, none⟩ = some (.int .i64 valid) ∧ w'.cell? ⟨sb, 2, none⟩ = some (.int .i64 0)) (by kernel_rfl) ⟨hs.p1.rawCell 0, hs.p1.rawCell 2⟩ (fun hHeld => ?_)
  refine wpAnyH_take (i := 0) (oi := ⟨some 4, .move (.tmp 0), 50, "scan.go:75", #[], none⟩) (v := ?_) rfl (by kernel_rfl) (by kernel_rfl) (by kernel_rfl) (fun _ _ _ h => h) (Or.inl ⟨by rfl, ?_⟩) (by assumption) ?_
  rotate_left
  · intro w hSw; (try dsimp only at hSw); go_simp; try with_reducible rfl
  simp only [Act.put, sA, sB, sC]
  refine wpAnyH_take (i := 1) (oi := ⟨some 5, .nilCheck (.tmp 4), 0, "scan.go:75", #[.mk 0 .data], none⟩) (v := ?_) rfl (by kernel_rfl) (by kernel_rfl) (by kernel_rfl) (fun _ _ _ h => h) (Or.inl ⟨by rfl, ?_⟩) (by assumption) ?_
  rotate_left
  · intro w hSw; (try dsimp only at hSw); go_simp; try with_reducible rfl
  simp only [Act.put, sA, sB, sC]
  refine wpAnyH_take (i := 2) (oi := ⟨some 6, .fieldAddr 78 (.tmp 5) 0, 0, "scan.go:75", #[.mk 1 .data], none⟩) (v := ?_) rfl (by kernel_rfl) (by kernel_rfl) (by kernel_rfl) (fun _ _ _ h => h) (Or.inl ⟨by rfl, ?_⟩) (by assumption) ?_
  rotate_left
  · intro w hSw; (try dsimp only at hSw); go_simp; try with_reducible rfl
  simp only [Act.put, sA, sB, sC]
  refine wpAnyH_take (i := 3) (oi := ⟨some 7, .load 3 (.tmp 6), 3, "scan.go:75", #[.mk 2 .data], none⟩) (v := ?_) rfl (by kernel_rfl) (by kernel_rfl) (by kernel_rfl) (fun _ _ _ h => h) (Or.inl ⟨by rfl, ?_⟩) (by assumption) ?_
  rotate_left
  · intro w hSw; (try dsimp only at hSw); go_simp; try with_reducible rfl
  simp only [Act.put, sA, sB, sC]
  refine wpAnyH_take (i := 4) (oi := ⟨some 8, .move (.tmp 0), 50, "scan.go:75", #[], none⟩) (v := ?_) rfl (by kernel_rfl) (by kernel_rfl) (by kernel_rfl) (fun _ _ _ h => h) (Or.inl ⟨by rfl, ?_⟩) (by assumption) ?_
  rotate_left
  · intro w hSw; (try dsimp only at hSw); go_simp; try with_reducible rfl
  simp only [Act.put, sA, sB, sC]
  refine wpAnyH_take (i := 5) (oi := ⟨some 9, .nilCheck (.tmp 8), 0, "scan.go:75", #[.mk 4 .data], none⟩) (v := ?_) rfl (by kernel_rfl) (by kernel_rfl) (by kernel_rfl) (fun _ _ _ h => h) (Or.inl ⟨by rfl, ?_⟩) (by assumption) ?_
  rotate_left
  · intro w hSw; (try dsimp only at hSw); go_simp; try with_reducible rfl
  simp only [Act.put, sA, sB, sC]
  refine wpAnyH_take (i := 6) (oi := ⟨some 10, .fieldAddr 78 (.tmp 9) 2, 0, "scan.go:75", #[.mk 5 .data], none⟩) (v := ?_) rfl (by kernel_rfl) (by kernel_rfl) (by kernel_rfl) (fun _ _ _ h => h) (Or.inl ⟨by rfl, ?_⟩) (by assumption) ?_
  rotate_left
  · intro w hSw; (try dsimp only at hSw); go_simp; try with_reducible rfl
  simp only [Act.put, sA, sB, sC]
  refine wpAnyH_take (i := 7) (oi := ⟨some 11, .load 24 (.tmp 10), 24, "scan.go:75", #[.mk 6 .data], none⟩) (v := ?_) rfl (by kernel_rfl) (by kernel_rfl) (by kernel_rfl) (fun _ _ _ h => h) (Or.inl ⟨by rfl, ?_⟩) (by assumption) ?_
  rotate_left
  · intro w hSw; (try dsimp only at hSw); go_simp; try with_reducible rfl
  simp only [Act.put, sA, sB, sC]
  refine wpAnyH_take (i := 8) (oi := ⟨some 12, .build 26 #[(0, .tmp 7), (1, .const (Value.int IntKind.i64 0)), (2, .tmp 11)], 26, "scan.go:75", #[.mk 3 .data, .mk 7 .data], none⟩) (v := ?_) rfl (by kernel_rfl) (by kernel_rfl) (by kernel_rfl) (fun _ _ _ h => h) (Or.inl ⟨by rfl, ?_⟩) (by assumption) ?_
  rotate_left
  · intro w hSw; (try dsimp only at hSw); go_simp; try with_reducible rfl
  simp only [Act.put, sA, sB, sC]
  refine wpAnyH_ready (rs := [9]) (by kernel_rfl) (by simp) (AllReadyH.cons (o := ⟨some 3, .alloc 26, 0, "scan.go:75", #[], none⟩) rfl (fun KK hK => ?_) AllReadyH.nil)
  · obtain ⟨wy, tb, ey, er, hs⟩ := hs.allocEx #[.int .i64 0, .int .i64 0, .int .i64 0] 26
    go_simp
    try rw [ey]
    try rw [er]
    clear ey er
    refine hK.out _ _ (⟨hs.p2.rawCell 0, hs.p2.rawCell 2⟩) (fun hHeld => ?_)
    clear hK KK
    try simp only [Act.put, sA, sB, sC]
    refine wpAnyH_ready (rs := [10]) (by kernel_rfl) (by simp) (AllReadyH.cons (o := ⟨none, .store 26 (.tmp 3) (.tmp 12), 0, "scan.go:75", #[.mk 9 .data, .mk 8 .data, .mk 0 .phase, .mk 1 .phase, .mk 2 .phase, .mk 3 .phase, .mk 4 .phase, .mk 5 .phase, .mk 6 .phase, .mk 7 .phase, .mk 8 .phase, .mk 9 .phase], none⟩) rfl (fun KK hK => ?_) AllReadyH.nil)
    · rw [if_pos (by rfl)]
      refine wp_store_mid 26 (.tmp 3) (.tmp 12) rfl tb 0 #[.int .i64 valid, .int .i64 0, .int .i64 0] (by rfl) (by rfl) hs.there (by kernel_rfl) (by simp [Value.oneCell']) ?_
      obtain ⟨wz, ez, hs⟩ := hs.storeEx #[.int .i64 valid, .int .i64 0, .int .i64 0]
      rw [ez]
      clear ez
      rw [setAll_allV] at hs
      rotate_left
      · rfl
      refine hK.out _ _ (⟨hs.p2.rawCell 0, hs.p2.rawCell 2⟩) (fun hHeld => ?_)
      clear hK KK
      try simp only [Act.put, sA, sB, sC]
      refine wpAnyH_done (by kernel_rfl) ?_ _
      clear hHeld
      go_wp2_with fail
      go_meet
      exact ⟨tb, rfl, hs⟩
 obtain ⟨tb, rfl, h⟩ := hcut
 clear H
 have H := Lib.hid h
 have hne := St.raw_neS h
 have hne2 := fun hh => hne (Eq.symm hh)
 have a0 := h.rawCell 0
 have a1 := h.rawCell 1
 have a2 := h.rawCell 2
 have r1 := h.rawFree 1
 have b0 := h.p1.rawFree 0
 have b1 := h.p1.rawFree 1
 have b2 := h.p1.rawFree 2
 have d0 := h.p1.rawCell 0
 have d1 := h.p1.rawCell 1
 have d2 := h.p1.rawCell 2
 have c0 := h.p2.rawCell 0
 have c1 := h.p2.rawCell 1
 have c2 := h.p2.rawCell 2
 simp at a0 a1 a2 d0 d1 d2 c0 c1 c2
 clear h
 go_wp2_with fail
 have hz : St W0 _ _ (.raw rb #[.int .i64 valid, .int .i64 1, .int .i64 0] 26 :: .raw tb _ 26 :: _) := ((((H.out.rawSet 1 (.int .i64 1)).p1.rawSet 0 (.int .i64 valid)).rawSet 1 (.int .i64 1)).rawSet 2 (.int .i64 0))
 refine bodyPost_ret (rc_cell_only rfl _ _ rb [.int .i64 valid, .int .i64 1, .int .i64 0] _ rfl (rc_range hz) Try.underlying26 rfl (by kernel_rfl)) rfl ?_
 exact ⟨rfl, hz.drop.drop⟩

set_option maxHeartbeats 4000000 in
set_option maxRecDepth 100000 in
theorem close_clean (sb valid : Nat) (p : Option Addr) (n cap : Nat) (hn : n = 0) {W0 w : World} {K : Know} {L : List Res} (h : St W0 w K (.raw sb #[.int .i64 valid, .slice p n cap, .int .i64 0] 78 :: L)) :
  Calls Try.prog 18 #[.pointer (some ⟨sb, 0, none⟩)] w fun en w' => en = .returned (.agg #[.int .i64 valid, .int .i64 0, .int .i64 0]) ∧ St W0 w' K (.raw sb #[.int .i64 valid, .slice p n cap, .int .i64 0] 78 :: L) := by
 obtain ⟨rb, hrb⟩ : ∃ b, w.heap.size = b := ⟨_, rfl⟩
 have g1 := h.allocRaw #[.int .i64 0, .int .i64 0, .int .i64 0] 26
 rw [hrb] at g1
 have H := Lib.hid g1
 have hni : ¬ 0 < (n : Int) := by omega
 clear h g1 hn
 go_enter Try.func18, Try.ntmps18
 go_upto_region 1 with (fail)
 go_cut [3] (fun s3 wx => ∃ tb : Nat, s3 = .pointer (some ⟨tb, 0, none⟩) ∧ St W0 wx K (.raw tb #[.int .i64 valid, .int .i64 0, .int .i64 0] 26 :: .raw rb #[.int .i64 0, .int .i64 0, .int .i64 0] 26 :: .raw sb #[.int .i64 valid, .slice p n cap, .int .i64 0] 78 :: L))
 case first =>
  have hs := H.out.drew
  refine wp_region_held_drew (S := fun w' => w'.cell? ⟨sb, 0, none⟩ = some (.int .i64 valid) ∧ w'.cell? ⟨sb, 2, none⟩ = some (.int .i64 0)) (by kernel_rfl) ⟨hs.p1.rawCell 0, hs.p1.rawCell 2⟩ (fun hHeld => ?_)
  refine wpAnyH_take (i := 0) (oi := ⟨some 4, .move (.tmp 0), 50, "scan.go:75", #[], none⟩) (v := ?_) rfl (by kernel_rfl) (by kernel_rfl) (by kernel_rfl) (fun _ _ _ h => h) (Or.inl ⟨by rfl, ?_⟩) (by assumption) ?_
  rotate_left
  · intro w hSw; (try dsimp only at hSw); go_simp; try with_reducible rfl
  simp only [Act.put, sA, sB, sC]
  refine wpAnyH_take (i := 1) (oi := ⟨some 5, .nilCheck (.tmp 4), 0, "scan.go:75", #[.mk 0 .data], none⟩) (v := ?_) rfl (by kernel_rfl) (by kernel_rfl) (by kernel_rfl) (fun _ _ _ h => h) (Or.inl ⟨by rfl, ?_⟩) (by assumption) ?_
  rotate_left
  · intro w hSw; (try dsimp only at hSw); go_simp; try with_reducible rfl
  simp only [Act.put, sA, sB, sC]
  refine wpAnyH_take (i := 2) (oi := ⟨some 6, .fieldAddr 78 (.tmp 5) 0, 0, "scan.go:75", #[.mk 1 .data], none⟩) (v := ?_) rfl (by kernel_rfl) (by kernel_rfl) (by kernel_rfl) (fun _ _ _ h => h) (Or.inl ⟨by rfl, ?_⟩) (by assumption) ?_
  rotate_left
  · intro w hSw; (try dsimp only at hSw); go_simp; try with_reducible rfl
  simp only [Act.put, sA, sB, sC]
  refine wpAnyH_take (i := 3) (oi := ⟨some 7, .load 3 (.tmp 6), 3, "scan.go:75", #[.mk 2 .data], none⟩) (v := ?_) rfl (by kernel_rfl) (by kernel_rfl) (by kernel_rfl) (fun _ _ _ h => h) (Or.inl ⟨by rfl, ?_⟩) (by assumption) ?_
  rotate_left
  · intro w hSw; (try dsimp only at hSw); go_simp; try with_reducible rfl
  simp only [Act.put, sA, sB, sC]
  refine wpAnyH_take (i := 4) (oi := ⟨some 8, .move (.tmp 0), 50, "scan.go:75", #[], none⟩) (v := ?_) rfl (by kernel_rfl) (by kernel_rfl) (by kernel_rfl) (fun _ _ _ h => h) (Or.inl ⟨by rfl, ?_⟩) (by assumption) ?_
  rotate_left
  · intro w hSw; (try dsimp only at hSw); go_simp; try with_reducible rfl
  simp only [Act.put, sA, sB, sC]
  refine wpAnyH_take (i := 5) (oi := ⟨some 9, .nilCheck (.tmp 8), 0, "scan.go:75", #[.mk 4 .data], none⟩) (v := ?_) rfl (by kernel_rfl) (by kernel_rfl) (by kernel_rfl) (fun _ _ _ h => h) (Or.inl ⟨by rfl, ?_⟩) (by assumption) ?_
  rotate_left
  · intro w hSw; (try dsimp only at hSw); go_simp; try with_reducible rfl
  simp only [Act.put, sA, sB, sC]
  refine wpAnyH_take (i := 6) (oi := ⟨some 10, .fieldAddr 78 (.tmp 9) 2, 0, "scan.go:75", #[.mk 5 .data], none⟩) (v := ?_) rfl (by kernel_rfl) (by kernel_rfl) (by kernel_rfl) (fun _ _ _ h => h) (Or.inl ⟨by rfl, ?_⟩) (by assumption) ?_
  rotate_left
  · intro w hSw; (try dsimp only at hSw); go_simp; try with_reducible rfl
  simp only [Act.put, sA, sB, sC]
  refine wpAnyH_take (i := 7) (oi := ⟨some 11, .load 24 (.tmp 10), 24, "scan.go:75", #[.mk 6 .data], none⟩) (v := ?_) rfl (by kernel_rfl) (by kernel_rfl) (by kernel_rfl) (fun _ _ _ h => h) (Or.inl ⟨by rfl, ?_⟩) (by assumption) ?_
  rotate_left
  · intro w hSw; (try dsimp only at hSw); go_simp; try with_reducible rfl
  simp only [Act.put, sA, sB, sC]
  refine wpAnyH_take (i := 8) (oi := ⟨some 12, .build 26 #[(0, .tmp 7), (1, .const (Value.int IntKind.i64 0)), (2, .tmp 11)], 26, "scan.go:75", #[.mk 3 .data, .mk 7 .data], none⟩) (v := ?_) rfl (by kernel_rfl) (by kernel_rfl) (by kernel_rfl) (fun _ _ _ h => h) (Or.inl ⟨by rfl, ?_⟩) (by assumption) ?_
  rotate_left
  · intro w hSw; (try dsimp only at hSw); go_simp; try with_reducible rfl
  simp only [Act.put, sA, sB, sC]
  refine wpAnyH_ready (rs := [9]) (by kernel_rfl) (by simp) (AllReadyH.cons (o := ⟨some 3, .alloc 26, 0, "scan.go:75", #[], none⟩) rfl (fun KK hK => ?_) AllReadyH.nil)
  · obtain ⟨wy, tb, ey, er, hs⟩ := hs.allocEx #[.int .i64 0, .int .i64 0, .int .i64 0] 26
    go_simp
    try rw [ey]
    try rw [er]
    clear ey er
    refine hK.out _ _ (⟨hs.p2.rawCell 0, hs.p2.rawCell 2⟩) (fun hHeld => ?_)
    clear hK KK
    try simp only [Act.put, sA, sB, sC]
    refine wpAnyH_ready (rs := [10]) (by kernel_rfl) (by simp) (AllReadyH.cons (o := ⟨none, .store 26 (.tmp 3) (.tmp 12), 0, "scan.go:75", #[.mk 9 .data, .mk 8 .data, .mk 0 .phase, .mk 1 .phase, .mk 2 .phase, .mk 3 .phase, .mk 4 .phase, .mk 5 .phase, .mk 6 .phase, .mk 7 .phase, .mk 8 .phase, .mk 9 .phase], none⟩) rfl (fun KK hK => ?_) AllReadyH.nil)
    · rw [if_pos (by rfl)]
      refine wp_store_mid 26 (.tmp 3) (.tmp 12) rfl tb 0 #[.int .i64 valid, .int .i64 0, .int .i64 0] (by rfl) (by rfl) hs.there (by kernel_rfl) (by simp [Value.oneCell']) ?_
      obtain ⟨wz, ez, hs⟩ := hs.storeEx #[.int .i64 valid, .int .i64 0, .int .i64 0]
      rw [ez]
      clear ez
      rw [setAll_allV] at hs
      rotate_left
      · rfl
      refine hK.out _ _ (⟨hs.p2.rawCell 0, hs.p2.rawCell 2⟩) (fun hHeld => ?_)
      clear hK KK
      try simp only [Act.put, sA, sB, sC]
      refine wpAnyH_done (by kernel_rfl) ?_ _
      clear hHeld
      go_wp2_with fail
      go_meet
      exact ⟨tb, rfl, hs⟩
 obtain ⟨tb, rfl, h⟩ := hcut
 clear H
 have H := Lib.hid h
 have hne := St.raw_neS h
 have hne2 := fun hh => hne (Eq.symm hh)
 have a0 := h.rawCell 0
 have a1 := h.rawCell 1
 have a2 := h.rawCell 2
 have r1 := h.rawFree 1
 have b0 := h.p1.rawFree 0
 have b1 := h.p1.rawFree 1
 have b2 := h.p1.rawFree 2
 have d0 := h.p1.rawCell 0
 have d1 := h.p1.rawCell 1
 have d2 := h.p1.rawCell 2
 have c0 := h.p2.rawCell 0
 have c1 := h.p2.rawCell 1
 have c2 := h.p2.rawCell 2
 simp at a0 a1 a2 d0 d1 d2 c0 c1 c2
 clear h
 go_wp2_with fail
 have hz : St W0 _ _ (.raw rb #[.int .i64 valid, .int .i64 0, .int .i64 0] 26 :: .raw tb _ 26 :: _) := (((H.out.p1.rawSet 0 (.int .i64 valid)).rawSet 1 (.int .i64 0)).rawSet 2 (.int .i64 0))
 refine bodyPost_ret (rc_cell_only rfl _ _ rb [.int .i64 valid, .int .i64 0, .int .i64 0] _ rfl (rc_range hz) Try.underlying26 rfl (by kernel_rfl)) rfl ?_
 exact ⟨rfl, hz.drop.drop⟩

end Go.Proofs.Ytngojlinfdokpaa

/- A text. -/
namespace Go.Proofs.Ytngojlinfdokpaa
open Go.RowKit

theorem strs_at {W0 w : World} {K : Know} {L : List Res} {q : Option Addr} {n cap : Nat} {l : List Bs} (hk : K.has (Know.strs (.slice q n cap) l)) (h : St W0 w K L) (h0 : 0 < l.length) : ∃ b off, q = some ⟨b, off, none⟩ := by
 obtain ⟨F, hF, _⟩ := h.get
 obtain ⟨q2, cap2, hv, hr⟩ := strRows.at (hk _ _ hF)
 obtain ⟨b, off, hq, _⟩ := hr h0
 simp at hv
 exact ⟨b, off, hv.1.trans hq⟩
theorem strs_cell {W0 w : World} {K : Know} {L : List Res} {b off n cap : Nat} {l : List Bs} (hk : K.has (Know.strs (.slice (some ⟨b, off, none⟩) n cap) l)) (h : St W0 w K L) (i : Nat) (hi : i < l.length) (x : Bs) (hx : l[i] = x) :
  w.cell? ⟨b, off + i, none⟩ = some (.string (bb x)) := by
 subst hx
 obtain ⟨F, hF, _⟩ := h.get
 obtain ⟨q2, cap2, hv, hr⟩ := strRows.at (hk _ _ hF)
 obtain ⟨b2, off2, hq, hc⟩ := hr (by omega)
 rw [hq] at hv
 simp at hv
 obtain ⟨⟨rfl, rfl⟩, _, _⟩ := hv
 exact hc i hi
end Go.Proofs.Ytngojlinfdokpaa

/- A text. -/
namespace Go.Proofs.Ytngojlinfdokpaa
open Go.RowKit

set_option maxHeartbeats 8000000 in
set_option maxRecDepth 100000 in
theorem scan_scan (l : List Bs) (A : Bs) (hA : l.flatten = A) (hAl : A.length ≤ 90000) (q : Option Addr) (cap : Nat) (hll : l.length ≤ 1000000) {W0 w : World} {K : Know} {L : List Res} (hk : K.has (Know.strs (.slice q l.length cap) l)) (h : St W0 w K L) :
  Calls Try.prog 7 #[.slice q l.length cap] w fun en w' => ∃ (q2 : Option Addr) (cap2 : Nat) (lr : List BatR), en = .returned (.tuple #[.slice q2 lr.length cap2, .agg #[.int .i64 ((finS A).2.1 : Nat), .int .i64 (stopS (finS A).2.2.1 (finS A).2.2.2), .int .i64 (finS A).2.2.2]]) ∧ lr.map BatR.b = (finS A).1 ∧ (∀ x ∈ lr, LiteR x) ∧ 61 * lr.length ≤ A.length ∧ (((q2 = none ∧ cap2 = 0) ∨ ∃ g, q2 = some ⟨g, 0, none⟩) ∧ lr.length ≤ cap2) ∧ St W0 w' (K.and (Know.bats (.slice q2 lr.length cap2) lr)) L := by
 obtain ⟨rb, hrb⟩ : ∃ b, w.heap.size = b := ⟨_, rfl⟩
 have g1 := h.allocRaw #[.int .i64 0, .int .i64 0, .int .i64 0] 26
 rw [hrb] at g1
 have H := Lib.hid g1
 have HK := Lib.hid hk
 have HAE := Lib.hid hA
 have HAL := Lib.hid hAl
 have hli : (l.length : Int) ≤ 1000000 := by omega
 clear h g1 hk hA hAl hll
 go_enter Try.func7, Try.ntmps7
 go_wp2_with (go_at_call 16; (with_reducible refine (scan_new H.out).mono ?_); rintro e_ wn ⟨sb, rfl, h⟩; replace H := Lib.hid h; clear h)
 go_loopw [5, 7, 11] (fun lv _ iv wr => ∃ (k : Nat) (acc : List BatR) (K2 : Know) (v : Value), k ≤ l.length ∧ iv = .int .i64 k ∧ Hid (acc.map BatR.b = (finS ((l.take k).flatten)).1) ∧ Hid (K2.has K) ∧ Hid (∀ x ∈ acc, K2.has (Know.recs (.slice x.q x.l.length x.cap) x.l)) ∧ Hid (∀ x ∈ acc, LiteR x) ∧ St W0 wr K2 (.row lv 37 12 acc.length (acc.flatMap batcells) :: .raw sb #[.int .i64 ((finS ((l.take k).flatten)).2.1 : Nat), v, .int .i64 (finS ((l.take k).flatten)).2.2.2] 78 :: .row v 5 1 (finS ((l.take k).flatten)).2.2.1.length (bvals (finS ((l.take k).flatten)).2.2.1) :: .raw rb #[.int .i64 0, .int .i64 0, .int .i64 0] 26 :: L)) (fun _ _ iv _ => l.length - (intOf iv).toNat)
 case atStart => exact ⟨0, [], K, .slice none 0 0, Nat.zero_le _, rfl, Lib.hid (by rw [List.take_zero]; show _ = (finS []).1; rw [fin_nil]; rfl), Lib.hid (Know.has_refl _), Lib.hid (fun x hx => by cases hx), Lib.hid (fun x hx => by cases hx), by
  rw [List.take_zero]
  show St W0 _ K (.row (.slice none 0 0) 37 12 0 [] :: .raw sb #[.int .i64 ((finS []).2.1 : Nat), .slice none 0 0, .int .i64 (finS []).2.2.2] 78 :: .row (.slice none 0 0) 5 1 (finS []).2.2.1.length (bvals (finS []).2.2.1) :: .raw rb #[.int .i64 0, .int .i64 0, .int .i64 0] 26 :: L)
  rw [fin_nil]
  exact (H.out.nilRow 5 1).p1.nilRow 37 12⟩
 case round =>
  obtain ⟨k, acc, K2, v, hkl, rfl, HMAP, HKK, HREC, HLIT, hst⟩ := hrel
  clear H
  have hAk : ((l.take k).flatten).length ≤ 90000 := by
    have h1 : l.flatten = ((l.take k).flatten) ++ (l.drop k).flatten := by rw [← List.flatten_append, List.take_append_drop]
    have h2 := congrArg List.length h1
    rw [List.length_append, HAE.out] at h2
    have := HAL.out
    omega
  have hcn := fin_count ((l.take k).flatten)
  have hfr := fin_rest ((l.take k).flatten)
  have hac := congrArg List.length HMAP.out
  rw [List.length_map] at hac
  have HAB := Lib.hid (show acc.length ≤ 2000 by omega)
  obtain ⟨⟨bs, vd, rs, er⟩, hfe⟩ : ∃ r, finS ((l.take k).flatten) = r := ⟨_, rfl⟩
  replace hst : St W0 wr K2 (.row u5 37 12 acc.length (acc.flatMap batcells) :: .raw sb #[.int .i64 (vd : Nat), v, .int .i64 er] 78 :: .row v 5 1 rs.length (bvals rs) :: .raw rb #[.int .i64 0, .int .i64 0, .int .i64 0] 26 :: L) := by rw [hfe] at hst; exact hst
  rw [hfe] at hfr
  simp only at hfr
  have H := Lib.hid hst
  by_cases hlt : k < l.length
  · obtain ⟨b0, off, hqq⟩ := strs_at HK.out (H.out.know HKK.out) (by omega)
    subst hqq
    obtain ⟨c, hc⟩ : ∃ c, l[k] = c := ⟨_, rfl⟩
    have c0 := strs_cell HK.out (H.out.know HKK.out) k hlt c hc
    have hkn : (k : Int) < (l.length : Int) := by omega
    have hAn : (l.take (k + 1)).flatten = ((l.take k).flatten) ++ c := by rw [List.take_succ_eq_append_getElem hlt, List.flatten_append, hc]; simp
    have hAkn : ((l.take (k + 1)).flatten).length ≤ 90000 := by
      have h1 : l.flatten = (l.take (k + 1)).flatten ++ (l.drop (k + 1)).flatten := by rw [← List.flatten_append, List.take_append_drop]
      have h2 := congrArg List.length h1
      rw [List.length_append, HAE.out] at h2
      have := HAL.out
      omega
    rw [hAn, List.length_append] at hAkn
    have HANX := Lib.hid hAn
    have HFE := Lib.hid hfe
    by_cases he : er = 0
    · subst he
      obtain ⟨T, hT⟩ : ∃ T, rs ++ c = T := ⟨_, rfl⟩
      have hTl := congrArg List.length hT
      rw [List.length_append] at hTl
      have HT := Lib.hid hT
      have HTL := Lib.hid (show T.length ≤ 100000 by omega)
      have HV := Lib.hid (show vd ≤ 1000000 by omega)
      have HSL := Lib.hid (show (scanS T).1.length ≤ 10000 by
        have := fin_count T
        have h8 : (finS T).1 = (scanS T).1 := rfl
        rw [h8] at this
        omega)
      have HFG := Lib.hid (show finS ((l.take (k + 1)).flatten) = (bs ++ (scanS T).1, vd + (T.length - (scanS T).2.1.length), (if (scanS T).2.2 ≠ 0 then [] else (scanS T).2.1), (scanS T).2.2) by
        have h7 := fin_good ((l.take k).flatten) c (by rw [hfe])
        rw [hAn, h7, hfe]
        simp only
        rw [hT])
      clear hst hc hAn hAkn hfe hfr hcn hac hAk hT hTl
      go_wp2_with (first
  | (go_at_call 17; (with_reducible refine (scan_feed sb vd rs c T HT.out v HTL.out HV.out H.out.p2.p2).mono ?_); rintro e_ wn ⟨v', q', cap', lr', rfl, hqc, hlr, hlit, _, h⟩; have h := h.p2; have HQC := Lib.hid hqc; have HLR := Lib.hid hlr; have HLIT2 := Lib.hid hlit; clear hqc hlr hlit; replace H := Lib.hid h; clear h)
  | (at_builtin; refine wpl_appbats rfl _ _ rfl u5 _ _ rfl H.out q' cap' lr' rfl (Know.has_right (Know.has_refl _)) HQC.out (by have := HAB.out; have h9 := congrArg List.length HLR.out; rw [List.length_map] at h9; have := HSL.out; omega) ?_; intro v2 w2 h; replace H := Lib.hid h; clear h))
      go_roundw
      case rel => exact ⟨k + 1, acc ++ lr', K2.and (Know.bats (.slice q' lr'.length cap') lr'), v', hlt, by go_num, Lib.hid (by rw [HFG.out, List.map_append, HMAP.out, HLR.out, HFE.out]), Lib.hid (Know.has_trans (Know.has_left (Know.has_refl _)) HKK.out), Lib.hid (fun x hx => by
        rcases List.mem_append.1 hx with hx | hx
        · exact Know.has_left (HREC.out x hx)
        · exact bats_recs (Know.has_right (Know.has_refl _)) hx), Lib.hid (fun x hx => by
        rcases List.mem_append.1 hx with hx | hx
        · exact HLIT.out x hx
        · exact HLIT2.out x hx), by rw [HFG.out, List.length_append, List.flatMap_append]; exact H.out⟩
      case measure => first | (simp [intOf]; done) | (simp [intOf]; omega)
    · have HER := Lib.hid he
      have HFG := Lib.hid (show finS ((l.take (k + 1)).flatten) = (bs, vd, rs, er) by
        rw [hAn, fin_bad ((l.take k).flatten) c (by rw [hfe]; exact he), hfe])
      clear hst hc hAn hAkn hfe hfr hcn hac hAk he
      go_wp2_with (first
  | (go_at_call 17; (with_reducible refine (feed_bad sb c _ v er HER.out H.out.p1).mono ?_); rintro e_ wn ⟨rfl, h⟩; have h := h.p1; replace H := Lib.hid h; clear h)
  | (at_builtin; refine wpl_appbats rfl _ _ rfl u5 _ _ rfl H.out none 0 [] rfl (bats_nilS _) (fun _ => rfl) (by have := HAB.out; simp only [List.length_nil]; omega) ?_; intro v2 w2 h; replace H := Lib.hid h; clear h))
      go_roundw
      case rel => exact ⟨k + 1, acc, K2, v, hlt, by go_num, Lib.hid (by rw [HFG.out, HMAP.out, HFE.out]), Lib.hid HKK.out, Lib.hid HREC.out, Lib.hid HLIT.out, by rw [HFG.out]; have h := H.out; simp only [List.flatMap_nil, List.append_nil, List.length_nil, Nat.add_zero] at h; exact h⟩
      case measure => first | (simp [intOf]; done) | (simp [intOf]; omega)
  · obtain rfl : k = l.length := by omega
    have HFE := Lib.hid (show finS A = (bs, vd, rs, er) by rw [← HAE.out, ← hfe, List.take_length])
    have HMAP2 := Lib.hid (show acc.map BatR.b = bs by rw [HMAP.out, hfe])
    have HCNT := Lib.hid (show 61 * acc.length ≤ A.length by rw [List.take_length, HAE.out] at hcn; rw [List.take_length, HAE.out] at hac; omega)
    have hform : ∃ q2 cap2, u5 = .slice q2 acc.length cap2 ∧ ((q2 = none ∧ cap2 = 0) ∨ ∃ g, q2 = some ⟨g, 0, none⟩) ∧ acc.length ≤ cap2 := by
      rcases hst.rowGet.2 with ⟨e1, e2⟩ | ⟨g2, cap2, _, e1, _, _, e4, _⟩
      · exact ⟨none, 0, by rw [e1, e2], .inl ⟨rfl, rfl⟩, by omega⟩
      · exact ⟨_, cap2, e1, .inr ⟨g2, rfl⟩, e4⟩
    obtain ⟨q2, cap2, rfl, hq2⟩ := hform
    have HQ2 := Lib.hid hq2
    have hf := hst.freezeBats HREC.out
    have hf := hf.know (K' := K.and (Know.bats _ acc)) (fun w F hh => ⟨HKK.out _ _ hh.1, hh.2⟩)
    obtain ⟨pv, cv, hpv⟩ := hf.p1.rowAny
    subst hpv
    clear H HMAP
    have HMAP := HMAP2
    clear HMAP2
    have H := Lib.hid hf
    clear hst hfe hfr hcn hac hAk hf hq2
    by_cases he : er = 0
    · subst he
      by_cases hr : rs = []
      · subst hr
        go_wp2_with (go_at_call 18; (with_reducible refine (close_clean sb vd pv _ cv rfl H.out).mono ?_); rintro e_ wn ⟨rfl, h⟩; have h := h.p2; have d0 := h.rawCell 0; have b0 := h.rawFree 0; have d1 := h.rawCell 1; have b1 := h.rawFree 1; have d2 := h.rawCell 2; have b2 := h.rawFree 2; simp at d0 d1 d2; replace H := Lib.hid h; clear h)
        have hz : St W0 _ _ (.raw rb #[.int .i64 vd, .int .i64 0, .int .i64 0] 26 :: _) := (((H.out.rawSet 0 (.int .i64 vd)).rawSet 1 (.int .i64 0)).rawSet 2 (.int .i64 0))
        refine bodyPost_ret (rc_tmp_cellS rfl _ _ rb [.int .i64 vd, .int .i64 0, .int .i64 0] _ rfl (rc_range hz) Try.underlying26 rfl (by kernel_rfl)) rfl ?_
        exact ⟨q2, cap2, acc, by rw [HFE.out]; rfl, by rw [HFE.out]; exact HMAP.out, HLIT.out, HCNT.out, HQ2.out, hz.drop.drop.drop⟩
      · have hrl := List.length_pos_iff.2 hr
        have HRL2 := Lib.hid hrl
        have hst2 : stopS rs 0 = 1 := by unfold stopS; rw [if_neg (by simp), if_pos hr]
        have HST2 := Lib.hid hst2
        clear hr hrl hst2
        go_wp2_with (go_at_call 18; (with_reducible refine (close_torn sb vd pv _ cv HRL2.out H.out).mono ?_); rintro e_ wn ⟨rfl, h⟩; have h := h.p2; have d0 := h.rawCell 0; have b0 := h.rawFree 0; have d1 := h.rawCell 1; have b1 := h.rawFree 1; have d2 := h.rawCell 2; have b2 := h.rawFree 2; simp at d0 d1 d2; replace H := Lib.hid h; clear h)
        have hz : St W0 _ _ (.raw rb #[.int .i64 vd, .int .i64 1, .int .i64 0] 26 :: _) := (((H.out.rawSet 0 (.int .i64 vd)).rawSet 1 (.int .i64 1)).rawSet 2 (.int .i64 0))
        refine bodyPost_ret (rc_tmp_cellS rfl _ _ rb [.int .i64 vd, .int .i64 1, .int .i64 0] _ rfl (rc_range hz) Try.underlying26 rfl (by kernel_rfl)) rfl ?_
        exact ⟨q2, cap2, acc, by rw [HFE.out]; show _ = Ending.returned (.tuple #[_, .agg #[_, .int .i64 (stopS rs 0), _]]); rw [HST2.out]; rfl, by rw [HFE.out]; exact HMAP.out, HLIT.out, HCNT.out, HQ2.out, hz.drop.drop.drop⟩
    · have HER := Lib.hid he
      have hst2 : stopS rs er = 2 := by unfold stopS; rw [if_pos he]
      have HST2 := Lib.hid hst2
      clear he hst2
      go_wp2_with (go_at_call 18; (with_reducible refine (close_bad sb vd pv _ cv er HER.out H.out).mono ?_); rintro e_ wn ⟨rfl, h⟩; have h := h.p2; have d0 := h.rawCell 0; have b0 := h.rawFree 0; have d1 := h.rawCell 1; have b1 := h.rawFree 1; have d2 := h.rawCell 2; have b2 := h.rawFree 2; simp at d0 d1 d2; replace H := Lib.hid h; clear h)
      have hz : St W0 _ _ (.raw rb #[.int .i64 vd, .int .i64 2, .int .i64 er] 26 :: _) := (((H.out.rawSet 0 (.int .i64 vd)).rawSet 1 (.int .i64 2)).rawSet 2 (.int .i64 er))
      refine bodyPost_ret (rc_tmp_cellS rfl _ _ rb [.int .i64 vd, .int .i64 2, .int .i64 er] _ rfl (rc_range hz) Try.underlying26 rfl (by kernel_rfl)) rfl ?_
      exact ⟨q2, cap2, acc, by rw [HFE.out]; show _ = Ending.returned (.tuple #[_, .agg #[_, .int .i64 (stopS rs er), _]]); rw [HST2.out]; rfl, by rw [HFE.out]; exact HMAP.out, HLIT.out, HCNT.out, HQ2.out, hz.drop.drop.drop⟩

end Go.Proofs.Ytngojlinfdokpaa

/- A text. -/
namespace Go.Proofs.Ytngojlinfdokpaa
open Go.RowKit

theorem cells_int : Try.prog.cellsOf 3 = 1 := by kernel_rfl
theorem cells_str : Try.prog.cellsOf 9 = 1 := by kernel_rfl
theorem len2 {α : Type} {l : List α} (h : l.length = 2) : ∃ a b, l = [a, b] := by
 match l, h with
 | [a, b], _ => exact ⟨a, b, rfl⟩
theorem len3 {α : Type} {l : List α} (h : l.length = 3) : ∃ a b c, l = [a, b, c] := by
 match l, h with
 | [a, b, c], _ => exact ⟨a, b, c, rfl⟩
end Go.Proofs.Ytngojlinfdokpaa

/- A text. -/
namespace Go.Proofs.Ytngojlinfdokpaa
open Go.RowKit
open Go.ChangeShapes Go.WideShapes Go.ChangeAt Go.Deep

def Light {H : Type} (t : TypeId) (d : DataW H) : Prop := ∀ k ∈ d.weights Try.prog t, k ≤ reachBytes
theorem reach_eq : reachBytes = 140737488351232 := rfl

section
variable {H : Type} {enc : TypeId × Value → H} {w : World} {spare : Nat → Bool} {held : Bool}

theorem light_arg {ts : List TypeId} {ds : List (DataW H)} (h : (DataW.weightsEach Try.prog ts ds).all (· ≤ reachBytes) = true) {j : Nat} {t : TypeId} {d : DataW H} (ht : ts[j]? = some t) (hd : ds[j]? = some d) : Light t d := by
 intro k hk
 have := List.all_eq_true.1 h k (DataW.weights_mem_each ht hd k hk)
 simpa using this

theorem opens_field {t : TypeId} {fs : Array Field} {n N : Nat} {cs : List Value} {y : DataW H × List MemPlace} (ht : Try.prog.underlying t = some (.struct fs)) (h : DataW.trod enc Try.prog w 0 spare held n t cs = some y) (hl : Light t y.1) (hN : ∀ x ∈ y.2, x.block < N) :
  cs.length = Try.prog.cellsOf t ∧ ∃ m, ∀ (i : Nat) (f : Field), fs[i]? = some f → ∃ z, DataW.trod enc Try.prog w 0 spare held m f.type ((cs.drop f.offset).take (Try.prog.cellsOf f.type)) = some z ∧ Light f.type z.1 ∧ ∀ x ∈ z.2, x.block < N := by
 obtain ⟨xs, m, _, rfl, hc, hxl, hg⟩ := DataW.trod_struct ht h
 refine ⟨hc, m, fun i f hf => ?_⟩
 have hi : i < fs.size := (Array.getElem?_eq_some_iff.1 hf).1
 have hx : xs[i]? = some (xs[i]'(by omega)) := List.getElem?_eq_getElem (by omega)
 refine ⟨_, (hg i f hf).trans hx, ?_, fun x hxx => hN x (List.mem_flatMap.2 ⟨_, List.getElem_mem _, hxx⟩)⟩
 intro k hk
 refine hl k ?_
 simp only [DataW.weights, ht]
 exact DataW.weights_mem_each (j := i) (by rw [List.getElem?_map, Array.getElem?_toList, hf]; rfl) (by rw [List.getElem?_map, hx]; rfl) k hk

theorem opens_str {t : TypeId} {n : Nat} {cs : List Value} {y : DataW H × List MemPlace} (ht : Try.prog.underlying t = some .string) (h : DataW.trod enc Try.prog w 0 spare held n t cs = some y) (hl : Light t y.1) : ∃ s : Bs, cs = [.string (bb s)] ∧ s.length ≤ 140737488351232 := by
 obtain ⟨s, e, e2, q⟩ := DataW.trod_string ht h
 refine ⟨s.data.toList, e, ?_⟩
 subst e2
 have := hl s.data.toList.length (by simp [DataW.weights])
 rw [reach_eq] at this
 exact this
theorem opens_i64 {t : TypeId} {n : Nat} {cs : List Value} {y : DataW H × List MemPlace} (ht : Try.prog.underlying t = some (.int .i64)) (h : DataW.trod enc Try.prog w 0 spare held n t cs = some y) : ∃ x : Int, cs = [.int .i64 x] ∧ -9223372036854775808 ≤ x ∧ x < 9223372036854775808 := by
 obtain ⟨x, e, _, q⟩ := DataW.trod_int ht h
 exact ⟨x, e, wf_i64 q⟩
theorem opens_bool {t : TypeId} {n : Nat} {cs : List Value} {y : DataW H × List MemPlace} (ht : Try.prog.underlying t = some .bool) (h : DataW.trod enc Try.prog w 0 spare held n t cs = some y) : ∃ x : Bool, cs = [.bool x] := by
 obtain ⟨x, e, _⟩ := DataW.trod_bool ht h
 exact ⟨x, e⟩

theorem weightsAll_mem' {P : Program} {e : TypeId} : ∀ {l : List (DataW H)} {d : DataW H}, d ∈ l → ∀ k ∈ d.weights P e, k ∈ DataW.weightsAll P e l
  | a :: l, d, hd, k, hk => by
    simp only [DataW.weightsAll, List.mem_append]
    rcases List.mem_cons.1 hd with rfl | hd
    · exact .inl hk
    · exact .inr (weightsAll_mem' hd k hk)

theorem opens_rows {α : Type} {R : World → List Value → α → Prop} {t e : TypeId} {sz N : Nat} (ht : Try.prog.underlying t = some (.slice e)) (hC : Try.prog.cellsOf e = sz) (hsz : 0 < sz)
    (hR : ∀ n cs y, DataW.trod enc Try.prog w 0 spare held n e cs = some y → Light e y.1 → (∀ x ∈ y.2, x.block < N) → ∃ x, R w cs x)
    {fuel : Nat} {cs : List Value} {x : DataW H × List MemPlace} (h : DataW.trod enc Try.prog w 0 spare held fuel t cs = some x) (hl : Light t x.1) (hlt : ∀ y ∈ x.2, y.block < N) (hN : N ≤ w.heap.size) :
    ∃ v l, cs = [v] ∧ RowsOf R (· < N) w v sz l ∧ l.length * Try.prog.bytesOf e ≤ 140737488351232 ∧ l.length ≤ maxLen := by
  rcases open_slice ht h with ⟨rfl, rfl⟩ | ⟨a, len, cap, m, n, D, Pl, rfl, hb, hlc, hm, hmm, hx, hi⟩
  · exact ⟨_, [], rfl, ⟨none, 0, rfl, fun h => absurd h (by simp)⟩, by simp, by simp⟩
  · have hlm : len ≤ m := by rw [hmm]; split <;> omega
    have hp2 : x.2 = MemPlace.row a (m * Try.prog.cellsOf e) ++ (List.range m).flatMap Pl := by rw [hx]
    have hx1 : x.1 = .slice ((List.range len).map D) ((List.range (m - len)).map fun j => D (len + j)) := by rw [hx]
    have hsum : len * Try.prog.bytesOf e ≤ 140737488351232 := by
      have := hl (((List.range len).map D).length * Try.prog.bytesOf e + ((List.range (m - len)).map fun j => D (len + j)).length * Try.prog.bytesOf e) (by rw [hx1]; simp [DataW.weights, ht, Nat.add_mul])
      rw [reach_eq] at this
      simp only [List.length_map, List.length_range] at this
      omega
    have hle : ∀ i, i < len → Light e (D i) := by
      intro i hil k hk
      refine hl k ?_
      rw [hx1]
      simp only [DataW.weights, ht, List.mem_cons, List.mem_append]
      exact .inr (.inl (weightsAll_mem' (List.mem_map.2 ⟨i, List.mem_range.2 hil, rfl⟩) k hk))
    have key : ∀ i, i < len → ∃ y : α, ∃ cs', cs'.length = sz ∧ R w cs' y ∧ (∀ f u, cs'[f]? = some u → w.cell? ((a.add (i * sz)).add f) = some u) := by
      intro i hil
      obtain ⟨cs', hc, htr⟩ := hi i (by omega)
      obtain ⟨_, hcl, hat⟩ := World.cells?_some hc
      obtain ⟨y, hy⟩ := hR n cs' _ htr (hle i hil) (fun z hz => hlt z (by rw [hp2, List.mem_append]; exact .inr (List.mem_flatMap.2 ⟨i, by simp; omega, hz⟩)))
      rw [hC] at hcl hat
      refine ⟨y, cs', hcl, hy, fun f u hu => ?_⟩
      have hf : f < sz := by rw [← hcl]; exact (List.getElem?_eq_some_iff.1 hu).1
      rw [hat f hf, hu]
    obtain ⟨l, hll, hq⟩ := list_of len _ key
    refine ⟨_, l, rfl, ⟨some a, cap, by rw [hll], fun h0 => ?_⟩, by rw [hll]; exact hsum, by omega⟩
    obtain ⟨cs0, h1, h2, h3⟩ := hq 0 h0
    have hc0 : w.cell? a = some (cs0[0]'(by omega)) := by
      have := h3 0 _ (List.getElem?_eq_getElem (by omega))
      simpa [Addr.add] using this
    have hsp : a.spot = none := by
      cases hs : a.spot with
      | none => rfl
      | some s =>
        unfold World.cell? at hc0
        split at hc0 <;> simp_all
    obtain ⟨ab, ao, asp⟩ := a
    simp only at hsp
    subst hsp
    have hlt0 : ab < N := hlt (.cell ab ao) (by
      rw [hp2, List.mem_append]
      left
      simp only [MemPlace.row, List.mem_map, List.mem_range]
      exact ⟨0, by rw [hC]; exact Nat.mul_pos (by omega) hsz, by simp⟩)
    refine ⟨ab, ao, rfl, hlt0, Nat.lt_of_lt_of_le hlt0 hN, fun i hi => ?_⟩
    obtain ⟨cs', g1, g2, g3⟩ := hq i hi
    refine ⟨cs', g1, g2, fun f u hu => ?_⟩
    have := g3 f u hu
    have e1 : ∀ (o q : Nat), (⟨ab, o, none⟩ : Addr).add q = ⟨ab, o + q, none⟩ := by intro o q; unfold Addr.add; split <;> simp_all
    rw [e1, e1, Nat.add_assoc] at this
    exact this
end

theorem RowsOf.part {α : Type} {R : World → List Value → α → Prop} {Q : α → Prop} {D : Nat → Prop} {w : World} {v : Value} {sz : Nat} {l : List α} (h : RowsOf (fun w cs x => R w cs x ∧ Q x) D w v sz l) : RowsOf R D w v sz l ∧ ∀ x ∈ l, Q x := by
 refine ⟨h.mono (fun _ _ h => h) (fun _ _ h => h.1), fun x hx => ?_⟩
 obtain ⟨i, hi, rfl⟩ := List.mem_iff_getElem.1 hx
 obtain ⟨p, cap, rfl, h⟩ := h
 obtain ⟨b, off, rfl, _, _, hc⟩ := h (by omega)
 obtain ⟨cs, _, h2, _⟩ := hc i hi
 exact h2.2

end Go.Proofs.Ytngojlinfdokpaa

/- A text. -/
namespace Go.Proofs.Ytngojlinfdokpaa
open Go.RowKit

theorem elem_strS : ElemT Try.prog 9 (.string ⟨#[]⟩) 1 16 := elemT_of (by kernel_rfl) rfl (by decide)
def RU8 (cs : List Value) (x : Int) : Prop := cs = [.int .u8 x]
theorem cells_u8S : Try.prog.cellsOf 5 = 1 := by kernel_rfl
theorem flat_atS {α : Type} {R : List Value → α → Prop} {sz n cap : Nat} {q : Option Addr} {l : List α} {W0 w : World} {K : Know} {L : List Res} (hk : K.has (Know.flat R (.slice q n cap) sz l)) (h : St W0 w K L) (h0 : 0 < l.length) : ∃ b off, q = some ⟨b, off, none⟩ := by
 obtain ⟨F, hF, _⟩ := h.get
 obtain ⟨q2, cap2, hv, hr⟩ := (hk _ _ hF).at
 obtain ⟨b, off, hq, _⟩ := hr h0
 simp at hv
 exact ⟨b, off, hv.1.trans hq⟩
theorem u8_cell {W0 w : World} {K : Know} {L : List Res} {b off n cap : Nat} {l : List Int} (hk : K.has (Know.flat RU8 (.slice (some ⟨b, off, none⟩) n cap) 1 l)) (h : St W0 w K L) (i : Nat) (hi : i < l.length) (x : Int) (hx : l[i] = x) : w.cell? ⟨b, off + i, none⟩ = some (.int .u8 x) := by
 subst hx
 obtain ⟨F, hF, _⟩ := h.get
 obtain ⟨q2, cap2, hv, hr⟩ := (hk _ _ hF).at
 obtain ⟨b2, off2, hq, hc⟩ := hr (by omega)
 rw [hq] at hv
 simp at hv
 obtain ⟨⟨rfl, rfl⟩, _, _⟩ := hv
 obtain ⟨cs, _, hR, hcs⟩ := hc i hi
 unfold RU8 at hR
 subst hR
 have := hcs 0 _ rfl
 simpa using this
section
variable {H : Type} {enc : TypeId × Value → H} {w : World} {spare : Nat → Bool} {held : Bool}
open Go.ChangeShapes Go.WideShapes Go.ChangeAt Go.Deep
theorem ru8_opens {N : Nat} : ∀ n cs y, DataW.trod enc Try.prog w 0 spare held n 5 cs = some y → Light 5 y.1 → (∀ x ∈ y.2, x.block < N) → ∃ x : Int, RU8 cs x ∧ (0 ≤ x ∧ x < 256) := fun n cs y h _ _ => by
  obtain ⟨x, e, _, q⟩ := DataW.trod_int Try.underlying5 h
  exact ⟨x, e, wf_u8 q⟩
end
def cutS (s : Bs) : List Int → List Bs
  | [] => [s]
  | n :: t => s.take n.toNat :: cutS (s.drop n.toNat) t
theorem cutS_flat : ∀ (ns : List Int) (s : Bs), (cutS s ns).flatten = s
  | [], s => by simp [cutS]
  | n :: t, s => by rw [cutS, List.flatten_cons, cutS_flat t, List.take_append_drop]
theorem cutS_len : ∀ (ns : List Int) (s : Bs), (cutS s ns).length = ns.length + 1
  | [], s => rfl
  | n :: t, s => by rw [cutS, List.length_cons, cutS_len t, List.length_cons]
theorem buildStrS (s : ByteArray) (w : World) : (Instr.buildSlice 42 1 #[(0, .string s)]).run Try.prog w = .ok (.slice (some ⟨w.heap.size, 0, none⟩) 1 1) (w.alloc (.cells #[.string s] 9 (0, 0))) := by go_simp
theorem exec_buildS {o : Oper} {ρ : Operand → Value} (ps : Array (Nat × Value)) (v : Value) (w w' : World) (ho : execOp ρ o = (do pure (Next.value (← Instr.buildSlice 42 1 ps)))) (hb : (Instr.buildSlice 42 1 ps).run Try.prog w = .ok v w') : (execOp ρ o).run Try.prog w = .ok (.value v) w' := by
 rw [ho]
 simp [hb]
def scell (s : Bs) : List Value := [.string (bb s)]
theorem St.freezeTexts {W0 w : World} {K : Know} {L : List Res} {v : Value} {T : TypeId} {l : List Bs} (h : St W0 w K (.row v T 1 l.length (l.flatMap scell) :: L)) : St W0 w (K.and (Know.strs v l)) L := by
 refine h.freeze fun F S1 _ h1 => ?_
 obtain ⟨⟨g1, g2⟩, g3⟩ := h1
 rcases g2 with ⟨rfl, h0⟩ | ⟨g, cap, cur, rfl, _, hg, hn, hcm, hcs, htake⟩
 · exact ⟨none, 0, by rw [h0], fun hh => absurd hh (by omega)⟩
 · have hS : S1 g := (g3 g).2 rfl
   have hlt := heap_lt hg
   refine ⟨_, cap, rfl, fun _ => ⟨g, 0, rfl, .inr ⟨hS, hlt⟩, hlt, fun i hi => ?_⟩⟩
   refine ⟨[.string (bb l[i])], rfl, rfl, fun q u hu => ?_⟩
   have hq : q < 1 := (List.getElem?_eq_some_iff.1 hu).1
   obtain rfl : q = 0 := by omega
   rw [cell_at hg, Nat.zero_add]
   have e : (l.flatMap scell)[i * 1 + 0]? = some u := by
    rw [flatMap_get l scell 1 (fun x hx => rfl) i hi 0 (by decide)]
    exact hu
   rw [← htake, List.getElem?_take_of_lt (by omega)] at e
   simpa using e

end Go.Proofs.Ytngojlinfdokpaa

/- A text. -/
namespace Go.Proofs.Ytngojlinfdokpaa
open Go.RowKit

set_option maxHeartbeats 6000000 in
set_option maxRecDepth 100000 in
theorem law22_cut (s0 : Bs) (ns : List Int) (hs0 : s0.length ≤ 90000) (hns : ∀ x ∈ ns, 0 ≤ x ∧ x < 256) (hnl : ns.length ≤ 1000) (q : Option Addr) (cap : Nat) {W0 w : World} {K : Know} {L : List Res} (hk : K.has (Know.flat RU8 (.slice q ns.length cap) 1 ns)) (h : St W0 w K L) :
  Calls Try.prog 13 #[.string (bb s0), .slice q ns.length cap] w fun en w' => ∃ (q2 : Option Addr) (cap2 : Nat), en = .returned (.slice q2 (cutS s0 ns).length cap2) ∧ St W0 w' (K.and (Know.strs (.slice q2 (cutS s0 ns).length cap2) (cutS s0 ns))) L := by
 have H := Lib.hid h
 have HK := Lib.hid hk
 have HNS := Lib.hid hns
 have HNL := Lib.hid hnl
 have HS0 := Lib.hid hs0
 have hni : (ns.length : Int) ≤ 1000 := by omega
 clear h hk hns hs0 hnl
 go_enter Try.func13, Try.ntmps13
 go_wp2
 go_loopw [0, 5, 7, 8, 11] (fun sv ov _ _ iv wr => ∃ (k : Nat) (acc : List Bs) (s : Bs), k ≤ ns.length ∧ iv = .int .i64 k ∧ sv = .string (bb s) ∧ Hid (acc.length = k) ∧ Hid (acc ++ cutS s (ns.drop k) = cutS s0 ns) ∧ Hid (s.length ≤ s0.length) ∧ St W0 wr K (.row ov 9 1 acc.length (acc.flatMap scell) :: L)) (fun _ _ _ _ iv _ => ns.length - (intOf iv).toNat)
 case atStart => exact ⟨0, [], s0, Nat.zero_le _, rfl, rfl, Lib.hid rfl, Lib.hid (by rw [List.drop_zero]; rfl), Lib.hid (Nat.le_refl _), H.out.nilRow 9 1⟩
 case round =>
  obtain ⟨k, acc, s, hkl, rfl, rfl, HAL, HEQ, HSL, hst⟩ := hrel
  clear H
  have H := Lib.hid hst
  clear hst
  have HAB := Lib.hid (show acc.length ≤ 1000 by have := HAL.out; have := HNL.out; omega)
  have hsl : (s.length : Int) ≤ 90000 := by have := HSL.out; have := HS0.out; omega
  by_cases hlt : k < ns.length
  · obtain ⟨b0, off, hqq⟩ := flat_atS HK.out H.out (by omega)
    subst hqq
    obtain ⟨x, hx⟩ : ∃ x, ns[k] = x := ⟨_, rfl⟩
    have c0 := u8_cell HK.out H.out k hlt x hx
    obtain ⟨hx0, hx1⟩ := HNS.out x (hx ▸ List.getElem_mem hlt)
    have hkn : (k : Int) < (ns.length : Int) := by omega
    have HNX := Lib.hid (show (acc ++ [s.take x.toNat]) ++ cutS (s.drop x.toNat) (ns.drop (k + 1)) = cutS s0 ns by
      rw [← HEQ.out, List.drop_eq_getElem_cons hlt, hx, cutS, List.append_assoc]; rfl)
    have HSD := Lib.hid (show (s.drop x.toNat).length ≤ s0.length by rw [List.length_drop]; have := HSL.out; omega)
    have hwx : IntKind.i64.wrap x = x := by rw [IntKind.wrap_i64]; omega
    by_cases hxs : x ≤ (s.length : Int)
    · have hxn : x.toNat ≤ s.length := by omega
      have hxt : ((x.toNat : Nat) : Int) = x := by omega
      have HDR := Lib.hid (show List.take (s.length - x.toNat) (s.drop x.toNat) = s.drop x.toNat from List.take_of_length_le (by rw [List.length_drop]; exact Nat.le_refl _))
      clear hx
      go_wp2_with fail
      have hs := H.out.drew
      refine wp_region_held_drew (S := fun _ => True) (by kernel_rfl) trivial (fun hHeld => ?_)
      refine wpAnyH_take (i := 0) (oi := ⟨some 20, .move (.tmp 5), 42, "law.go:32", #[], none⟩) (v := ?_) rfl (by kernel_rfl) (by kernel_rfl) (by kernel_rfl) (fun _ _ _ h => h) (Or.inl ⟨by rfl, ?_⟩) (by assumption) ?_
      rotate_left
      · intro w hSw; (try dsimp only at hSw); go_simp; try with_reducible rfl
      simp only [Act.put, sA, sB, sC]
      refine wpAnyH_take (i := 1) (oi := ⟨some 21, .move (.tmp 0), 9, "law.go:32", #[], none⟩) (v := ?_) rfl (by kernel_rfl) (by kernel_rfl) (by kernel_rfl) (fun _ _ _ h => h) (Or.inl ⟨by rfl, ?_⟩) (by assumption) ?_
      rotate_left
      · intro w hSw; (try dsimp only at hSw); go_simp; try with_reducible rfl
      simp only [Act.put, sA, sB, sC]
      refine wpAnyH_take (i := 2) (oi := ⟨some 22, .move (.tmp 8), 3, "law.go:32", #[], none⟩) (v := ?_) rfl (by kernel_rfl) (by kernel_rfl) (by kernel_rfl) (fun _ _ _ h => h) (Or.inl ⟨by rfl, ?_⟩) (by assumption) ?_
      rotate_left
      · intro w hSw; (try dsimp only at hSw); go_simp; try with_reducible rfl
      simp only [Act.put, sA, sB, sC]
      refine wpAnyH_take (i := 3) (oi := ⟨some 23, .slice 9 (.tmp 21) none (some (.tmp 22)) none, 9, "law.go:32", #[.mk 1 .data, .mk 2 .data], none⟩) (v := ?_) rfl (by kernel_rfl) (by kernel_rfl) (by kernel_rfl) (fun _ _ _ h => h) (Or.inl ⟨by rfl, ?_⟩) (by assumption) ?_
      rotate_left
      · intro w hSw; (try dsimp only at hSw); go_simp; try with_reducible rfl
      simp only [Act.put, sA, sB, sC]
      refine wpAnyH_take (i := 6) (oi := ⟨some 26, .move (.tmp 0), 9, "law.go:32", #[], none⟩) (v := ?_) rfl (by kernel_rfl) (by kernel_rfl) (by kernel_rfl) (fun _ _ _ h => h) (Or.inl ⟨by rfl, ?_⟩) (by assumption) ?_
      rotate_left
      · intro w hSw; (try dsimp only at hSw); go_simp; try with_reducible rfl
      simp only [Act.put, sA, sB, sC]
      refine wpAnyH_take (i := 7) (oi := ⟨some 27, .move (.tmp 8), 3, "law.go:32", #[], none⟩) (v := ?_) rfl (by kernel_rfl) (by kernel_rfl) (by kernel_rfl) (fun _ _ _ h => h) (Or.inl ⟨by rfl, ?_⟩) (by assumption) ?_
      rotate_left
      · intro w hSw; (try dsimp only at hSw); go_simp; try with_reducible rfl
      simp only [Act.put, sA, sB, sC]
      refine wpAnyH_take (i := 8) (oi := ⟨some 28, .slice 9 (.tmp 26) (some (.tmp 27)) none none, 9, "law.go:32", #[.mk 6 .data, .mk 7 .data], none⟩) (v := ?_) rfl (by kernel_rfl) (by kernel_rfl) (by kernel_rfl) (fun _ _ _ h => h) (Or.inl ⟨by rfl, ?_⟩) (by assumption) ?_
      rotate_left
      · intro w hSw; (try dsimp only at hSw); go_simp; try with_reducible rfl
      simp only [Act.put, sA, sB, sC]
      refine wpAnyH_ready (rs := [4]) (by kernel_rfl) (by simp) (AllReadyH.cons (o := ⟨some 24, .buildSlice 42 1 #[(0, .tmp 23)], 42, "law.go:32", #[.mk 3 .data], none⟩) rfl (fun KK hK => ?_) AllReadyH.nil)
      · rw [if_pos (by rfl)]
        refine op_value (exec_buildS _ _ _ _ (by kernel_rfl) (buildStrS (bb (s.take x.toNat)) _)) ?_
        obtain ⟨wy, bS, ey, eb, hs⟩ := hs.allocEx #[.string (bb (s.take x.toNat))] 9
        rw [ey, eb]
        clear ey eb
        refine hK.out _ _ (trivial) (fun hHeld => ?_)
        clear hK KK
        try simp only [Act.put, sA, sB, sC]
        refine wpAnyH_ready (rs := [5]) (by kernel_rfl) (by simp) (AllReadyH.cons (o := ⟨some 25, .call { callee := .builtin .append, args := #[.tmp 20, .tmp 24], argTypes := #[42, 42] }, 42, "law.go:32", #[.mk 0 .data, .mk 4 .data], none⟩) rfl (fun KK hK => ?_) AllReadyH.nil)
        · rw [if_pos (by rfl)]
          refine op_app1 (.tmp 20) (.tmp 24) 42 rfl 9 Try.underlying42 elem_strS _ _ _ (by rfl) bS #[.string (bb (s.take x.toNat))] 9 hs (by rfl) rfl (by simp [Value.oneCell']) (by have := HAB.out; unfold maxLen; omega) (by have := HAB.out; omega) (fun v' w' h => ?_)
          have hs := h
          clear h
          refine hK.out _ _ (trivial) (fun hHeld => ?_)
          clear hK KK
          try simp only [Act.put, sA, sB, sC]
          refine wpAnyH_take (i := 9) (oi := ⟨some 5, .assign (.tmp 25), 42, "law.go:32", #[.mk 5 .data, .mk 5 .chain, .mk 0 .phase, .mk 1 .phase, .mk 2 .phase, .mk 3 .phase, .mk 4 .phase, .mk 5 .phase, { on := 6, ground := Ground.textOnly Departure.lateStores }, { on := 7, ground := Ground.textOnly Departure.lateStores }, { on := 8, ground := Ground.textOnly Departure.lateStoresUnsure }], none⟩) (v := ?_) rfl (by kernel_rfl) (by kernel_rfl) (by kernel_rfl) (fun _ _ _ h => h) (Or.inl ⟨by rfl, ?_⟩) (by assumption) ?_
          rotate_left
          · intro w hSw; (try dsimp only at hSw); go_simp; try with_reducible rfl
          simp only [Act.put, sA, sB, sC]
          refine wpAnyH_take (i := 10) (oi := ⟨some 0, .assign (.tmp 28), 9, "law.go:32", #[.mk 8 .data, .mk 9 .chain, .mk 0 .phase, .mk 1 .phase, .mk 2 .phase, .mk 3 .phase, .mk 4 .phase, .mk 5 .phase, .mk 6 .phase, .mk 7 .phase, .mk 8 .phase, .mk 9 .phase], none⟩) (v := ?_) rfl (by kernel_rfl) (by kernel_rfl) (by kernel_rfl) (fun _ _ _ h => h) (Or.inl ⟨by rfl, ?_⟩) (by assumption) ?_
          rotate_left
          · intro w hSw; (try dsimp only at hSw); go_simp; try with_reducible rfl
          simp only [Act.put, sA, sB, sC]
          refine wpAnyH_done (by kernel_rfl) ?_ _
          clear hHeld
          go_wp2_with fail
          go_roundw
          case rel => exact ⟨k + 1, acc ++ [s.take x.toNat], s.drop x.toNat, hlt, by go_num, by first | rfl | (rw [HDR.out]) | (simp only [HDR.out]), Lib.hid (by rw [List.length_append, HAL.out]; rfl), Lib.hid HNX.out, Lib.hid HSD.out, by rw [List.length_append, List.flatMap_append]; exact hs⟩
          case measure => first | (simp [intOf]; done) | (simp [intOf]; omega)
    · have hxn : s.length ≤ x.toNat := by omega
      have HTK := Lib.hid (show s.take x.toNat = s from List.take_of_length_le hxn)
      have HDR := Lib.hid (show s.drop x.toNat = [] from List.drop_of_length_le hxn)
      clear hx
      rw [HTK.out, HDR.out] at HNX
      rw [HDR.out] at HSD
      go_wp2_with fail
      have hs := H.out.drew
      refine wp_region_held_drew (S := fun _ => True) (by kernel_rfl) trivial (fun hHeld => ?_)
      refine wpAnyH_take (i := 0) (oi := ⟨some 20, .move (.tmp 5), 42, "law.go:32", #[], none⟩) (v := ?_) rfl (by kernel_rfl) (by kernel_rfl) (by kernel_rfl) (fun _ _ _ h => h) (Or.inl ⟨by rfl, ?_⟩) (by assumption) ?_
      rotate_left
      · intro w hSw; (try dsimp only at hSw); go_simp; try with_reducible rfl
      simp only [Act.put, sA, sB, sC]
      refine wpAnyH_take (i := 1) (oi := ⟨some 21, .move (.tmp 0), 9, "law.go:32", #[], none⟩) (v := ?_) rfl (by kernel_rfl) (by kernel_rfl) (by kernel_rfl) (fun _ _ _ h => h) (Or.inl ⟨by rfl, ?_⟩) (by assumption) ?_
      rotate_left
      · intro w hSw; (try dsimp only at hSw); go_simp; try with_reducible rfl
      simp only [Act.put, sA, sB, sC]
      refine wpAnyH_take (i := 2) (oi := ⟨some 22, .move (.tmp 8), 3, "law.go:32", #[], none⟩) (v := ?_) rfl (by kernel_rfl) (by kernel_rfl) (by kernel_rfl) (fun _ _ _ h => h) (Or.inl ⟨by rfl, ?_⟩) (by assumption) ?_
      rotate_left
      · intro w hSw; (try dsimp only at hSw); go_simp; try with_reducible rfl
      simp only [Act.put, sA, sB, sC]
      refine wpAnyH_take (i := 3) (oi := ⟨some 23, .slice 9 (.tmp 21) none (some (.tmp 22)) none, 9, "law.go:32", #[.mk 1 .data, .mk 2 .data], none⟩) (v := ?_) rfl (by kernel_rfl) (by kernel_rfl) (by kernel_rfl) (fun _ _ _ h => h) (Or.inl ⟨by rfl, ?_⟩) (by assumption) ?_
      rotate_left
      · intro w hSw; (try dsimp only at hSw); go_simp; try with_reducible rfl
      simp only [Act.put, sA, sB, sC]
      refine wpAnyH_take (i := 6) (oi := ⟨some 26, .move (.tmp 0), 9, "law.go:32", #[], none⟩) (v := ?_) rfl (by kernel_rfl) (by kernel_rfl) (by kernel_rfl) (fun _ _ _ h => h) (Or.inl ⟨by rfl, ?_⟩) (by assumption) ?_
      rotate_left
      · intro w hSw; (try dsimp only at hSw); go_simp; try with_reducible rfl
      simp only [Act.put, sA, sB, sC]
      refine wpAnyH_take (i := 7) (oi := ⟨some 27, .move (.tmp 8), 3, "law.go:32", #[], none⟩) (v := ?_) rfl (by kernel_rfl) (by kernel_rfl) (by kernel_rfl) (fun _ _ _ h => h) (Or.inl ⟨by rfl, ?_⟩) (by assumption) ?_
      rotate_left
      · intro w hSw; (try dsimp only at hSw); go_simp; try with_reducible rfl
      simp only [Act.put, sA, sB, sC]
      refine wpAnyH_take (i := 8) (oi := ⟨some 28, .slice 9 (.tmp 26) (some (.tmp 27)) none none, 9, "law.go:32", #[.mk 6 .data, .mk 7 .data], none⟩) (v := ?_) rfl (by kernel_rfl) (by kernel_rfl) (by kernel_rfl) (fun _ _ _ h => h) (Or.inl ⟨by rfl, ?_⟩) (by assumption) ?_
      rotate_left
      · intro w hSw; (try dsimp only at hSw); go_simp; try with_reducible rfl
      simp only [Act.put, sA, sB, sC]
      refine wpAnyH_ready (rs := [4]) (by kernel_rfl) (by simp) (AllReadyH.cons (o := ⟨some 24, .buildSlice 42 1 #[(0, .tmp 23)], 42, "law.go:32", #[.mk 3 .data], none⟩) rfl (fun KK hK => ?_) AllReadyH.nil)
      · rw [if_pos (by rfl)]
        refine op_value (exec_buildS _ _ _ _ (by kernel_rfl) (buildStrS (bb (s)) _)) ?_
        obtain ⟨wy, bS, ey, eb, hs⟩ := hs.allocEx #[.string (bb (s))] 9
        rw [ey, eb]
        clear ey eb
        refine hK.out _ _ (trivial) (fun hHeld => ?_)
        clear hK KK
        try simp only [Act.put, sA, sB, sC]
        refine wpAnyH_ready (rs := [5]) (by kernel_rfl) (by simp) (AllReadyH.cons (o := ⟨some 25, .call { callee := .builtin .append, args := #[.tmp 20, .tmp 24], argTypes := #[42, 42] }, 42, "law.go:32", #[.mk 0 .data, .mk 4 .data], none⟩) rfl (fun KK hK => ?_) AllReadyH.nil)
        · rw [if_pos (by rfl)]
          refine op_app1 (.tmp 20) (.tmp 24) 42 rfl 9 Try.underlying42 elem_strS _ _ _ (by rfl) bS #[.string (bb (s))] 9 hs (by rfl) rfl (by simp [Value.oneCell']) (by have := HAB.out; unfold maxLen; omega) (by have := HAB.out; omega) (fun v' w' h => ?_)
          have hs := h
          clear h
          refine hK.out _ _ (trivial) (fun hHeld => ?_)
          clear hK KK
          try simp only [Act.put, sA, sB, sC]
          refine wpAnyH_take (i := 9) (oi := ⟨some 5, .assign (.tmp 25), 42, "law.go:32", #[.mk 5 .data, .mk 5 .chain, .mk 0 .phase, .mk 1 .phase, .mk 2 .phase, .mk 3 .phase, .mk 4 .phase, .mk 5 .phase, { on := 6, ground := Ground.textOnly Departure.lateStores }, { on := 7, ground := Ground.textOnly Departure.lateStores }, { on := 8, ground := Ground.textOnly Departure.lateStoresUnsure }], none⟩) (v := ?_) rfl (by kernel_rfl) (by kernel_rfl) (by kernel_rfl) (fun _ _ _ h => h) (Or.inl ⟨by rfl, ?_⟩) (by assumption) ?_
          rotate_left
          · intro w hSw; (try dsimp only at hSw); go_simp; try with_reducible rfl
          simp only [Act.put, sA, sB, sC]
          refine wpAnyH_take (i := 10) (oi := ⟨some 0, .assign (.tmp 28), 9, "law.go:32", #[.mk 8 .data, .mk 9 .chain, .mk 0 .phase, .mk 1 .phase, .mk 2 .phase, .mk 3 .phase, .mk 4 .phase, .mk 5 .phase, .mk 6 .phase, .mk 7 .phase, .mk 8 .phase, .mk 9 .phase], none⟩) (v := ?_) rfl (by kernel_rfl) (by kernel_rfl) (by kernel_rfl) (fun _ _ _ h => h) (Or.inl ⟨by rfl, ?_⟩) (by assumption) ?_
          rotate_left
          · intro w hSw; (try dsimp only at hSw); go_simp; try with_reducible rfl
          simp only [Act.put, sA, sB, sC]
          refine wpAnyH_done (by kernel_rfl) ?_ _
          clear hHeld
          go_wp2_with fail
          go_roundw
          case rel => exact ⟨k + 1, acc ++ [s], [], hlt, by go_num, by first | rfl | simp, Lib.hid (by rw [List.length_append, HAL.out]; rfl), Lib.hid HNX.out, Lib.hid HSD.out, by rw [List.length_append, List.flatMap_append]; exact hs⟩
          case measure => first | (simp [intOf]; done) | (simp [intOf]; omega)
  · obtain rfl : k = ns.length := by omega
    have HEND := Lib.hid (show acc ++ [s] = cutS s0 ns by have := HEQ.out; rw [List.drop_length] at this; exact this)
    go_wp2_with (at_builtin; refine wpl_app1_st rfl _ _ 42 rfl 9 Try.underlying42 elem_strS _ _ _ rfl H.out [.string (bb s)] 9 rfl rfl (by simp [Value.oneCell']) (by have := HAB.out; unfold maxLen; omega) (by have := HAB.out; omega) ?_; intro v' w' h; replace H := Lib.hid h; clear h)
    have h3 := H.out
    rw [show acc.length + 1 = (acc ++ [s]).length by rw [List.length_append]; rfl, show acc.flatMap scell ++ [Value.string (bb s)] = (acc ++ [s]).flatMap scell by rw [List.flatMap_append]; rfl] at h3
    obtain ⟨q2, cap2, hv⟩ := h3.rowAny
    subst hv
    have h4 := h3.freezeTexts
    rw [HEND.out] at h4
    go_ret
    exact ⟨q2, cap2, by rw [← HEND.out, List.length_append]; rfl, h4⟩

end Go.Proofs.Ytngojlinfdokpaa

/- A text. -/
namespace Go.Proofs.Ytngojlinfdokpaa
open Go.RowKit

theorem lite_hdrs {x : BatR} (h : LiteR x) : x.l.length ≤ 1000000 ∧ ∀ y ∈ x.l, y.1.hdrs.length ≤ 9223372036854775807 := by
 obtain ⟨h1, h2, h3⟩ := h
 refine ⟨by have := congrArg List.length h1; rw [List.length_map] at this; omega, fun y hy => ?_⟩
 have := sum_hdrs (h3 y.1 (by rw [← h1]; exact List.mem_map_of_mem hy))
 omega
set_option maxHeartbeats 6000000 in
set_option maxRecDepth 100000 in
theorem ref11_rowsT (l1 l2 : List BatR) (q1 q2 : Option Addr) (cap1 cap2 : Nat) (hx : l1.map BatR.b = l2.map BatR.b) (hf1 : ∀ x ∈ l1, LiteR x) (hf2 : ∀ x ∈ l2, LiteR x) (hn : l1.length ≤ 100000) {W0 w : World} {K : Know} {L : List Res} (hk1 : K.has (Know.bats (.slice q1 l1.length cap1) l1)) (hk2 : K.has (Know.bats (.slice q2 l2.length cap2) l2)) (h : St W0 w K L) :
  Calls Try.prog 9 #[.slice q1 l1.length cap1, .slice q2 l2.length cap2] w fun en w' => en = .returned (.bool true) ∧ St W0 w' K L := by
 have H := Lib.hid h
 have HK1 := Lib.hid hk1
 have HK2 := Lib.hid hk2
 have HF1 := Lib.hid hf1
 have HF2 := Lib.hid hf2
 have HX := Lib.hid hx
 have hll : l1.length = l2.length := by have := congrArg List.length hx; rwa [List.length_map, List.length_map] at this
 have HLL := Lib.hid hll
 have hni : (l1.length : Int) ≤ 100000 := by omega
 have g0 : ((l1.length : Int) == (l2.length : Int)) = true := by rw [hll]; exact beq_self_eq_true _
 have g1 : ((l1.length : Int) != (l2.length : Int)) = false := by simp [bne, g0]
 clear h hk1 hk2 hf1 hf2 hx hll
 go_enter Try.func9, Try.ntmps9
 go_wp2
 go_loopw [5] (fun iv wr => ∃ k : Nat, k ≤ l1.length ∧ iv = .int .i64 k ∧ St W0 wr K L) (fun iv _ => l1.length - (intOf iv).toNat)
 case atStart => exact ⟨0, Nat.zero_le _, rfl, H.out⟩
 case round =>
  obtain ⟨k, hkl, rfl, hst⟩ := hrel
  clear H
  have H := Lib.hid hst
  clear hst
  by_cases hlt : k < l1.length
  · have hlt2 : k < l2.length := by rw [← HLL.out]; exact hlt
    obtain ⟨bk1, off1, hq1⟩ := bats_at HK1.out H.out (by omega)
    obtain ⟨bk2, off2, hq2⟩ := bats_at HK2.out H.out (by omega)
    subst hq1
    subst hq2
    obtain ⟨⟨b, xl1, xq1, xc1⟩, hx1⟩ : ∃ x, l1[k] = x := ⟨_, rfl⟩
    obtain ⟨⟨b2, xl2, xq2, xc2⟩, hx2⟩ : ∃ x, l2[k] = x := ⟨_, rfl⟩
    have hm1 : (⟨b, xl1, xq1, xc1⟩ : BatR) ∈ l1 := hx1 ▸ List.getElem_mem hlt
    have hm2 : (⟨b2, xl2, xq2, xc2⟩ : BatR) ∈ l2 := hx2 ▸ List.getElem_mem hlt2
    obtain rfl : b = b2 := by
      have h1 : (l1.map BatR.b)[k]? = some b := by rw [List.getElem?_map, List.getElem?_eq_getElem hlt, hx1]; rfl
      have h2 : (l2.map BatR.b)[k]? = some b2 := by rw [List.getElem?_map, List.getElem?_eq_getElem hlt2, hx2]; rfl
      rw [HX.out, h2] at h1
      exact (Option.some.inj h1).symm
    have hkn : (k : Int) < (l1.length : Int) := by omega
    have hkn2 : (k : Int) < (l2.length : Int) := by omega
    have HKA := Lib.hid (show K.has (Know.recs (.slice xq1 xl1.length xc1) xl1) from bats_recs HK1.out hm1)
    have HKB := Lib.hid (show K.has (Know.recs (.slice xq2 xl2.length xc2) xl2) from bats_recs HK2.out hm2)
    have HN1 := Lib.hid (show xl1.length ≤ 1000000 from (lite_hdrs (HF1.out _ hm1)).1)
    have HD1 := Lib.hid (show ∀ y ∈ xl1, y.1.hdrs.length ≤ 9223372036854775807 from (lite_hdrs (HF1.out _ hm1)).2)
    have HD2 := Lib.hid (show ∀ y ∈ xl2, y.1.hdrs.length ≤ 9223372036854775807 from (lite_hdrs (HF2.out _ hm2)).2)
    have HX1 := Lib.hid (show xl1.map (·.1) = b.recs from (HF1.out _ hm1).1)
    have HX2 := Lib.hid (show xl2.map (·.1) = b.recs from (HF2.out _ hm2).1)
    have HKP := Lib.hid (show ∀ w', St W0 w' K L → (w'.cell? ⟨bk1, off1 + k * 12, none⟩ = some (.int .i64 b.base) ∧ w'.cell? ⟨bk1, off1 + k * 12 + 1, none⟩ = some (.int .i64 b.leader) ∧ w'.cell? ⟨bk1, off1 + k * 12 + 2, none⟩ = some (.bool b.app) ∧ w'.cell? ⟨bk1, off1 + k * 12 + 3, none⟩ = some (.bool b.txn) ∧ w'.cell? ⟨bk1, off1 + k * 12 + 4, none⟩ = some (.bool b.ctl) ∧ w'.cell? ⟨bk1, off1 + k * 12 + 5, none⟩ = some (.int .i64 b.last) ∧ w'.cell? ⟨bk1, off1 + k * 12 + 6, none⟩ = some (.int .i64 b.first) ∧ w'.cell? ⟨bk1, off1 + k * 12 + 7, none⟩ = some (.int .i64 b.maxt) ∧ w'.cell? ⟨bk1, off1 + k * 12 + 8, none⟩ = some (.int .i64 b.prod) ∧ w'.cell? ⟨bk1, off1 + k * 12 + 9, none⟩ = some (.int .i64 b.epoch) ∧ w'.cell? ⟨bk1, off1 + k * 12 + 10, none⟩ = some (.int .i64 b.seq) ∧ w'.cell? ⟨bk1, off1 + k * 12 + 11, none⟩ = some (.slice xq1 xl1.length xc1) ∧ w'.cell? ⟨bk2, off2 + k * 12, none⟩ = some (.int .i64 b.base) ∧ w'.cell? ⟨bk2, off2 + k * 12 + 1, none⟩ = some (.int .i64 b.leader) ∧ w'.cell? ⟨bk2, off2 + k * 12 + 2, none⟩ = some (.bool b.app) ∧ w'.cell? ⟨bk2, off2 + k * 12 + 3, none⟩ = some (.bool b.txn) ∧ w'.cell? ⟨bk2, off2 + k * 12 + 4, none⟩ = some (.bool b.ctl) ∧ w'.cell? ⟨bk2, off2 + k * 12 + 5, none⟩ = some (.int .i64 b.last) ∧ w'.cell? ⟨bk2, off2 + k * 12 + 6, none⟩ = some (.int .i64 b.first) ∧ w'.cell? ⟨bk2, off2 + k * 12 + 7, none⟩ = some (.int .i64 b.maxt) ∧ w'.cell? ⟨bk2, off2 + k * 12 + 8, none⟩ = some (.int .i64 b.prod) ∧ w'.cell? ⟨bk2, off2 + k * 12 + 9, none⟩ = some (.int .i64 b.epoch) ∧ w'.cell? ⟨bk2, off2 + k * 12 + 10, none⟩ = some (.int .i64 b.seq) ∧ w'.cell? ⟨bk2, off2 + k * 12 + 11, none⟩ = some (.slice xq2 xl2.length xc2)) from fun w' hs => by
      obtain ⟨a0, a1, a2, a3, a4, a5, a6, a7, a8, a9, a10, a11⟩ := bats_cell HK1.out hs k hlt _ hx1
      obtain ⟨d0, d1, d2, d3, d4, d5, d6, d7, d8, d9, d10, d11⟩ := bats_cell HK2.out hs k hlt2 _ hx2
      exact ⟨a0, a1, a2, a3, a4, a5, a6, a7, a8, a9, a10, a11, d0, d1, d2, d3, d4, d5, d6, d7, d8, d9, d10, d11⟩)
    clear hx1 hx2 hm1 hm2
    go_wp2
    have hs := H.out.drew
    refine wp_region_held_drew (S := fun w' => w'.cell? ⟨bk1, off1 + k * 12, none⟩ = some (.int .i64 b.base) ∧ w'.cell? ⟨bk1, off1 + k * 12 + 1, none⟩ = some (.int .i64 b.leader) ∧ w'.cell? ⟨bk1, off1 + k * 12 + 2, none⟩ = some (.bool b.app) ∧ w'.cell? ⟨bk1, off1 + k * 12 + 3, none⟩ = some (.bool b.txn) ∧ w'.cell? ⟨bk1, off1 + k * 12 + 4, none⟩ = some (.bool b.ctl) ∧ w'.cell? ⟨bk1, off1 + k * 12 + 5, none⟩ = some (.int .i64 b.last) ∧ w'.cell? ⟨bk1, off1 + k * 12 + 6, none⟩ = some (.int .i64 b.first) ∧ w'.cell? ⟨bk1, off1 + k * 12 + 7, none⟩ = some (.int .i64 b.maxt) ∧ w'.cell? ⟨bk1, off1 + k * 12 + 8, none⟩ = some (.int .i64 b.prod) ∧ w'.cell? ⟨bk1, off1 + k * 12 + 9, none⟩ = some (.int .i64 b.epoch) ∧ w'.cell? ⟨bk1, off1 + k * 12 + 10, none⟩ = some (.int .i64 b.seq) ∧ w'.cell? ⟨bk1, off1 + k * 12 + 11, none⟩ = some (.slice xq1 xl1.length xc1) ∧ w'.cell? ⟨bk2, off2 + k * 12, none⟩ = some (.int .i64 b.base) ∧ w'.cell? ⟨bk2, off2 + k * 12 + 1, none⟩ = some (.int .i64 b.leader) ∧ w'.cell? ⟨bk2, off2 + k * 12 + 2, none⟩ = some (.bool b.app) ∧ w'.cell? ⟨bk2, off2 + k * 12 + 3, none⟩ = some (.bool b.txn) ∧ w'.cell? ⟨bk2, off2 + k * 12 + 4, none⟩ = some (.bool b.ctl) ∧ w'.cell? ⟨bk2, off2 + k * 12 + 5, none⟩ = some (.int .i64 b.last) ∧ w'.cell? ⟨bk2, off2 + k * 12 + 6, none⟩ = some (.int .i64 b.first) ∧ w'.cell? ⟨bk2, off2 + k * 12 + 7, none⟩ = some (.int .i64 b.maxt) ∧ w'.cell? ⟨bk2, off2 + k * 12 + 8, none⟩ = some (.int .i64 b.prod) ∧ w'.cell? ⟨bk2, off2 + k * 12 + 9, none⟩ = some (.int .i64 b.epoch) ∧ w'.cell? ⟨bk2, off2 + k * 12 + 10, none⟩ = some (.int .i64 b.seq) ∧ w'.cell? ⟨bk2, off2 + k * 12 + 11, none⟩ = some (.slice xq2 xl2.length xc2)) (by kernel_rfl) (HKP.out _ hs) (fun hHeld => ?_)
    refine wpAnyH_take (i := 0) (oi := ⟨some 17, .move (.tmp 0), 23, "ref.go:193", #[], none⟩) (v := ?_) rfl (by kernel_rfl) (by kernel_rfl) (by kernel_rfl) (fun _ _ _ h => h) (Or.inl ⟨by rfl, ?_⟩) (by assumption) ?_
    rotate_left
    · intro w hSw; (try dsimp only at hSw); go_simp; try with_reducible rfl
    simp only [Act.put, sA, sB, sC]
    refine wpAnyH_take (i := 1) (oi := ⟨some 18, .move (.tmp 5), 3, "ref.go:193", #[], none⟩) (v := ?_) rfl (by kernel_rfl) (by kernel_rfl) (by kernel_rfl) (fun _ _ _ h => h) (Or.inl ⟨by rfl, ?_⟩) (by assumption) ?_
    rotate_left
    · intro w hSw; (try dsimp only at hSw); go_simp; try with_reducible rfl
    simp only [Act.put, sA, sB, sC]
    refine wpAnyH_take (i := 2) (oi := ⟨some 19, .indexAddr 23 (.tmp 17) (.tmp 18), 0, "ref.go:193", #[.mk 0 .data, .mk 1 .data], none⟩) (v := ?_) rfl (by kernel_rfl) (by kernel_rfl) (by kernel_rfl) (fun _ _ _ h => h) (Or.inl ⟨by rfl, ?_⟩) (by assumption) ?_
    rotate_left
    · intro w hSw; (try dsimp only at hSw); go_simp; try with_reducible rfl
    simp only [Act.put, sA, sB, sC]
    refine wpAnyH_take (i := 3) (oi := ⟨some 20, .load 37 (.tmp 19), 37, "ref.go:193", #[.mk 2 .data], none⟩) (v := ?_) rfl (by kernel_rfl) (by kernel_rfl) (by kernel_rfl) (fun _ _ _ h => h) (Or.inl ⟨by rfl, ?_⟩) (by assumption) ?_
    rotate_left
    · intro w hSw; (try dsimp only at hSw); go_simp; try with_reducible rfl
    simp only [Act.put, sA, sB, sC]
    refine wpAnyH_take (i := 4) (oi := ⟨some 21, .move (.tmp 1), 23, "ref.go:193", #[], none⟩) (v := ?_) rfl (by kernel_rfl) (by kernel_rfl) (by kernel_rfl) (fun _ _ _ h => h) (Or.inl ⟨by rfl, ?_⟩) (by assumption) ?_
    rotate_left
    · intro w hSw; (try dsimp only at hSw); go_simp; try with_reducible rfl
    simp only [Act.put, sA, sB, sC]
    refine wpAnyH_take (i := 5) (oi := ⟨some 22, .move (.tmp 5), 3, "ref.go:193", #[], none⟩) (v := ?_) rfl (by kernel_rfl) (by kernel_rfl) (by kernel_rfl) (fun _ _ _ h => h) (Or.inl ⟨by rfl, ?_⟩) (by assumption) ?_
    rotate_left
    · intro w hSw; (try dsimp only at hSw); go_simp; try with_reducible rfl
    simp only [Act.put, sA, sB, sC]
    refine wpAnyH_take (i := 6) (oi := ⟨some 23, .indexAddr 23 (.tmp 21) (.tmp 22), 0, "ref.go:193", #[.mk 4 .data, .mk 5 .data], none⟩) (v := ?_) rfl (by kernel_rfl) (by kernel_rfl) (by kernel_rfl) (fun _ _ _ h => h) (Or.inl ⟨by rfl, ?_⟩) (by assumption) ?_
    rotate_left
    · intro w hSw; (try dsimp only at hSw); go_simp; try with_reducible rfl
    simp only [Act.put, sA, sB, sC]
    refine wpAnyH_take (i := 7) (oi := ⟨some 24, .load 37 (.tmp 23), 37, "ref.go:193", #[.mk 6 .data], none⟩) (v := ?_) rfl (by kernel_rfl) (by kernel_rfl) (by kernel_rfl) (fun _ _ _ h => h) (Or.inl ⟨by rfl, ?_⟩) (by assumption) ?_
    rotate_left
    · intro w hSw; (try dsimp only at hSw); go_simp; try with_reducible rfl
    simp only [Act.put, sA, sB, sC]
    refine wpAnyH_ready (rs := [8]) (by kernel_rfl) (by simp) (AllReadyH.cons (o := ⟨some 25, .call { callee := .value (.func 21), args := #[.tmp 20, .tmp 24], argTypes := #[37, 37] }, 4, "ref.go:193", #[.mk 3 .data, .mk 7 .data], none⟩) rfl (fun KK hK => ?_) AllReadyH.nil)
    · go_simp
      go_at_call 21
      with_reducible refine (ref11_sameT b xl1 xl2 xq1 xq2 xc1 xc2 HN1.out HX1.out HX2.out HD1.out HD2.out HKA.out HKB.out hs).mono ?_
      rintro e wq ⟨rfl, hs⟩
      refine hK.out _ _ (HKP.out _ hs) (fun hHeld => ?_)
      clear hK KK
      try simp only [Act.put, sA, sB, sC]
      refine wpAnyH_take (i := 9) (oi := ⟨some 26, .unOp UnOp.not 4 (.tmp 25), 4, "ref.go:193", #[.mk 8 .data], none⟩) (v := ?_) rfl (by kernel_rfl) (by kernel_rfl) (by kernel_rfl) (fun _ _ _ h => h) (Or.inl ⟨by rfl, ?_⟩) (by assumption) ?_
      rotate_left
      · intro w hSw; (try dsimp only at hSw); go_simp; try with_reducible rfl
      simp only [Act.put, sA, sB, sC]
      refine wpAnyH_done (by kernel_rfl) ?_ _
      clear hHeld
      go_wp2_with fail
      go_roundw
      case rel => exact ⟨k + 1, hlt, by go_num, hs⟩
      case measure => first | (simp [intOf]; done) | (simp [intOf]; omega)
  · obtain rfl : k = l1.length := by omega
    go_wp2
    go_ret
    exact ⟨rfl, H.out⟩

end Go.Proofs.Ytngojlinfdokpaa
