/- A text. -/
import Derived.Test.YtngojlinfdokpaaGreatGScanRows9
import Derived.Test.YtngojlinfdokpaaGreatGScanRows5
import Derived.Test.YtngojlinfdokpaaGreatGScanRows10
import Derived.Deep.RegionHeld3
import Derived.Deep.DeepCutAuto
import Derived.IntWalk
import Derived.Test.YtngojlinfdokpaaGreatGrow
import Derived.Test.YtngojlinfdokpaaGreatGScanRows7
import Derived.Test.YtngojlinfdokpaaGreatGScanRows1
import Derived.Laws.CopyOwn
/- A text. -/
namespace Go.Proofs.YtngojlinfdokpaaGreat
open Go.RowKit

theorem wp_op_value {P : Program} {o : Oper} {a : Act} {w w' : World} {v : Value} {KK : Act → World → Prop} {Q : Exit → Act → World → Prop} (hr : (execOp a.eval o).run P w = .ok (.value v) w') (h : KK (a.put o.dst v) w') : o.wp P a w KK Q := by
 unfold Oper.wp
 rw [hr]
 exact h
theorem build12 (n0 n1 n2 n3 n4 n5 n6 n7 n8 n9 n10 n11 : Int) (w : World) : (Instr.buildSlice 40 12 #[(0, .int .i64 n0), (1, .int .i64 n1), (2, .int .i64 n2), (3, .int .i64 n3), (4, .int .i64 n4), (5, .int .i64 n5), (6, .int .i64 n6), (7, .int .i64 n7), (8, .int .i64 n8), (9, .int .i64 n9), (10, .int .i64 n10), (11, .int .i64 n11)]).run Tryz.prog w = .ok (.slice (some ⟨w.heap.size, 0, none⟩) 12 12) (w.alloc (.cells #[.int .i64 n0, .int .i64 n1, .int .i64 n2, .int .i64 n3, .int .i64 n4, .int .i64 n5, .int .i64 n6, .int .i64 n7, .int .i64 n8, .int .i64 n9, .int .i64 n10, .int .i64 n11] 3 (0, 0))) := by go_simp
theorem exec_val {v : Value} {w w' : World} (s : Sem Value) (hb : s.run Tryz.prog w = .ok v w') : (do pure (Next.value (← s)) : Sem Next).run Tryz.prog w = .ok (.value v) w' := by go_simp
theorem exec_build {o : Oper} {ρ : Operand → Value} (ps : Array (Nat × Value)) (v : Value) (w w' : World) (ho : execOp ρ o = (do pure (Next.value (← Instr.buildSlice 40 12 ps)))) (hb : (Instr.buildSlice 40 12 ps).run Tryz.prog w = .ok v w') : (execOp ρ o).run Tryz.prog w = .ok (.value v) w' := by
 rw [ho]
 exact exec_val _ hb
theorem ref10_pre (bl : Nat) (b : BatS) (sm : Int) (rows : Bs) (hrw : b.rowsB = rows) (at_ : Int) (hat : attrN b.app b.txn b.ctl 3 = at_) (n : Nat) (hn : b.recs.length = n) (said : Bs) (hsaid : encInts (b.pre sm).items = said) (hfit : FitsAll (b.pre sm).items) (hR : (b.pre sm).R) {W0 w : World} {K : Know} {L : List Res} (h : St W0 w K (.raw bl #[.int .i64 b.base, .int .i64 (49 + rows.length), .int .i64 b.leader, .int .i64 sm, .int .i64 at_, .int .i64 b.last, .int .i64 b.first, .int .i64 b.maxt, .int .i64 b.prod, .int .i64 b.epoch, .int .i64 b.seq, .int .i64 n] 3 :: L)) :
  Calls Tryz.prog 27 #[.slice (some ⟨bl, 0, none⟩) 12 12] w fun en w' => en = .returned (.tuple #[.string (bb said), .bool true]) ∧ St W0 w' K (.raw bl #[.int .i64 b.base, .int .i64 (49 + rows.length), .int .i64 b.leader, .int .i64 sm, .int .i64 at_, .int .i64 b.last, .int .i64 b.first, .int .i64 b.maxt, .int .i64 b.prod, .int .i64 b.epoch, .int .i64 b.seq, .int .i64 n] 3 :: L) := by
 subst hrw hat hn hsaid
 have e : preBytes (b.pre sm) = (encInts (b.pre sm).items, true) := if_pos hfit
 have c := ref10_bytes bl (b.pre sm) hR h
 rw [e] at c
 exact c

set_option maxHeartbeats 1000000 in
set_option maxRecDepth 100000 in
theorem ref11_attr (base leader : Int) (app txn ctl : Bool) (last first maxt prod epoch sq : Int) (rv : Value) (r : Int) (hr : attrN app txn ctl 3 = r) {W0 w : World} {K : Know} {L : List Res} (h : St W0 w K L) :
  Calls Tryz.prog 28 #[.agg #[.int .i64 base, .int .i64 leader, .bool app, .bool txn, .bool ctl, .int .i64 last, .int .i64 first, .int .i64 maxt, .int .i64 prod, .int .i64 epoch, .int .i64 sq, rv]] w fun en w' => en = .returned (.int .i64 r) ∧ St W0 w' K L := by
 obtain ⟨hb, hhb⟩ : ∃ b, w.heap.size = b := ⟨_, rfl⟩
 have h1 := h.allocRaw #[.int .i64 base, .int .i64 leader, .bool app, .bool txn, .bool ctl, .int .i64 last, .int .i64 first, .int .i64 maxt, .int .i64 prod, .int .i64 epoch, .int .i64 sq, rv] 43
 rw [hhb] at h1
 obtain ⟨x0, x1, x2, x3, x4, x5, x6, x7, x8, x9, x10, x11, y0, y1, y2, y3, y4, y5, y6, y7, y8, y9, y10, y11⟩ := raw12 (b := hb) (h1)
 have H := Lib.hid h1
 subst hr
 clear h h1
 cases app <;> cases txn <;> cases ctl
 all_goals
  go_enter Tryz.func28, Tryz.ntmps28
  go_wp2
  go_ret
  exact ⟨by kernel_rfl, H.out.drop⟩

theorem ref05_sumX (s : Bs) (hs : s.length ≤ 1000000) (x : Nat) (hx : (crcMore 0#32 s).toNat = x) {W0 w : World} {K : Know} {L : List Res} (h : St W0 w K L) :
  Calls Tryz.prog 29 #[.string (bb s)] w fun en w' => en = .returned (.int .u32 x) ∧ St W0 w' K L := by
 subst hx
 exact ref05_sumW s hs h
set_option maxHeartbeats 4000000 in
set_option maxRecDepth 1000000 in
theorem ref11_encode (b : BatS) (s : Bs) (hs : b.enc = s) (l : List (RecS × Value)) (q : Option Addr) (cap : Nat) (hl : l.map (·.1) = b.recs) (so : SmallOk b) {W0 w : World} {K : Know} {L : List Res} (hk : K.has (Know.recs (.slice q l.length cap) l)) (h : St W0 w K L) :
  Calls Tryz.prog 14 #[.agg #[.int .i64 b.base, .int .i64 b.leader, .bool b.app, .bool b.txn, .bool b.ctl, .int .i64 b.last, .int .i64 b.first, .int .i64 b.maxt, .int .i64 b.prod, .int .i64 b.epoch, .int .i64 b.seq, .slice q l.length cap]] w fun en w' => en = .returned (.string (bb s)) ∧ St W0 w' K L := by
 obtain ⟨hb, hhb⟩ : ∃ b, w.heap.size = b := ⟨_, rfl⟩
 have h1 := h.allocRaw #[.int .i64 b.base, .int .i64 b.leader, .bool b.app, .bool b.txn, .bool b.ctl, .int .i64 b.last, .int .i64 b.first, .int .i64 b.maxt, .int .i64 b.prod, .int .i64 b.epoch, .int .i64 b.seq, .slice q l.length cap] 43
 rw [hhb] at h1
 obtain ⟨x0, x1, x2, x3, x4, x5, x6, x7, x8, x9, x10, x11, y0, y1, y2, y3, y4, y5, y6, y7, y8, y9, y10, y11⟩ := raw12 (b := hb) (h1)
 have H := Lib.hid h1
 have HK := Lib.hid hk
 have hrn := so.rows
 have hre : encAll l = b.rowsB := by rw [encAll_rows, hl]; rfl
 obtain ⟨rows, hrows⟩ : ∃ r, b.rowsB = r := ⟨_, rfl⟩
 have hcr := b.crc_lt
 have hln := so.len
 obtain ⟨at_, hat⟩ : ∃ a, attrN b.app b.txn b.ctl 3 = a := ⟨_, rfl⟩
 obtain ⟨x, hx⟩ : ∃ x, b.crc = x := ⟨_, rfl⟩
 obtain ⟨said0, hs0⟩ : ∃ t, encInts (b.pre 0).items = t := ⟨_, rfl⟩
 obtain ⟨said1, hs1⟩ : ∃ t, encInts (b.pre x).items = t := ⟨_, rfl⟩
 obtain ⟨all0, ha0⟩ : ∃ t, b.back ++ b.rowsB = t := ⟨_, rfl⟩
 have hbl : b.back.length = 40 := by unfold BatS.back; rw [encInts_length]; rfl
 obtain ⟨back, hbk⟩ : ∃ t, b.back = t := ⟨_, rfl⟩
 have hl0 : said0.length = 61 := by rw [← hs0]; exact items_len _
 have hl1 : said1.length = 61 := by rw [← hs1]; exact items_len _
 have HRW := Lib.hid hrows
 have HN := Lib.hid (show b.recs.length = l.length by rw [← hl, List.length_map])
 have AT := Lib.hid hat
 have HS0 := Lib.hid hs0
 have HS1 := Lib.hid hs1
 have HF0 := Lib.hid (BatS.fitsAll so.err so.rng 0 (by omega) (by omega) (by omega))
 have HR0 := Lib.hid (BatS.pre_R so.err so.rng 0 (by omega) (by omega) (by omega))
 have HF1 := Lib.hid (BatS.fitsAll so.err so.rng x (by omega) (by omega) (by omega))
 have HR1 := Lib.hid (BatS.pre_R so.err so.rng x (by omega) (by omega) (by omega))
 have HX := Lib.hid (show (crcMore 0#32 all0).toNat = x by rw [← ha0, ← hx]; rfl)
 have HA0 := Lib.hid (show all0.length ≤ 1000000 by rw [← ha0, List.length_append]; omega)
 have hT : List.take (said0.length - 21) (List.drop 21 said0) = back := by
  rw [List.take_of_length_le (by rw [List.length_drop]; omega), ← hs0, b.pre_drop, hbk]
 have hcat0 : bb back ++ bb rows = bb all0 := by rw [← ha0, ← hbk, ← hrows]; exact bb_append _ _
 have hcat1 : bb said1 ++ bb rows = bb s := by
  rw [← hs, ← hs1, ← hrows, ← hx]; exact bb_append _ _
 have hrl : rows.length ≤ 400000 := by rw [← hrows]; exact hrn
 have hg0 : ¬ (9223372036854775807 < back.length + rows.length) := by rw [← hbk]; omega
 have hg1 : ¬ (9223372036854775807 < said1.length + rows.length) := by omega
 have l21 : (21 : Int) ≤ (said0.length : Int) := by omega
 have l21' : 21 ≤ said0.length := by omega
 have hne : ¬ (said0 = []) := by intro hh; rw [hh] at hl0; simp at hl0
 have w1 : IntKind.i64.wrap (49 + (rows.length : Int)) = 49 + (rows.length : Int) := IntWalk.i64_in _ (by omega)
 have w1' : wrap64 (49 + (rows.length : Int)) = 49 + (rows.length : Int) := by unfold wrap64; omega
 have w2 : IntKind.i64.wrap (x : Int) = (x : Int) := IntWalk.i64_in _ (by omega)
 have w2' : wrap64 (x : Int) = (x : Int) := by unfold wrap64; omega
 have HRE := Lib.hid (hre.trans hrows)
 have HXS := Lib.hid (show ∀ y ∈ l, y.1.R ∧ y.1.sum ≤ 1000000 from fun y hy => by
  have hm : y.1 ∈ b.recs := hl ▸ List.mem_map_of_mem hy
  have := so.recs y.1 hm
  exact ⟨this.1, this.2.2⟩)
 have HLN := Lib.hid (show l.length ≤ 12 by have h9 := congrArg List.length hl; rw [List.length_map] at h9; omega)
 have HRN := Lib.hid hrl
 clear h h1 hk hrn hre hrows hcr hln hat hx hs0 hs1 ha0 hbl hbk hl0 hl1 hl hs so
 have HG0 := Lib.hid (And.intro hT (And.intro hcat0 (And.intro hg0 (And.intro l21 (And.intro l21' hne)))))
 have HG1 := Lib.hid (And.intro hcat1 hg1)
 have HW := Lib.hid (And.intro w1 (And.intro w1' (And.intro w2 w2')))
 clear hT hcat0 hg0 l21 l21' hne hcat1 hg1 w1 w1' w2 w2' hrl
 go_enter Tryz.func14, Tryz.ntmps14
 go_wp2
 go_loopw [3, 4] (fun sv iv wr => ∃ k : Nat, k ≤ l.length ∧ iv = .int .i64 k ∧ sv = .string (bb (encAll (l.take k))) ∧ St W0 wr K (.raw hb #[.int .i64 b.base, .int .i64 b.leader, .bool b.app, .bool b.txn, .bool b.ctl, .int .i64 b.last, .int .i64 b.first, .int .i64 b.maxt, .int .i64 b.prod, .int .i64 b.epoch, .int .i64 b.seq, .slice q l.length cap] 43 :: L)) (fun _ iv _ => l.length - (intOf iv).toNat)
 case atStart => exact ⟨0, Nat.zero_le _, rfl, rfl, H.out⟩
 case round =>
  obtain ⟨k, hkl, rfl, rfl, hst⟩ := hrel
  clear H x0 x1 x2 x3 x4 x5 x6 x7 x8 x9 x10 x11 y0 y1 y2 y3 y4 y5 y6 y7 y8 y9 y10 y11
  have H := Lib.hid hst
  clear hst
  by_cases hlt : k < l.length
  · as_aux_lemma =>
    have het := encAll_take l k hlt
    have hpl : (encAll (l.take k)).length ≤ rows.length := by
     rw [← HRE.out]
     conv => rhs; rw [← List.take_append_drop k l]
     unfold encAll
     rw [List.flatMap_append, List.length_append]
     omega
    have hpl2 : (encAll (l.take (k + 1))).length ≤ rows.length := by
     rw [← HRE.out]
     conv => rhs; rw [← List.take_append_drop (k + 1) l]
     unfold encAll
     rw [List.flatMap_append, List.length_append]
     omega
    obtain ⟨b0, off, hqq⟩ := recs_at HK.out H.out (by omega)
    subst hqq
    obtain ⟨⟨x, vx⟩, hx⟩ : ∃ x, l[k] = x := ⟨_, rfl⟩
    have cc := recs_cell HK.out H.out k hlt (x, vx) hx
    have hmem : (x, vx) ∈ l := hx ▸ List.getElem_mem hlt
    have XF := HXS.out (x, vx) hmem
    have XF1 := Lib.hid XF.1
    have XF2 := Lib.hid XF.2
    clear XF
    have xk : K.has (Know.flat RHdr vx 3 x.hdrs) := recs_hdrs HK.out hmem
    obtain ⟨qx, capx, hvx⟩ := flat_form xk H.out
    subst hvx
    have XK := Lib.hid xk
    simp only at cc
    obtain ⟨c0, c1, c2, c3, c4, c5, c6⟩ := cc
    rw [← Nat.add_assoc] at c1 c2 c3 c4 c5 c6
    obtain ⟨sx, hsx⟩ : ∃ t, encR x = t := ⟨_, rfl⟩
    have HSX := Lib.hid hsx
    rw [hx] at het
    simp only [hsx] at het
    obtain ⟨pre, hpre⟩ : ∃ t, encAll (l.take k) = t := ⟨_, rfl⟩
    obtain ⟨nxt, hnxt⟩ : ∃ t, encAll (l.take (k + 1)) = t := ⟨_, rfl⟩
    rw [hpre] at het hpl ⊢
    rw [hnxt] at het hpl2
    have HNXT := Lib.hid hnxt
    have hcat : bb pre ++ bb sx = bb nxt := by rw [het]; exact bb_append _ _
    have hg : ¬ (9223372036854775807 < pre.length + sx.length) := by
     have h1 := HRN.out
     have h2 := congrArg List.length het
     rw [List.length_append] at h2
     omega
    have hki : (k : Int) < (l.length : Int) := by omega
    have hl12 : (l.length : Int) ≤ 12 := by have := HLN.out; omega
    obtain ⟨x0, x1, x2, x3, x4, x5, x6, x7, x8, x9, x10, x11, y0, y1, y2, y3, y4, y5, y6, y7, y8, y9, y10, y11⟩ := raw12 (b := hb) (H.out)
    clear xk hmem hx hsx het hpl hpl2 hpre hnxt
    go_wp2_with (go_at_call 26; (with_reducible refine (ref07_write x (.slice qx x.hdrs.length capx) sx HSX.out XF1.out XF2.out XK.out H.out).mono ?_); rintro e_ wn ⟨rfl, h⟩; replace H := Lib.hid h; clear h)
    go_roundw
    case rel => exact ⟨k + 1, hlt, by go_num, by rw [HNXT.out], H.out⟩
    case measure => first | (simp [intOf]; done) | (simp [intOf]; omega)
  · obtain rfl : k = l.length := by omega
    rw [List.take_length, HRE.out]
    have w1 := HW.out.1
    obtain ⟨x0, x1, x2, x3, x4, x5, x6, x7, x8, x9, x10, x11, y0, y1, y2, y3, y4, y5, y6, y7, y8, y9, y10, y11⟩ := raw12 (b := hb) (H.out)
    go_upto_region 6 with (fail)
    clear x0 x1 x2 x3 x4 x5 x6 x7 x8 x9 x10 x11 y0 y1 y2 y3 y4 y5 y6 y7 y8 y9 y10 y11
    go_cut [5] (fun s5 wx => s5 = .string (bb said0) ∧ St W0 wx K (.raw hb #[.int .i64 b.base, .int .i64 b.leader, .bool b.app, .bool b.txn, .bool b.ctl, .int .i64 b.last, .int .i64 b.first, .int .i64 b.maxt, .int .i64 b.prod, .int .i64 b.epoch, .int .i64 b.seq, .slice q l.length cap] 43 :: L))
    case first =>
     as_aux_lemma =>
     have hs := H.out.drew
     refine wp_region_held_drew (S := fun w' => w'.cell? ⟨hb, 0, none⟩ = some (.int .i64 b.base) ∧ w'.cell? ⟨hb, 1, none⟩ = some (.int .i64 b.leader) ∧ w'.cell? ⟨hb, 2, none⟩ = some (.bool b.app) ∧ w'.cell? ⟨hb, 3, none⟩ = some (.bool b.txn) ∧ w'.cell? ⟨hb, 4, none⟩ = some (.bool b.ctl) ∧ w'.cell? ⟨hb, 5, none⟩ = some (.int .i64 b.last) ∧ w'.cell? ⟨hb, 6, none⟩ = some (.int .i64 b.first) ∧ w'.cell? ⟨hb, 7, none⟩ = some (.int .i64 b.maxt) ∧ w'.cell? ⟨hb, 8, none⟩ = some (.int .i64 b.prod) ∧ w'.cell? ⟨hb, 9, none⟩ = some (.int .i64 b.epoch) ∧ w'.cell? ⟨hb, 10, none⟩ = some (.int .i64 b.seq) ∧ w'.cell? ⟨hb, 11, none⟩ = some (.slice q l.length cap)) (by kernel_rfl) (let ⟨x0, x1, x2, x3, x4, x5, x6, x7, x8, x9, x10, x11, _⟩ := raw12 (b := hb) (hs); ⟨x0, x1, x2, x3, x4, x5, x6, x7, x8, x9, x10, x11⟩) (fun hHeld => ?_)
     refine wpAnyH_take (i := 0) (oi := ⟨some 26, .fieldAddr 43 (.tmp 1) 0, 0, "ref.go:116", #[], none⟩) (v := ?_) rfl (by kernel_rfl) (by kernel_rfl) (by kernel_rfl) (fun _ _ _ h => h) (Or.inl ⟨by rfl, ?_⟩) (by assumption) ?_
     rotate_left
     · intro w hSw; (try dsimp only at hSw); go_simp; try with_reducible rfl
     simp only [Act.put, sA, sB, sC]
     refine wpAnyH_take (i := 1) (oi := ⟨some 27, .load 3 (.tmp 26), 3, "ref.go:116", #[.mk 0 .data], none⟩) (v := ?_) rfl (by kernel_rfl) (by kernel_rfl) (by kernel_rfl) (fun _ _ _ h => h) (Or.inl ⟨by rfl, ?_⟩) (by assumption) ?_
     rotate_left
     · intro w hSw; (try dsimp only at hSw); go_simp; try with_reducible rfl
     simp only [Act.put, sA, sB, sC]
     refine wpAnyH_take (i := 2) (oi := ⟨some 28, .move (.tmp 3), 9, "ref.go:116", #[], none⟩) (v := ?_) rfl (by kernel_rfl) (by kernel_rfl) (by kernel_rfl) (fun _ _ _ h => h) (Or.inl ⟨by rfl, ?_⟩) (by assumption) ?_
     rotate_left
     · intro w hSw; (try dsimp only at hSw); go_simp; try with_reducible rfl
     simp only [Act.put, sA, sB, sC]
     refine wpAnyH_take (i := 3) (oi := ⟨some 29, .call { callee := .builtin .len, args := #[.tmp 28], argTypes := #[9] }, 3, "ref.go:116", #[.mk 2 .data], none⟩) (v := ?_) rfl (by kernel_rfl) (by kernel_rfl) (by kernel_rfl) (fun _ _ _ h => h) (Or.inl ⟨by rfl, ?_⟩) (by assumption) ?_
     rotate_left
     · intro w hSw; (try dsimp only at hSw); go_simp; try with_reducible rfl
     simp only [Act.put, sA, sB, sC]
     refine wpAnyH_take (i := 4) (oi := ⟨some 30, .binOp .add 3 (.const (Value.int IntKind.i64 49)) (.tmp 29) 3, 3, "ref.go:116", #[.mk 3 .data], none⟩) (v := ?_) rfl (by kernel_rfl) (by kernel_rfl) (by kernel_rfl) (fun _ _ _ h => h) (Or.inl ⟨by rfl, ?_⟩) (by assumption) ?_
     rotate_left
     · intro w hSw; (try dsimp only at hSw); go_simp; try with_reducible rfl
     simp only [Act.put, sA, sB, sC]
     refine wpAnyH_take (i := 5) (oi := ⟨some 31, .fieldAddr 43 (.tmp 1) 1, 0, "ref.go:116", #[], none⟩) (v := ?_) rfl (by kernel_rfl) (by kernel_rfl) (by kernel_rfl) (fun _ _ _ h => h) (Or.inl ⟨by rfl, ?_⟩) (by assumption) ?_
     rotate_left
     · intro w hSw; (try dsimp only at hSw); go_simp; try with_reducible rfl
     simp only [Act.put, sA, sB, sC]
     refine wpAnyH_take (i := 6) (oi := ⟨some 32, .load 3 (.tmp 31), 3, "ref.go:116", #[.mk 5 .data], none⟩) (v := ?_) rfl (by kernel_rfl) (by kernel_rfl) (by kernel_rfl) (fun _ _ _ h => h) (Or.inl ⟨by rfl, ?_⟩) (by assumption) ?_
     rotate_left
     · intro w hSw; (try dsimp only at hSw); go_simp; try with_reducible rfl
     simp only [Act.put, sA, sB, sC]
     refine wpAnyH_take (i := 7) (oi := ⟨some 33, .load 43 (.tmp 1), 43, "ref.go:116", #[], none⟩) (v := ?_) rfl (by kernel_rfl) (by kernel_rfl) (by kernel_rfl) (fun _ _ _ h => h) (Or.inl ⟨by rfl, ?_⟩) (by assumption) ?_
     rotate_left
     · intro w hSw; (try dsimp only at hSw); go_simp; try with_reducible rfl
     simp only [Act.put, sA, sB, sC]
     refine wpAnyH_take (i := 9) (oi := ⟨some 35, .fieldAddr 43 (.tmp 1) 5, 0, "ref.go:116", #[], none⟩) (v := ?_) rfl (by kernel_rfl) (by kernel_rfl) (by kernel_rfl) (fun _ _ _ h => h) (Or.inl ⟨by rfl, ?_⟩) (by assumption) ?_
     rotate_left
     · intro w hSw; (try dsimp only at hSw); go_simp; try with_reducible rfl
     simp only [Act.put, sA, sB, sC]
     refine wpAnyH_take (i := 10) (oi := ⟨some 36, .load 3 (.tmp 35), 3, "ref.go:116", #[.mk 9 .data], none⟩) (v := ?_) rfl (by kernel_rfl) (by kernel_rfl) (by kernel_rfl) (fun _ _ _ h => h) (Or.inl ⟨by rfl, ?_⟩) (by assumption) ?_
     rotate_left
     · intro w hSw; (try dsimp only at hSw); go_simp; try with_reducible rfl
     simp only [Act.put, sA, sB, sC]
     refine wpAnyH_take (i := 11) (oi := ⟨some 37, .fieldAddr 43 (.tmp 1) 6, 0, "ref.go:116", #[], none⟩) (v := ?_) rfl (by kernel_rfl) (by kernel_rfl) (by kernel_rfl) (fun _ _ _ h => h) (Or.inl ⟨by rfl, ?_⟩) (by assumption) ?_
     rotate_left
     · intro w hSw; (try dsimp only at hSw); go_simp; try with_reducible rfl
     simp only [Act.put, sA, sB, sC]
     refine wpAnyH_take (i := 12) (oi := ⟨some 38, .load 3 (.tmp 37), 3, "ref.go:116", #[.mk 11 .data], none⟩) (v := ?_) rfl (by kernel_rfl) (by kernel_rfl) (by kernel_rfl) (fun _ _ _ h => h) (Or.inl ⟨by rfl, ?_⟩) (by assumption) ?_
     rotate_left
     · intro w hSw; (try dsimp only at hSw); go_simp; try with_reducible rfl
     simp only [Act.put, sA, sB, sC]
     refine wpAnyH_take (i := 13) (oi := ⟨some 39, .fieldAddr 43 (.tmp 1) 7, 0, "ref.go:116", #[], none⟩) (v := ?_) rfl (by kernel_rfl) (by kernel_rfl) (by kernel_rfl) (fun _ _ _ h => h) (Or.inl ⟨by rfl, ?_⟩) (by assumption) ?_
     rotate_left
     · intro w hSw; (try dsimp only at hSw); go_simp; try with_reducible rfl
     simp only [Act.put, sA, sB, sC]
     refine wpAnyH_take (i := 14) (oi := ⟨some 40, .load 3 (.tmp 39), 3, "ref.go:116", #[.mk 13 .data], none⟩) (v := ?_) rfl (by kernel_rfl) (by kernel_rfl) (by kernel_rfl) (fun _ _ _ h => h) (Or.inl ⟨by rfl, ?_⟩) (by assumption) ?_
     rotate_left
     · intro w hSw; (try dsimp only at hSw); go_simp; try with_reducible rfl
     simp only [Act.put, sA, sB, sC]
     refine wpAnyH_take (i := 15) (oi := ⟨some 41, .fieldAddr 43 (.tmp 1) 8, 0, "ref.go:116", #[], none⟩) (v := ?_) rfl (by kernel_rfl) (by kernel_rfl) (by kernel_rfl) (fun _ _ _ h => h) (Or.inl ⟨by rfl, ?_⟩) (by assumption) ?_
     rotate_left
     · intro w hSw; (try dsimp only at hSw); go_simp; try with_reducible rfl
     simp only [Act.put, sA, sB, sC]
     refine wpAnyH_take (i := 16) (oi := ⟨some 42, .load 3 (.tmp 41), 3, "ref.go:116", #[.mk 15 .data], none⟩) (v := ?_) rfl (by kernel_rfl) (by kernel_rfl) (by kernel_rfl) (fun _ _ _ h => h) (Or.inl ⟨by rfl, ?_⟩) (by assumption) ?_
     rotate_left
     · intro w hSw; (try dsimp only at hSw); go_simp; try with_reducible rfl
     simp only [Act.put, sA, sB, sC]
     refine wpAnyH_take (i := 17) (oi := ⟨some 43, .fieldAddr 43 (.tmp 1) 9, 0, "ref.go:116", #[], none⟩) (v := ?_) rfl (by kernel_rfl) (by kernel_rfl) (by kernel_rfl) (fun _ _ _ h => h) (Or.inl ⟨by rfl, ?_⟩) (by assumption) ?_
     rotate_left
     · intro w hSw; (try dsimp only at hSw); go_simp; try with_reducible rfl
     simp only [Act.put, sA, sB, sC]
     refine wpAnyH_take (i := 18) (oi := ⟨some 44, .load 3 (.tmp 43), 3, "ref.go:116", #[.mk 17 .data], none⟩) (v := ?_) rfl (by kernel_rfl) (by kernel_rfl) (by kernel_rfl) (fun _ _ _ h => h) (Or.inl ⟨by rfl, ?_⟩) (by assumption) ?_
     rotate_left
     · intro w hSw; (try dsimp only at hSw); go_simp; try with_reducible rfl
     simp only [Act.put, sA, sB, sC]
     refine wpAnyH_take (i := 19) (oi := ⟨some 45, .fieldAddr 43 (.tmp 1) 10, 0, "ref.go:116", #[], none⟩) (v := ?_) rfl (by kernel_rfl) (by kernel_rfl) (by kernel_rfl) (fun _ _ _ h => h) (Or.inl ⟨by rfl, ?_⟩) (by assumption) ?_
     rotate_left
     · intro w hSw; (try dsimp only at hSw); go_simp; try with_reducible rfl
     simp only [Act.put, sA, sB, sC]
     refine wpAnyH_take (i := 20) (oi := ⟨some 46, .load 3 (.tmp 45), 3, "ref.go:116", #[.mk 19 .data], none⟩) (v := ?_) rfl (by kernel_rfl) (by kernel_rfl) (by kernel_rfl) (fun _ _ _ h => h) (Or.inl ⟨by rfl, ?_⟩) (by assumption) ?_
     rotate_left
     · intro w hSw; (try dsimp only at hSw); go_simp; try with_reducible rfl
     simp only [Act.put, sA, sB, sC]
     refine wpAnyH_take (i := 21) (oi := ⟨some 47, .fieldAddr 43 (.tmp 1) 11, 0, "ref.go:116", #[], none⟩) (v := ?_) rfl (by kernel_rfl) (by kernel_rfl) (by kernel_rfl) (fun _ _ _ h => h) (Or.inl ⟨by rfl, ?_⟩) (by assumption) ?_
     rotate_left
     · intro w hSw; (try dsimp only at hSw); go_simp; try with_reducible rfl
     simp only [Act.put, sA, sB, sC]
     refine wpAnyH_take (i := 22) (oi := ⟨some 48, .load 41 (.tmp 47), 41, "ref.go:116", #[.mk 21 .data], none⟩) (v := ?_) rfl (by kernel_rfl) (by kernel_rfl) (by kernel_rfl) (fun _ _ _ h => h) (Or.inl ⟨by rfl, ?_⟩) (by assumption) ?_
     rotate_left
     · intro w hSw; (try dsimp only at hSw); go_simp; try with_reducible rfl
     simp only [Act.put, sA, sB, sC]
     refine wpAnyH_take (i := 23) (oi := ⟨some 49, .call { callee := .builtin .len, args := #[.tmp 48], argTypes := #[41] }, 3, "ref.go:116", #[.mk 22 .data], none⟩) (v := ?_) rfl (by kernel_rfl) (by kernel_rfl) (by kernel_rfl) (fun _ _ _ h => h) (Or.inl ⟨by rfl, ?_⟩) (by assumption) ?_
     rotate_left
     · intro w hSw; (try dsimp only at hSw); go_simp; try with_reducible rfl
     simp only [Act.put, sA, sB, sC]
     refine wpAnyH_ready (rs := [8]) (by kernel_rfl) (by simp) (AllReadyH.cons (o := ⟨some 34, .call { callee := .value (.func 28), args := #[.tmp 33], argTypes := #[43] }, 3, "ref.go:116", #[.mk 7 .data], none⟩) rfl (fun KK hK => ?_) AllReadyH.nil)
     · go_simp
       go_at_call 28
       with_reducible refine (ref11_attr b.base b.leader b.app b.txn b.ctl b.last b.first b.maxt b.prod b.epoch b.seq (.slice q l.length cap) at_ AT.out hs).mono ?_
       rintro e wq ⟨rfl, hs⟩
       refine hK.out _ _ (let ⟨x0, x1, x2, x3, x4, x5, x6, x7, x8, x9, x10, x11, _⟩ := raw12 (b := hb) (hs); ⟨x0, x1, x2, x3, x4, x5, x6, x7, x8, x9, x10, x11⟩) (fun hHeld => ?_)
       clear hK KK
       try simp only [Act.put, sA, sB, sC]
       refine wpAnyH_ready (rs := [24]) (by kernel_rfl) (by simp) (AllReadyH.cons (o := ⟨some 50, .buildSlice 40 12 #[(0, .tmp 27), (1, .tmp 30), (2, .tmp 32), (3, .const (Value.int IntKind.i64 0)), (4, .tmp 34), (5, .tmp 36), (6, .tmp 38), (7, .tmp 40), (8, .tmp 42), (9, .tmp 44), (10, .tmp 46), (11, .tmp 49)], 40, "ref.go:116", #[.mk 1 .data, .mk 4 .data, .mk 6 .data, .mk 8 .data, .mk 10 .data, .mk 12 .data, .mk 14 .data, .mk 16 .data, .mk 18 .data, .mk 20 .data, .mk 23 .data], none⟩) rfl (fun KK hK => ?_) AllReadyH.nil)
       · rw [if_pos (by rfl)]
         refine wp_op_value (v := .slice (some ⟨wq.heap.size, 0, none⟩) 12 12) (w' := wq.alloc (.cells #[.int .i64 b.base, .int .i64 (49 + rows.length), .int .i64 b.leader, .int .i64 0, .int .i64 at_, .int .i64 b.last, .int .i64 b.first, .int .i64 b.maxt, .int .i64 b.prod, .int .i64 b.epoch, .int .i64 b.seq, .int .i64 l.length] 3 (0, 0))) (exec_build #[(0, .int .i64 b.base), (1, .int .i64 (49 + rows.length)), (2, .int .i64 b.leader), (3, .int .i64 0), (4, .int .i64 at_), (5, .int .i64 b.last), (6, .int .i64 b.first), (7, .int .i64 b.maxt), (8, .int .i64 b.prod), (9, .int .i64 b.epoch), (10, .int .i64 b.seq), (11, .int .i64 l.length)] _ _ _ (by kernel_rfl) (build12 ( b.base) ( (49 + rows.length)) ( b.leader) ( 0) ( at_) ( b.last) ( b.first) ( b.maxt) ( b.prod) ( b.epoch) ( b.seq) ( l.length) wq)) ?_
         obtain ⟨wy, bS, ey, eb, hs⟩ := hs.allocEx #[.int .i64 b.base, .int .i64 (49 + rows.length), .int .i64 b.leader, .int .i64 0, .int .i64 at_, .int .i64 b.last, .int .i64 b.first, .int .i64 b.maxt, .int .i64 b.prod, .int .i64 b.epoch, .int .i64 b.seq, .int .i64 l.length] 3
         rw [ey, eb]
         clear ey eb
         refine hK.out _ _ (let ⟨x0, x1, x2, x3, x4, x5, x6, x7, x8, x9, x10, x11, _⟩ := raw12 (b := hb) (hs.p1); ⟨x0, x1, x2, x3, x4, x5, x6, x7, x8, x9, x10, x11⟩) (fun hHeld => ?_)
         clear hK KK
         try simp only [Act.put, sA, sB, sC]
         refine wpAnyH_ready (rs := [25]) (by kernel_rfl) (by simp) (AllReadyH.cons (o := ⟨some 51, .call { callee := .value (.func 27), args := #[.tmp 50], argTypes := #[40] }, 74, "ref.go:116", #[.mk 24 .data, .mk 8 .chain], none⟩) rfl (fun KK hK => ?_) AllReadyH.nil)
         · go_simp
           go_at_call 27
           with_reducible refine (ref10_pre bS b 0 rows HRW.out at_ AT.out l.length HN.out said0 HS0.out HF0.out HR0.out hs).mono ?_
           rintro e wq ⟨rfl, hs⟩
           refine hK.out _ _ (let ⟨x0, x1, x2, x3, x4, x5, x6, x7, x8, x9, x10, x11, _⟩ := raw12 (b := hb) (hs.p1); ⟨x0, x1, x2, x3, x4, x5, x6, x7, x8, x9, x10, x11⟩) (fun hHeld => ?_)
           clear hK KK
           try simp only [Act.put, sA, sB, sC]
           have hs := hs.drop
           refine wpAnyH_take (i := 26) (oi := ⟨some 25, .move (.tmp 51), 74, "ref.go:116", #[.mk 25 .data], none⟩) (v := ?_) rfl (by kernel_rfl) (by kernel_rfl) (by kernel_rfl) (fun _ _ _ h => h) (Or.inl ⟨by rfl, ?_⟩) (by assumption) ?_
           rotate_left
           · intro w hSw; (try dsimp only at hSw); go_simp; try with_reducible rfl
           simp only [Act.put, sA, sB, sC]
           refine wpAnyH_take (i := 27) (oi := ⟨some 52, .extract (.tmp 25) 0, 9, "ref.go:116", #[.mk 26 .data], none⟩) (v := ?_) rfl (by kernel_rfl) (by kernel_rfl) (by kernel_rfl) (fun _ _ _ h => h) (Or.inl ⟨by rfl, ?_⟩) (by assumption) ?_
           rotate_left
           · intro w hSw; (try dsimp only at hSw); go_simp; try with_reducible rfl
           simp only [Act.put, sA, sB, sC]
           refine wpAnyH_take (i := 28) (oi := ⟨some 53, .extract (.tmp 25) 1, 4, "ref.go:116", #[.mk 26 .data, { on := 29, ground := Ground.gcOnly Departure.lateStores }], none⟩) (v := ?_) rfl (by kernel_rfl) (by kernel_rfl) (by kernel_rfl) (fun _ _ _ h => h) (Or.inl ⟨by rfl, ?_⟩) (by assumption) ?_
           rotate_left
           · intro w hSw; (try dsimp only at hSw); go_simp; try with_reducible rfl
           simp only [Act.put, sA, sB, sC]
           refine wpAnyH_take (i := 29) (oi := ⟨some 5, .assign (.tmp 52), 9, "ref.go:116", #[.mk 27 .data, .mk 25 .chain, .mk 0 .phase, .mk 1 .phase, .mk 2 .phase, .mk 3 .phase, .mk 4 .phase, .mk 5 .phase, .mk 6 .phase, .mk 7 .phase, .mk 8 .phase, .mk 9 .phase, .mk 10 .phase, .mk 11 .phase, .mk 12 .phase, .mk 13 .phase, .mk 14 .phase, .mk 15 .phase, .mk 16 .phase, .mk 17 .phase, .mk 18 .phase, .mk 19 .phase, .mk 20 .phase, .mk 21 .phase, .mk 22 .phase, .mk 23 .phase, .mk 24 .phase, .mk 25 .phase, .mk 26 .phase, .mk 27 .phase, { on := 28, ground := Ground.textOnly Departure.lateStores }], none⟩) (v := ?_) rfl (by kernel_rfl) (by kernel_rfl) (by kernel_rfl) (fun _ _ _ h => h) (Or.inl ⟨by rfl, ?_⟩) (by assumption) ?_
           rotate_left
           · intro w hSw; (try dsimp only at hSw); go_simp; try with_reducible rfl
           simp only [Act.put, sA, sB, sC]
           refine wpAnyH_take (i := 30) (oi := ⟨some 6, .assign (.tmp 53), 4, "ref.go:116", #[.mk 28 .data, .mk 29 .chain, .mk 0 .phase, .mk 1 .phase, .mk 2 .phase, .mk 3 .phase, .mk 4 .phase, .mk 5 .phase, .mk 6 .phase, .mk 7 .phase, .mk 8 .phase, .mk 9 .phase, .mk 10 .phase, .mk 11 .phase, .mk 12 .phase, .mk 13 .phase, .mk 14 .phase, .mk 15 .phase, .mk 16 .phase, .mk 17 .phase, .mk 18 .phase, .mk 19 .phase, .mk 20 .phase, .mk 21 .phase, .mk 22 .phase, .mk 23 .phase, .mk 24 .phase, .mk 25 .phase, .mk 26 .phase, .mk 27 .phase, .mk 28 .phase, .mk 29 .phase], none⟩) (v := ?_) rfl (by kernel_rfl) (by kernel_rfl) (by kernel_rfl) (fun _ _ _ h => h) (Or.inl ⟨by rfl, ?_⟩) (by assumption) ?_
           rotate_left
           · intro w hSw; (try dsimp only at hSw); go_simp; try with_reducible rfl
           simp only [Act.put, sA, sB, sC]
           refine wpAnyH_done (by kernel_rfl) ?_ _
           clear hHeld
           go_wp2_with fail
           go_meet
           exact ⟨rfl, hs⟩
    case rest =>
     obtain ⟨rfl, h⟩ := hcut
     clear H
     have H := Lib.hid h
     clear h
     obtain ⟨hT, hcat0, hg0, l21, l21', hne⟩ := HG0.out
     have w2 := HW.out.2.2.1
     go_upto_region 8 with (go_at_call 29; (with_reducible refine (ref05_sumX all0 HA0.out x HX.out H.out).mono ?_); rintro e_ wn ⟨rfl, h⟩; replace H := Lib.hid h; clear h)
     clear w2 hT hcat0 hg0 l21 l21' hne
     go_cut [8] (fun s8 wx => s8 = .string (bb said1) ∧ St W0 wx K (.raw hb #[.int .i64 b.base, .int .i64 b.leader, .bool b.app, .bool b.txn, .bool b.ctl, .int .i64 b.last, .int .i64 b.first, .int .i64 b.maxt, .int .i64 b.prod, .int .i64 b.epoch, .int .i64 b.seq, .slice q l.length cap] 43 :: L))
     case first =>
       have hs := H.out.drew
       refine wp_region_held_drew (S := fun w' => w'.cell? ⟨hb, 0, none⟩ = some (.int .i64 b.base) ∧ w'.cell? ⟨hb, 1, none⟩ = some (.int .i64 b.leader) ∧ w'.cell? ⟨hb, 2, none⟩ = some (.bool b.app) ∧ w'.cell? ⟨hb, 3, none⟩ = some (.bool b.txn) ∧ w'.cell? ⟨hb, 4, none⟩ = some (.bool b.ctl) ∧ w'.cell? ⟨hb, 5, none⟩ = some (.int .i64 b.last) ∧ w'.cell? ⟨hb, 6, none⟩ = some (.int .i64 b.first) ∧ w'.cell? ⟨hb, 7, none⟩ = some (.int .i64 b.maxt) ∧ w'.cell? ⟨hb, 8, none⟩ = some (.int .i64 b.prod) ∧ w'.cell? ⟨hb, 9, none⟩ = some (.int .i64 b.epoch) ∧ w'.cell? ⟨hb, 10, none⟩ = some (.int .i64 b.seq) ∧ w'.cell? ⟨hb, 11, none⟩ = some (.slice q l.length cap)) (by kernel_rfl) (let ⟨x0, x1, x2, x3, x4, x5, x6, x7, x8, x9, x10, x11, _⟩ := raw12 (b := hb) (hs); ⟨x0, x1, x2, x3, x4, x5, x6, x7, x8, x9, x10, x11⟩) (fun hHeld => ?_)
       refine wpAnyH_take (i := 0) (oi := ⟨some 61, .fieldAddr 43 (.tmp 1) 0, 0, "ref.go:118", #[], none⟩) (v := ?_) rfl (by kernel_rfl) (by kernel_rfl) (by kernel_rfl) (fun _ _ _ h => h) (Or.inl ⟨by rfl, ?_⟩) (by assumption) ?_
       rotate_left
       · intro w hSw; (try dsimp only at hSw); go_simp; try with_reducible rfl
       simp only [Act.put, sA, sB, sC]
       refine wpAnyH_take (i := 1) (oi := ⟨some 62, .load 3 (.tmp 61), 3, "ref.go:118", #[.mk 0 .data], none⟩) (v := ?_) rfl (by kernel_rfl) (by kernel_rfl) (by kernel_rfl) (fun _ _ _ h => h) (Or.inl ⟨by rfl, ?_⟩) (by assumption) ?_
       rotate_left
       · intro w hSw; (try dsimp only at hSw); go_simp; try with_reducible rfl
       simp only [Act.put, sA, sB, sC]
       refine wpAnyH_take (i := 2) (oi := ⟨some 63, .move (.tmp 3), 9, "ref.go:118", #[], none⟩) (v := ?_) rfl (by kernel_rfl) (by kernel_rfl) (by kernel_rfl) (fun _ _ _ h => h) (Or.inl ⟨by rfl, ?_⟩) (by assumption) ?_
       rotate_left
       · intro w hSw; (try dsimp only at hSw); go_simp; try with_reducible rfl
       simp only [Act.put, sA, sB, sC]
       refine wpAnyH_take (i := 3) (oi := ⟨some 64, .call { callee := .builtin .len, args := #[.tmp 63], argTypes := #[9] }, 3, "ref.go:118", #[.mk 2 .data], none⟩) (v := ?_) rfl (by kernel_rfl) (by kernel_rfl) (by kernel_rfl) (fun _ _ _ h => h) (Or.inl ⟨by rfl, ?_⟩) (by assumption) ?_
       rotate_left
       · intro w hSw; (try dsimp only at hSw); go_simp; try with_reducible rfl
       simp only [Act.put, sA, sB, sC]
       refine wpAnyH_take (i := 4) (oi := ⟨some 65, .binOp .add 3 (.const (Value.int IntKind.i64 49)) (.tmp 64) 3, 3, "ref.go:118", #[.mk 3 .data], none⟩) (v := ?_) rfl (by kernel_rfl) (by kernel_rfl) (by kernel_rfl) (fun _ _ _ h => h) (Or.inl ⟨by rfl, ?_⟩) (by assumption) ?_
       rotate_left
       · intro w hSw; (try dsimp only at hSw); go_simp; try with_reducible rfl
       simp only [Act.put, sA, sB, sC]
       refine wpAnyH_take (i := 5) (oi := ⟨some 66, .fieldAddr 43 (.tmp 1) 1, 0, "ref.go:118", #[], none⟩) (v := ?_) rfl (by kernel_rfl) (by kernel_rfl) (by kernel_rfl) (fun _ _ _ h => h) (Or.inl ⟨by rfl, ?_⟩) (by assumption) ?_
       rotate_left
       · intro w hSw; (try dsimp only at hSw); go_simp; try with_reducible rfl
       simp only [Act.put, sA, sB, sC]
       refine wpAnyH_take (i := 6) (oi := ⟨some 67, .load 3 (.tmp 66), 3, "ref.go:118", #[.mk 5 .data], none⟩) (v := ?_) rfl (by kernel_rfl) (by kernel_rfl) (by kernel_rfl) (fun _ _ _ h => h) (Or.inl ⟨by rfl, ?_⟩) (by assumption) ?_
       rotate_left
       · intro w hSw; (try dsimp only at hSw); go_simp; try with_reducible rfl
       simp only [Act.put, sA, sB, sC]
       refine wpAnyH_take (i := 7) (oi := ⟨some 68, .move (.tmp 7), 3, "ref.go:118", #[], none⟩) (v := ?_) rfl (by kernel_rfl) (by kernel_rfl) (by kernel_rfl) (fun _ _ _ h => h) (Or.inl ⟨by rfl, ?_⟩) (by assumption) ?_
       rotate_left
       · intro w hSw; (try dsimp only at hSw); go_simp; try with_reducible rfl
       simp only [Act.put, sA, sB, sC]
       refine wpAnyH_take (i := 8) (oi := ⟨some 69, .load 43 (.tmp 1), 43, "ref.go:118", #[], none⟩) (v := ?_) rfl (by kernel_rfl) (by kernel_rfl) (by kernel_rfl) (fun _ _ _ h => h) (Or.inl ⟨by rfl, ?_⟩) (by assumption) ?_
       rotate_left
       · intro w hSw; (try dsimp only at hSw); go_simp; try with_reducible rfl
       simp only [Act.put, sA, sB, sC]
       refine wpAnyH_take (i := 10) (oi := ⟨some 71, .fieldAddr 43 (.tmp 1) 5, 0, "ref.go:118", #[], none⟩) (v := ?_) rfl (by kernel_rfl) (by kernel_rfl) (by kernel_rfl) (fun _ _ _ h => h) (Or.inl ⟨by rfl, ?_⟩) (by assumption) ?_
       rotate_left
       · intro w hSw; (try dsimp only at hSw); go_simp; try with_reducible rfl
       simp only [Act.put, sA, sB, sC]
       refine wpAnyH_take (i := 11) (oi := ⟨some 72, .load 3 (.tmp 71), 3, "ref.go:118", #[.mk 10 .data], none⟩) (v := ?_) rfl (by kernel_rfl) (by kernel_rfl) (by kernel_rfl) (fun _ _ _ h => h) (Or.inl ⟨by rfl, ?_⟩) (by assumption) ?_
       rotate_left
       · intro w hSw; (try dsimp only at hSw); go_simp; try with_reducible rfl
       simp only [Act.put, sA, sB, sC]
       refine wpAnyH_take (i := 12) (oi := ⟨some 73, .fieldAddr 43 (.tmp 1) 6, 0, "ref.go:118", #[], none⟩) (v := ?_) rfl (by kernel_rfl) (by kernel_rfl) (by kernel_rfl) (fun _ _ _ h => h) (Or.inl ⟨by rfl, ?_⟩) (by assumption) ?_
       rotate_left
       · intro w hSw; (try dsimp only at hSw); go_simp; try with_reducible rfl
       simp only [Act.put, sA, sB, sC]
       refine wpAnyH_take (i := 13) (oi := ⟨some 74, .load 3 (.tmp 73), 3, "ref.go:118", #[.mk 12 .data], none⟩) (v := ?_) rfl (by kernel_rfl) (by kernel_rfl) (by kernel_rfl) (fun _ _ _ h => h) (Or.inl ⟨by rfl, ?_⟩) (by assumption) ?_
       rotate_left
       · intro w hSw; (try dsimp only at hSw); go_simp; try with_reducible rfl
       simp only [Act.put, sA, sB, sC]
       refine wpAnyH_take (i := 14) (oi := ⟨some 75, .fieldAddr 43 (.tmp 1) 7, 0, "ref.go:118", #[], none⟩) (v := ?_) rfl (by kernel_rfl) (by kernel_rfl) (by kernel_rfl) (fun _ _ _ h => h) (Or.inl ⟨by rfl, ?_⟩) (by assumption) ?_
       rotate_left
       · intro w hSw; (try dsimp only at hSw); go_simp; try with_reducible rfl
       simp only [Act.put, sA, sB, sC]
       refine wpAnyH_take (i := 15) (oi := ⟨some 76, .load 3 (.tmp 75), 3, "ref.go:118", #[.mk 14 .data], none⟩) (v := ?_) rfl (by kernel_rfl) (by kernel_rfl) (by kernel_rfl) (fun _ _ _ h => h) (Or.inl ⟨by rfl, ?_⟩) (by assumption) ?_
       rotate_left
       · intro w hSw; (try dsimp only at hSw); go_simp; try with_reducible rfl
       simp only [Act.put, sA, sB, sC]
       refine wpAnyH_take (i := 16) (oi := ⟨some 77, .fieldAddr 43 (.tmp 1) 8, 0, "ref.go:118", #[], none⟩) (v := ?_) rfl (by kernel_rfl) (by kernel_rfl) (by kernel_rfl) (fun _ _ _ h => h) (Or.inl ⟨by rfl, ?_⟩) (by assumption) ?_
       rotate_left
       · intro w hSw; (try dsimp only at hSw); go_simp; try with_reducible rfl
       simp only [Act.put, sA, sB, sC]
       refine wpAnyH_take (i := 17) (oi := ⟨some 78, .load 3 (.tmp 77), 3, "ref.go:118", #[.mk 16 .data], none⟩) (v := ?_) rfl (by kernel_rfl) (by kernel_rfl) (by kernel_rfl) (fun _ _ _ h => h) (Or.inl ⟨by rfl, ?_⟩) (by assumption) ?_
       rotate_left
       · intro w hSw; (try dsimp only at hSw); go_simp; try with_reducible rfl
       simp only [Act.put, sA, sB, sC]
       refine wpAnyH_take (i := 18) (oi := ⟨some 79, .fieldAddr 43 (.tmp 1) 9, 0, "ref.go:118", #[], none⟩) (v := ?_) rfl (by kernel_rfl) (by kernel_rfl) (by kernel_rfl) (fun _ _ _ h => h) (Or.inl ⟨by rfl, ?_⟩) (by assumption) ?_
       rotate_left
       · intro w hSw; (try dsimp only at hSw); go_simp; try with_reducible rfl
       simp only [Act.put, sA, sB, sC]
       refine wpAnyH_take (i := 19) (oi := ⟨some 80, .load 3 (.tmp 79), 3, "ref.go:118", #[.mk 18 .data], none⟩) (v := ?_) rfl (by kernel_rfl) (by kernel_rfl) (by kernel_rfl) (fun _ _ _ h => h) (Or.inl ⟨by rfl, ?_⟩) (by assumption) ?_
       rotate_left
       · intro w hSw; (try dsimp only at hSw); go_simp; try with_reducible rfl
       simp only [Act.put, sA, sB, sC]
       refine wpAnyH_take (i := 20) (oi := ⟨some 81, .fieldAddr 43 (.tmp 1) 10, 0, "ref.go:118", #[], none⟩) (v := ?_) rfl (by kernel_rfl) (by kernel_rfl) (by kernel_rfl) (fun _ _ _ h => h) (Or.inl ⟨by rfl, ?_⟩) (by assumption) ?_
       rotate_left
       · intro w hSw; (try dsimp only at hSw); go_simp; try with_reducible rfl
       simp only [Act.put, sA, sB, sC]
       refine wpAnyH_take (i := 21) (oi := ⟨some 82, .load 3 (.tmp 81), 3, "ref.go:118", #[.mk 20 .data], none⟩) (v := ?_) rfl (by kernel_rfl) (by kernel_rfl) (by kernel_rfl) (fun _ _ _ h => h) (Or.inl ⟨by rfl, ?_⟩) (by assumption) ?_
       rotate_left
       · intro w hSw; (try dsimp only at hSw); go_simp; try with_reducible rfl
       simp only [Act.put, sA, sB, sC]
       refine wpAnyH_take (i := 22) (oi := ⟨some 83, .fieldAddr 43 (.tmp 1) 11, 0, "ref.go:118", #[], none⟩) (v := ?_) rfl (by kernel_rfl) (by kernel_rfl) (by kernel_rfl) (fun _ _ _ h => h) (Or.inl ⟨by rfl, ?_⟩) (by assumption) ?_
       rotate_left
       · intro w hSw; (try dsimp only at hSw); go_simp; try with_reducible rfl
       simp only [Act.put, sA, sB, sC]
       refine wpAnyH_take (i := 23) (oi := ⟨some 84, .load 41 (.tmp 83), 41, "ref.go:118", #[.mk 22 .data], none⟩) (v := ?_) rfl (by kernel_rfl) (by kernel_rfl) (by kernel_rfl) (fun _ _ _ h => h) (Or.inl ⟨by rfl, ?_⟩) (by assumption) ?_
       rotate_left
       · intro w hSw; (try dsimp only at hSw); go_simp; try with_reducible rfl
       simp only [Act.put, sA, sB, sC]
       refine wpAnyH_take (i := 24) (oi := ⟨some 85, .call { callee := .builtin .len, args := #[.tmp 84], argTypes := #[41] }, 3, "ref.go:118", #[.mk 23 .data], none⟩) (v := ?_) rfl (by kernel_rfl) (by kernel_rfl) (by kernel_rfl) (fun _ _ _ h => h) (Or.inl ⟨by rfl, ?_⟩) (by assumption) ?_
       rotate_left
       · intro w hSw; (try dsimp only at hSw); go_simp; try with_reducible rfl
       simp only [Act.put, sA, sB, sC]
       refine wpAnyH_ready (rs := [9]) (by kernel_rfl) (by simp) (AllReadyH.cons (o := ⟨some 70, .call { callee := .value (.func 28), args := #[.tmp 69], argTypes := #[43] }, 3, "ref.go:118", #[.mk 8 .data], none⟩) rfl (fun KK hK => ?_) AllReadyH.nil)
       · go_simp
         go_at_call 28
         with_reducible refine (ref11_attr b.base b.leader b.app b.txn b.ctl b.last b.first b.maxt b.prod b.epoch b.seq (.slice q l.length cap) at_ AT.out hs).mono ?_
         rintro e wq ⟨rfl, hs⟩
         refine hK.out _ _ (let ⟨x0, x1, x2, x3, x4, x5, x6, x7, x8, x9, x10, x11, _⟩ := raw12 (b := hb) (hs); ⟨x0, x1, x2, x3, x4, x5, x6, x7, x8, x9, x10, x11⟩) (fun hHeld => ?_)
         clear hK KK
         try simp only [Act.put, sA, sB, sC]
         refine wpAnyH_ready (rs := [25]) (by kernel_rfl) (by simp) (AllReadyH.cons (o := ⟨some 86, .buildSlice 40 12 #[(0, .tmp 62), (1, .tmp 65), (2, .tmp 67), (3, .tmp 68), (4, .tmp 70), (5, .tmp 72), (6, .tmp 74), (7, .tmp 76), (8, .tmp 78), (9, .tmp 80), (10, .tmp 82), (11, .tmp 85)], 40, "ref.go:118", #[.mk 1 .data, .mk 4 .data, .mk 6 .data, .mk 7 .data, .mk 9 .data, .mk 11 .data, .mk 13 .data, .mk 15 .data, .mk 17 .data, .mk 19 .data, .mk 21 .data, .mk 24 .data], none⟩) rfl (fun KK hK => ?_) AllReadyH.nil)
         · rw [if_pos (by rfl)]
           refine wp_op_value (v := .slice (some ⟨wq.heap.size, 0, none⟩) 12 12) (w' := wq.alloc (.cells #[.int .i64 b.base, .int .i64 (49 + rows.length), .int .i64 b.leader, .int .i64 (x : Int), .int .i64 at_, .int .i64 b.last, .int .i64 b.first, .int .i64 b.maxt, .int .i64 b.prod, .int .i64 b.epoch, .int .i64 b.seq, .int .i64 l.length] 3 (0, 0))) (exec_build #[(0, .int .i64 b.base), (1, .int .i64 (49 + rows.length)), (2, .int .i64 b.leader), (3, .int .i64 (x : Int)), (4, .int .i64 at_), (5, .int .i64 b.last), (6, .int .i64 b.first), (7, .int .i64 b.maxt), (8, .int .i64 b.prod), (9, .int .i64 b.epoch), (10, .int .i64 b.seq), (11, .int .i64 l.length)] _ _ _ (by kernel_rfl) (build12 ( b.base) ( (49 + rows.length)) ( b.leader) ( (x : Int)) ( at_) ( b.last) ( b.first) ( b.maxt) ( b.prod) ( b.epoch) ( b.seq) ( l.length) wq)) ?_
           obtain ⟨wy, bS, ey, eb, hs⟩ := hs.allocEx #[.int .i64 b.base, .int .i64 (49 + rows.length), .int .i64 b.leader, .int .i64 (x : Int), .int .i64 at_, .int .i64 b.last, .int .i64 b.first, .int .i64 b.maxt, .int .i64 b.prod, .int .i64 b.epoch, .int .i64 b.seq, .int .i64 l.length] 3
           rw [ey, eb]
           clear ey eb
           refine hK.out _ _ (let ⟨x0, x1, x2, x3, x4, x5, x6, x7, x8, x9, x10, x11, _⟩ := raw12 (b := hb) (hs.p1); ⟨x0, x1, x2, x3, x4, x5, x6, x7, x8, x9, x10, x11⟩) (fun hHeld => ?_)
           clear hK KK
           try simp only [Act.put, sA, sB, sC]
           refine wpAnyH_ready (rs := [26]) (by kernel_rfl) (by simp) (AllReadyH.cons (o := ⟨some 87, .call { callee := .value (.func 27), args := #[.tmp 86], argTypes := #[40] }, 74, "ref.go:118", #[.mk 25 .data, .mk 9 .chain], none⟩) rfl (fun KK hK => ?_) AllReadyH.nil)
           · go_simp
             go_at_call 27
             with_reducible refine (ref10_pre bS b (x : Int) rows HRW.out at_ AT.out l.length HN.out said1 HS1.out HF1.out HR1.out hs).mono ?_
             rintro e wq ⟨rfl, hs⟩
             refine hK.out _ _ (let ⟨x0, x1, x2, x3, x4, x5, x6, x7, x8, x9, x10, x11, _⟩ := raw12 (b := hb) (hs.p1); ⟨x0, x1, x2, x3, x4, x5, x6, x7, x8, x9, x10, x11⟩) (fun hHeld => ?_)
             clear hK KK
             try simp only [Act.put, sA, sB, sC]
             have hs := hs.drop
             refine wpAnyH_take (i := 27) (oi := ⟨some 60, .move (.tmp 87), 74, "ref.go:118", #[.mk 26 .data], none⟩) (v := ?_) rfl (by kernel_rfl) (by kernel_rfl) (by kernel_rfl) (fun _ _ _ h => h) (Or.inl ⟨by rfl, ?_⟩) (by assumption) ?_
             rotate_left
             · intro w hSw; (try dsimp only at hSw); go_simp; try with_reducible rfl
             simp only [Act.put, sA, sB, sC]
             refine wpAnyH_take (i := 28) (oi := ⟨some 88, .extract (.tmp 60) 0, 9, "ref.go:118", #[.mk 27 .data], none⟩) (v := ?_) rfl (by kernel_rfl) (by kernel_rfl) (by kernel_rfl) (fun _ _ _ h => h) (Or.inl ⟨by rfl, ?_⟩) (by assumption) ?_
             rotate_left
             · intro w hSw; (try dsimp only at hSw); go_simp; try with_reducible rfl
             simp only [Act.put, sA, sB, sC]
             refine wpAnyH_take (i := 29) (oi := ⟨some 89, .extract (.tmp 60) 1, 4, "ref.go:118", #[.mk 27 .data, { on := 30, ground := Ground.gcOnly Departure.lateStores }], none⟩) (v := ?_) rfl (by kernel_rfl) (by kernel_rfl) (by kernel_rfl) (fun _ _ _ h => h) (Or.inl ⟨by rfl, ?_⟩) (by assumption) ?_
             rotate_left
             · intro w hSw; (try dsimp only at hSw); go_simp; try with_reducible rfl
             simp only [Act.put, sA, sB, sC]
             refine wpAnyH_take (i := 30) (oi := ⟨some 8, .assign (.tmp 88), 9, "ref.go:118", #[.mk 28 .data, .mk 26 .chain, .mk 0 .phase, .mk 1 .phase, .mk 2 .phase, .mk 3 .phase, .mk 4 .phase, .mk 5 .phase, .mk 6 .phase, .mk 7 .phase, .mk 8 .phase, .mk 9 .phase, .mk 10 .phase, .mk 11 .phase, .mk 12 .phase, .mk 13 .phase, .mk 14 .phase, .mk 15 .phase, .mk 16 .phase, .mk 17 .phase, .mk 18 .phase, .mk 19 .phase, .mk 20 .phase, .mk 21 .phase, .mk 22 .phase, .mk 23 .phase, .mk 24 .phase, .mk 25 .phase, .mk 26 .phase, .mk 27 .phase, .mk 28 .phase, { on := 29, ground := Ground.textOnly Departure.lateStores }], none⟩) (v := ?_) rfl (by kernel_rfl) (by kernel_rfl) (by kernel_rfl) (fun _ _ _ h => h) (Or.inl ⟨by rfl, ?_⟩) (by assumption) ?_
             rotate_left
             · intro w hSw; (try dsimp only at hSw); go_simp; try with_reducible rfl
             simp only [Act.put, sA, sB, sC]
             refine wpAnyH_take (i := 31) (oi := ⟨some 9, .assign (.tmp 89), 4, "ref.go:118", #[.mk 29 .data, .mk 30 .chain, .mk 0 .phase, .mk 1 .phase, .mk 2 .phase, .mk 3 .phase, .mk 4 .phase, .mk 5 .phase, .mk 6 .phase, .mk 7 .phase, .mk 8 .phase, .mk 9 .phase, .mk 10 .phase, .mk 11 .phase, .mk 12 .phase, .mk 13 .phase, .mk 14 .phase, .mk 15 .phase, .mk 16 .phase, .mk 17 .phase, .mk 18 .phase, .mk 19 .phase, .mk 20 .phase, .mk 21 .phase, .mk 22 .phase, .mk 23 .phase, .mk 24 .phase, .mk 25 .phase, .mk 26 .phase, .mk 27 .phase, .mk 28 .phase, .mk 29 .phase, .mk 30 .phase], none⟩) (v := ?_) rfl (by kernel_rfl) (by kernel_rfl) (by kernel_rfl) (fun _ _ _ h => h) (Or.inl ⟨by rfl, ?_⟩) (by assumption) ?_
             rotate_left
             · intro w hSw; (try dsimp only at hSw); go_simp; try with_reducible rfl
             simp only [Act.put, sA, sB, sC]
             refine wpAnyH_done (by kernel_rfl) ?_ _
             clear hHeld
             go_wp2_with fail
             go_meet
             exact ⟨rfl, hs⟩
     case rest =>
       obtain ⟨rfl, h⟩ := hcut
       clear H
       have H := Lib.hid h
       clear h
       obtain ⟨hcat1, hg1⟩ := HG1.out
       go_wp2_with (fail)
       go_ret
       exact ⟨rfl, H.out.drop⟩

end Go.Proofs.YtngojlinfdokpaaGreat

/- A text. -/
namespace Go.Proofs.YtngojlinfdokpaaGreat
open Go.RowKit

end Go.Proofs.YtngojlinfdokpaaGreat

/- A text. -/
namespace Go.Proofs.YtngojlinfdokpaaGreat
open Go.RowKit

structure EndS where
  n1 : Int
  n2 : Int
  n3 : Int
  n4 : Int
  n5 : Int
def EndS.R (x : EndS) : Prop := Rn x.n1 ∧ Rn x.n2 ∧ Rn x.n3 ∧ Rn x.n4 ∧ Rn x.n5
def batcells (x : BatR) : List Value := [.int .i64 x.b.base, .int .i64 x.b.leader, .bool x.b.app, .bool x.b.txn, .bool x.b.ctl, .int .i64 x.b.last, .int .i64 x.b.first, .int .i64 x.b.maxt, .int .i64 x.b.prod, .int .i64 x.b.epoch, .int .i64 x.b.seq, .slice x.q x.l.length x.cap]
structure Good1 (x : BatR) : Prop where
  so : SmallOk x.b
  recs : x.l.map (·.1) = x.b.recs
  len : x.b.enc.length ≤ 14000
  told : x.b.ctl = true → (endOf x.b).2.2.2.2.2 = true
theorem elem_bat : ElemT Tryz.prog 43 (.agg #[.int .i64 0, .int .i64 0, .bool false, .bool false, .bool false, .int .i64 0, .int .i64 0, .int .i64 0, .int .i64 0, .int .i64 0, .int .i64 0, .slice none 0 0]) 12 96 := elemT_of (by kernel_rfl) rfl (by decide)
def noneB : BatS := ⟨0, 0, false, false, false, 0, 0, 0, -1, -1, -1, []⟩
theorem so_none : SmallOk noneB where
 fit := fun x hx => by cases hx
 len := by decide
 err := by decide +kernel
 rng := by unfold BatS.R noneB Rn; decide
theorem encode_none (s : Bs) (hs : noneB.enc = s) {W0 w : World} {K : Know} {L : List Res} (h : St W0 w K L) :
  Calls Tryz.prog 16 #[.agg #[.int .i64 0, .int .i64 0, .bool false, .bool false, .bool false, .int .i64 0, .int .i64 0, .int .i64 0, .int .i64 (-1), .int .i64 (-1), .int .i64 (-1), .slice none 0 0]] w fun en w' => en = .returned (.tuple #[.string (bb s), .int .i64 0]) ∧ St W0 w' K L := by
 subst hs
 exact bat_encode_enc noneB [] none 0 rfl so_none (recs_nilK K) h

end Go.Proofs.YtngojlinfdokpaaGreat

/- A text. -/
namespace Go.Proofs.YtngojlinfdokpaaGreat
open Go.RowKit

def Reads (v0 : Value) (n0 : Nat) (s0 : Bs) (R : Bs) (v : Value) : Prop :=
  (v = .slice none 0 0 ∧ R = []) ∨ ∃ ad c, v = .slice (some ad) R.length c ∧ R.length ≤ c ∧ ∀ (W0 w : World) (K : Know) (L : List Res), St W0 w K (.row v0 5 1 n0 (bvals s0) :: L) → ∀ k, k ≤ R.length → ∀ c', (convert 22 9 (.slice (some ad) k c')).run Tryz.prog w = .ok (.string (bb (R.take k))) w
theorem first_none_any {v0 : Value} {n0 : Nat} {s0 : Bs} (R : Bs) (v : Value) (hv : Reads v0 n0 s0 R v) (hr : R.length ≤ 1000000) (hf : firstS R = .ok none) {W0 w : World} {K : Know} {L : List Res} (h : St W0 w K (.row v0 5 1 n0 (bvals s0) :: L)) :
  Calls Tryz.prog 20 #[v] w fun en w' => en = .returned (.tuple #[.agg #[.int .i64 0, .int .i64 0, .bool false, .bool false, .bool false, .int .i64 0, .int .i64 0, .int .i64 0, .int .i64 0, .int .i64 0, .int .i64 0, .slice none 0 0], .int .i64 0, .int .i64 0]) ∧ St W0 w' K (.row v0 5 1 n0 (bvals s0) :: L) := by
 rcases hv with ⟨rfl, _⟩ | ⟨ad, c, rfl, hc, hcv⟩
 · exact first_none h
 unfold firstS at hf
 by_cases c1 : R.length < 61
 · exact first_short ad R.length c R rfl hc hr hcv c1 h
 rw [if_neg c1] at hf
 cases hp : rePre R with
 | error e => rw [hp] at hf; cases hf
 | ok x =>
  rw [hp] at hf
  simp only at hf
  by_cases c2 : R.length < 61 + (x.len - 49).toNat
  · exact first_torn ad R.length c R rfl hc hr hcv c1 x hp c2 h
  rw [if_neg c2] at hf
  cases ha : asmB x (R.take 61) ((R.drop 61).take (x.len - 49).toNat) with
  | error e => rw [ha] at hf; cases hf
  | ok b => rw [ha] at hf; cases hf
theorem first_err_any {v0 : Value} {n0 : Nat} {s0 : Bs} (R : Bs) (v : Value) (hv : Reads v0 n0 s0 R v) (hr : R.length ≤ 1000000) (e : Int) (hf : firstS R = .error e) {W0 w : World} {K : Know} {L : List Res} (h : St W0 w K (.row v0 5 1 n0 (bvals s0) :: L)) :
  Calls Tryz.prog 20 #[v] w fun en w' => ∃ n : Nat, en = .returned (.tuple #[.agg #[.int .i64 0, .int .i64 0, .bool false, .bool false, .bool false, .int .i64 0, .int .i64 0, .int .i64 0, .int .i64 0, .int .i64 0, .int .i64 0, .slice none 0 0], .int .i64 n, .int .i64 e]) ∧ St W0 w' K (.row v0 5 1 n0 (bvals s0) :: L) := by
 unfold firstS at hf
 by_cases c1 : R.length < 61
 · rw [if_pos c1] at hf; cases hf
 rcases hv with ⟨_, rfl⟩ | ⟨ad, c, rfl, hc, hcv⟩
 · exact absurd (by decide) c1
 rw [if_neg c1] at hf
 cases hp : rePre R with
 | error e2 =>
  rw [hp] at hf
  cases hf
  exact (first_pre ad R.length c R rfl hc hr hcv c1 e hp h).mono fun _ _ hh => ⟨0, hh⟩
 | ok x =>
  rw [hp] at hf
  simp only at hf
  by_cases c2 : R.length < 61 + (x.len - 49).toNat
  · rw [if_pos c2] at hf; cases hf
  rw [if_neg c2] at hf
  cases ha : asmB x (R.take 61) ((R.drop 61).take (x.len - 49).toNat) with
  | error e2 =>
   rw [ha] at hf
   cases hf
   have hb := reBat_take hp (by omega)
   rw [ha] at hb
   exact (first_bad ad R.length c R rfl hc hr hcv c1 x hp _ rfl (by omega) e hb h).mono fun _ _ hh => ⟨_, hh⟩
  | ok b => rw [ha] at hf; cases hf
theorem first_some_any {v0 : Value} {n0 : Nat} {s0 : Bs} (R : Bs) (v : Value) (hv : Reads v0 n0 s0 R v) (hr : R.length ≤ 1000000) (b : BatS) (n : Nat) (hf : firstS R = .ok (some (b, n))) {W0 w : World} {K : Know} {L : List Res} (h : St W0 w K (.row v0 5 1 n0 (bvals s0) :: L)) :
  Calls Tryz.prog 20 #[v] w fun en w' => ∃ (q : Option Addr) (l : List (RecS × Value)) (cap2 : Nat), en = .returned (.tuple #[.agg #[.int .i64 b.base, .int .i64 b.leader, .bool b.app, .bool b.txn, .bool b.ctl, .int .i64 b.last, .int .i64 b.first, .int .i64 b.maxt, .int .i64 b.prod, .int .i64 b.epoch, .int .i64 b.seq, .slice q l.length cap2], .int .i64 n, .int .i64 0]) ∧ l.map (·.1) = b.recs ∧ St W0 w' (K.and (Know.recs (.slice q l.length cap2) l)) (.row v0 5 1 n0 (bvals s0) :: L) := by
 unfold firstS at hf
 by_cases c1 : R.length < 61
 · rw [if_pos c1] at hf; cases hf
 rcases hv with ⟨_, rfl⟩ | ⟨ad, c, rfl, hc, hcv⟩
 · exact absurd (by decide) c1
 rw [if_neg c1] at hf
 cases hp : rePre R with
 | error e2 => rw [hp] at hf; cases hf
 | ok x =>
  rw [hp] at hf
  simp only at hf
  by_cases c2 : R.length < 61 + (x.len - 49).toNat
  · rw [if_pos c2] at hf; cases hf
  rw [if_neg c2] at hf
  cases ha : asmB x (R.take 61) ((R.drop 61).take (x.len - 49).toNat) with
  | error e2 => rw [ha] at hf; cases hf
  | ok b2 =>
   rw [ha] at hf
   cases hf
   have hb := reBat_take hp (by omega)
   rw [ha] at hb
   exact first_good ad R.length c R rfl hc hr hcv c1 x hp _ rfl (by omega) b hb h
def LiteR (x : BatR) : Prop := x.l.map (·.1) = x.b.recs ∧ LiteB 1000000 x.b
theorem bats_know {K : Know} {v : Value} {l : List BatR} (h1 : K.has (Know.flat RBat v 12 l)) (h2 : ∀ x ∈ l, K.has (Know.recs (.slice x.q x.l.length x.cap) x.l)) : K.has (Know.bats v l) := fun w F h => ⟨h1 w F h, fun x hx => h2 x hx w F h⟩
theorem bats_nilS (K : Know) : K.has (Know.bats (.slice none 0 0) []) := bats_know (fun _ _ _ => ⟨none, 0, rfl, fun h => absurd h (by simp)⟩) (fun x hx => by cases hx)
theorem St.freezeBats {W0 w : World} {K : Know} {L : List Res} {v : Value} {T : TypeId} {l : List BatR} (h : St W0 w K (.row v T 12 l.length (l.flatMap batcells) :: L)) (ht : ∀ x ∈ l, K.has (Know.recs (.slice x.q x.l.length x.cap) x.l)) : St W0 w (K.and (Know.bats v l)) L := by
 have hf := h.freezeRow (R := RBat) (fun x _ => ⟨rfl, rfl⟩)
 exact hf.know (K' := K.and (Know.bats v l)) (fun w F hh => ⟨hh.1, hh.2, fun x hx => ht x hx _ _ hh.1⟩)

end Go.Proofs.YtngojlinfdokpaaGreat

/- A text. -/
namespace Go.Proofs.YtngojlinfdokpaaGreat
open Go.RowKit

def FeedJ (sb valid : Nat) (chunk T : Bs) (W0 : World) (K : Know) (L : List Res) (l : Nat) (a' : Act) (w' : World) : Prop :=
  (l = 0 ∧ ∃ (at_ : Nat) (lv v : Value) (acc : List BatR) (K2 : Know) (u : Nat → Value), a' = { tmps := ((.pointer (some ⟨sb, 0, none⟩) : Value) :: (.string (bb chunk) : Value) :: u 2 :: u 3 :: (.slice none 0 0 : Value) :: lv :: (.int .i64 at_ : Value) :: u 7 :: u 8 :: u 9 :: u 10 :: u 11 :: u 12 :: u 13 :: u 14 :: u 15 :: u 16 :: u 17 :: u 18 :: u 19 :: u 20 :: u 21 :: u 22 :: u 23 :: u 24 :: u 25 :: u 26 :: u 27 :: u 28 :: u 29 :: u 30 :: u 31 :: u 32 :: u 33 :: u 34 :: u 35 :: u 36 :: u 37 :: u 38 :: u 39 :: u 40 :: u 41 :: u 42 :: u 43 :: u 44 :: u 45 :: u 46 :: u 47 :: u 48 :: u 49 :: u 50 :: u 51 :: u 52 :: u 53 :: u 54 :: u 55 :: u 56 :: u 57 :: u 58 :: u 59 :: u 60 :: u 61 :: u 62 :: u 63 :: u 64 :: u 65 :: u 66 :: u 67 :: u 68 :: u 69 :: u 70 :: u 71 :: u 72 :: u 73 :: u 74 :: u 75 :: u 76 :: u 77 :: u 78 :: u 79 :: u 80 :: u 81 :: u 82 :: u 83 :: u 84 :: u 85 :: u 86 :: []).toArray, defers := [] } ∧ at_ ≤ T.length ∧ scanS T = (acc.map BatR.b ++ (scanS (T.drop at_)).1, (scanS (T.drop at_)).2) ∧ K2.has K ∧ (∀ x ∈ acc, K2.has (Know.recs (.slice x.q x.l.length x.cap) x.l)) ∧ (∀ x ∈ acc, LiteR x) ∧ 61 * acc.length ≤ at_ ∧ St W0 w' K2 (.row lv 43 12 acc.length (acc.flatMap batcells) :: .raw sb #[.int .i64 valid, v, .int .i64 0] 52 :: .row (v) 5 1 T.length (bvals T) :: L)) ∨
  (l = 1 ∧ ∃ (at_ : Nat) (lv v : Value) (acc : List BatR) (K2 : Know) (e : Int) (u : Nat → Value), a' = { tmps := ((.pointer (some ⟨sb, 0, none⟩) : Value) :: (.string (bb chunk) : Value) :: u 2 :: u 3 :: (.slice none 0 0 : Value) :: lv :: (.int .i64 at_ : Value) :: u 7 :: u 8 :: (.int .i64 e : Value) :: u 10 :: u 11 :: u 12 :: u 13 :: u 14 :: u 15 :: u 16 :: u 17 :: u 18 :: u 19 :: u 20 :: u 21 :: u 22 :: u 23 :: u 24 :: u 25 :: u 26 :: u 27 :: u 28 :: u 29 :: u 30 :: u 31 :: u 32 :: u 33 :: u 34 :: u 35 :: u 36 :: u 37 :: u 38 :: u 39 :: u 40 :: u 41 :: u 42 :: u 43 :: u 44 :: u 45 :: u 46 :: u 47 :: u 48 :: u 49 :: u 50 :: u 51 :: u 52 :: u 53 :: u 54 :: u 55 :: u 56 :: u 57 :: u 58 :: u 59 :: u 60 :: u 61 :: u 62 :: u 63 :: u 64 :: u 65 :: u 66 :: u 67 :: u 68 :: u 69 :: u 70 :: u 71 :: u 72 :: u 73 :: u 74 :: u 75 :: u 76 :: u 77 :: u 78 :: u 79 :: u 80 :: u 81 :: u 82 :: u 83 :: u 84 :: u 85 :: u 86 :: []).toArray, defers := [] } ∧ at_ ≤ T.length ∧ scanS T = (acc.map BatR.b, T.drop at_, e) ∧ K2.has K ∧ (∀ x ∈ acc, K2.has (Know.recs (.slice x.q x.l.length x.cap) x.l)) ∧ (∀ x ∈ acc, LiteR x) ∧ 61 * acc.length ≤ at_ ∧ St W0 w' K2 (.row lv 43 12 acc.length (acc.flatMap batcells) :: .raw sb #[.int .i64 valid, v, .int .i64 0] 52 :: .row (v) 5 1 T.length (bvals T) :: L))
def FeedM (T : Bs) (l : Nat) (a : Act) (_ : World) : Nat := if l = 0 then T.length + 1 - (intOf (a.tmps.getD 6 undef)).toNat else 0

theorem FeedM_lt1 {T : Bs} {a a' : Act} {w w' : World} {at_ : Nat} (h : FeedM T 0 a w = T.length + 1 - at_) (h2 : at_ ≤ T.length) : FeedM T 1 a' w' < FeedM T 0 a w := by
 rw [h]
 show 0 < _
 omega
theorem FeedM_lt0 {T : Bs} {a a' : Act} {w w' : World} {at_ n : Nat} (h : FeedM T 0 a w = T.length + 1 - at_) (h2 : at_ ≤ T.length) (h3 : 0 < n) (h4 : FeedM T 0 a' w' = T.length + 1 - (at_ + n)) : FeedM T 0 a' w' < FeedM T 0 a w := by
 rw [h, h4]
 omega

theorem FeedJ.elim0 {sb valid : Nat} {chunk T : Bs} {W0 : World} {K : Know} {L : List Res} {a' : Act} {w' : World} {P : Act → World → Prop} (h : FeedJ sb valid chunk T W0 K L 0 a' w')
    (go : ∀ (at_ : Nat) (lv v : Value) (acc : List BatR) (K2 : Know) (u : Nat → Value), at_ ≤ T.length → scanS T = (acc.map BatR.b ++ (scanS (T.drop at_)).1, (scanS (T.drop at_)).2) → K2.has K → (∀ x ∈ acc, K2.has (Know.recs (.slice x.q x.l.length x.cap) x.l)) → (∀ x ∈ acc, LiteR x) → 61 * acc.length ≤ at_ → St W0 w' K2 (.row lv 43 12 acc.length (acc.flatMap batcells) :: .raw sb #[.int .i64 valid, v, .int .i64 0] 52 :: .row (v) 5 1 T.length (bvals T) :: L) → FeedM T 0 a' w' = T.length + 1 - at_ → P { tmps := ((.pointer (some ⟨sb, 0, none⟩) : Value) :: (.string (bb chunk) : Value) :: u 2 :: u 3 :: (.slice none 0 0 : Value) :: lv :: (.int .i64 at_ : Value) :: u 7 :: u 8 :: u 9 :: u 10 :: u 11 :: u 12 :: u 13 :: u 14 :: u 15 :: u 16 :: u 17 :: u 18 :: u 19 :: u 20 :: u 21 :: u 22 :: u 23 :: u 24 :: u 25 :: u 26 :: u 27 :: u 28 :: u 29 :: u 30 :: u 31 :: u 32 :: u 33 :: u 34 :: u 35 :: u 36 :: u 37 :: u 38 :: u 39 :: u 40 :: u 41 :: u 42 :: u 43 :: u 44 :: u 45 :: u 46 :: u 47 :: u 48 :: u 49 :: u 50 :: u 51 :: u 52 :: u 53 :: u 54 :: u 55 :: u 56 :: u 57 :: u 58 :: u 59 :: u 60 :: u 61 :: u 62 :: u 63 :: u 64 :: u 65 :: u 66 :: u 67 :: u 68 :: u 69 :: u 70 :: u 71 :: u 72 :: u 73 :: u 74 :: u 75 :: u 76 :: u 77 :: u 78 :: u 79 :: u 80 :: u 81 :: u 82 :: u 83 :: u 84 :: u 85 :: u 86 :: []).toArray, defers := [] } w') : P a' w' := by
  rcases h with ⟨_, at_, lv, v, acc, K2, u, rfl, h1, h2, h3, h4, h5, h6, h7⟩ | ⟨h, _⟩
  · exact go _ _ _ _ _ _ h1 h2 h3 h4 h5 h6 h7 rfl
  · cases h
theorem FeedJ.mk0 {sb valid : Nat} {chunk T : Bs} {W0 : World} {K : Know} {L : List Res} {a' : Act} {w' : World} (at_ : Nat) (lv v : Value) (acc : List BatR) (K2 : Know) (ha : a' = (fun u : Nat → Value => ({ tmps := ((.pointer (some ⟨sb, 0, none⟩) : Value) :: (.string (bb chunk) : Value) :: u 2 :: u 3 :: (.slice none 0 0 : Value) :: lv :: (.int .i64 at_ : Value) :: u 7 :: u 8 :: u 9 :: u 10 :: u 11 :: u 12 :: u 13 :: u 14 :: u 15 :: u 16 :: u 17 :: u 18 :: u 19 :: u 20 :: u 21 :: u 22 :: u 23 :: u 24 :: u 25 :: u 26 :: u 27 :: u 28 :: u 29 :: u 30 :: u 31 :: u 32 :: u 33 :: u 34 :: u 35 :: u 36 :: u 37 :: u 38 :: u 39 :: u 40 :: u 41 :: u 42 :: u 43 :: u 44 :: u 45 :: u 46 :: u 47 :: u 48 :: u 49 :: u 50 :: u 51 :: u 52 :: u 53 :: u 54 :: u 55 :: u 56 :: u 57 :: u 58 :: u 59 :: u 60 :: u 61 :: u 62 :: u 63 :: u 64 :: u 65 :: u 66 :: u 67 :: u 68 :: u 69 :: u 70 :: u 71 :: u 72 :: u 73 :: u 74 :: u 75 :: u 76 :: u 77 :: u 78 :: u 79 :: u 80 :: u 81 :: u 82 :: u 83 :: u 84 :: u 85 :: u 86 :: []).toArray, defers := [] } : Act)) (fun i => a'.tmps.getD i undef)) (h1 : at_ ≤ T.length) (h2 : scanS T = (acc.map BatR.b ++ (scanS (T.drop at_)).1, (scanS (T.drop at_)).2)) (h3 : K2.has K) (h4 : ∀ x ∈ acc, K2.has (Know.recs (.slice x.q x.l.length x.cap) x.l)) (h5 : ∀ x ∈ acc, LiteR x) (h6 : 61 * acc.length ≤ at_) (h7 : St W0 w' K2 (.row lv 43 12 acc.length (acc.flatMap batcells) :: .raw sb #[.int .i64 valid, v, .int .i64 0] 52 :: .row (v) 5 1 T.length (bvals T) :: L)) : FeedJ sb valid chunk T W0 K L 0 a' w' :=
 .inl ⟨rfl, at_, lv, v, acc, K2, (fun i => a'.tmps.getD i undef), ha, h1, h2, h3, h4, h5, h6, h7⟩

theorem FeedJ.elim1 {sb valid : Nat} {chunk T : Bs} {W0 : World} {K : Know} {L : List Res} {a' : Act} {w' : World} {P : Act → World → Prop} (h : FeedJ sb valid chunk T W0 K L 1 a' w')
    (go : ∀ (at_ : Nat) (lv v : Value) (acc : List BatR) (K2 : Know) (e : Int) (u : Nat → Value), at_ ≤ T.length → scanS T = (acc.map BatR.b, T.drop at_, e) → K2.has K → (∀ x ∈ acc, K2.has (Know.recs (.slice x.q x.l.length x.cap) x.l)) → (∀ x ∈ acc, LiteR x) → 61 * acc.length ≤ at_ → St W0 w' K2 (.row lv 43 12 acc.length (acc.flatMap batcells) :: .raw sb #[.int .i64 valid, v, .int .i64 0] 52 :: .row (v) 5 1 T.length (bvals T) :: L) → FeedM T 1 a' w' = 0 → P { tmps := ((.pointer (some ⟨sb, 0, none⟩) : Value) :: (.string (bb chunk) : Value) :: u 2 :: u 3 :: (.slice none 0 0 : Value) :: lv :: (.int .i64 at_ : Value) :: u 7 :: u 8 :: (.int .i64 e : Value) :: u 10 :: u 11 :: u 12 :: u 13 :: u 14 :: u 15 :: u 16 :: u 17 :: u 18 :: u 19 :: u 20 :: u 21 :: u 22 :: u 23 :: u 24 :: u 25 :: u 26 :: u 27 :: u 28 :: u 29 :: u 30 :: u 31 :: u 32 :: u 33 :: u 34 :: u 35 :: u 36 :: u 37 :: u 38 :: u 39 :: u 40 :: u 41 :: u 42 :: u 43 :: u 44 :: u 45 :: u 46 :: u 47 :: u 48 :: u 49 :: u 50 :: u 51 :: u 52 :: u 53 :: u 54 :: u 55 :: u 56 :: u 57 :: u 58 :: u 59 :: u 60 :: u 61 :: u 62 :: u 63 :: u 64 :: u 65 :: u 66 :: u 67 :: u 68 :: u 69 :: u 70 :: u 71 :: u 72 :: u 73 :: u 74 :: u 75 :: u 76 :: u 77 :: u 78 :: u 79 :: u 80 :: u 81 :: u 82 :: u 83 :: u 84 :: u 85 :: u 86 :: []).toArray, defers := [] } w') : P a' w' := by
  rcases h with ⟨h, _⟩ | ⟨_, at_, lv, v, acc, K2, e, u, rfl, h1, h2, h3, h4, h5, h6, h7⟩
  · cases h
  · exact go _ _ _ _ _ _ _ h1 h2 h3 h4 h5 h6 h7 rfl
theorem FeedJ.mk1 {sb valid : Nat} {chunk T : Bs} {W0 : World} {K : Know} {L : List Res} {a' : Act} {w' : World} (at_ : Nat) (lv v : Value) (acc : List BatR) (K2 : Know) (e : Int) (ha : a' = (fun u : Nat → Value => ({ tmps := ((.pointer (some ⟨sb, 0, none⟩) : Value) :: (.string (bb chunk) : Value) :: u 2 :: u 3 :: (.slice none 0 0 : Value) :: lv :: (.int .i64 at_ : Value) :: u 7 :: u 8 :: (.int .i64 e : Value) :: u 10 :: u 11 :: u 12 :: u 13 :: u 14 :: u 15 :: u 16 :: u 17 :: u 18 :: u 19 :: u 20 :: u 21 :: u 22 :: u 23 :: u 24 :: u 25 :: u 26 :: u 27 :: u 28 :: u 29 :: u 30 :: u 31 :: u 32 :: u 33 :: u 34 :: u 35 :: u 36 :: u 37 :: u 38 :: u 39 :: u 40 :: u 41 :: u 42 :: u 43 :: u 44 :: u 45 :: u 46 :: u 47 :: u 48 :: u 49 :: u 50 :: u 51 :: u 52 :: u 53 :: u 54 :: u 55 :: u 56 :: u 57 :: u 58 :: u 59 :: u 60 :: u 61 :: u 62 :: u 63 :: u 64 :: u 65 :: u 66 :: u 67 :: u 68 :: u 69 :: u 70 :: u 71 :: u 72 :: u 73 :: u 74 :: u 75 :: u 76 :: u 77 :: u 78 :: u 79 :: u 80 :: u 81 :: u 82 :: u 83 :: u 84 :: u 85 :: u 86 :: []).toArray, defers := [] } : Act)) (fun i => a'.tmps.getD i undef)) (h1 : at_ ≤ T.length) (h2 : scanS T = (acc.map BatR.b, T.drop at_, e)) (h3 : K2.has K) (h4 : ∀ x ∈ acc, K2.has (Know.recs (.slice x.q x.l.length x.cap) x.l)) (h5 : ∀ x ∈ acc, LiteR x) (h6 : 61 * acc.length ≤ at_) (h7 : St W0 w' K2 (.row lv 43 12 acc.length (acc.flatMap batcells) :: .raw sb #[.int .i64 valid, v, .int .i64 0] 52 :: .row (v) 5 1 T.length (bvals T) :: L)) : FeedJ sb valid chunk T W0 K L 1 a' w' :=
 .inr ⟨rfl, at_, lv, v, acc, K2, e, (fun i => a'.tmps.getD i undef), ha, h1, h2, h3, h4, h5, h6, h7⟩

end Go.Proofs.YtngojlinfdokpaaGreat

/- A text. -/
namespace Go.Proofs.YtngojlinfdokpaaGreat
open Go.RowKit

theorem op_value {P : Program} {o : Oper} {a : Act} {w w' : World} {v : Value} {KK : Act → World → Prop} {Q : Exit → Act → World → Prop} (hr : (execOp a.eval o).run P w = .ok (.value v) w') (h : KK (a.put o.dst v) w') : o.wp P a w KK Q := by
 unfold Oper.wp
 rw [hr]
 exact h
theorem op_app1 {W0 w : World} {K : Know} {L : List Res} {o : Oper} {a : Act} {KK : Act → World → Prop} {Q : Exit → Act → World → Prop} (sl x : Operand) (t : TypeId)
    (ho : o.op = .call { callee := .builtin .append, args := #[sl, x], argTypes := #[t, t] })
    (e : TypeId) {z : Value} {size bytes : Nat} (ht : Tryz.prog.underlying t = some (.slice e)) (he : ElemT Tryz.prog e z size bytes)
    (v : Value) (n : Nat) (xs : List Value) (hs : a.eval sl = v) (bS : Nat) (cs : Array Value) (T : TypeId) (hst : St W0 w K (.raw bS cs T :: .row v e size n xs :: L))
    (hx : a.eval x = .slice (some ⟨bS, 0, none⟩) 1 1) (hl : cs.toList.length = size) (h1 : ∀ u ∈ cs.toList, u.oneCell' = true)
    (h63 : n + 1 ≤ maxLen) (hbytes : (n + 1) * bytes ≤ 140737488355328)
    (h : ∀ v' w', St W0 w' K (.row v' e size (n + 1) (xs ++ cs.toList) :: L) → KK (a.put o.dst v') w') : o.wp Tryz.prog a w KK Q := by
  have hc := hst.rawCell
  have hst2 := hst.p1
  obtain ⟨⟨i, g1, g2, g3, g4⟩, g5, g6⟩ := he
  obtain ⟨v', w', hr, h2, h3, h4⟩ := app_val (P := Tryz.prog) w t o.type e i z size bytes ht g1 g2 g3 g4 g5 g6 v n xs hst2.rowGet ⟨bS, 0, none⟩ 1 1 cs.toList (by omega) (fun j u hj => by
    have ha : (⟨bS, 0, none⟩ : Addr).add j = ⟨bS, j, none⟩ := by unfold Addr.add; split <;> simp_all
    rw [ha, hc j]
    simpa using hj) h1 h63 hbytes
  unfold Oper.wp execOp
  simp only [ho, resolve, invoke, builtin, Sem.run_bind, Sem.run_pure, Result.andThen_ok, List.map_toArray, List.map_cons, List.map_nil, hs, hx, hr]
  exact h v' w' (hst2.rowGrown h2 h3 h4).p1.drop
theorem op_skip {P : Program} {o : Oper} {a : Act} {w w' : World} {KK : Act → World → Prop} {Q : Exit → Act → World → Prop} (hr : (execOp a.eval o).run P w = .ok .skip w') (h : KK (a.put o.dst undef) w') : o.wp P a w KK Q := by
 unfold Oper.wp
 rw [hr]
 exact h
theorem St.setEx {W0 w : World} {K : Know} {L : List Res} {b : Nat} {c : Array Value} {T : TypeId} (h : St W0 w K (.raw b c T :: L)) (j : Nat) (v : Value) : ∃ wz, w.setCell ⟨b, j, none⟩ v = wz ∧ St W0 wz K (.raw b (c.setIfInBounds j v) T :: L) := ⟨_, rfl, h.rawSet j v⟩

end Go.Proofs.YtngojlinfdokpaaGreat

/- A text. -/
namespace Go.Proofs.YtngojlinfdokpaaGreat
open Go.RowKit

theorem Keeps.setRow (w : World) (g : Nat) (c : Array Value) : Keeps (fun k => k = g) w (w.setRow g c) := ⟨rfl, rfl, rfl, by simp [World.setRow], fun k _ hk => setRow_other w g k c hk⟩
theorem bvals_dropS (s : Bs) (k : Nat) : bvals (s.drop k) = (bvals s).drop k := by unfold bvals; rw [List.map_drop]
theorem bvals_oneS (s : Bs) : ∀ v ∈ bvals s, v.oneCell' = true := by
 intro v hv
 unfold bvals at hv
 obtain ⟨c, _, rfl⟩ := List.mem_map.1 hv
 rfl
theorem take_copyS (l : List Value) (n a : Nat) (ha : a ≤ n) (hn : n ≤ l.length) : ((l.take n).drop a ++ l.drop (n - a)).take n = (l.take n).drop a ++ (l.take n).drop (n - a) := by
 have hA : ((l.take n).drop a).length = n - a := by rw [List.length_drop, List.length_take]; omega
 rw [List.take_append, hA, List.take_of_length_le (by omega), show n - (n - a) = a by omega, List.drop_take (i := n - a), show n - (n - a) = a by omega]
theorem op_copyrow {W0 w : World} {K : Know} {L : List Res} {o : Oper} {a : Act} {KK : Act → World → Prop} {Q : Exit → Act → World → Prop} (d s : Operand)
    (ho : o.op = .call { callee := .builtin .copy, args := #[d, s], argTypes := #[22, 22] }) (g cap : Nat) (T : Bs) (at_ : Nat) (hat : at_ ≤ T.length)
    (hd : a.eval d = .slice (some ⟨g, 0, none⟩) T.length cap) (sp : Option Addr) (sl sc : Nat) (hs : a.eval s = .slice sp sl sc) (hsl : sl = T.length - at_) (hsp : at_ < T.length → sp = some ⟨g, at_, none⟩)
    (hst : St W0 w K (.row (.slice (some ⟨g, 0, none⟩) T.length cap) 5 1 T.length (bvals T) :: L))
    (h : ∀ w', St W0 w' K (.row (.slice (some ⟨g, 0, none⟩) T.length cap) 5 1 T.length (bvals (T.drop at_ ++ T.drop (T.length - at_))) :: L) → KK (a.put o.dst (.int .i64 ((T.length - at_ : Nat) : Int))) w') : o.wp Tryz.prog a w KK Q := by
  subst hsl
  have hes : (Tryz.prog.info? 5).map (·.size) = some 1 := by kernel_rfl
  by_cases h0 : at_ = T.length
  · have hrun := run_copy_none (P := Tryz.prog) w 22 22 o.type 5 (some ⟨g, 0, none⟩) sp T.length cap (T.length - at_) sc Tryz.underlying22 hes (by rw [h0]; simp)
    unfold Oper.wp execOp
    simp only [ho, resolve, invoke, builtin, Sem.run_bind, Sem.run_pure, Result.andThen_ok, List.map_toArray, List.map_cons, List.map_nil, hd, hs, hrun]
    have h1 := h w (by
      rw [h0, List.drop_length, Nat.sub_self, List.drop_zero, List.nil_append]
      exact hst)
    rw [h0, Nat.sub_self] at h1
    exact h1
  · have hlt : at_ < T.length := by omega
    obtain rfl := hsp hlt
    rcases hst.rowGet.2 with ⟨hv, _⟩ | ⟨g2, cap2, cur, e1, _, e3, e4, e5, e6, e7⟩
    · cases hv
    simp at e1
    obtain ⟨rfl, rfl⟩ := e1
    have hrun := run_copy_row (P := Tryz.prog) w 22 22 o.type 5 g 0 T.length cap ⟨g, at_, none⟩ (T.length - at_) sc cur 5 (bvals (T.drop at_)) Tryz.underlying22 hes e3 (by rw [bvals_length, List.length_drop]; exact (Nat.min_eq_left (by omega)).symm)
      (fun j v hj => by
        have ha : (⟨g, at_, none⟩ : Addr).add j = ⟨g, at_ + j, none⟩ := by unfold Addr.add; split <;> simp_all
        have hjl : j < (bvals (T.drop at_)).length := (List.getElem?_eq_some_iff.1 hj).1
        rw [bvals_length, List.length_drop] at hjl
        rw [ha, hst.rowCell (at_ + j) (by omega)]
        rw [bvals_dropS, List.getElem?_drop] at hj
        exact hj) (by rw [bvals_length, List.length_drop]; omega) (bvals_oneS _)
    unfold Oper.wp execOp
    simp only [ho, resolve, invoke, builtin, Sem.run_bind, Sem.run_pure, Result.andThen_ok, List.map_toArray, List.map_cons, List.map_nil, hd, hs, hrun]
    have hk : (bvals (T.drop at_)).length = T.length - at_ := by rw [bvals_length, List.length_drop]
    have hst2 : St W0 (w.setRow g (cur.toList.take 0 ++ bvals (T.drop at_) ++ cur.toList.drop (0 + (bvals (T.drop at_)).length)).toArray) K (.row (.slice (some ⟨g, 0, none⟩) T.length cap) 5 1 T.length (bvals (T.drop at_ ++ T.drop (T.length - at_))) :: L) := by
      refine hst.step fun S1 h1 => ⟨S1, ⟨⟨?_, .inr ⟨g, cap, _, rfl, Nat.zero_le _, setRow_heap w g cur _ _ _ e3, e4, e5, ?_, ?_⟩⟩, h1.2⟩, (Keeps.setRow w g _).mono (fun k _ hk => by subst hk; exact (h1.2 _).2 rfl), fun k hk => ⟨.inl hk, ?_⟩⟩
      · rw [bvals_length, List.length_append, List.length_drop, List.length_drop]; omega
      · have hcl : cur.toList.length = cap := by rw [Array.length_toList]; omega
        simp only [List.take_zero, List.nil_append, Nat.zero_add, List.size_toArray, List.length_append, List.length_drop, hk, hcl]
        omega
      · rw [List.take_zero, List.nil_append, Nat.zero_add, hk, bvals_append, bvals_dropS, bvals_dropS, ← e7]
        simp only [Nat.mul_one]
        exact take_copyS _ _ _ hat (by have hq : cur.toList.length = cur.size := Array.length_toList; omega)
      · have := (h1.1.lt k ((h1.2 k).1 hk)).2
        simpa [World.setRow] using this
    have h1 := h _ hst2
    have hgi : goInt (((bvals (T.drop at_)).length : Nat) : Int) = .int .i64 ((T.length - at_ : Nat) : Int) := by rw [hk]; rfl
    show KK (a.put o.dst (goInt (((bvals (T.drop at_)).length : Nat) : Int))) _
    rw [hgi]
    exact h1

end Go.Proofs.YtngojlinfdokpaaGreat
