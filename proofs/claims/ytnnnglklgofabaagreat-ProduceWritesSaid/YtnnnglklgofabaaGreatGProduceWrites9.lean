/- A text. -/
import Derived.Test.YtnnnglklgofabaaGreatGProduceWrites5
import Derived.Test.YtnnnglklgofabaaGreatGProduceWrites3
import Derived.Test.YtnnnglklgofabaaGreatGProduceWrites7
import Derived.Test.YtnnnglklgofabaaGreatGProduceWrites8
import Derived.Deep.RegionHeld3
import Derived.Deep.DeepCutAuto
import Derived.IntWalk
import Derived.Test.YtnnnglklgofabaaGreatHdr1
import Derived.Test.YtnnnglklgofabaaGreatGProduceWrites6
import Derived.Test.YtnnnglklgofabaaGreatKeyP
import Derived.RegionTactic
import Derived.WalkMore
import Derived.Test.YtnnnglklgofabaaGreatRef04
import Derived.Test.YtnnnglklgofabaaGreatS1
import Derived.Test.YtnnnglklgofabaaGreatBlob1
/- A text. -/
namespace Go.Proofs.YtnnnglklgofabaaGreat
open Go.RowKit

theorem wp_op_value {P : Program} {o : Oper} {a : Act} {w w' : World} {v : Value} {KK : Act → World → Prop} {Q : Exit → Act → World → Prop} (hr : (execOp a.eval o).run P w = .ok (.value v) w') (h : KK (a.put o.dst v) w') : o.wp P a w KK Q := by
 unfold Oper.wp; rw [hr]; exact h
theorem build12 (n0 n1 n2 n3 n4 n5 n6 n7 n8 n9 n10 n11 : Int) (w : World) : (Instr.buildSlice 127 12 #[(0, .int .i64 n0), (1, .int .i64 n1), (2, .int .i64 n2), (3, .int .i64 n3), (4, .int .i64 n4), (5, .int .i64 n5), (6, .int .i64 n6), (7, .int .i64 n7), (8, .int .i64 n8), (9, .int .i64 n9), (10, .int .i64 n10), (11, .int .i64 n11)]).run Tryz.prog w = .ok (.slice (some ⟨w.heap.size, 0, none⟩) 12 12) (w.alloc (.cells #[.int .i64 n0, .int .i64 n1, .int .i64 n2, .int .i64 n3, .int .i64 n4, .int .i64 n5, .int .i64 n6, .int .i64 n7, .int .i64 n8, .int .i64 n9, .int .i64 n10, .int .i64 n11] 3 (0, 0))) := by go_simp
theorem exec_val {v : Value} {w w' : World} (s : Sem Value) (hb : s.run Tryz.prog w = .ok v w') : (do pure (Next.value (← s)) : Sem Next).run Tryz.prog w = .ok (.value v) w' := by go_simp
theorem exec_build {o : Oper} {ρ : Operand → Value} (ps : Array (Nat × Value)) (v : Value) (w w' : World) (ho : execOp ρ o = (do pure (Next.value (← Instr.buildSlice 127 12 ps)))) (hb : (Instr.buildSlice 127 12 ps).run Tryz.prog w = .ok v w') : (execOp ρ o).run Tryz.prog w = .ok (.value v) w' := by
 rw [ho]; exact exec_val _ hb
theorem ref10_pre (bl : Nat) (b : BatS) (sm : Int) (rows : Bs) (hrw : b.rowsB = rows) (at_ : Int) (hat : attrN b.app b.txn b.ctl 3 = at_) (n : Nat) (hn : b.recs.length = n) (said : Bs) (hsaid : encInts (b.pre sm).items = said) (hfit : FitsAll (b.pre sm).items) (hR : (b.pre sm).R) {W0 w : World} {K : Know} {L : List Res} (h : St W0 w K (.raw bl #[.int .i64 b.base, .int .i64 (49 + rows.length), .int .i64 b.leader, .int .i64 sm, .int .i64 at_, .int .i64 b.last, .int .i64 b.first, .int .i64 b.maxt, .int .i64 b.prod, .int .i64 b.epoch, .int .i64 b.seq, .int .i64 n] 3 :: L)) :
  Calls Tryz.prog 82 #[.slice (some ⟨bl, 0, none⟩) 12 12] w fun en w' => en = .returned (.tuple #[.string (bb said), .bool true]) ∧ St W0 w' K (.raw bl #[.int .i64 b.base, .int .i64 (49 + rows.length), .int .i64 b.leader, .int .i64 sm, .int .i64 at_, .int .i64 b.last, .int .i64 b.first, .int .i64 b.maxt, .int .i64 b.prod, .int .i64 b.epoch, .int .i64 b.seq, .int .i64 n] 3 :: L) := by
 subst hrw hat hn hsaid; have e : preBytes (b.pre sm) = (encInts (b.pre sm).items, true) := if_pos hfit; have c := ref10_bytes bl (b.pre sm) hR h; rw [e] at c; exact c

set_option maxHeartbeats 1000000 in
set_option maxRecDepth 100000 in
theorem ref11_attr (base leader : Int) (app txn ctl : Bool) (last first maxt prod epoch sq : Int) (rv : Value) (r : Int) (hr : attrN app txn ctl 3 = r) {W0 w : World} {K : Know} {L : List Res} (h : St W0 w K L) :
  Calls Tryz.prog 83 #[.agg #[.int .i64 base, .int .i64 leader, .bool app, .bool txn, .bool ctl, .int .i64 last, .int .i64 first, .int .i64 maxt, .int .i64 prod, .int .i64 epoch, .int .i64 sq, rv]] w fun en w' => en = .returned (.int .i64 r) ∧ St W0 w' K L := by
 obtain ⟨hb, hhb⟩ : ∃ b, w.heap.size = b := ⟨_, rfl⟩; have h1 := h.allocRaw #[.int .i64 base, .int .i64 leader, .bool app, .bool txn, .bool ctl, .int .i64 last, .int .i64 first, .int .i64 maxt, .int .i64 prod, .int .i64 epoch, .int .i64 sq, rv] 58; rw [hhb] at h1; obtain ⟨x0, x1, x2, x3, x4, x5, x6, x7, x8, x9, x10, x11, y0, y1, y2, y3, y4, y5, y6, y7, y8, y9, y10, y11⟩ := raw12 (b := hb) (h1); have H := Lib.hid h1; subst hr; clear h h1
 cases app <;> cases txn <;> cases ctl
 all_goals
  go_enter Tryz.func83, Tryz.ntmps83; go_wp2; go_ret; exact ⟨by kernel_rfl, H.out.drop⟩

theorem ref05_sumX (s : Bs) (hs : s.length ≤ 1000000) (x : Nat) (hx : (crcMore 0#32 s).toNat = x) {W0 w : World} {K : Know} {L : List Res} (h : St W0 w K L) :
  Calls Tryz.prog 84 #[.string (bb s)] w fun en w' => en = .returned (.int .u32 x) ∧ St W0 w' K L := by
 subst hx; exact ref05_sumW s hs h
set_option maxHeartbeats 4000000 in
set_option maxRecDepth 1000000 in
theorem ref11_encode (b : BatS) (s : Bs) (hs : b.enc = s) (l : List (RecS × Value)) (q : Option Addr) (cap : Nat) (hl : l.map (·.1) = b.recs) (so : SmallOk b) {W0 w : World} {K : Know} {L : List Res} (hk : K.has (Know.recs (.slice q l.length cap) l)) (h : St W0 w K L) :
  Calls Tryz.prog 50 #[.agg #[.int .i64 b.base, .int .i64 b.leader, .bool b.app, .bool b.txn, .bool b.ctl, .int .i64 b.last, .int .i64 b.first, .int .i64 b.maxt, .int .i64 b.prod, .int .i64 b.epoch, .int .i64 b.seq, .slice q l.length cap]] w fun en w' => en = .returned (.string (bb s)) ∧ St W0 w' K L := by
 obtain ⟨hb, hhb⟩ : ∃ b, w.heap.size = b := ⟨_, rfl⟩; have h1 := h.allocRaw #[.int .i64 b.base, .int .i64 b.leader, .bool b.app, .bool b.txn, .bool b.ctl, .int .i64 b.last, .int .i64 b.first, .int .i64 b.maxt, .int .i64 b.prod, .int .i64 b.epoch, .int .i64 b.seq, .slice q l.length cap] 58; rw [hhb] at h1; obtain ⟨x0, x1, x2, x3, x4, x5, x6, x7, x8, x9, x10, x11, y0, y1, y2, y3, y4, y5, y6, y7, y8, y9, y10, y11⟩ := raw12 (b := hb) (h1); have H := Lib.hid h1; have HK := Lib.hid hk; have hrn := so.rows; have hre : encAll l = b.rowsB := by rw [encAll_rows, hl]; rfl
 obtain ⟨rows, hrows⟩ : ∃ r, b.rowsB = r := ⟨_, rfl⟩; have hcr := b.crc_lt; have hln := so.len; obtain ⟨at_, hat⟩ : ∃ a, attrN b.app b.txn b.ctl 3 = a := ⟨_, rfl⟩; obtain ⟨x, hx⟩ : ∃ x, b.crc = x := ⟨_, rfl⟩; obtain ⟨said0, hs0⟩ : ∃ t, encInts (b.pre 0).items = t := ⟨_, rfl⟩; obtain ⟨said1, hs1⟩ : ∃ t, encInts (b.pre x).items = t := ⟨_, rfl⟩; obtain ⟨all0, ha0⟩ : ∃ t, b.back ++ b.rowsB = t := ⟨_, rfl⟩; have hbl : b.back.length = 40 := by unfold BatS.back; rw [encInts_length]; rfl
 obtain ⟨back, hbk⟩ : ∃ t, b.back = t := ⟨_, rfl⟩; have hl0 : said0.length = 61 := by rw [← hs0]; exact items_len _
 have hl1 : said1.length = 61 := by rw [← hs1]; exact items_len _
 have HRW := Lib.hid hrows; have HN := Lib.hid (show b.recs.length = l.length by rw [← hl, List.length_map]); have AT := Lib.hid hat; have HS0 := Lib.hid hs0; have HS1 := Lib.hid hs1; have HF0 := Lib.hid (BatS.fitsAll so.err so.rng 0 (by omega) (by omega) (by omega)); have HR0 := Lib.hid (BatS.pre_R so.err so.rng 0 (by omega) (by omega) (by omega)); have HF1 := Lib.hid (BatS.fitsAll so.err so.rng x (by omega) (by omega) (by omega)); have HR1 := Lib.hid (BatS.pre_R so.err so.rng x (by omega) (by omega) (by omega)); have HX := Lib.hid (show (crcMore 0#32 all0).toNat = x by rw [← ha0, ← hx]; rfl); have HA0 := Lib.hid (show all0.length ≤ 1000000 by rw [← ha0, List.length_append]; omega)
 have hT : List.take (said0.length - 21) (List.drop 21 said0) = back := by
  rw [List.take_of_length_le (by rw [List.length_drop]; omega), ← hs0, b.pre_drop, hbk]
 have hcat0 : bb back ++ bb rows = bb all0 := by rw [← ha0, ← hbk, ← hrows]; exact bb_append _ _
 have hcat1 : bb said1 ++ bb rows = bb s := by
  rw [← hs, ← hs1, ← hrows, ← hx]; exact bb_append _ _
 have hrl : rows.length ≤ 400000 := by rw [← hrows]; exact hrn
 have hg0 : ¬ (9223372036854775807 < back.length + rows.length) := by rw [← hbk]; omega
 have hg1 : ¬ (9223372036854775807 < said1.length + rows.length) := by omega
 have l21 : (21 : Int) ≤ (said0.length : Int) := by omega
 have l21' : 21 ≤ said0.length := by omega
 have hne : ¬ (said0 = []) := by intro hh; rw [hh] at hl0; simp at hl0
 have w1 : IntKind.i64.wrap (49 + (rows.length : Int)) = 49 + (rows.length : Int) := IntWalk.i64_in _ (by omega); have w1' : wrap64 (49 + (rows.length : Int)) = 49 + (rows.length : Int) := by unfold wrap64; omega
 have w2 : IntKind.i64.wrap (x : Int) = (x : Int) := IntWalk.i64_in _ (by omega); have w2' : wrap64 (x : Int) = (x : Int) := by unfold wrap64; omega
 have HRE := Lib.hid (hre.trans hrows)
 have HXS := Lib.hid (show ∀ y ∈ l, y.1.R ∧ y.1.sum ≤ 1000000 from fun y hy => by
  have hm : y.1 ∈ b.recs := hl ▸ List.mem_map_of_mem hy; have := so.recs y.1 hm
  exact ⟨this.1, this.2.2⟩)
 have HLN := Lib.hid (show l.length ≤ 12 by have h9 := congrArg List.length hl; rw [List.length_map] at h9; omega); have HRN := Lib.hid hrl; clear h h1 hk hrn hre hrows hcr hln hat hx hs0 hs1 ha0 hbl hbk hl0 hl1 hl hs so; have HG0 := Lib.hid (And.intro hT (And.intro hcat0 (And.intro hg0 (And.intro l21 (And.intro l21' hne))))); have HG1 := Lib.hid (And.intro hcat1 hg1); have HW := Lib.hid (And.intro w1 (And.intro w1' (And.intro w2 w2'))); clear hT hcat0 hg0 l21 l21' hne hcat1 hg1 w1 w1' w2 w2' hrl; go_enter Tryz.func50, Tryz.ntmps50; go_wp2; go_loopw [3, 4] (fun sv iv wr => ∃ k : Nat, k ≤ l.length ∧ iv = .int .i64 k ∧ sv = .string (bb (encAll (l.take k))) ∧ St W0 wr K (.raw hb #[.int .i64 b.base, .int .i64 b.leader, .bool b.app, .bool b.txn, .bool b.ctl, .int .i64 b.last, .int .i64 b.first, .int .i64 b.maxt, .int .i64 b.prod, .int .i64 b.epoch, .int .i64 b.seq, .slice q l.length cap] 58 :: L)) (fun _ iv _ => l.length - (intOf iv).toNat)
 case atStart => exact ⟨0, Nat.zero_le _, rfl, rfl, H.out⟩
 case round =>
  obtain ⟨k, hkl, rfl, rfl, hst⟩ := hrel; clear H x0 x1 x2 x3 x4 x5 x6 x7 x8 x9 x10 x11 y0 y1 y2 y3 y4 y5 y6 y7 y8 y9 y10 y11; have H := Lib.hid hst; clear hst
  by_cases hlt : k < l.length
  · as_aux_lemma =>
    have het := encAll_take l k hlt
    have hpl : (encAll (l.take k)).length ≤ rows.length := by
     rw [← HRE.out]
     conv => rhs; rw [← List.take_append_drop k l]
     unfold encAll; rw [List.flatMap_append, List.length_append]
     omega
    have hpl2 : (encAll (l.take (k + 1))).length ≤ rows.length := by
     rw [← HRE.out]
     conv => rhs; rw [← List.take_append_drop (k + 1) l]
     unfold encAll; rw [List.flatMap_append, List.length_append]
     omega
    obtain ⟨b0, off, hqq⟩ := recs_at HK.out H.out (by omega); subst hqq; obtain ⟨⟨x, vx⟩, hx⟩ : ∃ x, l[k] = x := ⟨_, rfl⟩; have cc := recs_cell HK.out H.out k hlt (x, vx) hx; have hmem : (x, vx) ∈ l := hx ▸ List.getElem_mem hlt; have XF := HXS.out (x, vx) hmem; have XF1 := Lib.hid XF.1; have XF2 := Lib.hid XF.2; clear XF; have xk : K.has (Know.flat RHdr vx 3 x.hdrs) := recs_hdrs HK.out hmem; obtain ⟨qx, capx, hvx⟩ := flat_form xk H.out; subst hvx; have XK := Lib.hid xk; simp only at cc; obtain ⟨c0, c1, c2, c3, c4, c5, c6⟩ := cc; rw [← Nat.add_assoc] at c1 c2 c3 c4 c5 c6; obtain ⟨sx, hsx⟩ : ∃ t, encR x = t := ⟨_, rfl⟩; have HSX := Lib.hid hsx; rw [hx] at het; simp only [hsx] at het; obtain ⟨pre, hpre⟩ : ∃ t, encAll (l.take k) = t := ⟨_, rfl⟩; obtain ⟨nxt, hnxt⟩ : ∃ t, encAll (l.take (k + 1)) = t := ⟨_, rfl⟩; rw [hpre] at het hpl ⊢; rw [hnxt] at het hpl2; have HNXT := Lib.hid hnxt; have hcat : bb pre ++ bb sx = bb nxt := by rw [het]; exact bb_append _ _
    have hg : ¬ (9223372036854775807 < pre.length + sx.length) := by
     have h1 := HRN.out; have h2 := congrArg List.length het; rw [List.length_append] at h2
     omega
    have hki : (k : Int) < (l.length : Int) := by omega
    have hl12 : (l.length : Int) ≤ 12 := by have := HLN.out; omega
    obtain ⟨x0, x1, x2, x3, x4, x5, x6, x7, x8, x9, x10, x11, y0, y1, y2, y3, y4, y5, y6, y7, y8, y9, y10, y11⟩ := raw12 (b := hb) (H.out); clear xk hmem hx hsx het hpl hpl2 hpre hnxt; go_wp2_with (go_at_call 81; (with_reducible refine (ref07_write x (.slice qx x.hdrs.length capx) sx HSX.out XF1.out XF2.out XK.out H.out).mono ?_); rintro e_ wn ⟨rfl, h⟩; replace H := Lib.hid h; clear h); go_roundw
    case rel => exact ⟨k + 1, hlt, by go_num, by rw [HNXT.out], H.out⟩
    case measure => first | (simp [intOf]; done) | (simp [intOf]; omega)
  · obtain rfl : k = l.length := by omega
    rw [List.take_length, HRE.out]; have w1 := HW.out.1; obtain ⟨x0, x1, x2, x3, x4, x5, x6, x7, x8, x9, x10, x11, y0, y1, y2, y3, y4, y5, y6, y7, y8, y9, y10, y11⟩ := raw12 (b := hb) (H.out); go_upto_region 6 with (fail); clear x0 x1 x2 x3 x4 x5 x6 x7 x8 x9 x10 x11 y0 y1 y2 y3 y4 y5 y6 y7 y8 y9 y10 y11; go_cut [5] (fun s5 wx => s5 = .string (bb said0) ∧ St W0 wx K (.raw hb #[.int .i64 b.base, .int .i64 b.leader, .bool b.app, .bool b.txn, .bool b.ctl, .int .i64 b.last, .int .i64 b.first, .int .i64 b.maxt, .int .i64 b.prod, .int .i64 b.epoch, .int .i64 b.seq, .slice q l.length cap] 58 :: L))
    case first =>
     as_aux_lemma =>
     have hs := H.out.drew; refine wp_region_held_drew (S := fun w' => w'.cell? ⟨hb, 0, none⟩ = some (.int .i64 b.base) ∧ w'.cell? ⟨hb, 1, none⟩ = some (.int .i64 b.leader) ∧ w'.cell? ⟨hb, 2, none⟩ = some (.bool b.app) ∧ w'.cell? ⟨hb, 3, none⟩ = some (.bool b.txn) ∧ w'.cell? ⟨hb, 4, none⟩ = some (.bool b.ctl) ∧ w'.cell? ⟨hb, 5, none⟩ = some (.int .i64 b.last) ∧ w'.cell? ⟨hb, 6, none⟩ = some (.int .i64 b.first) ∧ w'.cell? ⟨hb, 7, none⟩ = some (.int .i64 b.maxt) ∧ w'.cell? ⟨hb, 8, none⟩ = some (.int .i64 b.prod) ∧ w'.cell? ⟨hb, 9, none⟩ = some (.int .i64 b.epoch) ∧ w'.cell? ⟨hb, 10, none⟩ = some (.int .i64 b.seq) ∧ w'.cell? ⟨hb, 11, none⟩ = some (.slice q l.length cap)) (by kernel_rfl) (let ⟨x0, x1, x2, x3, x4, x5, x6, x7, x8, x9, x10, x11, _⟩ := raw12 (b := hb) (hs); ⟨x0, x1, x2, x3, x4, x5, x6, x7, x8, x9, x10, x11⟩) (fun hHeld => ?_); refine tQ 0 ⟨some 26, .fieldAddr 58 (.tmp 1) 0, 0, _, _, none⟩ ?_; simp only [Act.put, sA, sB, sC]; refine tQ 1 ⟨some 27, .load 3 (.tmp 26), 3, _, _, none⟩ ?_; simp only [Act.put, sA, sB, sC]; refine tQ 2 ⟨some 28, .move (.tmp 3), 9, _, _, none⟩ ?_; simp only [Act.put, sA, sB, sC]; refine tQ 3 ⟨some 29, .call { callee := .builtin .len, args := #[.tmp 28], argTypes := #[9] }, 3, _, _, none⟩ ?_; simp only [Act.put, sA, sB, sC]; refine tQ 4 ⟨some 30, .binOp .add 3 (.const (Value.int IntKind.i64 49)) (.tmp 29) 3, 3, _, _, none⟩ ?_; simp only [Act.put, sA, sB, sC]; refine tQ 5 ⟨some 31, .fieldAddr 58 (.tmp 1) 1, 0, _, _, none⟩ ?_; simp only [Act.put, sA, sB, sC]; refine tQ 6 ⟨some 32, .load 3 (.tmp 31), 3, _, _, none⟩ ?_; simp only [Act.put, sA, sB, sC]; refine tQ 7 ⟨some 33, .load 58 (.tmp 1), 58, _, _, none⟩ ?_; simp only [Act.put, sA, sB, sC]; refine tQ 9 ⟨some 35, .fieldAddr 58 (.tmp 1) 5, 0, _, _, none⟩ ?_; simp only [Act.put, sA, sB, sC]; refine tQ 10 ⟨some 36, .load 3 (.tmp 35), 3, _, _, none⟩ ?_; simp only [Act.put, sA, sB, sC]; refine tQ 11 ⟨some 37, .fieldAddr 58 (.tmp 1) 6, 0, _, _, none⟩ ?_; simp only [Act.put, sA, sB, sC]; refine tQ 12 ⟨some 38, .load 3 (.tmp 37), 3, _, _, none⟩ ?_; simp only [Act.put, sA, sB, sC]; refine tQ 13 ⟨some 39, .fieldAddr 58 (.tmp 1) 7, 0, _, _, none⟩ ?_; simp only [Act.put, sA, sB, sC]; refine tQ 14 ⟨some 40, .load 3 (.tmp 39), 3, _, _, none⟩ ?_; simp only [Act.put, sA, sB, sC]; refine tQ 15 ⟨some 41, .fieldAddr 58 (.tmp 1) 8, 0, _, _, none⟩ ?_; simp only [Act.put, sA, sB, sC]; refine tQ 16 ⟨some 42, .load 3 (.tmp 41), 3, _, _, none⟩ ?_; simp only [Act.put, sA, sB, sC]; refine tQ 17 ⟨some 43, .fieldAddr 58 (.tmp 1) 9, 0, _, _, none⟩ ?_; simp only [Act.put, sA, sB, sC]; refine tQ 18 ⟨some 44, .load 3 (.tmp 43), 3, _, _, none⟩ ?_; simp only [Act.put, sA, sB, sC]; refine tQ 19 ⟨some 45, .fieldAddr 58 (.tmp 1) 10, 0, _, _, none⟩ ?_; simp only [Act.put, sA, sB, sC]; refine tQ 20 ⟨some 46, .load 3 (.tmp 45), 3, _, _, none⟩ ?_; simp only [Act.put, sA, sB, sC]; refine tQ 21 ⟨some 47, .fieldAddr 58 (.tmp 1) 11, 0, _, _, none⟩ ?_; simp only [Act.put, sA, sB, sC]; refine tQ 22 ⟨some 48, .load 56 (.tmp 47), 56, _, _, none⟩ ?_; simp only [Act.put, sA, sB, sC]; refine tQ 23 ⟨some 49, .call { callee := .builtin .len, args := #[.tmp 48], argTypes := #[56] }, 3, _, _, none⟩ ?_; simp only [Act.put, sA, sB, sC]; refine wpAnyH_ready (rs := [8]) (by kernel_rfl) (by simp) (AllReadyH.cons (o := ⟨some 34, .call { callee := .value (.func 83), args := #[.tmp 33], argTypes := #[58] }, 3, _, _, none⟩) rfl (fun KK hK => ?_) AllReadyH.nil); go_simp; go_at_call 83; with_reducible refine (ref11_attr b.base b.leader b.app b.txn b.ctl b.last b.first b.maxt b.prod b.epoch b.seq (.slice q l.length cap) at_ AT.out hs).mono ?_; rintro e wq ⟨rfl, hs⟩; refine hK.out _ _ (let ⟨x0, x1, x2, x3, x4, x5, x6, x7, x8, x9, x10, x11, _⟩ := raw12 (b := hb) (hs); ⟨x0, x1, x2, x3, x4, x5, x6, x7, x8, x9, x10, x11⟩) (fun hHeld => ?_); clear hK KK
     try simp only [Act.put, sA, sB, sC]
     refine wpAnyH_ready (rs := [24]) (by kernel_rfl) (by simp) (AllReadyH.cons (o := ⟨some 50, .buildSlice 127 12 #[(0, .tmp 27), (1, .tmp 30), (2, .tmp 32), (3, .const (Value.int IntKind.i64 0)), (4, .tmp 34), (5, .tmp 36), (6, .tmp 38), (7, .tmp 40), (8, .tmp 42), (9, .tmp 44), (10, .tmp 46), (11, .tmp 49)], 127, _, _, none⟩) rfl (fun KK hK => ?_) AllReadyH.nil); rw [if_pos (by rfl)]; refine wp_op_value (v := .slice (some ⟨wq.heap.size, 0, none⟩) 12 12) (w' := wq.alloc (.cells #[.int .i64 b.base, .int .i64 (49 + rows.length), .int .i64 b.leader, .int .i64 0, .int .i64 at_, .int .i64 b.last, .int .i64 b.first, .int .i64 b.maxt, .int .i64 b.prod, .int .i64 b.epoch, .int .i64 b.seq, .int .i64 l.length] 3 (0, 0))) (exec_build #[(0, .int .i64 b.base), (1, .int .i64 (49 + rows.length)), (2, .int .i64 b.leader), (3, .int .i64 0), (4, .int .i64 at_), (5, .int .i64 b.last), (6, .int .i64 b.first), (7, .int .i64 b.maxt), (8, .int .i64 b.prod), (9, .int .i64 b.epoch), (10, .int .i64 b.seq), (11, .int .i64 l.length)] _ _ _ (by kernel_rfl) (build12 ( b.base) ( (49 + rows.length)) ( b.leader) ( 0) ( at_) ( b.last) ( b.first) ( b.maxt) ( b.prod) ( b.epoch) ( b.seq) ( l.length) wq)) ?_; obtain ⟨wy, bS, ey, eb, hs⟩ := hs.allocEx #[.int .i64 b.base, .int .i64 (49 + rows.length), .int .i64 b.leader, .int .i64 0, .int .i64 at_, .int .i64 b.last, .int .i64 b.first, .int .i64 b.maxt, .int .i64 b.prod, .int .i64 b.epoch, .int .i64 b.seq, .int .i64 l.length] 3; rw [ey, eb]; clear ey eb; refine hK.out _ _ (let ⟨x0, x1, x2, x3, x4, x5, x6, x7, x8, x9, x10, x11, _⟩ := raw12 (b := hb) (hs.p1); ⟨x0, x1, x2, x3, x4, x5, x6, x7, x8, x9, x10, x11⟩) (fun hHeld => ?_); clear hK KK
     try simp only [Act.put, sA, sB, sC]
     refine wpAnyH_ready (rs := [25]) (by kernel_rfl) (by simp) (AllReadyH.cons (o := ⟨some 51, .call { callee := .value (.func 82), args := #[.tmp 50], argTypes := #[127] }, 142, _, _, none⟩) rfl (fun KK hK => ?_) AllReadyH.nil); go_simp; go_at_call 82; with_reducible refine (ref10_pre bS b 0 rows HRW.out at_ AT.out l.length HN.out said0 HS0.out HF0.out HR0.out hs).mono ?_; rintro e wq ⟨rfl, hs⟩; refine hK.out _ _ (let ⟨x0, x1, x2, x3, x4, x5, x6, x7, x8, x9, x10, x11, _⟩ := raw12 (b := hb) (hs.p1); ⟨x0, x1, x2, x3, x4, x5, x6, x7, x8, x9, x10, x11⟩) (fun hHeld => ?_); clear hK KK
     try simp only [Act.put, sA, sB, sC]
     have hs := hs.drop; refine tQ 26 ⟨some 25, .move (.tmp 51), 142, _, _, none⟩ ?_; simp only [Act.put, sA, sB, sC]; refine tQ 27 ⟨some 52, .extract (.tmp 25) 0, 9, _, _, none⟩ ?_; simp only [Act.put, sA, sB, sC]; refine tQ 28 ⟨some 53, .extract (.tmp 25) 1, 4, _, _, none⟩ ?_; simp only [Act.put, sA, sB, sC]; refine tQ 29 ⟨some 5, .assign (.tmp 52), 9, _, _, none⟩ ?_; simp only [Act.put, sA, sB, sC]; refine tQ 30 ⟨some 6, .assign (.tmp 53), 4, _, _, none⟩ ?_; simp only [Act.put, sA, sB, sC]; refine wpAnyH_done (by kernel_rfl) ?_ _; clear hHeld; go_wp2_with fail; go_meet; exact ⟨rfl, hs⟩
    case rest =>
     obtain ⟨rfl, h⟩ := hcut; clear H; have H := Lib.hid h; clear h; obtain ⟨hT, hcat0, hg0, l21, l21', hne⟩ := HG0.out; have w2 := HW.out.2.2.1; go_upto_region 8 with (go_at_call 84; (with_reducible refine (ref05_sumX all0 HA0.out x HX.out H.out).mono ?_); rintro e_ wn ⟨rfl, h⟩; replace H := Lib.hid h; clear h); clear w2 hT hcat0 hg0 l21 l21' hne; go_cut [8] (fun s8 wx => s8 = .string (bb said1) ∧ St W0 wx K (.raw hb #[.int .i64 b.base, .int .i64 b.leader, .bool b.app, .bool b.txn, .bool b.ctl, .int .i64 b.last, .int .i64 b.first, .int .i64 b.maxt, .int .i64 b.prod, .int .i64 b.epoch, .int .i64 b.seq, .slice q l.length cap] 58 :: L))
     case first =>
      have hs := H.out.drew; refine wp_region_held_drew (S := fun w' => w'.cell? ⟨hb, 0, none⟩ = some (.int .i64 b.base) ∧ w'.cell? ⟨hb, 1, none⟩ = some (.int .i64 b.leader) ∧ w'.cell? ⟨hb, 2, none⟩ = some (.bool b.app) ∧ w'.cell? ⟨hb, 3, none⟩ = some (.bool b.txn) ∧ w'.cell? ⟨hb, 4, none⟩ = some (.bool b.ctl) ∧ w'.cell? ⟨hb, 5, none⟩ = some (.int .i64 b.last) ∧ w'.cell? ⟨hb, 6, none⟩ = some (.int .i64 b.first) ∧ w'.cell? ⟨hb, 7, none⟩ = some (.int .i64 b.maxt) ∧ w'.cell? ⟨hb, 8, none⟩ = some (.int .i64 b.prod) ∧ w'.cell? ⟨hb, 9, none⟩ = some (.int .i64 b.epoch) ∧ w'.cell? ⟨hb, 10, none⟩ = some (.int .i64 b.seq) ∧ w'.cell? ⟨hb, 11, none⟩ = some (.slice q l.length cap)) (by kernel_rfl) (let ⟨x0, x1, x2, x3, x4, x5, x6, x7, x8, x9, x10, x11, _⟩ := raw12 (b := hb) (hs); ⟨x0, x1, x2, x3, x4, x5, x6, x7, x8, x9, x10, x11⟩) (fun hHeld => ?_); refine tQ 0 ⟨some 61, .fieldAddr 58 (.tmp 1) 0, 0, _, _, none⟩ ?_; simp only [Act.put, sA, sB, sC]; refine tQ 1 ⟨some 62, .load 3 (.tmp 61), 3, _, _, none⟩ ?_; simp only [Act.put, sA, sB, sC]; refine tQ 2 ⟨some 63, .move (.tmp 3), 9, _, _, none⟩ ?_; simp only [Act.put, sA, sB, sC]; refine tQ 3 ⟨some 64, .call { callee := .builtin .len, args := #[.tmp 63], argTypes := #[9] }, 3, _, _, none⟩ ?_; simp only [Act.put, sA, sB, sC]; refine tQ 4 ⟨some 65, .binOp .add 3 (.const (Value.int IntKind.i64 49)) (.tmp 64) 3, 3, _, _, none⟩ ?_; simp only [Act.put, sA, sB, sC]; refine tQ 5 ⟨some 66, .fieldAddr 58 (.tmp 1) 1, 0, _, _, none⟩ ?_; simp only [Act.put, sA, sB, sC]; refine tQ 6 ⟨some 67, .load 3 (.tmp 66), 3, _, _, none⟩ ?_; simp only [Act.put, sA, sB, sC]; refine tQ 7 ⟨some 68, .move (.tmp 7), 3, _, _, none⟩ ?_; simp only [Act.put, sA, sB, sC]; refine tQ 8 ⟨some 69, .load 58 (.tmp 1), 58, _, _, none⟩ ?_; simp only [Act.put, sA, sB, sC]; refine tQ 10 ⟨some 71, .fieldAddr 58 (.tmp 1) 5, 0, _, _, none⟩ ?_; simp only [Act.put, sA, sB, sC]; refine tQ 11 ⟨some 72, .load 3 (.tmp 71), 3, _, _, none⟩ ?_; simp only [Act.put, sA, sB, sC]; refine tQ 12 ⟨some 73, .fieldAddr 58 (.tmp 1) 6, 0, _, _, none⟩ ?_; simp only [Act.put, sA, sB, sC]; refine tQ 13 ⟨some 74, .load 3 (.tmp 73), 3, _, _, none⟩ ?_; simp only [Act.put, sA, sB, sC]; refine tQ 14 ⟨some 75, .fieldAddr 58 (.tmp 1) 7, 0, _, _, none⟩ ?_; simp only [Act.put, sA, sB, sC]; refine tQ 15 ⟨some 76, .load 3 (.tmp 75), 3, _, _, none⟩ ?_; simp only [Act.put, sA, sB, sC]; refine tQ 16 ⟨some 77, .fieldAddr 58 (.tmp 1) 8, 0, _, _, none⟩ ?_; simp only [Act.put, sA, sB, sC]; refine tQ 17 ⟨some 78, .load 3 (.tmp 77), 3, _, _, none⟩ ?_; simp only [Act.put, sA, sB, sC]; refine tQ 18 ⟨some 79, .fieldAddr 58 (.tmp 1) 9, 0, _, _, none⟩ ?_; simp only [Act.put, sA, sB, sC]; refine tQ 19 ⟨some 80, .load 3 (.tmp 79), 3, _, _, none⟩ ?_; simp only [Act.put, sA, sB, sC]; refine tQ 20 ⟨some 81, .fieldAddr 58 (.tmp 1) 10, 0, _, _, none⟩ ?_; simp only [Act.put, sA, sB, sC]; refine tQ 21 ⟨some 82, .load 3 (.tmp 81), 3, _, _, none⟩ ?_; simp only [Act.put, sA, sB, sC]; refine tQ 22 ⟨some 83, .fieldAddr 58 (.tmp 1) 11, 0, _, _, none⟩ ?_; simp only [Act.put, sA, sB, sC]; refine tQ 23 ⟨some 84, .load 56 (.tmp 83), 56, _, _, none⟩ ?_; simp only [Act.put, sA, sB, sC]; refine tQ 24 ⟨some 85, .call { callee := .builtin .len, args := #[.tmp 84], argTypes := #[56] }, 3, _, _, none⟩ ?_; simp only [Act.put, sA, sB, sC]; refine wpAnyH_ready (rs := [9]) (by kernel_rfl) (by simp) (AllReadyH.cons (o := ⟨some 70, .call { callee := .value (.func 83), args := #[.tmp 69], argTypes := #[58] }, 3, _, _, none⟩) rfl (fun KK hK => ?_) AllReadyH.nil); go_simp; go_at_call 83; with_reducible refine (ref11_attr b.base b.leader b.app b.txn b.ctl b.last b.first b.maxt b.prod b.epoch b.seq (.slice q l.length cap) at_ AT.out hs).mono ?_; rintro e wq ⟨rfl, hs⟩; refine hK.out _ _ (let ⟨x0, x1, x2, x3, x4, x5, x6, x7, x8, x9, x10, x11, _⟩ := raw12 (b := hb) (hs); ⟨x0, x1, x2, x3, x4, x5, x6, x7, x8, x9, x10, x11⟩) (fun hHeld => ?_); clear hK KK
      try simp only [Act.put, sA, sB, sC]
      refine wpAnyH_ready (rs := [25]) (by kernel_rfl) (by simp) (AllReadyH.cons (o := ⟨some 86, .buildSlice 127 12 #[(0, .tmp 62), (1, .tmp 65), (2, .tmp 67), (3, .tmp 68), (4, .tmp 70), (5, .tmp 72), (6, .tmp 74), (7, .tmp 76), (8, .tmp 78), (9, .tmp 80), (10, .tmp 82), (11, .tmp 85)], 127, _, _, none⟩) rfl (fun KK hK => ?_) AllReadyH.nil); rw [if_pos (by rfl)]; refine wp_op_value (v := .slice (some ⟨wq.heap.size, 0, none⟩) 12 12) (w' := wq.alloc (.cells #[.int .i64 b.base, .int .i64 (49 + rows.length), .int .i64 b.leader, .int .i64 (x : Int), .int .i64 at_, .int .i64 b.last, .int .i64 b.first, .int .i64 b.maxt, .int .i64 b.prod, .int .i64 b.epoch, .int .i64 b.seq, .int .i64 l.length] 3 (0, 0))) (exec_build #[(0, .int .i64 b.base), (1, .int .i64 (49 + rows.length)), (2, .int .i64 b.leader), (3, .int .i64 (x : Int)), (4, .int .i64 at_), (5, .int .i64 b.last), (6, .int .i64 b.first), (7, .int .i64 b.maxt), (8, .int .i64 b.prod), (9, .int .i64 b.epoch), (10, .int .i64 b.seq), (11, .int .i64 l.length)] _ _ _ (by kernel_rfl) (build12 ( b.base) ( (49 + rows.length)) ( b.leader) ( (x : Int)) ( at_) ( b.last) ( b.first) ( b.maxt) ( b.prod) ( b.epoch) ( b.seq) ( l.length) wq)) ?_; obtain ⟨wy, bS, ey, eb, hs⟩ := hs.allocEx #[.int .i64 b.base, .int .i64 (49 + rows.length), .int .i64 b.leader, .int .i64 (x : Int), .int .i64 at_, .int .i64 b.last, .int .i64 b.first, .int .i64 b.maxt, .int .i64 b.prod, .int .i64 b.epoch, .int .i64 b.seq, .int .i64 l.length] 3; rw [ey, eb]; clear ey eb; refine hK.out _ _ (let ⟨x0, x1, x2, x3, x4, x5, x6, x7, x8, x9, x10, x11, _⟩ := raw12 (b := hb) (hs.p1); ⟨x0, x1, x2, x3, x4, x5, x6, x7, x8, x9, x10, x11⟩) (fun hHeld => ?_); clear hK KK
      try simp only [Act.put, sA, sB, sC]
      refine wpAnyH_ready (rs := [26]) (by kernel_rfl) (by simp) (AllReadyH.cons (o := ⟨some 87, .call { callee := .value (.func 82), args := #[.tmp 86], argTypes := #[127] }, 142, _, _, none⟩) rfl (fun KK hK => ?_) AllReadyH.nil); go_simp; go_at_call 82; with_reducible refine (ref10_pre bS b (x : Int) rows HRW.out at_ AT.out l.length HN.out said1 HS1.out HF1.out HR1.out hs).mono ?_; rintro e wq ⟨rfl, hs⟩; refine hK.out _ _ (let ⟨x0, x1, x2, x3, x4, x5, x6, x7, x8, x9, x10, x11, _⟩ := raw12 (b := hb) (hs.p1); ⟨x0, x1, x2, x3, x4, x5, x6, x7, x8, x9, x10, x11⟩) (fun hHeld => ?_); clear hK KK
      try simp only [Act.put, sA, sB, sC]
      have hs := hs.drop; refine tQ 27 ⟨some 60, .move (.tmp 87), 142, _, _, none⟩ ?_; simp only [Act.put, sA, sB, sC]; refine tQ 28 ⟨some 88, .extract (.tmp 60) 0, 9, _, _, none⟩ ?_; simp only [Act.put, sA, sB, sC]; refine tQ 29 ⟨some 89, .extract (.tmp 60) 1, 4, _, _, none⟩ ?_; simp only [Act.put, sA, sB, sC]; refine tQ 30 ⟨some 8, .assign (.tmp 88), 9, _, _, none⟩ ?_; simp only [Act.put, sA, sB, sC]; refine tQ 31 ⟨some 9, .assign (.tmp 89), 4, _, _, none⟩ ?_; simp only [Act.put, sA, sB, sC]; refine wpAnyH_done (by kernel_rfl) ?_ _; clear hHeld; go_wp2_with fail; go_meet; exact ⟨rfl, hs⟩
     case rest =>
      obtain ⟨rfl, h⟩ := hcut; clear H; have H := Lib.hid h; clear h; obtain ⟨hcat1, hg1⟩ := HG1.out; go_wp2_with (fail); go_ret; exact ⟨rfl, H.out.drop⟩
theorem gmap_take_succ {α β : Type} (f : α → β) (l : List α) (k : Nat) (h : k < l.length) (x : β) (hx : f l[k] = x) : (l.map f).take (k + 1) = (l.map f).take k ++ [x] := by
 have h2 : k < (l.map f).length := by simpa using h
 rw [List.take_succ_eq_append_getElem h2, List.getElem_map, hx]
theorem gmap_ne_of_get {α β : Type} (f : α → β) (l m : List α) (k : Nat) (h1 : k < l.length) (h2 : k < m.length) (x y : β) (hx : f l[k] = x) (hy : f m[k] = y) (h : x ≠ y) : l.map f ≠ m.map f := by
 intro he
 apply h
 have e1 : (l.map f)[k]? = some x := by rw [List.getElem?_map, List.getElem?_eq_getElem h1]; simp [hx]
 have e2 : (m.map f)[k]? = some y := by rw [List.getElem?_map, List.getElem?_eq_getElem h2]; simp [hy]
 rw [he, e2] at e1
 simpa using e1.symm
theorem gmap_len_ne {α β : Type} (f : α → β) (l m : List α) (h : l.length ≠ m.length) : l.map f ≠ m.map f := fun hh => h (by have := congrArg List.length hh; simpa using this)
structure EqR (x : BatR) : Prop where
  len : x.l.length ≤ 1000000
  recs : x.l.map (·.1) = x.b.recs
  hdrs : ∀ y ∈ x.l, y.1.hdrs.length ≤ 9223372036854775807
def SmP (y : PartR) : Prop := ∀ z ∈ y.l, smallB (z.l.map (·.1)) = true
def SmT (x : PTop) : Prop := ∀ y ∈ x.l, SmP y
def sizeP : List PartR → Nat
  | [] => 0
  | y :: t => 10 + 100 * y.l.length + sizeP t
def sizeT : List PTop → Nat
  | [] => 0
  | x :: t => x.name.length + 10 + sizeP x.l + sizeT t
theorem sizeP_append (l m : List PartR) : sizeP (l ++ m) = sizeP l + sizeP m := by
 induction l with
 | nil => simp [sizeP]
 | cons x t ih => simp only [List.cons_append, sizeP, ih]; omega
theorem sizeT_append (l m : List PTop) : sizeT (l ++ m) = sizeT l + sizeT m := by
 induction l with
 | nil => simp [sizeT]
 | cons x t ih => simp only [List.cons_append, sizeT, ih]; omega
def AllP (l : List PTop) : Prop := ∀ x ∈ l, x.l.length ≠ 0
def FewI20 (dl : Nat) (l : List PTop) (k : Nat) (z : Int) : Prop :=
  (∀ x ∈ l.take k, SmT x) ∧ (∀ j, j ≤ k → AllP (l.take j) → j = 0 ∨ dl + sizeT (l.take j) ≤ 2000) ∧ (AllP (l.take k) → z = dl + sizeT (l.take k))
def FewJ (dl : Nat) (l : List PTop) (k : Nat) (x : PTop) (j : Nat) (z : Int) : Prop :=
  (∀ y ∈ x.l.take j, SmP y) ∧ (AllP (l.take k) → z = dl + sizeT (l.take k) + x.name.length + 10 + sizeP (x.l.take j) ∧ (j = 0 ∨ z ≤ 2000))
def FewR (dl : Nat) (l : List PTop) (r : Int) : Prop :=
  r = 0 ∨ (r = 1 ∧ (∀ x ∈ l, SmT x) ∧ (∀ j, j ≤ l.length → AllP (l.take j) → j = 0 ∨ dl + sizeT (l.take j) ≤ 2000) ∧ (l = [] → dl ≤ 2000))
theorem FewI20.zero (dl : Nat) (l : List PTop) : FewI20 dl l 0 dl := by
 refine ⟨fun x hx => by simp at hx, fun j hj _ => .inl (by omega), fun _ => by simp [sizeT]⟩
theorem FewI20.bound {dl : Nat} {l : List PTop} {k : Nat} {z : Int} (h : FewI20 dl l k z) (hd : dl ≤ 140737488351232) (ha : AllP (l.take k)) : 0 ≤ z ∧ z ≤ 140737488351232 := by
 have e := h.2.2 ha
 rcases h.2.1 k (Nat.le_refl _) ha with h0 | h0
 · subst h0; simp [sizeT] at e
   omega
 · omega
theorem FewJ.zero {dl : Nat} {l : List PTop} {k : Nat} {z z2 : Int} (x : PTop) (h : FewI20 dl l k z) (hd : dl ≤ 140737488351232) (hn : x.name.length ≤ 140737488351232) (hw : -9223372036854775808 ≤ z + ((x.name.length : Int) + 10) → z + ((x.name.length : Int) + 10) < 9223372036854775808 → z2 = z + ((x.name.length : Int) + 10)) : FewJ dl l k x 0 z2 := by
 refine ⟨fun y hy => by simp at hy, fun ha => ?_⟩; obtain ⟨b1, b2⟩ := h.bound hd ha; have e := h.2.2 ha; have e2 := hw (by omega) (by omega); refine ⟨?_, .inl rfl⟩; simp [sizeP]
 omega
theorem FewJ.step {dl : Nat} {l : List PTop} {k : Nat} {z0 z z2 : Int} {x : PTop} {j : Nat} (y : PartR) (hI : FewI20 dl l k z0) (h : FewJ dl l k x j z) (hj : j < x.l.length) (hy : x.l[j] = y) (hd : dl ≤ 140737488351232) (hn : x.name.length ≤ 140737488351232) (hb : y.l.length ≤ 1466015503701) (hs : SmP y) (hw : -9223372036854775808 ≤ z + (10 + 100 * (y.l.length : Int)) → z + (10 + 100 * (y.l.length : Int)) < 9223372036854775808 → z2 = z + (10 + 100 * (y.l.length : Int))) (h2 : z2 ≤ 2000) : FewJ dl l k x (j + 1) z2 := by
 have et : x.l.take (j + 1) = x.l.take j ++ [y] := by rw [List.take_succ_eq_append_getElem hj, hy]
 refine ⟨fun v hv => ?_, fun ha => ?_⟩
 · rw [et] at hv
   rcases List.mem_append.1 hv with hv | hv
   · exact h.1 v hv
   · rw [List.mem_singleton.1 hv]; exact hs
 · obtain ⟨e1, e2⟩ := h.2 ha; obtain ⟨b1, b2⟩ := hI.bound hd ha; have e3 := hI.2.2 ha
   have hz : 0 ≤ z ∧ z ≤ 300000000000000 := by
    rcases e2 with h0 | h0
    · subst h0; simp [sizeP] at e1
      omega
    · omega
   have e4 := hw (by omega) (by omega); refine ⟨?_, .inr h2⟩; rw [et, sizeP_append]; simp only [sizeP]
   omega
theorem FewI20.step {dl : Nat} {l : List PTop} {k : Nat} {z0 z : Int} (x : PTop) (hI : FewI20 dl l k z0) (h : FewJ dl l k x x.l.length z) (hk : k < l.length) (hx : l[k] = x) : FewI20 dl l (k + 1) z := by
 have et : l.take (k + 1) = l.take k ++ [x] := by rw [List.take_succ_eq_append_getElem hk, hx]
 have hs := h.1; rw [List.take_length] at hs
 have hall : AllP (l.take (k + 1)) → z = dl + sizeT (l.take (k + 1)) ∧ z ≤ 2000 := by
   intro ha; rw [et] at ha; have ha1 : AllP (l.take k) := fun v hv => ha v (List.mem_append_left _ hv)
   have ha2 : x.l.length ≠ 0 := ha x (List.mem_append_right _ (List.mem_singleton.2 rfl)); obtain ⟨e1, e2⟩ := h.2 ha1; rw [List.take_length] at e1; refine ⟨?_, by rcases e2 with h0 | h0; exact absurd h0 ha2; exact h0⟩; rw [et, sizeT_append]; simp only [sizeT]
   omega
 refine ⟨fun v hv => ?_, fun j hj ha => ?_, fun ha => (hall ha).1⟩
 · rw [et] at hv
   rcases List.mem_append.1 hv with hv | hv
   · exact hI.1 v hv
   · rw [List.mem_singleton.1 hv]; exact hs
 · by_cases hjk : j ≤ k
   · exact hI.2.1 j hjk ha
   · obtain rfl : j = k + 1 := by omega
     obtain ⟨e1, e2⟩ := hall ha
     right; omega
theorem FewI20.done {dl : Nat} {l : List PTop} {z : Int} (h : FewI20 dl l l.length z) (hz : ¬ 2000 < z) : FewR dl l 1 := by
 refine .inr ⟨rfl, by have := h.1; rwa [List.take_length] at this, h.2.1, fun h0 => ?_⟩; subst h0; have e := h.2.2 (by intro x hx; simp at hx); simp [sizeT] at e
 omega
structure FewPt (y : PartR) : Prop where
  len : y.l.length ≤ 1466015503701
  fit : ∀ z ∈ y.l, z.Fit
structure FewT20 (x : PTop) : Prop where
  name : x.name.length ≤ 140737488351232
  len : x.l.length ≤ 4398046511104
  parts : ∀ y ∈ x.l, FewPt y
theorem EqR.of {z : BatR} (hf : z.Fit) (hs : smallB (z.l.map (·.1)) = true) (hh : ∀ y ∈ z.l, y.1.hdrs.length ≤ 9223372036854775807) : EqR z := ⟨by have := smallB_len hs; omega, hf.2.2, hh⟩
def PTop.ts (x : PTop) : TopS := ⟨x.name, x.l.map PartR.idx⟩
theorem row_rows {α : Type} {R : List Value → α → Prop} {sz : Nat} (l : List α) (f : α → List Value) (hf : ∀ x ∈ l, (f x).length = sz ∧ R (f x) x) {w : World} {v : Value} {T : TypeId} {n : Nat} {xs : List Value} (hn : n = l.length) (hx : xs = l.flatMap f) (S1 : Nat → Prop) (h1 : (Res.row v T sz n xs).holds w S1) : (Know.flat R v sz l).p w S1 := by
 subst hn; subst hx; obtain ⟨⟨g1, g2⟩, g3⟩ := h1
 rcases g2 with ⟨rfl, h0⟩ | ⟨g, cap, cur, rfl, _, hg, hn, hcm, hcs, htake⟩
 · exact ⟨none, 0, by rw [h0], fun hh => absurd hh (by omega)⟩
 · have hS : S1 g := (g3 g).2 rfl; have hlt := heap_lt hg; refine ⟨_, cap, rfl, fun _ => ⟨g, 0, rfl, hS, hlt, fun i hi => ?_⟩⟩; obtain ⟨h2, h3⟩ := hf l[i] (List.getElem_mem hi); refine ⟨f l[i], h2, h3, fun q u hu => ?_⟩; rw [cell_at hg, Nat.zero_add]; have hq : q < sz := by rw [← h2]; exact (List.getElem?_eq_some_iff.1 hu).1
   exact zq26
theorem getD_app_l {α : Type} (l m : List α) (d : α) (k : Nat) (h : k < l.length) : (l ++ m).getD k d = l.getD k d := by
 rw [List.getD_eq_getElem?_getD, List.getD_eq_getElem?_getD, List.getElem?_append_left h]
theorem getD_app_r {α : Type} (l : List α) (x d : α) (k : Nat) (h : k = l.length) : (l ++ [x]).getD k d = x := by
 subst h; rw [List.getD_eq_getElem?_getD, List.getElem?_append_right (Nat.le_refl _), Nat.sub_self]
 rfl
theorem snoc_ind {α : Type} {P : List α → Prop} (h0 : P []) (h1 : ∀ t x, P t → P (t ++ [x])) : ∀ l, P l := by
 intro l; rw [← List.reverse_reverse l]
 induction l.reverse with
 | nil => exact h0
 | cons x t ih => rw [List.reverse_cons]; exact h1 _ _ ih
def icells (n : Int) : List Value := [.int .i64 n]
theorem elem_atop : ElemT Tryz.prog 129 (.agg #[.string ⟨#[]⟩, .slice none 0 0]) 2 40 := elemT_of (by kernel_rfl) rfl (by decide)
theorem elem_aint : ElemT Tryz.prog 3 (.int .i64 0) 1 8 := elemT_of (by kernel_rfl) rfl (by decide)
theorem St.freezeInts {W0 w : World} {K : Know} {L : List Res} {v : Value} {T : TypeId} {k : Nat} {l : List Int} {xs : List Value} (h : St W0 w K (.row v T 1 k xs :: L)) (hk : k = l.length) (hx : xs = l.flatMap icells) : St W0 w (K.and (Know.flat RI v 1 l)) L := by
 subst hk; subst hx; exact h.freezeRow (R := RI) (fun x _ => ⟨rfl, rfl⟩)
theorem allN_succ {n : Nat} {p : Nat → Bool} : allN (n + 1) p = (allN n p && p n) := by
 unfold allN; rw [List.range_succ, List.all_append]
 simp
theorem tRise_snoc (l : List TopS) (x : TopS) : tRise (l ++ [x]) = (tRise l && (tOk x && (l.isEmpty || Op.bytesLess ((l.map (·.name)).getD (l.length - 1) []) x.name))) := by
 unfold tRise riseS; rw [List.all_append, List.map_append, List.length_append, List.length_map, List.length_map]
 show ((l.all tOk && [x].all tOk) && allN (l.length + 1) (upS (l.map (·.name) ++ [x.name]))) = _
 rw [allN_succ]
 have e1 : allN l.length (upS (l.map (·.name) ++ [x.name])) = allN l.length (upS (l.map (·.name))) := by
  apply allN_ext
  intro k hk; unfold upS; rw [getD_app_l _ _ _ _ (by rw [List.length_map]; omega), getD_app_l _ _ _ _ (by rw [List.length_map]; omega)]
 have e2 : upS (l.map (·.name) ++ [x.name]) l.length = (l.isEmpty || Op.bytesLess ((l.map (·.name)).getD (l.length - 1) []) x.name) := by
  unfold upS; rw [show (l.map (·.name) ++ [x.name]).getD l.length [] = x.name from getD_app_r _ _ _ _ (by rw [List.length_map])]
  cases l with
  | nil => rfl
  | cons y t =>
   rw [getD_app_l _ _ _ _ (by rw [List.length_map]; simp)]
   rfl
 rw [e1, e2]; simp only [List.all_cons, List.all_nil, Bool.and_true]
 cases l.all tOk <;> cases allN l.length (upS (l.map (·.name))) <;> cases tOk x <;> simp
theorem riseP_snoc (l : List PartR) : ∀ (a : Int) (x : PartR), riseP a (l ++ [x]) = (riseP a l && (decide (((l.map PartR.idx).getLast?.getD a) < x.idx) && decide (x.idx ≤ 2147483647))) := by
 induction l with
 | nil => intro a x; simp [riseP]
 | cons y t ih =>
  intro a x
  show (decide (a < y.idx) && decide (y.idx ≤ 2147483647) && riseP y.idx (t ++ [x])) = _
  rw [ih]
  show _ = ((decide (a < y.idx) && decide (y.idx ≤ 2147483647) && riseP y.idx t) && _)
  have e : (List.map PartR.idx (y :: t)).getLast?.getD a = (List.map PartR.idx t).getLast?.getD y.idx := by
   cases t with
   | nil => rfl
   | cons z u => simp [List.getLast?_cons]
  rw [e]; simp only [Bool.and_assoc]
theorem riseP_last (l : List PartR) : ∀ (a : Int), riseP a l = true → a ≤ (l.map PartR.idx).getLast?.getD a := by
 induction l with
 | nil => intro a _; exact Int.le_refl _
 | cons y t ih =>
  intro a h; have h : (decide (a < y.idx) && decide (y.idx ≤ 2147483647) && riseP y.idx t) = true := h; simp only [Bool.and_eq_true, decide_eq_true_eq] at h; have h2 := ih y.idx h.2
  have e : (List.map PartR.idx (y :: t)).getLast?.getD a = (List.map PartR.idx t).getLast?.getD y.idx := by
   cases t with
   | nil => rfl
   | cons z u => simp [List.getLast?_cons]
  rw [e]
  omega
theorem getD_last (l : List Int) (h : l ≠ []) (a : Int) : l.getD (l.length - 1) 0 = l.getLast?.getD a := by
 rw [List.getLast?_eq_getElem?, List.getD_eq_getElem?_getD]; have : l.length - 1 < l.length := by have := List.length_pos_iff.2 h; omega
 rw [List.getElem?_eq_getElem this]
 rfl
def pRise2 (l : List Int) : Bool := allN l.length (fun k => decide (0 ≤ l.getD k 0 ∧ l.getD k 0 ≤ 2147483647) && upI l k)
theorem pRise2_snoc (l : List Int) (x : Int) : pRise2 (l ++ [x]) = (pRise2 l && (decide (0 ≤ x ∧ x ≤ 2147483647) && (l.isEmpty || decide (l.getD (l.length - 1) 0 < x)))) := by
 unfold pRise2; rw [List.length_append]
 show allN (l.length + 1) _ = _
 rw [allN_succ]
 have e1 : allN l.length (fun k => decide (0 ≤ (l ++ [x]).getD k 0 ∧ (l ++ [x]).getD k 0 ≤ 2147483647) && upI (l ++ [x]) k) = allN l.length (fun k => decide (0 ≤ l.getD k 0 ∧ l.getD k 0 ≤ 2147483647) && upI l k) := by
  apply allN_ext
  intro k hk; unfold upI; rw [getD_app_l _ _ _ _ hk, getD_app_l _ _ _ _ (by omega)]
 have e2 : (l ++ [x]).getD l.length 0 = x := getD_app_r _ _ _ _ rfl
 have e3 : upI (l ++ [x]) l.length = (l.isEmpty || decide (l.getD (l.length - 1) 0 < x)) := by
  unfold upI; rw [e2]
  cases l with
  | nil => rfl
  | cons y t =>
   rw [getD_app_l _ _ _ _ (by simp)]
   rfl
 rw [e1, e3]; simp only [e2]
theorem riseP_pRise2 (l : List PartR) : riseP (-1) l = pRise2 (l.map PartR.idx) := by
 refine snoc_ind (P := fun l => riseP (-1) l = pRise2 (l.map PartR.idx)) rfl (fun t x ih => ?_) l; rw [riseP_snoc, List.map_append]
 show _ = pRise2 (t.map PartR.idx ++ [x.idx])
 rw [pRise2_snoc, ← ih]
 cases hr : riseP (-1) t with
 | false => rfl
 | true =>
  have hl := riseP_last t (-1) hr; simp only [Bool.true_and]
  by_cases h0 : t = []
  · subst h0; simp only [List.map_nil, List.isEmpty_nil, Bool.true_or, Bool.and_true]
    show (decide ((-1 : Int) < x.idx) && decide (x.idx ≤ 2147483647)) = decide (0 ≤ x.idx ∧ x.idx ≤ 2147483647)
    rw [Bool.eq_iff_iff]; simp only [Bool.and_eq_true, decide_eq_true_eq]
    omega
  · have hm : t.map PartR.idx ≠ [] := by simpa using h0
    have hmE : (t.map PartR.idx).isEmpty = false := by cases t with
     | nil => exact absurd rfl h0
     | cons y u => rfl
    rw [hmE, Bool.false_or, getD_last _ hm (-1)]; rw [Bool.eq_iff_iff]; simp only [Bool.and_eq_true, decide_eq_true_eq]
    omega
theorem tOk_ts (x : PTop) (h : x.l.length ≠ 0) : tOk x.ts = (keyRight x.name && riseP (-1) x.l) := by
 rw [riseP_pRise2]; unfold tOk keyRight PTop.ts; simp only
 have e : pRise (x.l.map PartR.idx) = pRise2 (x.l.map PartR.idx) := by
  unfold pRise pRise2
  have : (x.l.map PartR.idx).isEmpty = false := by
   cases hx : x.l with
   | nil => rw [hx] at h; exact absurd rfl h
   | cons y t => rfl
  rw [this]
  rfl
 rw [e]
def aheadN (l : List TopS) : Bs := (l.map (·.name)).getD (l.length - 1) []
theorem bytesLess_nil (s : Bs) : Op.bytesLess [] s = !s.isEmpty := by cases s <;> rfl
theorem tRise_ts (l : List TopS) (x : PTop) (h : x.l.length ≠ 0) (hl : tRise l = true) : tRise (l ++ [x.ts]) = (keyRight x.name && Op.bytesLess (aheadN l) x.name && riseP (-1) x.l) := by
 rw [tRise_snoc, hl, Bool.true_and, tOk_ts x h]
 show ((keyRight x.name && riseP (-1) x.l) && (l.isEmpty || Op.bytesLess (aheadN l) x.name)) = _
 cases l with
 | nil =>
  show ((keyRight x.name && riseP (-1) x.l) && true) = (keyRight x.name && Op.bytesLess [] x.name && riseP (-1) x.l)
  rw [bytesLess_nil]; unfold keyRight
  cases x.name.isEmpty <;> simp
 | cons y t =>
  simp only [List.isEmpty_cons, Bool.false_or]
  cases keyRight x.name <;> cases riseP (-1) x.l <;> simp
theorem aheadN_snoc (l : List TopS) (x : PTop) : aheadN (l ++ [x.ts]) = x.name := by
 unfold aheadN; rw [List.map_append, List.length_append]
 show ((l.map (·.name)) ++ [x.ts.name]).getD (l.length + 1 - 1) [] = _
 exact getD_app_r _ _ _ _ (by rw [List.length_map]; omega)
theorem buildTV13 (a sl : Value) (w : World) : (Instr.buildSlice 24 1 #[(0, .agg #[a, sl])]).run Tryz.prog w = .ok (.slice (some ⟨w.heap.size, 0, none⟩) 1 1) (w.alloc (.cells #[a, sl] 65 (0, 0))) := by go_simp
theorem exec_buildT13 {o : Oper} {ρ : Operand → Value} (ps : Array (Nat × Value)) (v : Value) (w w' : World) (ho : execOp ρ o = (do pure (Next.value (← Instr.buildSlice 24 1 ps)))) (hb : (Instr.buildSlice 24 1 ps).run Tryz.prog w = .ok v w') : (execOp ρ o).run Tryz.prog w = .ok (.value v) w' := by
 rw [ho]; simp [hb]
theorem St.sets5P {W0 w : World} {K : Know} {L : List Res} {b : Nat} {T : TypeId} {a0 a1 a2 a3 a4 : Value} (v0 v1 v2 v3 v4 : Value) (h : St W0 w K (.raw b #[a0, a1, a2, a3, a4] T :: L)) : St W0 (((((w.setCell ⟨b, 0, none⟩ v0).setCell ⟨b, 1, none⟩ v1).setCell ⟨b, 2, none⟩ v2).setCell ⟨b, 3, none⟩ v3).setCell ⟨b, 4, none⟩ v4) K (.raw b #[v0, v1, v2, v3, v4] T :: L) := by
 have h : St W0 _ K (.raw b #[v0, a1, a2, a3, a4] T :: L) := h.rawSet 0 v0; have h : St W0 _ K (.raw b #[v0, v1, a2, a3, a4] T :: L) := h.rawSet 1 v1; have h : St W0 _ K (.raw b #[v0, v1, v2, a3, a4] T :: L) := h.rawSet 2 v2; have h : St W0 _ K (.raw b #[v0, v1, v2, v3, a4] T :: L) := h.rawSet 3 v3; have h : St W0 _ K (.raw b #[v0, v1, v2, v3, v4] T :: L) := h.rawSet 4 v4; exact h
theorem St.freezeTopsK {W0 w : World} {K : Know} {L : List Res} {v : Value} {T : TypeId} {l : List PTop} {k : Nat} {xs : List Value} (h : St W0 w K (.row v T 2 k xs :: L)) (hk : k = l.length) (hx : xs = l.flatMap ptcells) (ht : ∀ x ∈ l, K.has (Know.pparts (.slice x.q x.l.length x.cap) x.l)) : St W0 w (K.and (Know.ptops v l)) L := by
 subst hk; subst hx; exact h.freezeTopsP ht
theorem preq_checkK (nl : Bool) (dd : Bs) (ac tm v : Int) (l : List PTop) (q : Option Addr) (cap n : Nat) (hn : n = l.length) (hdd : dd.length ≤ 140737488355328) (hf : ∀ x ∈ l, CkT x) (hll : l.length ≤ 4398046511104) (e : Int) (he : errReq ⟨nl, dd⟩ ac tm v l = e) {W0 w : World} {K : Know} {L : List Res} (hk : K.has (Know.ptops (.slice q n cap) l)) (h : St W0 w K L) :
  Calls Tryz.prog 12 #[.agg #[.bool nl, .string (bb dd), .int .i64 ac, .int .i64 tm, .slice q n cap], .int .i64 v] w fun en w' => en = .returned (.int .i64 e) ∧ St W0 w' K L := by
 subst hn; exact preq_check nl dd ac tm v l q cap hdd hf hll e he hk h
theorem buildI25 (a : Int) (w : World) : (Instr.buildSlice 127 1 #[(0, .int .i64 a)]).run Tryz.prog w = .ok (.slice (some ⟨w.heap.size, 0, none⟩) 1 1) (w.alloc (.cells #[.int .i64 a] 3 (0, 0))) := by go_simp
theorem exec_buildI25 {o : Oper} {ρ : Operand → Value} (ps : Array (Nat × Value)) (v : Value) (w w' : World) (ho : execOp ρ o = (do pure (Next.value (← Instr.buildSlice 127 1 ps)))) (hb : (Instr.buildSlice 127 1 ps).run Tryz.prog w = .ok v w') : (execOp ρ o).run Tryz.prog w = .ok (.value v) w' := by
 rw [ho]; simp [hb]
theorem zq48 {p : Prop} (h : p := by have := HKN.out; unfold maxLen; omega) : p := h
set_option maxHeartbeats 4000000 in
set_option maxRecDepth 100000 in
theorem plain20 (nm : Bs) (pl : List PartR) (q : Option Addr) (cap : Nat) (hpl : pl.length ≤ 1000000) {W0 w : World} {K : Know} {L : List Res} (hk : K.has (Know.pparts (.slice q pl.length cap) pl)) (h : St W0 w K L) :
  Calls Tryz.prog 69 #[.agg #[.string (bb nm), .slice q pl.length cap]] w fun en w' => ∃ (q2 : Option Addr) (c2 : Nat) (K2 : Know), en = .returned (.agg #[.string (bb nm), .slice q2 pl.length c2]) ∧ K2.has K ∧ K2.has (Know.flat RI (.slice q2 pl.length c2) 1 (pl.map PartR.idx)) ∧ St W0 w' K2 L := by
 obtain ⟨ra, hra⟩ : ∃ b, w.heap.size = b := ⟨_, rfl⟩; obtain ⟨rb, hrb⟩ : ∃ b, ra + 1 = b := ⟨_, rfl⟩; obtain ⟨tb, htb⟩ : ∃ b, rb + 1 = b := ⟨_, rfl⟩; have h0 := ((h.allocRaw #[.string (bb nm), .slice q pl.length cap] 83).allocRaw #[.string ⟨#[]⟩, .slice none 0 0] 129).allocRaw #[.string (bb nm), .slice none 0 0] 129; simp only [World.size_alloc, hra, hrb, htb] at h0; have g0 := (h.allocRaw #[.string (bb nm), .slice q pl.length cap] 83).allocRaw #[.string ⟨#[]⟩, .slice none 0 0] 129; simp only [World.size_alloc, hra, hrb] at g0; have a0 := g0.p1.rawCell 0; have a1 := h0.p2.rawCell 1; simp at a0 a1; have H := Lib.hid h0; have HK := Lib.hid hk; have HN := Lib.hid hpl; have hni : (pl.length : Int) ≤ 1000000 := by omega
 clear h h0 g0 hk hpl; go_enter Tryz.func69, Tryz.ntmps69; go_wp2; clear a0 a1; go_loopw [4] (fun iv wr => ∃ (k : Nat) (v : Value), k ≤ pl.length ∧ iv = .int .i64 k ∧ St W0 wr K (.row v 3 1 k (((pl.take k).map PartR.idx).flatMap icells) :: .raw tb #[.string (bb nm), v] 129 :: .raw rb #[.string ⟨#[]⟩, .slice none 0 0] 129 :: .raw ra #[.string (bb nm), .slice q pl.length cap] 83 :: L)) (fun iv _ => pl.length - (intOf iv).toNat)
 case atStart => exact ⟨0, .slice none 0 0, Nat.zero_le _, rfl, H.out.nilRow 3 1⟩
 case round =>
  obtain ⟨k, v, hkl, rfl, hst⟩ := hrel; clear H; obtain ⟨qv0, cv0, hv0⟩ := hst.rowAny; subst hv0; have x1 := hst.p3.rawCell 1; simp at x1; have H := Lib.hid hst; clear hst
  by_cases hlt : k < pl.length
  · obtain ⟨pk, poff, hpq⟩ := pparts_at HK.out H.out (by omega); subst hpq; obtain ⟨y, hy⟩ : ∃ y, pl[k] = y := ⟨_, rfl⟩; have hkn : (k : Int) < (pl.length : Int) := by omega
    have HY := Lib.hid hy; have HKN := Lib.hid (show k ≤ 1000000 by have := HN.out; omega); obtain ⟨yi, yl, yq, ycap⟩ := y
    have HKA := Lib.hid (show ∀ (w' : World) (r1 r2 r3 : Res), St W0 w' K (r1 :: r2 :: r3 :: .raw ra #[.string (bb nm), .slice (some ⟨pk, poff, none⟩) pl.length cap] 83 :: L) → (w'.cell? ⟨ra, 1, none⟩ = some (.slice (some ⟨pk, poff, none⟩) pl.length cap) ∧ w'.cell? ⟨pk, poff + k * 2, none⟩ = some (.int .i64 yi)) from fun w' r1 r2 r3 hs => by
     have a1 := hs.p3.rawCell 1; obtain ⟨b1, _⟩ := pparts_cell HK.out hs k hlt _ HY.out; simp at a1
     exact ⟨a1, b1⟩)
    have HKB := Lib.hid (show ∀ (w' : World) (r0 r1 r2 r3 : Res), St W0 w' K (r0 :: r1 :: r2 :: r3 :: .raw ra #[.string (bb nm), .slice (some ⟨pk, poff, none⟩) pl.length cap] 83 :: L) → (w'.cell? ⟨ra, 1, none⟩ = some (.slice (some ⟨pk, poff, none⟩) pl.length cap) ∧ w'.cell? ⟨pk, poff + k * 2, none⟩ = some (.int .i64 yi)) from fun w' r0 r1 r2 r3 hs => by
     have a1 := hs.p4.rawCell 1; obtain ⟨b1, _⟩ := pparts_cell HK.out hs k hlt _ HY.out; simp at a1
     exact ⟨a1, b1⟩)
    clear hy; go_wp2; clear x1; have hs := H.out.drew; refine wp_region_held_drew (S := fun w' => w'.cell? ⟨ra, 1, none⟩ = some (.slice (some ⟨pk, poff, none⟩) pl.length cap) ∧ w'.cell? ⟨pk, poff + k * 2, none⟩ = some (.int .i64 yi)) (by kernel_rfl) (HKA.out _ _ _ _ hs) (fun hHeld => ?_); refine tQ 0 ⟨some 15, .fieldAddr 129 (.tmp 3) 1, 0, _, _, none⟩ ?_; simp only [Act.put, sA, sB, sC]; refine tQ 2 ⟨some 17, .fieldAddr 83 (.tmp 1) 1, 0, _, _, none⟩ ?_; simp only [Act.put, sA, sB, sC]; refine tQ 3 ⟨some 18, .load 81 (.tmp 17), 81, _, _, none⟩ ?_; simp only [Act.put, sA, sB, sC]; refine tQ 4 ⟨some 19, .move (.tmp 4), 3, _, _, none⟩ ?_; simp only [Act.put, sA, sB, sC]; refine tQ 5 ⟨some 20, .indexAddr 81 (.tmp 18) (.tmp 19), 0, _, _, none⟩ ?_; simp only [Act.put, sA, sB, sC]; refine tQ 6 ⟨some 21, .fieldAddr 85 (.tmp 20) 0, 0, _, _, none⟩ ?_; simp only [Act.put, sA, sB, sC]; refine tQ 7 ⟨some 22, .load 3 (.tmp 21), 3, _, _, none⟩ ?_; simp only [Act.put, sA, sB, sC]; refine wpAnyH_ready (rs := [1, 8]) (by kernel_rfl) (by simp) (AllReadyH.cons (o := ⟨some 16, .load 127 (.tmp 15), 127, _, _, none⟩) rfl (fun KK hK => ?_) (AllReadyH.cons (o := ⟨some 23, .buildSlice 127 1 #[(0, .tmp 22)], 127, _, _, none⟩) rfl (fun KK hK => ?_) AllReadyH.nil))
    focus
     have z1 := hs.p1.rawCell 1; simp at z1; go_simp; refine hK.out _ _ (HKA.out _ _ _ _ hs) (fun hHeld => ?_); clear hK KK
     try simp only [Act.put, sA, sB, sC]
     clear z1; refine wpAnyH_ready (rs := [8]) (by kernel_rfl) (by simp) (AllReadyH.cons (o := ⟨some 23, .buildSlice 127 1 #[(0, .tmp 22)], 127, _, _, none⟩) rfl (fun KK hK => ?_) AllReadyH.nil); rw [if_pos (by rfl)]; refine op_value (exec_buildI25 _ _ _ _ (by kernel_rfl) (buildI25 yi _)) ?_; obtain ⟨wy, b2, ey, eb, hs⟩ := hs.allocEx #[.int .i64 yi] 3; rw [ey, eb]; clear ey eb; refine hK.out _ _ (HKB.out _ _ _ _ _ hs) (fun hHeld => ?_); clear hK KK
     try simp only [Act.put, sA, sB, sC]
    rotate_left
    focus
     rw [if_pos (by rfl)]; refine op_value (exec_buildI25 _ _ _ _ (by kernel_rfl) (buildI25 yi _)) ?_; obtain ⟨wy, b2, ey, eb, hs⟩ := hs.allocEx #[.int .i64 yi] 3; rw [ey, eb]; clear ey eb; refine hK.out _ _ (HKB.out _ _ _ _ _ hs) (fun hHeld => ?_); clear hK KK
     try simp only [Act.put, sA, sB, sC]
     refine wpAnyH_ready (rs := [1]) (by kernel_rfl) (by simp) (AllReadyH.cons (o := ⟨some 16, .load 127 (.tmp 15), 127, _, _, none⟩) rfl (fun KK hK => ?_) AllReadyH.nil); have z1 := hs.p2.rawCell 1; simp at z1; go_simp; refine hK.out _ _ (HKB.out _ _ _ _ _ hs) (fun hHeld => ?_); clear hK KK
     try simp only [Act.put, sA, sB, sC]
     clear z1
    all_goals
     refine wpAnyH_ready (rs := [9]) (by kernel_rfl) (by simp) (AllReadyH.cons (o := ⟨some 24, .call { callee := .builtin .append, args := #[.tmp 16, .tmp 23], argTypes := #[127, 127] }, 127, _, _, none⟩) rfl (fun KK hK => ?_) AllReadyH.nil); rw [if_pos (by rfl)]; refine op_app1 (.tmp 16) (.tmp 23) 127 rfl 3 Tryz.underlying127 elem_aint _ _ _ (by rfl) b2 #[.int .i64 yi] 3 hs (by rfl) rfl (by simp [Value.oneCell']) zq48 (by have := HKN.out; omega) (fun v' w' h => ?_); have hs := h; clear h; obtain ⟨qv, cv, hv⟩ := hs.rowAny; subst hv; refine hK.out _ _ (HKA.out _ _ _ _ hs) (fun hHeld => ?_); clear hK KK
     try simp only [Act.put, sA, sB, sC]
     refine tQ 10 ⟨some 25, .fieldAddr 129 (.tmp 3) 1, 0, _, _, none⟩ ?_; simp only [Act.put, sA, sB, sC]; refine wpAnyH_ready (rs := [11]) (by kernel_rfl) (by simp) (AllReadyH.cons (o := ⟨none, .store 127 (.tmp 25) (.tmp 24), 0, _, _, none⟩) rfl (fun KK hK => ?_) AllReadyH.nil); have hs := hs.p1; have q1 := hs.rawFree 1; have z1 := hs.rawCell 1; simp at z1; rw [if_pos (by rfl)]; refine op_skip (w' := w'.setCell ⟨tb, 1, none⟩ (.slice qv (k + 1) cv)) (by go_simp) ?_; obtain ⟨wz, ez, hs⟩ := hs.setExP 1 (.slice qv (k + 1) cv); rw [ez]; clear ez q1 z1; have hs := hs.p1; refine hK.out _ _ (HKA.out _ _ _ _ hs) (fun hHeld => ?_); clear hK KK
     try simp only [Act.put]
     refine wpAnyH_done (by kernel_rfl) ?_ _; clear hHeld; go_wp2_with fail; go_roundw
     case rel =>
      refine ⟨k + 1, .slice qv (k + 1) cv, hlt, by go_num, ?_⟩; rw [List.take_succ_eq_append_getElem hlt, HY.out, List.map_append, List.flatMap_append]; exact hs
     case measure => first | (simp [intOf]; done) | (simp [intOf]; omega)
  · obtain rfl : k = pl.length := by omega
    have y0 := H.out.p1.rawCell 0; have y1 := H.out.p1.rawCell 1; have w0 := H.out.p2.rawFree 0; have w1 := H.out.p2.rawFree 1; have v0 := H.out.p2.rawCell 0; have v1 := H.out.p2.rawCell 1; simp at y0 y1 v0 v1; go_wp2; have hz : St W0 _ _ (.raw rb #[.string (bb nm), .slice qv0 pl.length cv0] 129 :: _) := ((H.out.p2.rawSet 0 (.string (bb nm))).rawSet 1 (.slice qv0 pl.length cv0)); refine bodyPost_ret (rc_cell_onlyP rfl _ _ rb [.string (bb nm), .slice qv0 pl.length cv0] _ rfl (rc_rangeP hz) Tryz.underlying129 rfl (by kernel_rfl)) rfl ?_; have hr := hz.drop; rw [List.take_length] at hr; have hf := hr.freezeInts (l := pl.map PartR.idx) (by rw [List.length_map]) rfl; exact ⟨qv0, cv0, _, rfl, Know.has_left (Know.has_refl _), Know.has_right (Know.has_refl _), hf.drop.drop⟩
theorem pfix2 (u : Bool) (s r : Bs) (hr : encF 2 ⟨u, s⟩ = r) (hs : s.length ≤ 32767) {W0 w : World} {K : Know} {L : List Res} (h : St W0 w K L) :
  Calls Tryz.prog 48 #[.agg #[.bool u, .string (bb s)], .int .i64 2] w fun en w' => en = .returned (.string (bb r)) ∧ St W0 w' K L := by
 subst hr; exact ref04_fixed ⟨u, s⟩ 2 (by simp only; omega) (by decide) h
theorem pfix4 (s r : Bs) (hr : encF 4 ⟨false, s⟩ = r) (hs : s.length ≤ 100000000) {W0 w : World} {K : Know} {L : List Res} (h : St W0 w K L) :
  Calls Tryz.prog 48 #[.agg #[.bool false, .string (bb s)], .int .i64 4] w fun en w' => en = .returned (.string (bb r)) ∧ St W0 w' K L := by
 subst hr; exact ref04_fixed ⟨false, s⟩ 4 (by simp only; omega) (by decide) h
theorem pby (n size : Int) (k : Nat) (hs : size = k) (hk : k ≤ 8) (r : Bs) (hr : beBytes n k = r) (hn : -9223372036854775808 ≤ n ∧ n < 9223372036854775808) {W0 w : World} {K : Know} {L : List Res} (h : St W0 w K L) :
  Calls Tryz.prog 49 #[.int .i64 n, .int .i64 size] w fun en w' => en = .returned (.string (bb r)) ∧ St W0 w' K L := by
 subst hr hs; exact sr_bytes n k (by omega) hn h
structure WrP (x : PartR) : Prop where
  idx : -9223372036854775808 ≤ x.idx ∧ x.idx < 9223372036854775808
  bats : ∀ z ∈ x.l, z.l.map (·.1) = z.b.recs ∧ SmallOk z.b
structure WrT (x : PTop) : Prop where
  name : x.name.length ≤ 32767
  parts : ∀ y ∈ x.l, WrP y

theorem encB_ge61 : ∀ (l : List BatR), 61 * l.length ≤ (encB l).length
  | [] => by simp [encB]
  | x :: t => by
    have h := encB_ge61 t; have e : encB (x :: t) = x.b.enc ++ encB t := rfl; rw [e, List.length_append, List.length_cons, x.b.enc_len]
    omega
theorem encPart_len (x : PartR) : 8 ≤ (encPart x).length := by
 unfold encPart encF; simp only [List.length_append]; have h1 : (beBytes x.idx (4 : Int).toNat).length = 4 := beBytes_length _ _; have h2 : ∀ n, (beBytes n 4).length = 4 := fun n => beBytes_length _ _
 rw [h1, h2]
 omega
theorem encParts_len : ∀ (l : List PartR), 8 * l.length ≤ (l.flatMap encPart).length
  | [] => by simp
  | x :: t => by
    have h := encParts_len t; have h2 := encPart_len x; rw [List.flatMap_cons, List.length_append, List.length_cons]
    omega
theorem zq17 {p : Prop} (h : p := by
  obtain rfl : k = ps.length := by omega
  have HOK := Lib.hid (show tRef (l.map (·.1)) i = true from HGOOD.out (by
    unfold tOk; rw [pRise_pk ps HPNE.out, allN_true HQ.out, HIE.out, decide_eq_true HLN.out]
    rfl))
  go_wp2; go_roundw
  case rel => exact ⟨i + 1, hlt, by go_num, Lib.hid (fun j hj => by
    by_cases hji : j = i
    · rw [hji]; exact HOK.out
    · exact HP.out j (by omega)), H.out⟩
  case measure => first | (simp [intOf]; done) | (simp [intOf]; omega)) : p := h
theorem zq18 {p : Prop} (h : p := by
  have b4 : ¬ 0 < k := by omega
  have b4d : decide (0 < k) = false := decide_eq_false b4; have HN := Lib.hid (show pk ps k = true by rw [HPK.out, decide_eq_true ⟨by omega, by omega⟩, b3]; rfl); clear d1 b3 hj; go_wp2; go_roundw
  case rel => exact ⟨k + 1, hlk, by go_num, Lib.hid (fun i hi => by
    by_cases hik : i = k
    · rw [hik]; exact HN.out
    · exact HQ.out i (by omega)), H.out⟩
  case measure => first | (simp [intOf]; done) | (simp [intOf]; omega)) : p := h
theorem zq21 {p : Prop} (h : p := by have hr2 : r = false := HF2.out (by rw [HPK.out, decide_eq_false (by omega), Bool.false_and]); subst hr2; go_wp2; go_ret; exact ⟨rfl, H.out⟩) : p := h
theorem zq36 {p : Prop} (h : p := by have hr2 : r = false := HF2.out (by rw [HPK.out, hk1, decide_eq_false (show ¬ y < x by omega)]; simp); subst hr2; clear hk1 hj; go_wp2; go_ret; exact ⟨rfl, H.out⟩) : p := h
set_option maxHeartbeats 2000000 in
set_option maxRecDepth 100000 in
theorem ref14_rise (l : List (TopS × Value)) (q : Option Addr) (cap : Nat) (r : Bool) (hr : tRise (l.map (·.1)) = r) (hf : FewT l) {W0 w : World} {K : Know} {L : List Res} (hk : K.has (Know.tops (.slice q l.length cap) l)) (h : St W0 w K L) :
  Calls Tryz.prog 70 #[.slice q l.length cap] w fun en w' => en = .returned (.bool r) ∧ St W0 w' K L := by
 have H := Lib.hid h; have HK := Lib.hid hk; have HR := Lib.hid (show allN l.length (tRef (l.map (·.1))) = r by rw [← hr, tRise_allN, List.length_map]); have HF := Lib.hid hf; have hni : (l.length : Int) ≤ 1000000 := by have := hf.1; omega
 clear h hk hr hf; go_enter Tryz.func70, Tryz.ntmps70; go_wp2; go_loopw [3, 4, 5] (fun iv _ _ wr => ∃ i : Nat, i ≤ l.length ∧ iv = .int .i64 i ∧ Hid (∀ j, j < i → tRef (l.map (·.1)) j = true) ∧ St W0 wr K L) (fun iv _ _ _ => l.length - (intOf iv).toNat)
 case atStart => exact ⟨0, Nat.zero_le _, rfl, Lib.hid (fun j hj => by omega), H.out⟩
 case round =>
  obtain ⟨i, hil, rfl, HP, hst⟩ := hrel; clear H; have H := Lib.hid hst; clear hst
  by_cases hlt : i < l.length
  · obtain ⟨b, off, hqq⟩ := tops_at HK.out H.out (by omega); subst hqq; obtain ⟨⟨⟨nm, ps⟩, vx⟩, hx⟩ : ∃ x, l[i] = x := ⟨_, rfl⟩; have hmem : ((⟨nm, ps⟩ : TopS), vx) ∈ l := hx ▸ List.getElem_mem hlt; have hxk : K.has (Know.flat RI vx 1 ps) := tops_parts HK.out hmem; obtain ⟨qx, capx, hvx⟩ := flat_form hxk H.out; subst hvx; have HCL := Lib.hid (show ∀ w', St W0 w' K L → w'.cell? ⟨b, off + i * 2, none⟩ = some (.string (bb nm)) ∧ w'.cell? ⟨b, off + i * 2 + 1, none⟩ = some (.slice qx ps.length capx) from fun w' hs => tops_cell HK.out hs i hlt _ hx); obtain ⟨c0, c1⟩ := HCL.out _ H.out; have hfx : nm.length ≤ 140737488355328 ∧ ps.length ≤ 1000000 := HF.out.2 _ hmem; have HNML := Lib.hid hfx.1; have HPN := Lib.hid hfx.2; have hkn : (i : Int) < (l.length : Int) := by omega
    have hi0 : (0 : Int) ≤ (i : Int) := by omega
    have hnl : (nm.length : Int) ≤ 140737488355328 := by omega
    have hgl : (l.map (·.1)).getD i ⟨[], []⟩ = ⟨nm, ps⟩ := by rw [List.getD_eq_getElem?_getD, List.getElem?_eq_getElem (by rw [List.length_map]; exact hlt), List.getElem_map, hx]; rfl
    have hbad : tRef (l.map (·.1)) i = false → r = false := fun h => by rw [← HR.out]; exact allN_false i hlt h
    have HBAD := Lib.hid (show tOk ⟨nm, ps⟩ = false → r = false from fun h => hbad (by unfold tRef; rw [hgl, h, Bool.false_and])); have HXK0 := Lib.hid hxk; have hgln : ((l.map (·.1)).map (·.name)).getD i [] = nm := by rw [List.map_map, List.getD_eq_getElem?_getD, List.getElem?_eq_getElem (by rw [List.length_map]; exact hlt), List.getElem_map]; show (l[i]).1.name = nm; rw [hx]
    by_cases hn1 : nm.length < 1
    · as_aux_lemma =>
      obtain rfl : nm = [] := List.length_eq_zero_iff.1 (by omega); have hr2 : r = false := HBAD.out rfl; subst hr2; clear hx hmem hxk hfx hgl hbad hgln; go_wp2; go_ret; exact ⟨rfl, H.out⟩
    · have hn2 : ¬ (nm.length : Int) < 1 := by omega
      have HIE := Lib.hid (show nm.isEmpty = false by cases nm with
        | nil => exact absurd (by decide) hn1
        | cons _ _ => rfl)
      by_cases hln : nm.length ≤ 32767
      · have HLN := Lib.hid hln; have hl2 : (nm.length : Int) ≤ 32767 := by omega
        have hl3 : decide ((32767 : Int) < (nm.length : Int)) = false := decide_eq_false (by omega)
        by_cases hp0 : ps = []
        · as_aux_lemma =>
          subst hp0; have hr2 : r = false := HBAD.out (by unfold tOk; rw [pRise_nil, Bool.and_false]); subst hr2; clear hx hmem hxk hfx hgl hbad hgln; go_wp2; go_ret; exact ⟨rfl, H.out⟩
        · have hpl : 0 < ps.length := List.length_pos_iff.2 hp0; have HPNE := Lib.hid hp0; obtain ⟨pb, poff, hpq⟩ := flat_at HXK0.out H.out hpl; subst hpq; have HXK := Lib.hid HXK0.out; have hpl1 : ¬ (ps.length : Int) < 1 := by omega
          obtain ⟨j0, hj0⟩ : ∃ j, i - 1 = j := ⟨_, rfl⟩
          by_cases hz : i = 0
          · as_aux_lemma =>
            have hiz : ¬ 0 < i := by omega
            have hiz2 : decide (0 < i) = false := decide_eq_false hiz; have HGOOD := Lib.hid (show tOk ⟨nm, ps⟩ = true → tRef (l.map (·.1)) i = true from fun h => by unfold tRef upS; rw [hgl, h, hz]; rfl); clear hx hmem hxk hfx hgl hbad hgln hp0 hz hj0; go_wp2; have hs := H.out.drew; refine wp_region_held_drew (S := fun w' => w'.cell? ⟨b, off + i * 2, none⟩ = some (.string (bb nm))) (by kernel_rfl) ((HCL.out _ hs).1) (fun hHeld => ?_); refine tQ 0 ⟨some 37, .move (.tmp 3), 3, _, _, none⟩ ?_; simp only [Act.put, sA, sB, sC]; refine tQ 1 ⟨some 38, .binOp .gtr 3 (.tmp 37) (.const (Value.int IntKind.i64 0)) 3, 4, _, _, none⟩ ?_; simp only [Act.put, sA, sB, sC]; refine tQ 2 ⟨some 39, .move (.tmp 38), 4, _, _, none⟩ ?_; simp only [Act.put, sA, sB, sC]; refine wpAnyH_take (i := 3) (oi := ⟨some 40, .move (.tmp 0), 110, _, _, some (2, true)⟩) (v := undef) rfl (by kernel_rfl) (by kernel_rfl) (by kernel_rfl) (fun _ _ _ h => h) (Or.inr ⟨by rfl, rfl⟩) (by assumption) ?_; simp only [Act.put, sA, sB, sC]; refine wpAnyH_take (i := 4) (oi := ⟨some 41, .move (.tmp 3), 3, _, _, some (2, true)⟩) (v := undef) rfl (by kernel_rfl) (by kernel_rfl) (by kernel_rfl) (fun _ _ _ h => h) (Or.inr ⟨by rfl, rfl⟩) (by assumption) ?_; simp only [Act.put, sA, sB, sC]; refine wpAnyH_take (i := 5) (oi := ⟨some 42, .binOp .sub 3 (.tmp 41) (.const (Value.int IntKind.i64 1)) 3, 3, _, _, some (2, true)⟩) (v := undef) rfl (by kernel_rfl) (by kernel_rfl) (by kernel_rfl) (fun _ _ _ h => h) (Or.inr ⟨by rfl, rfl⟩) (by assumption) ?_; simp only [Act.put, sA, sB, sC]; refine wpAnyH_take (i := 6) (oi := ⟨some 43, .indexAddr 110 (.tmp 40) (.tmp 42), 0, _, _, some (2, true)⟩) (v := undef) rfl (by kernel_rfl) (by kernel_rfl) (by kernel_rfl) (fun _ _ _ h => h) (Or.inr ⟨by rfl, rfl⟩) (by assumption) ?_; simp only [Act.put, sA, sB, sC]; refine wpAnyH_take (i := 7) (oi := ⟨some 44, .fieldAddr 129 (.tmp 43) 0, 0, _, _, some (2, true)⟩) (v := undef) rfl (by kernel_rfl) (by kernel_rfl) (by kernel_rfl) (fun _ _ _ h => h) (Or.inr ⟨by rfl, rfl⟩) (by assumption) ?_; simp only [Act.put, sA, sB, sC]; refine wpAnyH_take (i := 8) (oi := ⟨some 45, .load 9 (.tmp 44), 9, _, _, some (2, true)⟩) (v := undef) rfl (by kernel_rfl) (by kernel_rfl) (by kernel_rfl) (fun _ _ _ h => h) (Or.inr ⟨by rfl, rfl⟩) (by assumption) ?_; simp only [Act.put, sA, sB, sC]; refine wpAnyH_take (i := 9) (oi := ⟨some 46, .move (.tmp 0), 110, _, _, some (2, true)⟩) (v := undef) rfl (by kernel_rfl) (by kernel_rfl) (by kernel_rfl) (fun _ _ _ h => h) (Or.inr ⟨by rfl, rfl⟩) (by assumption) ?_; simp only [Act.put, sA, sB, sC]; refine wpAnyH_take (i := 10) (oi := ⟨some 47, .move (.tmp 3), 3, _, _, some (2, true)⟩) (v := undef) rfl (by kernel_rfl) (by kernel_rfl) (by kernel_rfl) (fun _ _ _ h => h) (Or.inr ⟨by rfl, rfl⟩) (by assumption) ?_; simp only [Act.put, sA, sB, sC]; refine wpAnyH_take (i := 11) (oi := ⟨some 48, .indexAddr 110 (.tmp 46) (.tmp 47), 0, _, _, some (2, true)⟩) (v := undef) rfl (by kernel_rfl) (by kernel_rfl) (by kernel_rfl) (fun _ _ _ h => h) (Or.inr ⟨by rfl, rfl⟩) (by assumption) ?_; simp only [Act.put, sA, sB, sC]; refine wpAnyH_take (i := 12) (oi := ⟨some 49, .fieldAddr 129 (.tmp 48) 0, 0, _, _, some (2, true)⟩) (v := undef) rfl (by kernel_rfl) (by kernel_rfl) (by kernel_rfl) (fun _ _ _ h => h) (Or.inr ⟨by rfl, rfl⟩) (by assumption) ?_; simp only [Act.put, sA, sB, sC]; refine wpAnyH_take (i := 13) (oi := ⟨some 50, .load 9 (.tmp 49), 9, _, _, some (2, true)⟩) (v := undef) rfl (by kernel_rfl) (by kernel_rfl) (by kernel_rfl) (fun _ _ _ h => h) (Or.inr ⟨by rfl, rfl⟩) (by assumption) ?_; simp only [Act.put, sA, sB, sC]; refine wpAnyH_take (i := 14) (oi := ⟨some 51, .call { callee := .value (.func 99), args := #[.tmp 45, .tmp 50], argTypes := #[9, 9] }, 4, _, _, some (2, true)⟩) (v := undef) rfl (by kernel_rfl) (by kernel_rfl) (by kernel_rfl) (fun _ _ _ h => h) (Or.inr ⟨by rfl, rfl⟩) (by assumption) ?_; simp only [Act.put, sA, sB, sC]; refine wpAnyH_take (i := 15) (oi := ⟨some 52, .unOp UnOp.not 4 (.tmp 51), 4, _, _, some (2, true)⟩) (v := undef) rfl (by kernel_rfl) (by kernel_rfl) (by kernel_rfl) (fun _ _ _ h => h) (Or.inr ⟨by rfl, rfl⟩) (by assumption) ?_; simp only [Act.put, sA, sB, sC]; refine tQ 16 ⟨some 53, .pick (.tmp 39) (.tmp 52) (.const (Value.bool false)), 4, _, _, none⟩ ?_; simp only [Act.put, sA, sB, sC]; refine wpAnyH_done (by kernel_rfl) ?_ _; go_wp2_with fail; clear H; have H := Lib.hid hs; clear hs; go_loopw [4, 5] (fun kv _ wr => ∃ k : Nat, k ≤ ps.length ∧ kv = .int .i64 k ∧ Hid (∀ j, j < k → pk ps j = true) ∧ St W0 wr K L) (fun kv _ _ => ps.length - (intOf kv).toNat)
            case atStart => exact ⟨0, Nat.zero_le _, rfl, Lib.hid (fun j hj => by omega), H.out⟩
            case round =>
             obtain ⟨k, hkl, rfl, HQ, hst⟩ := hrel; clear H; have H := Lib.hid hst; clear hst; obtain ⟨c0, c1⟩ : _ ∧ _ := HCL.out _ H.out
             by_cases hlk : k < ps.length
             · obtain ⟨j, hj⟩ : ∃ j, k - 1 = j := ⟨_, rfl⟩; have d0 := int_cell HXK.out H.out k hlk; have d1 := int_cell HXK.out H.out j (by omega); obtain ⟨x, hx⟩ : ∃ x, ps.getD k 0 = x := ⟨_, rfl⟩; obtain ⟨y, hy⟩ : ∃ y, ps.getD j 0 = y := ⟨_, rfl⟩
               have hpk : pk ps k = (decide (0 ≤ x ∧ x ≤ 2147483647) && (k == 0 || decide (y < x))) := by
                 unfold pk upI; rw [hj, hx, hy]
               rw [hx] at d0; rw [hy] at d1; have hkp : (k : Int) < (ps.length : Int) := by omega
               have hk0 : (0 : Int) ≤ (k : Int) := by omega
               have HPK := Lib.hid hpk
               have hfalse : pk ps k = false → r = false := fun h => HBAD.out (by
                 unfold tOk
                 rw [pRise_pk ps HPNE.out, allN_false k hlk h, Bool.and_false])
               have HF2 := Lib.hid hfalse; clear hx hy hpk hfalse; have hpl2 : (ps.length : Int) ≤ 1000000 := by have := HPN.out; omega
               by_cases b1 : x < 0
               · exact zq21
               · by_cases b2 : 2147483647 < x
                 · exact zq21
                 · by_cases b3 : k = 0
                   · exact zq18
                   · have b4 : 0 < k := by omega
                     have b4d : decide (0 < k) = true := decide_eq_true b4; have e1 : wrap64 ((k : Int) - 1) = (j : Int) := by unfold wrap64; omega
                     have e2 : IntKind.i64.wrap ((k : Int) - 1) = (j : Int) := by rw [show (k : Int) - 1 = (j : Int) by omega]; exact IntWalk.i64_in _ (by omega)
                     have hjl : (j : Int) < (ps.length : Int) := by omega
                     have hk1 : (k == 0) = false := by rw [beq_eq_false_iff_ne]; exact b3
                     by_cases b5 : x ≤ y
                     · exact zq36
                     · have HN := Lib.hid (show pk ps k = true by rw [HPK.out, hk1, decide_eq_true (show y < x by omega), decide_eq_true ⟨by omega, by omega⟩]; rfl); clear hk1 hj; go_wp2; go_roundw
                       case rel => exact ⟨k + 1, hlk, by go_num, Lib.hid (fun i hi => by
                         by_cases hik : i = k
                         · rw [hik]; exact HN.out
                         · exact HQ.out i (by omega)), H.out⟩
                       case measure => first | (simp [intOf]; done) | (simp [intOf]; omega)
             · exact zq17
          · obtain ⟨pm, hpm⟩ : ∃ pm, ((l.map (·.1)).map (·.name)).getD j0 [] = pm := ⟨_, rfl⟩; have hjl : j0 < l.length := by omega
            have hjx : l[j0].1.name = pm := by rw [← hpm, List.map_map, List.getD_eq_getElem?_getD, List.getElem?_eq_getElem (by rw [List.length_map]; exact hjl), List.getElem_map]; rfl
            have HPML := Lib.hid (show pm.length ≤ 140737488355328 by rw [← hjx]; exact (HF.out.2 _ (List.getElem_mem hjl)).1)
            have HPC := Lib.hid (show ∀ w', St W0 w' K L → w'.cell? ⟨b, off + j0 * 2, none⟩ = some (.string (bb pm)) from fun w' hs => by
             have := (tops_cell HK.out hs j0 hjl _ rfl).1; rw [hjx] at this
             exact this)
            have hiz : 0 < i := by omega
            have hiz2 : decide (0 < i) = true := decide_eq_true hiz; have e1 : wrap64 ((i : Int) - 1) = (j0 : Int) := by unfold wrap64; omega
            have e2 : IntKind.i64.wrap ((i : Int) - 1) = (j0 : Int) := by rw [show (i : Int) - 1 = (j0 : Int) by omega]; exact IntWalk.i64_in _ (by omega)
            have hj0l : (j0 : Int) < (l.length : Int) := by omega
            have hj00 : (0 : Int) ≤ (j0 : Int) := by omega
            obtain ⟨lb, hlb⟩ : ∃ lb, Op.bytesLess pm nm = lb := ⟨_, rfl⟩; have HLB := Lib.hid hlb
            have hups : upS ((l.map (·.1)).map (·.name)) i = lb := by
             unfold upS; have : (i == 0) = false := by rw [beq_eq_false_iff_ne]; exact hz
             rw [this, hj0, hpm, hgln, hlb, Bool.false_or]
            have hkeep : ∀ w', St W0 w' K L → w'.cell? ⟨b, off + i * 2, none⟩ = some (.string (bb nm)) ∧ w'.cell? ⟨b, off + j0 * 2, none⟩ = some (.string (bb pm)) := fun w' hs => ⟨(HCL.out _ hs).1, HPC.out _ hs⟩
            have HKP := Lib.hid hkeep
            cases lb with
            | false =>
             as_aux_lemma =>
             have hr2 : r = false := hbad (by unfold tRef; rw [hups, Bool.and_false]); subst hr2; clear hx hmem hxk hfx hgl hbad hgln hp0 hpm hjx hlb hups hkeep hj0; go_wp2; have hs := H.out.drew; refine wp_region_held_drew (S := fun w' => w'.cell? ⟨b, off + i * 2, none⟩ = some (.string (bb nm)) ∧ w'.cell? ⟨b, off + j0 * 2, none⟩ = some (.string (bb pm))) (by kernel_rfl) (HKP.out _ hs) (fun hHeld => ?_); refine tQ 0 ⟨some 37, .move (.tmp 3), 3, _, _, none⟩ ?_; simp only [Act.put, sA, sB, sC]; refine tQ 1 ⟨some 38, .binOp .gtr 3 (.tmp 37) (.const (Value.int IntKind.i64 0)) 3, 4, _, _, none⟩ ?_; simp only [Act.put, sA, sB, sC]; refine tQ 2 ⟨some 39, .move (.tmp 38), 4, _, _, none⟩ ?_; simp only [Act.put, sA, sB, sC]; refine tQ 3 ⟨some 40, .move (.tmp 0), 110, _, _, some (2, true)⟩ ?_; simp only [Act.put, sA, sB, sC]; refine tQ 4 ⟨some 41, .move (.tmp 3), 3, _, _, some (2, true)⟩ ?_; simp only [Act.put, sA, sB, sC]; refine tQ 5 ⟨some 42, .binOp .sub 3 (.tmp 41) (.const (Value.int IntKind.i64 1)) 3, 3, _, _, some (2, true)⟩ ?_; simp only [Act.put, sA, sB, sC]; refine tQ 6 ⟨some 43, .indexAddr 110 (.tmp 40) (.tmp 42), 0, _, _, some (2, true)⟩ ?_; simp only [Act.put, sA, sB, sC]; refine tQ 7 ⟨some 44, .fieldAddr 129 (.tmp 43) 0, 0, _, _, some (2, true)⟩ ?_; simp only [Act.put, sA, sB, sC]; refine tQ 8 ⟨some 45, .load 9 (.tmp 44), 9, _, _, some (2, true)⟩ ?_; simp only [Act.put, sA, sB, sC]; refine tQ 9 ⟨some 46, .move (.tmp 0), 110, _, _, some (2, true)⟩ ?_; simp only [Act.put, sA, sB, sC]; refine tQ 10 ⟨some 47, .move (.tmp 3), 3, _, _, some (2, true)⟩ ?_; simp only [Act.put, sA, sB, sC]; refine tQ 11 ⟨some 48, .indexAddr 110 (.tmp 46) (.tmp 47), 0, _, _, some (2, true)⟩ ?_; simp only [Act.put, sA, sB, sC]; refine tQ 12 ⟨some 49, .fieldAddr 129 (.tmp 48) 0, 0, _, _, some (2, true)⟩ ?_; simp only [Act.put, sA, sB, sC]; refine tQ 13 ⟨some 50, .load 9 (.tmp 49), 9, _, _, some (2, true)⟩ ?_; simp only [Act.put, sA, sB, sC]; refine wpAnyH_ready (rs := [14]) (by kernel_rfl) (by simp) (AllReadyH.cons (o := ⟨some 51, .call { callee := .value (.func 99), args := #[.tmp 45, .tmp 50], argTypes := #[9, 9] }, 4, _, _, some (2, true)⟩) rfl (fun KK hK => ?_) AllReadyH.nil); go_simp; go_at_call 99; with_reducible refine (ref14_less pm nm _ HLB.out HPML.out HNML.out hs).mono ?_; rintro e wq ⟨rfl, hs⟩; refine hK.out _ _ (HKP.out _ hs) (fun hHeld => ?_); clear hK KK
             try simp only [Act.put, sA, sB, sC]
             refine tQ 15 ⟨some 52, .unOp UnOp.not 4 (.tmp 51), 4, _, _, some (2, true)⟩ ?_; simp only [Act.put, sA, sB, sC]; refine tQ 16 ⟨some 53, .pick (.tmp 39) (.tmp 52) (.const (Value.bool false)), 4, _, _, none⟩ ?_; simp only [Act.put, sA, sB, sC]; refine wpAnyH_done (by kernel_rfl) ?_ _; go_wp2_with fail; go_ret; exact ⟨rfl, hs⟩
            | true =>
             as_aux_lemma =>
             have HGOOD := Lib.hid (show tOk ⟨nm, ps⟩ = true → tRef (l.map (·.1)) i = true from fun h => by unfold tRef; rw [hgl, h, hups]; rfl); clear hx hmem hxk hfx hgl hbad hgln hp0 hpm hjx hlb hups hkeep hj0; go_wp2; have hs := H.out.drew; refine wp_region_held_drew (S := fun w' => w'.cell? ⟨b, off + i * 2, none⟩ = some (.string (bb nm)) ∧ w'.cell? ⟨b, off + j0 * 2, none⟩ = some (.string (bb pm))) (by kernel_rfl) (HKP.out _ hs) (fun hHeld => ?_); refine tQ 0 ⟨some 37, .move (.tmp 3), 3, _, _, none⟩ ?_; simp only [Act.put, sA, sB, sC]; refine tQ 1 ⟨some 38, .binOp .gtr 3 (.tmp 37) (.const (Value.int IntKind.i64 0)) 3, 4, _, _, none⟩ ?_; simp only [Act.put, sA, sB, sC]; refine tQ 2 ⟨some 39, .move (.tmp 38), 4, _, _, none⟩ ?_; simp only [Act.put, sA, sB, sC]; refine tQ 3 ⟨some 40, .move (.tmp 0), 110, _, _, some (2, true)⟩ ?_; simp only [Act.put, sA, sB, sC]; refine tQ 4 ⟨some 41, .move (.tmp 3), 3, _, _, some (2, true)⟩ ?_; simp only [Act.put, sA, sB, sC]; refine tQ 5 ⟨some 42, .binOp .sub 3 (.tmp 41) (.const (Value.int IntKind.i64 1)) 3, 3, _, _, some (2, true)⟩ ?_; simp only [Act.put, sA, sB, sC]; refine tQ 6 ⟨some 43, .indexAddr 110 (.tmp 40) (.tmp 42), 0, _, _, some (2, true)⟩ ?_; simp only [Act.put, sA, sB, sC]; refine tQ 7 ⟨some 44, .fieldAddr 129 (.tmp 43) 0, 0, _, _, some (2, true)⟩ ?_; simp only [Act.put, sA, sB, sC]; refine tQ 8 ⟨some 45, .load 9 (.tmp 44), 9, _, _, some (2, true)⟩ ?_; simp only [Act.put, sA, sB, sC]; refine tQ 9 ⟨some 46, .move (.tmp 0), 110, _, _, some (2, true)⟩ ?_; simp only [Act.put, sA, sB, sC]; refine tQ 10 ⟨some 47, .move (.tmp 3), 3, _, _, some (2, true)⟩ ?_; simp only [Act.put, sA, sB, sC]; refine tQ 11 ⟨some 48, .indexAddr 110 (.tmp 46) (.tmp 47), 0, _, _, some (2, true)⟩ ?_; simp only [Act.put, sA, sB, sC]; refine tQ 12 ⟨some 49, .fieldAddr 129 (.tmp 48) 0, 0, _, _, some (2, true)⟩ ?_; simp only [Act.put, sA, sB, sC]; refine tQ 13 ⟨some 50, .load 9 (.tmp 49), 9, _, _, some (2, true)⟩ ?_; simp only [Act.put, sA, sB, sC]; refine wpAnyH_ready (rs := [14]) (by kernel_rfl) (by simp) (AllReadyH.cons (o := ⟨some 51, .call { callee := .value (.func 99), args := #[.tmp 45, .tmp 50], argTypes := #[9, 9] }, 4, _, _, some (2, true)⟩) rfl (fun KK hK => ?_) AllReadyH.nil); go_simp; go_at_call 99; with_reducible refine (ref14_less pm nm _ HLB.out HPML.out HNML.out hs).mono ?_; rintro e wq ⟨rfl, hs⟩; refine hK.out _ _ (HKP.out _ hs) (fun hHeld => ?_); clear hK KK
             try simp only [Act.put, sA, sB, sC]
             refine tQ 15 ⟨some 52, .unOp UnOp.not 4 (.tmp 51), 4, _, _, some (2, true)⟩ ?_; simp only [Act.put, sA, sB, sC]; refine tQ 16 ⟨some 53, .pick (.tmp 39) (.tmp 52) (.const (Value.bool false)), 4, _, _, none⟩ ?_; simp only [Act.put, sA, sB, sC]; refine wpAnyH_done (by kernel_rfl) ?_ _; go_wp2_with fail; clear H; have H := Lib.hid hs; clear hs; go_loopw [4, 5] (fun kv _ wr => ∃ k : Nat, k ≤ ps.length ∧ kv = .int .i64 k ∧ Hid (∀ j, j < k → pk ps j = true) ∧ St W0 wr K L) (fun kv _ _ => ps.length - (intOf kv).toNat)
             case atStart => exact ⟨0, Nat.zero_le _, rfl, Lib.hid (fun j hj => by omega), H.out⟩
             case round =>
               obtain ⟨k, hkl, rfl, HQ, hst⟩ := hrel; clear H; have H := Lib.hid hst; clear hst; obtain ⟨c0, c1⟩ : _ ∧ _ := HCL.out _ H.out
               by_cases hlk : k < ps.length
               · obtain ⟨j, hj⟩ : ∃ j, k - 1 = j := ⟨_, rfl⟩; have d0 := int_cell HXK.out H.out k hlk; have d1 := int_cell HXK.out H.out j (by omega); obtain ⟨x, hx⟩ : ∃ x, ps.getD k 0 = x := ⟨_, rfl⟩; obtain ⟨y, hy⟩ : ∃ y, ps.getD j 0 = y := ⟨_, rfl⟩
                 have hpk : pk ps k = (decide (0 ≤ x ∧ x ≤ 2147483647) && (k == 0 || decide (y < x))) := by
                   unfold pk upI; rw [hj, hx, hy]
                 rw [hx] at d0; rw [hy] at d1; have hkp : (k : Int) < (ps.length : Int) := by omega
                 have hk0 : (0 : Int) ≤ (k : Int) := by omega
                 have HPK := Lib.hid hpk
                 have hfalse : pk ps k = false → r = false := fun h => HBAD.out (by
                   unfold tOk
                   rw [pRise_pk ps HPNE.out, allN_false k hlk h, Bool.and_false])
                 have HF2 := Lib.hid hfalse; clear hx hy hpk hfalse; have hpl2 : (ps.length : Int) ≤ 1000000 := by have := HPN.out; omega
                 by_cases b1 : x < 0
                 · exact zq21
                 · by_cases b2 : 2147483647 < x
                   · exact zq21
                   · by_cases b3 : k = 0
                     · exact zq18
                     · have b4 : 0 < k := by omega
                       have b4d : decide (0 < k) = true := decide_eq_true b4; have e1 : wrap64 ((k : Int) - 1) = (j : Int) := by unfold wrap64; omega
                       have e2 : IntKind.i64.wrap ((k : Int) - 1) = (j : Int) := by rw [show (k : Int) - 1 = (j : Int) by omega]; exact IntWalk.i64_in _ (by omega)
                       have hjl : (j : Int) < (ps.length : Int) := by omega
                       have hk1 : (k == 0) = false := by rw [beq_eq_false_iff_ne]; exact b3
                       by_cases b5 : x ≤ y
                       · exact zq36
                       · have HN := Lib.hid (show pk ps k = true by rw [HPK.out, hk1, decide_eq_true (show y < x by omega), decide_eq_true ⟨by omega, by omega⟩]; rfl); clear hk1 hj; go_wp2; go_roundw
                         case rel => exact ⟨k + 1, hlk, by go_num, Lib.hid (fun i hi => by
                          by_cases hik : i = k
                          · rw [hik]; exact HN.out
                          · exact HQ.out i (by omega)), H.out⟩
                         case measure => first | (simp [intOf]; done) | (simp [intOf]; omega)
               · exact zq17
      · as_aux_lemma =>
        have hl2 : (32767 : Int) < (nm.length : Int) := by omega
        have hl3 : decide ((32767 : Int) < (nm.length : Int)) = true := decide_eq_true hl2; have hr2 : r = false := HBAD.out (by unfold tOk; rw [decide_eq_false hln]; simp); subst hr2; clear hx hmem hxk hfx hgl hbad hgln; go_wp2; go_ret; exact ⟨rfl, H.out⟩
  · obtain rfl : i = l.length := by omega
    have hr2 : r = true := by rw [← HR.out]; exact allN_true HP.out
    subst hr2; go_wp2; go_ret; exact ⟨rfl, H.out⟩
def ValS.R (v : ValS) : Prop := (-9223372036854775808 ≤ v.prod ∧ v.prod < 9223372036854775808) ∧ (-9223372036854775808 ≤ v.epoch ∧ v.epoch < 9223372036854775808) ∧ (-9223372036854775808 ≤ v.timeout ∧ v.timeout < 9223372036854775808) ∧ (-9223372036854775808 ≤ v.state ∧ v.state < 9223372036854775808) ∧ (-9223372036854775808 ≤ v.upd ∧ v.upd < 9223372036854775808) ∧ (-9223372036854775808 ≤ v.started ∧ v.started < 9223372036854775808)
def ValS.z : ValS := ⟨0, 0, 0, 0, [], 0, 0⟩
def InS.At (s : Bs) (i : InS) : Prop := i.s = s ∧ i.pos ≤ s.length
theorem At.int {s : Bs} {i : InS} (h : i.At s) (k : Int) : (i.int k).2.At s := by
 obtain ⟨rfl, h⟩ := h; unfold InS.int
 split
 · unfold InS.fail; split
   · exact ⟨rfl, h⟩
   · exact ⟨rfl, h⟩
 · unfold InS.take
   split
   · exact ⟨rfl, h⟩
   · split
     · exact ⟨rfl, h⟩
     · split
       · exact ⟨rfl, h⟩
       · rename_i h1 h2 h3
         refine ⟨rfl, ?_⟩; simp only [InS.left] at h3
         show i.pos + k.toNat ≤ i.s.length
         omega
theorem At.fail {s : Bs} {i : InS} (h : i.At s) (e : Int) : (i.fail e).At s := by
 unfold InS.fail
 split
 · exact ⟨h.1, h.2⟩
 · exact h
theorem sInt_back (n : Int) (k : Nat) (h1 : 1 ≤ k) (hf : fits n k) (R : Bs) : getIntN k (beBytes n k ++ R) = .ok (n, k) := by
 unfold getIntN; have h4 := beBytes_length n k; have hfit := hf.2.2; rw [Int.toNat_natCast] at hfit; have h5 := (sInt_beBytes_iff n k h1).2 hfit; rw [if_neg (by rw [List.length_append]; omega), List.take_append_of_le_length (by omega), List.take_of_length_le (by omega), h5]
theorem cntP_back (each n : Nat) (X : Bs) (he : 0 < each) (hn : n < 2147483648) (hl : each * n ≤ X.length) : cntP each (beBytes n 4 ++ X) = .ok (n, 4) := by
 have h4 := beBytes_length (n : Int) 4; have h5 : sInt (beBytes (n : Int) 4) = n := (sInt_beBytes_iff n 4 (by decide)).2 (vfits4 n (by omega)).2.2; have h6 : (beBytes (n : Int) 4 ++ X).take 4 = beBytes (n : Int) 4 := by rw [List.take_append_of_le_length (by omega), List.take_of_length_le (by omega)]
 unfold cntP
 rw [h6, h5, if_neg (by rw [List.length_append]; omega), if_neg (by omega), if_neg (by
  rw [List.length_append, h4]; have e : ((4 + X.length : Nat) : Int) - 4 = (X.length : Int) := by omega
  rw [e]
  have h7 : (n : Int) ≤ (X.length : Int) / (each : Int) := by
   rw [Int.le_ediv_iff_mul_le (by omega)]; have h8 : (n : Int) * (each : Int) = ((each * n : Nat) : Int) := by rw [Nat.mul_comm]; exact (Int.natCast_mul _ _).symm
   omega
  omega)]
 simp
theorem textP_back (d : Bs) (hd : d.length ≤ 32767) (R : Bs) : textP (encF 2 ⟨false, d⟩ ++ R) = .ok (d, (encF 2 ⟨false, d⟩).length) := by
 unfold textP; rw [refixed_back 2 ⟨false, d⟩ (by simp [BlobS.right]) (vfits2 _ (by simp [BlobS.len]; omega)) R]
 simp
end Go.Proofs.YtnnnglklgofabaaGreat
