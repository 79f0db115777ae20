/- A text. -/
import Derived.Test.YtolndcljbjlacaaGreatGWholeMarkers5
import Derived.Test.YtolndcljbjlacaaGreatGWholeMarkers4
import Derived.Test.YtolndcljbjlacaaGreatGWholeMarkers6
import Derived.Test.YtolndcljbjlacaaGreatGWholeMarkers7
import Derived.Test.YtolndcljbjlacaaGreatGWholeMarkers3
import Derived.Deep.RegionHeld3
import Derived.Deep.DeepCutAuto
import Derived.IntWalk
import Derived.Test.YtolndcljbjlacaaGreatGrow
/- A text. -/
namespace Go.Proofs.YtolndcljbjlacaaGreat
open Go.RowKit

theorem wp_op_value {P : Program} {o : Oper} {a : Act} {w w' : World} {v : Value} {KK : Act → World → Prop} {Q : Exit → Act → World → Prop} (hr : (execOp a.eval o).run P w = .ok (.value v) w') (h : KK (a.put o.dst v) w') : o.wp P a w KK Q := by
 unfold Oper.wp
 rw [hr]
 exact h
theorem build12 (n0 n1 n2 n3 n4 n5 n6 n7 n8 n9 n10 n11 : Int) (w : World) : (Instr.buildSlice 62 12 #[(0, .int .i64 n0), (1, .int .i64 n1), (2, .int .i64 n2), (3, .int .i64 n3), (4, .int .i64 n4), (5, .int .i64 n5), (6, .int .i64 n6), (7, .int .i64 n7), (8, .int .i64 n8), (9, .int .i64 n9), (10, .int .i64 n10), (11, .int .i64 n11)]).run Tryz.prog w = .ok (.slice (some ⟨w.heap.size, 0, none⟩) 12 12) (w.alloc (.cells #[.int .i64 n0, .int .i64 n1, .int .i64 n2, .int .i64 n3, .int .i64 n4, .int .i64 n5, .int .i64 n6, .int .i64 n7, .int .i64 n8, .int .i64 n9, .int .i64 n10, .int .i64 n11] 3 (0, 0))) := by go_simp
theorem exec_val {v : Value} {w w' : World} (s : Sem Value) (hb : s.run Tryz.prog w = .ok v w') : (do pure (Next.value (← s)) : Sem Next).run Tryz.prog w = .ok (.value v) w' := by go_simp
theorem exec_build {o : Oper} {ρ : Operand → Value} (ps : Array (Nat × Value)) (v : Value) (w w' : World) (ho : execOp ρ o = (do pure (Next.value (← Instr.buildSlice 62 12 ps)))) (hb : (Instr.buildSlice 62 12 ps).run Tryz.prog w = .ok v w') : (execOp ρ o).run Tryz.prog w = .ok (.value v) w' := by
 rw [ho]
 exact exec_val _ hb
theorem ref10_pre (bl : Nat) (b : BatS) (sm : Int) (rows : Bs) (hrw : b.rowsB = rows) (at_ : Int) (hat : attrN b.app b.txn b.ctl 3 = at_) (n : Nat) (hn : b.recs.length = n) (said : Bs) (hsaid : encInts (b.pre sm).items = said) (hfit : FitsAll (b.pre sm).items) (hR : (b.pre sm).R) {W0 w : World} {K : Know} {L : List Res} (h : St W0 w K (.raw bl #[.int .i64 b.base, .int .i64 (49 + rows.length), .int .i64 b.leader, .int .i64 sm, .int .i64 at_, .int .i64 b.last, .int .i64 b.first, .int .i64 b.maxt, .int .i64 b.prod, .int .i64 b.epoch, .int .i64 b.seq, .int .i64 n] 3 :: L)) :
  Calls Tryz.prog 22 #[.slice (some ⟨bl, 0, none⟩) 12 12] w fun en w' => en = .returned (.tuple #[.string (bb said), .bool true]) ∧ St W0 w' K (.raw bl #[.int .i64 b.base, .int .i64 (49 + rows.length), .int .i64 b.leader, .int .i64 sm, .int .i64 at_, .int .i64 b.last, .int .i64 b.first, .int .i64 b.maxt, .int .i64 b.prod, .int .i64 b.epoch, .int .i64 b.seq, .int .i64 n] 3 :: L) := by
 subst hrw hat hn hsaid
 have e : preBytes (b.pre sm) = (encInts (b.pre sm).items, true) := if_pos hfit
 have c := ref10_bytes bl (b.pre sm) hR h
 rw [e] at c
 exact c

set_option maxHeartbeats 1000000 in
set_option maxRecDepth 100000 in
theorem ref11_attr (base leader : Int) (app txn ctl : Bool) (last first maxt prod epoch sq : Int) (rv : Value) (r : Int) (hr : attrN app txn ctl 3 = r) {W0 w : World} {K : Know} {L : List Res} (h : St W0 w K L) :
  Calls Tryz.prog 23 #[.agg #[.int .i64 base, .int .i64 leader, .bool app, .bool txn, .bool ctl, .int .i64 last, .int .i64 first, .int .i64 maxt, .int .i64 prod, .int .i64 epoch, .int .i64 sq, rv]] w fun en w' => en = .returned (.int .i64 r) ∧ St W0 w' K L := by
 obtain ⟨hb, hhb⟩ : ∃ b, w.heap.size = b := ⟨_, rfl⟩
 have h1 := h.allocRaw #[.int .i64 base, .int .i64 leader, .bool app, .bool txn, .bool ctl, .int .i64 last, .int .i64 first, .int .i64 maxt, .int .i64 prod, .int .i64 epoch, .int .i64 sq, rv] 26
 rw [hhb] at h1
 obtain ⟨x0, x1, x2, x3, x4, x5, x6, x7, x8, x9, x10, x11, y0, y1, y2, y3, y4, y5, y6, y7, y8, y9, y10, y11⟩ := raw12 (b := hb) (h1)
 have H := Lib.hid h1
 subst hr
 clear h h1
 cases app <;> cases txn <;> cases ctl
 all_goals
  go_enter Tryz.func23, Tryz.ntmps23
  go_wp2
  go_ret
  exact ⟨by kernel_rfl, H.out.drop⟩

theorem ref05_sumX (s : Bs) (hs : s.length ≤ 1000000) (x : Nat) (hx : (crcMore 0#32 s).toNat = x) {W0 w : World} {K : Know} {L : List Res} (h : St W0 w K L) :
  Calls Tryz.prog 24 #[.string (bb s)] w fun en w' => en = .returned (.int .u32 x) ∧ St W0 w' K L := by
 subst hx
 exact ref05_sumW s hs h
set_option maxHeartbeats 4000000 in
set_option maxRecDepth 1000000 in
theorem ref11_encode (b : BatS) (s : Bs) (hs : b.enc = s) (l : List (RecS × Value)) (q : Option Addr) (cap : Nat) (hl : l.map (·.1) = b.recs) (so : SmallOk b) {W0 w : World} {K : Know} {L : List Res} (hk : K.has (Know.recs (.slice q l.length cap) l)) (h : St W0 w K L) :
  Calls Tryz.prog 7 #[.agg #[.int .i64 b.base, .int .i64 b.leader, .bool b.app, .bool b.txn, .bool b.ctl, .int .i64 b.last, .int .i64 b.first, .int .i64 b.maxt, .int .i64 b.prod, .int .i64 b.epoch, .int .i64 b.seq, .slice q l.length cap]] w fun en w' => en = .returned (.string (bb s)) ∧ St W0 w' K L := by
 obtain ⟨hb, hhb⟩ : ∃ b, w.heap.size = b := ⟨_, rfl⟩
 have h1 := h.allocRaw #[.int .i64 b.base, .int .i64 b.leader, .bool b.app, .bool b.txn, .bool b.ctl, .int .i64 b.last, .int .i64 b.first, .int .i64 b.maxt, .int .i64 b.prod, .int .i64 b.epoch, .int .i64 b.seq, .slice q l.length cap] 26
 rw [hhb] at h1
 obtain ⟨x0, x1, x2, x3, x4, x5, x6, x7, x8, x9, x10, x11, y0, y1, y2, y3, y4, y5, y6, y7, y8, y9, y10, y11⟩ := raw12 (b := hb) (h1)
 have H := Lib.hid h1
 have HK := Lib.hid hk
 have hrn := so.rows
 have hre : encAll l = b.rowsB := by rw [encAll_rows, hl]; rfl
 obtain ⟨rows, hrows⟩ : ∃ r, b.rowsB = r := ⟨_, rfl⟩
 have hcr := b.crc_lt
 have hln := so.len
 obtain ⟨at_, hat⟩ : ∃ a, attrN b.app b.txn b.ctl 3 = a := ⟨_, rfl⟩
 obtain ⟨x, hx⟩ : ∃ x, b.crc = x := ⟨_, rfl⟩
 obtain ⟨said0, hs0⟩ : ∃ t, encInts (b.pre 0).items = t := ⟨_, rfl⟩
 obtain ⟨said1, hs1⟩ : ∃ t, encInts (b.pre x).items = t := ⟨_, rfl⟩
 obtain ⟨all0, ha0⟩ : ∃ t, b.back ++ b.rowsB = t := ⟨_, rfl⟩
 have hbl : b.back.length = 40 := by unfold BatS.back; rw [encInts_length]; rfl
 obtain ⟨back, hbk⟩ : ∃ t, b.back = t := ⟨_, rfl⟩
 have hl0 : said0.length = 61 := by rw [← hs0]; exact items_len _
 have hl1 : said1.length = 61 := by rw [← hs1]; exact items_len _
 have HRW := Lib.hid hrows
 have HN := Lib.hid (show b.recs.length = l.length by rw [← hl, List.length_map])
 have AT := Lib.hid hat
 have HS0 := Lib.hid hs0
 have HS1 := Lib.hid hs1
 have HF0 := Lib.hid (BatS.fitsAll so.err so.rng 0 (by omega) (by omega) (by omega))
 have HR0 := Lib.hid (BatS.pre_R so.err so.rng 0 (by omega) (by omega) (by omega))
 have HF1 := Lib.hid (BatS.fitsAll so.err so.rng x (by omega) (by omega) (by omega))
 have HR1 := Lib.hid (BatS.pre_R so.err so.rng x (by omega) (by omega) (by omega))
 have HX := Lib.hid (show (crcMore 0#32 all0).toNat = x by rw [← ha0, ← hx]; rfl)
 have HA0 := Lib.hid (show all0.length ≤ 1000000 by rw [← ha0, List.length_append]; omega)
 have hT : List.take (said0.length - 21) (List.drop 21 said0) = back := by
  rw [List.take_of_length_le (by rw [List.length_drop]; omega), ← hs0, b.pre_drop, hbk]
 have hcat0 : bb back ++ bb rows = bb all0 := by rw [← ha0, ← hbk, ← hrows]; exact bb_append _ _
 have hcat1 : bb said1 ++ bb rows = bb s := by
  rw [← hs, ← hs1, ← hrows, ← hx]; exact bb_append _ _
 have hrl : rows.length ≤ 400000 := by rw [← hrows]; exact hrn
 have hg0 : ¬ (9223372036854775807 < back.length + rows.length) := by rw [← hbk]; omega
 have hg1 : ¬ (9223372036854775807 < said1.length + rows.length) := by omega
 have l21 : (21 : Int) ≤ (said0.length : Int) := by omega
 have l21' : 21 ≤ said0.length := by omega
 have hne : ¬ (said0 = []) := by intro hh; rw [hh] at hl0; simp at hl0
 have w1 : IntKind.i64.wrap (49 + (rows.length : Int)) = 49 + (rows.length : Int) := IntWalk.i64_in _ (by omega)
 have w1' : wrap64 (49 + (rows.length : Int)) = 49 + (rows.length : Int) := by unfold wrap64; omega
 have w2 : IntKind.i64.wrap (x : Int) = (x : Int) := IntWalk.i64_in _ (by omega)
 have w2' : wrap64 (x : Int) = (x : Int) := by unfold wrap64; omega
 have HRE := Lib.hid (hre.trans hrows)
 have HXS := Lib.hid (show ∀ y ∈ l, y.1.R ∧ y.1.sum ≤ 1000000 from fun y hy => by
  have hm : y.1 ∈ b.recs := hl ▸ List.mem_map_of_mem hy
  have := so.recs y.1 hm
  exact ⟨this.1, this.2.2⟩)
 have HLN := Lib.hid (show l.length ≤ 12 by have h9 := congrArg List.length hl; rw [List.length_map] at h9; omega)
 have HRN := Lib.hid hrl
 clear h h1 hk hrn hre hrows hcr hln hat hx hs0 hs1 ha0 hbl hbk hl0 hl1 hl hs so
 have HG0 := Lib.hid (And.intro hT (And.intro hcat0 (And.intro hg0 (And.intro l21 (And.intro l21' hne)))))
 have HG1 := Lib.hid (And.intro hcat1 hg1)
 have HW := Lib.hid (And.intro w1 (And.intro w1' (And.intro w2 w2')))
 clear hT hcat0 hg0 l21 l21' hne hcat1 hg1 w1 w1' w2 w2' hrl
 go_enter Tryz.func7, Tryz.ntmps7
 go_wp2
 go_loopw [3, 4] (fun sv iv wr => ∃ k : Nat, k ≤ l.length ∧ iv = .int .i64 k ∧ sv = .string (bb (encAll (l.take k))) ∧ St W0 wr K (.raw hb #[.int .i64 b.base, .int .i64 b.leader, .bool b.app, .bool b.txn, .bool b.ctl, .int .i64 b.last, .int .i64 b.first, .int .i64 b.maxt, .int .i64 b.prod, .int .i64 b.epoch, .int .i64 b.seq, .slice q l.length cap] 26 :: L)) (fun _ iv _ => l.length - (intOf iv).toNat)
 case atStart => exact ⟨0, Nat.zero_le _, rfl, rfl, H.out⟩
 case round =>
  obtain ⟨k, hkl, rfl, rfl, hst⟩ := hrel
  clear H x0 x1 x2 x3 x4 x5 x6 x7 x8 x9 x10 x11 y0 y1 y2 y3 y4 y5 y6 y7 y8 y9 y10 y11
  have H := Lib.hid hst
  clear hst
  by_cases hlt : k < l.length
  · as_aux_lemma =>
    have het := encAll_take l k hlt
    have hpl : (encAll (l.take k)).length ≤ rows.length := by
     rw [← HRE.out]
     conv => rhs; rw [← List.take_append_drop k l]
     unfold encAll
     rw [List.flatMap_append, List.length_append]
     omega
    have hpl2 : (encAll (l.take (k + 1))).length ≤ rows.length := by
     rw [← HRE.out]
     conv => rhs; rw [← List.take_append_drop (k + 1) l]
     unfold encAll
     rw [List.flatMap_append, List.length_append]
     omega
    obtain ⟨b0, off, hqq⟩ := recs_at HK.out H.out (by omega)
    subst hqq
    obtain ⟨⟨x, vx⟩, hx⟩ : ∃ x, l[k] = x := ⟨_, rfl⟩
    have cc := recs_cell HK.out H.out k hlt (x, vx) hx
    have hmem : (x, vx) ∈ l := hx ▸ List.getElem_mem hlt
    have XF := HXS.out (x, vx) hmem
    have XF1 := Lib.hid XF.1
    have XF2 := Lib.hid XF.2
    clear XF
    have xk : K.has (Know.flat RHdr vx 3 x.hdrs) := recs_hdrs HK.out hmem
    obtain ⟨qx, capx, hvx⟩ := flat_form xk H.out
    subst hvx
    have XK := Lib.hid xk
    simp only at cc
    obtain ⟨c0, c1, c2, c3, c4, c5, c6⟩ := cc
    rw [← Nat.add_assoc] at c1 c2 c3 c4 c5 c6
    obtain ⟨sx, hsx⟩ : ∃ t, encR x = t := ⟨_, rfl⟩
    have HSX := Lib.hid hsx
    rw [hx] at het
    simp only [hsx] at het
    obtain ⟨pre, hpre⟩ : ∃ t, encAll (l.take k) = t := ⟨_, rfl⟩
    obtain ⟨nxt, hnxt⟩ : ∃ t, encAll (l.take (k + 1)) = t := ⟨_, rfl⟩
    rw [hpre] at het hpl ⊢
    rw [hnxt] at het hpl2
    have HNXT := Lib.hid hnxt
    have hcat : bb pre ++ bb sx = bb nxt := by rw [het]; exact bb_append _ _
    have hg : ¬ (9223372036854775807 < pre.length + sx.length) := by
     have h1 := HRN.out
     have h2 := congrArg List.length het
     rw [List.length_append] at h2
     omega
    have hki : (k : Int) < (l.length : Int) := by omega
    have hl12 : (l.length : Int) ≤ 12 := by have := HLN.out; omega
    obtain ⟨x0, x1, x2, x3, x4, x5, x6, x7, x8, x9, x10, x11, y0, y1, y2, y3, y4, y5, y6, y7, y8, y9, y10, y11⟩ := raw12 (b := hb) (H.out)
    clear xk hmem hx hsx het hpl hpl2 hpre hnxt
    go_wp2_with (go_at_call 21; (with_reducible refine (ref07_write x (.slice qx x.hdrs.length capx) sx HSX.out XF1.out XF2.out XK.out H.out).mono ?_); rintro e_ wn ⟨rfl, h⟩; replace H := Lib.hid h; clear h)
    go_roundw
    case rel => exact ⟨k + 1, hlt, by go_num, by rw [HNXT.out], H.out⟩
    case measure => first | (simp [intOf]; done) | (simp [intOf]; omega)
  · obtain rfl : k = l.length := by omega
    rw [List.take_length, HRE.out]
    have w1 := HW.out.1
    obtain ⟨x0, x1, x2, x3, x4, x5, x6, x7, x8, x9, x10, x11, y0, y1, y2, y3, y4, y5, y6, y7, y8, y9, y10, y11⟩ := raw12 (b := hb) (H.out)
    go_upto_region 6 with (fail)
    clear x0 x1 x2 x3 x4 x5 x6 x7 x8 x9 x10 x11 y0 y1 y2 y3 y4 y5 y6 y7 y8 y9 y10 y11
    go_cut [5] (fun s5 wx => s5 = .string (bb said0) ∧ St W0 wx K (.raw hb #[.int .i64 b.base, .int .i64 b.leader, .bool b.app, .bool b.txn, .bool b.ctl, .int .i64 b.last, .int .i64 b.first, .int .i64 b.maxt, .int .i64 b.prod, .int .i64 b.epoch, .int .i64 b.seq, .slice q l.length cap] 26 :: L))
    case first =>
     as_aux_lemma =>
     have hs := H.out.drew
     refine wp_region_held_drew (S := fun w' => w'.cell? ⟨hb, 0, none⟩ = some (.int .i64 b.base) ∧ w'.cell? ⟨hb, 1, none⟩ = some (.int .i64 b.leader) ∧ w'.cell? ⟨hb, 2, none⟩ = some (.bool b.app) ∧ w'.cell? ⟨hb, 3, none⟩ = some (.bool b.txn) ∧ w'.cell? ⟨hb, 4, none⟩ = some (.bool b.ctl) ∧ w'.cell? ⟨hb, 5, none⟩ = some (.int .i64 b.last) ∧ w'.cell? ⟨hb, 6, none⟩ = some (.int .i64 b.first) ∧ w'.cell? ⟨hb, 7, none⟩ = some (.int .i64 b.maxt) ∧ w'.cell? ⟨hb, 8, none⟩ = some (.int .i64 b.prod) ∧ w'.cell? ⟨hb, 9, none⟩ = some (.int .i64 b.epoch) ∧ w'.cell? ⟨hb, 10, none⟩ = some (.int .i64 b.seq) ∧ w'.cell? ⟨hb, 11, none⟩ = some (.slice q l.length cap)) (by kernel_rfl) (let ⟨x0, x1, x2, x3, x4, x5, x6, x7, x8, x9, x10, x11, _⟩ := raw12 (b := hb) (hs); ⟨x0, x1, x2, x3, x4, x5, x6, x7, x8, x9, x10, x11⟩) (fun hHeld => ?_)
     refine tQ 0 ⟨some 26, .fieldAddr 26 (.tmp 1) 0, 0, "ref.go:116", #[], none⟩ ?_; simp only [Act.put, sA, sB, sC]
     refine tQ 1 ⟨some 27, .load 3 (.tmp 26), 3, "ref.go:116", #[.mk 0 .data], none⟩ ?_; simp only [Act.put, sA, sB, sC]
     refine tQ 2 ⟨some 28, .move (.tmp 3), 9, "ref.go:116", #[], none⟩ ?_; simp only [Act.put, sA, sB, sC]
     refine tQ 3 ⟨some 29, .call { callee := .builtin .len, args := #[.tmp 28], argTypes := #[9] }, 3, "ref.go:116", #[.mk 2 .data], none⟩ ?_; simp only [Act.put, sA, sB, sC]
     refine tQ 4 ⟨some 30, .binOp .add 3 (.const (Value.int IntKind.i64 49)) (.tmp 29) 3, 3, "ref.go:116", #[.mk 3 .data], none⟩ ?_; simp only [Act.put, sA, sB, sC]
     refine tQ 5 ⟨some 31, .fieldAddr 26 (.tmp 1) 1, 0, "ref.go:116", #[], none⟩ ?_; simp only [Act.put, sA, sB, sC]
     refine tQ 6 ⟨some 32, .load 3 (.tmp 31), 3, "ref.go:116", #[.mk 5 .data], none⟩ ?_; simp only [Act.put, sA, sB, sC]
     refine tQ 7 ⟨some 33, .load 26 (.tmp 1), 26, "ref.go:116", #[], none⟩ ?_; simp only [Act.put, sA, sB, sC]
     refine tQ 9 ⟨some 35, .fieldAddr 26 (.tmp 1) 5, 0, "ref.go:116", #[], none⟩ ?_; simp only [Act.put, sA, sB, sC]
     refine tQ 10 ⟨some 36, .load 3 (.tmp 35), 3, "ref.go:116", #[.mk 9 .data], none⟩ ?_; simp only [Act.put, sA, sB, sC]
     refine tQ 11 ⟨some 37, .fieldAddr 26 (.tmp 1) 6, 0, "ref.go:116", #[], none⟩ ?_; simp only [Act.put, sA, sB, sC]
     refine tQ 12 ⟨some 38, .load 3 (.tmp 37), 3, "ref.go:116", #[.mk 11 .data], none⟩ ?_; simp only [Act.put, sA, sB, sC]
     refine tQ 13 ⟨some 39, .fieldAddr 26 (.tmp 1) 7, 0, "ref.go:116", #[], none⟩ ?_; simp only [Act.put, sA, sB, sC]
     refine tQ 14 ⟨some 40, .load 3 (.tmp 39), 3, "ref.go:116", #[.mk 13 .data], none⟩ ?_; simp only [Act.put, sA, sB, sC]
     refine tQ 15 ⟨some 41, .fieldAddr 26 (.tmp 1) 8, 0, "ref.go:116", #[], none⟩ ?_; simp only [Act.put, sA, sB, sC]
     refine tQ 16 ⟨some 42, .load 3 (.tmp 41), 3, "ref.go:116", #[.mk 15 .data], none⟩ ?_; simp only [Act.put, sA, sB, sC]
     refine tQ 17 ⟨some 43, .fieldAddr 26 (.tmp 1) 9, 0, "ref.go:116", #[], none⟩ ?_; simp only [Act.put, sA, sB, sC]
     refine tQ 18 ⟨some 44, .load 3 (.tmp 43), 3, "ref.go:116", #[.mk 17 .data], none⟩ ?_; simp only [Act.put, sA, sB, sC]
     refine tQ 19 ⟨some 45, .fieldAddr 26 (.tmp 1) 10, 0, "ref.go:116", #[], none⟩ ?_; simp only [Act.put, sA, sB, sC]
     refine tQ 20 ⟨some 46, .load 3 (.tmp 45), 3, "ref.go:116", #[.mk 19 .data], none⟩ ?_; simp only [Act.put, sA, sB, sC]
     refine tQ 21 ⟨some 47, .fieldAddr 26 (.tmp 1) 11, 0, "ref.go:116", #[], none⟩ ?_; simp only [Act.put, sA, sB, sC]
     refine tQ 22 ⟨some 48, .load 24 (.tmp 47), 24, "ref.go:116", #[.mk 21 .data], none⟩ ?_; simp only [Act.put, sA, sB, sC]
     refine tQ 23 ⟨some 49, .call { callee := .builtin .len, args := #[.tmp 48], argTypes := #[24] }, 3, "ref.go:116", #[.mk 22 .data], none⟩ ?_; simp only [Act.put, sA, sB, sC]
     refine wpAnyH_ready (rs := [8]) (by kernel_rfl) (by simp) (AllReadyH.cons (o := ⟨some 34, .call { callee := .value (.func 23), args := #[.tmp 33], argTypes := #[26] }, 3, "ref.go:116", #[.mk 7 .data], none⟩) rfl (fun KK hK => ?_) AllReadyH.nil)
     · go_simp
       go_at_call 23
       with_reducible refine (ref11_attr b.base b.leader b.app b.txn b.ctl b.last b.first b.maxt b.prod b.epoch b.seq (.slice q l.length cap) at_ AT.out hs).mono ?_
       rintro e wq ⟨rfl, hs⟩
       refine hK.out _ _ (let ⟨x0, x1, x2, x3, x4, x5, x6, x7, x8, x9, x10, x11, _⟩ := raw12 (b := hb) (hs); ⟨x0, x1, x2, x3, x4, x5, x6, x7, x8, x9, x10, x11⟩) (fun hHeld => ?_)
       clear hK KK
       try simp only [Act.put, sA, sB, sC]
       refine wpAnyH_ready (rs := [24]) (by kernel_rfl) (by simp) (AllReadyH.cons (o := ⟨some 50, .buildSlice 62 12 #[(0, .tmp 27), (1, .tmp 30), (2, .tmp 32), (3, .const (Value.int IntKind.i64 0)), (4, .tmp 34), (5, .tmp 36), (6, .tmp 38), (7, .tmp 40), (8, .tmp 42), (9, .tmp 44), (10, .tmp 46), (11, .tmp 49)], 62, "ref.go:116", #[.mk 1 .data, .mk 4 .data, .mk 6 .data, .mk 8 .data, .mk 10 .data, .mk 12 .data, .mk 14 .data, .mk 16 .data, .mk 18 .data, .mk 20 .data, .mk 23 .data], none⟩) rfl (fun KK hK => ?_) AllReadyH.nil)
       · rw [if_pos (by rfl)]
         refine wp_op_value (v := .slice (some ⟨wq.heap.size, 0, none⟩) 12 12) (w' := wq.alloc (.cells #[.int .i64 b.base, .int .i64 (49 + rows.length), .int .i64 b.leader, .int .i64 0, .int .i64 at_, .int .i64 b.last, .int .i64 b.first, .int .i64 b.maxt, .int .i64 b.prod, .int .i64 b.epoch, .int .i64 b.seq, .int .i64 l.length] 3 (0, 0))) (exec_build #[(0, .int .i64 b.base), (1, .int .i64 (49 + rows.length)), (2, .int .i64 b.leader), (3, .int .i64 0), (4, .int .i64 at_), (5, .int .i64 b.last), (6, .int .i64 b.first), (7, .int .i64 b.maxt), (8, .int .i64 b.prod), (9, .int .i64 b.epoch), (10, .int .i64 b.seq), (11, .int .i64 l.length)] _ _ _ (by kernel_rfl) (build12 ( b.base) ( (49 + rows.length)) ( b.leader) ( 0) ( at_) ( b.last) ( b.first) ( b.maxt) ( b.prod) ( b.epoch) ( b.seq) ( l.length) wq)) ?_
         obtain ⟨wy, bS, ey, eb, hs⟩ := hs.allocEx #[.int .i64 b.base, .int .i64 (49 + rows.length), .int .i64 b.leader, .int .i64 0, .int .i64 at_, .int .i64 b.last, .int .i64 b.first, .int .i64 b.maxt, .int .i64 b.prod, .int .i64 b.epoch, .int .i64 b.seq, .int .i64 l.length] 3
         rw [ey, eb]
         clear ey eb
         refine hK.out _ _ (let ⟨x0, x1, x2, x3, x4, x5, x6, x7, x8, x9, x10, x11, _⟩ := raw12 (b := hb) (hs.p1); ⟨x0, x1, x2, x3, x4, x5, x6, x7, x8, x9, x10, x11⟩) (fun hHeld => ?_)
         clear hK KK
         try simp only [Act.put, sA, sB, sC]
         refine wpAnyH_ready (rs := [25]) (by kernel_rfl) (by simp) (AllReadyH.cons (o := ⟨some 51, .call { callee := .value (.func 22), args := #[.tmp 50], argTypes := #[62] }, 60, "ref.go:116", #[.mk 24 .data, .mk 8 .chain], none⟩) rfl (fun KK hK => ?_) AllReadyH.nil)
         · go_simp
           go_at_call 22
           with_reducible refine (ref10_pre bS b 0 rows HRW.out at_ AT.out l.length HN.out said0 HS0.out HF0.out HR0.out hs).mono ?_
           rintro e wq ⟨rfl, hs⟩
           refine hK.out _ _ (let ⟨x0, x1, x2, x3, x4, x5, x6, x7, x8, x9, x10, x11, _⟩ := raw12 (b := hb) (hs.p1); ⟨x0, x1, x2, x3, x4, x5, x6, x7, x8, x9, x10, x11⟩) (fun hHeld => ?_)
           clear hK KK
           try simp only [Act.put, sA, sB, sC]
           have hs := hs.drop
           refine tQ 26 ⟨some 25, .move (.tmp 51), 60, "ref.go:116", #[.mk 25 .data], none⟩ ?_; simp only [Act.put, sA, sB, sC]
           refine tQ 27 ⟨some 52, .extract (.tmp 25) 0, 9, "ref.go:116", #[.mk 26 .data], none⟩ ?_; simp only [Act.put, sA, sB, sC]
           refine tQ 28 ⟨some 53, .extract (.tmp 25) 1, 4, "ref.go:116", #[.mk 26 .data, { on := 29, ground := Ground.gcOnly Departure.lateStores }], none⟩ ?_; simp only [Act.put, sA, sB, sC]
           refine tQ 29 ⟨some 5, .assign (.tmp 52), 9, "ref.go:116", #[.mk 27 .data, .mk 25 .chain, .mk 0 .phase, .mk 1 .phase, .mk 2 .phase, .mk 3 .phase, .mk 4 .phase, .mk 5 .phase, .mk 6 .phase, .mk 7 .phase, .mk 8 .phase, .mk 9 .phase, .mk 10 .phase, .mk 11 .phase, .mk 12 .phase, .mk 13 .phase, .mk 14 .phase, .mk 15 .phase, .mk 16 .phase, .mk 17 .phase, .mk 18 .phase, .mk 19 .phase, .mk 20 .phase, .mk 21 .phase, .mk 22 .phase, .mk 23 .phase, .mk 24 .phase, .mk 25 .phase, .mk 26 .phase, .mk 27 .phase, { on := 28, ground := Ground.textOnly Departure.lateStores }], none⟩ ?_; simp only [Act.put, sA, sB, sC]
           refine tQ 30 ⟨some 6, .assign (.tmp 53), 4, "ref.go:116", #[.mk 28 .data, .mk 29 .chain, .mk 0 .phase, .mk 1 .phase, .mk 2 .phase, .mk 3 .phase, .mk 4 .phase, .mk 5 .phase, .mk 6 .phase, .mk 7 .phase, .mk 8 .phase, .mk 9 .phase, .mk 10 .phase, .mk 11 .phase, .mk 12 .phase, .mk 13 .phase, .mk 14 .phase, .mk 15 .phase, .mk 16 .phase, .mk 17 .phase, .mk 18 .phase, .mk 19 .phase, .mk 20 .phase, .mk 21 .phase, .mk 22 .phase, .mk 23 .phase, .mk 24 .phase, .mk 25 .phase, .mk 26 .phase, .mk 27 .phase, .mk 28 .phase, .mk 29 .phase], none⟩ ?_; simp only [Act.put, sA, sB, sC]
           refine wpAnyH_done (by kernel_rfl) ?_ _
           clear hHeld
           go_wp2_with fail
           go_meet
           exact ⟨rfl, hs⟩
    case rest =>
     obtain ⟨rfl, h⟩ := hcut
     clear H
     have H := Lib.hid h
     clear h
     obtain ⟨hT, hcat0, hg0, l21, l21', hne⟩ := HG0.out
     have w2 := HW.out.2.2.1
     go_upto_region 8 with (go_at_call 24; (with_reducible refine (ref05_sumX all0 HA0.out x HX.out H.out).mono ?_); rintro e_ wn ⟨rfl, h⟩; replace H := Lib.hid h; clear h)
     clear w2 hT hcat0 hg0 l21 l21' hne
     go_cut [8] (fun s8 wx => s8 = .string (bb said1) ∧ St W0 wx K (.raw hb #[.int .i64 b.base, .int .i64 b.leader, .bool b.app, .bool b.txn, .bool b.ctl, .int .i64 b.last, .int .i64 b.first, .int .i64 b.maxt, .int .i64 b.prod, .int .i64 b.epoch, .int .i64 b.seq, .slice q l.length cap] 26 :: L))
     case first =>
       have hs := H.out.drew
       refine wp_region_held_drew (S := fun w' => w'.cell? ⟨hb, 0, none⟩ = some (.int .i64 b.base) ∧ w'.cell? ⟨hb, 1, none⟩ = some (.int .i64 b.leader) ∧ w'.cell? ⟨hb, 2, none⟩ = some (.bool b.app) ∧ w'.cell? ⟨hb, 3, none⟩ = some (.bool b.txn) ∧ w'.cell? ⟨hb, 4, none⟩ = some (.bool b.ctl) ∧ w'.cell? ⟨hb, 5, none⟩ = some (.int .i64 b.last) ∧ w'.cell? ⟨hb, 6, none⟩ = some (.int .i64 b.first) ∧ w'.cell? ⟨hb, 7, none⟩ = some (.int .i64 b.maxt) ∧ w'.cell? ⟨hb, 8, none⟩ = some (.int .i64 b.prod) ∧ w'.cell? ⟨hb, 9, none⟩ = some (.int .i64 b.epoch) ∧ w'.cell? ⟨hb, 10, none⟩ = some (.int .i64 b.seq) ∧ w'.cell? ⟨hb, 11, none⟩ = some (.slice q l.length cap)) (by kernel_rfl) (let ⟨x0, x1, x2, x3, x4, x5, x6, x7, x8, x9, x10, x11, _⟩ := raw12 (b := hb) (hs); ⟨x0, x1, x2, x3, x4, x5, x6, x7, x8, x9, x10, x11⟩) (fun hHeld => ?_)
       refine tQ 0 ⟨some 61, .fieldAddr 26 (.tmp 1) 0, 0, "ref.go:118", #[], none⟩ ?_; simp only [Act.put, sA, sB, sC]
       refine tQ 1 ⟨some 62, .load 3 (.tmp 61), 3, "ref.go:118", #[.mk 0 .data], none⟩ ?_; simp only [Act.put, sA, sB, sC]
       refine tQ 2 ⟨some 63, .move (.tmp 3), 9, "ref.go:118", #[], none⟩ ?_; simp only [Act.put, sA, sB, sC]
       refine tQ 3 ⟨some 64, .call { callee := .builtin .len, args := #[.tmp 63], argTypes := #[9] }, 3, "ref.go:118", #[.mk 2 .data], none⟩ ?_; simp only [Act.put, sA, sB, sC]
       refine tQ 4 ⟨some 65, .binOp .add 3 (.const (Value.int IntKind.i64 49)) (.tmp 64) 3, 3, "ref.go:118", #[.mk 3 .data], none⟩ ?_; simp only [Act.put, sA, sB, sC]
       refine tQ 5 ⟨some 66, .fieldAddr 26 (.tmp 1) 1, 0, "ref.go:118", #[], none⟩ ?_; simp only [Act.put, sA, sB, sC]
       refine tQ 6 ⟨some 67, .load 3 (.tmp 66), 3, "ref.go:118", #[.mk 5 .data], none⟩ ?_; simp only [Act.put, sA, sB, sC]
       refine tQ 7 ⟨some 68, .move (.tmp 7), 3, "ref.go:118", #[], none⟩ ?_; simp only [Act.put, sA, sB, sC]
       refine tQ 8 ⟨some 69, .load 26 (.tmp 1), 26, "ref.go:118", #[], none⟩ ?_; simp only [Act.put, sA, sB, sC]
       refine tQ 10 ⟨some 71, .fieldAddr 26 (.tmp 1) 5, 0, "ref.go:118", #[], none⟩ ?_; simp only [Act.put, sA, sB, sC]
       refine tQ 11 ⟨some 72, .load 3 (.tmp 71), 3, "ref.go:118", #[.mk 10 .data], none⟩ ?_; simp only [Act.put, sA, sB, sC]
       refine tQ 12 ⟨some 73, .fieldAddr 26 (.tmp 1) 6, 0, "ref.go:118", #[], none⟩ ?_; simp only [Act.put, sA, sB, sC]
       refine tQ 13 ⟨some 74, .load 3 (.tmp 73), 3, "ref.go:118", #[.mk 12 .data], none⟩ ?_; simp only [Act.put, sA, sB, sC]
       refine tQ 14 ⟨some 75, .fieldAddr 26 (.tmp 1) 7, 0, "ref.go:118", #[], none⟩ ?_; simp only [Act.put, sA, sB, sC]
       refine tQ 15 ⟨some 76, .load 3 (.tmp 75), 3, "ref.go:118", #[.mk 14 .data], none⟩ ?_; simp only [Act.put, sA, sB, sC]
       refine tQ 16 ⟨some 77, .fieldAddr 26 (.tmp 1) 8, 0, "ref.go:118", #[], none⟩ ?_; simp only [Act.put, sA, sB, sC]
       refine tQ 17 ⟨some 78, .load 3 (.tmp 77), 3, "ref.go:118", #[.mk 16 .data], none⟩ ?_; simp only [Act.put, sA, sB, sC]
       refine tQ 18 ⟨some 79, .fieldAddr 26 (.tmp 1) 9, 0, "ref.go:118", #[], none⟩ ?_; simp only [Act.put, sA, sB, sC]
       refine tQ 19 ⟨some 80, .load 3 (.tmp 79), 3, "ref.go:118", #[.mk 18 .data], none⟩ ?_; simp only [Act.put, sA, sB, sC]
       refine tQ 20 ⟨some 81, .fieldAddr 26 (.tmp 1) 10, 0, "ref.go:118", #[], none⟩ ?_; simp only [Act.put, sA, sB, sC]
       refine tQ 21 ⟨some 82, .load 3 (.tmp 81), 3, "ref.go:118", #[.mk 20 .data], none⟩ ?_; simp only [Act.put, sA, sB, sC]
       refine tQ 22 ⟨some 83, .fieldAddr 26 (.tmp 1) 11, 0, "ref.go:118", #[], none⟩ ?_; simp only [Act.put, sA, sB, sC]
       refine tQ 23 ⟨some 84, .load 24 (.tmp 83), 24, "ref.go:118", #[.mk 22 .data], none⟩ ?_; simp only [Act.put, sA, sB, sC]
       refine tQ 24 ⟨some 85, .call { callee := .builtin .len, args := #[.tmp 84], argTypes := #[24] }, 3, "ref.go:118", #[.mk 23 .data], none⟩ ?_; simp only [Act.put, sA, sB, sC]
       refine wpAnyH_ready (rs := [9]) (by kernel_rfl) (by simp) (AllReadyH.cons (o := ⟨some 70, .call { callee := .value (.func 23), args := #[.tmp 69], argTypes := #[26] }, 3, "ref.go:118", #[.mk 8 .data], none⟩) rfl (fun KK hK => ?_) AllReadyH.nil)
       · go_simp
         go_at_call 23
         with_reducible refine (ref11_attr b.base b.leader b.app b.txn b.ctl b.last b.first b.maxt b.prod b.epoch b.seq (.slice q l.length cap) at_ AT.out hs).mono ?_
         rintro e wq ⟨rfl, hs⟩
         refine hK.out _ _ (let ⟨x0, x1, x2, x3, x4, x5, x6, x7, x8, x9, x10, x11, _⟩ := raw12 (b := hb) (hs); ⟨x0, x1, x2, x3, x4, x5, x6, x7, x8, x9, x10, x11⟩) (fun hHeld => ?_)
         clear hK KK
         try simp only [Act.put, sA, sB, sC]
         refine wpAnyH_ready (rs := [25]) (by kernel_rfl) (by simp) (AllReadyH.cons (o := ⟨some 86, .buildSlice 62 12 #[(0, .tmp 62), (1, .tmp 65), (2, .tmp 67), (3, .tmp 68), (4, .tmp 70), (5, .tmp 72), (6, .tmp 74), (7, .tmp 76), (8, .tmp 78), (9, .tmp 80), (10, .tmp 82), (11, .tmp 85)], 62, "ref.go:118", #[.mk 1 .data, .mk 4 .data, .mk 6 .data, .mk 7 .data, .mk 9 .data, .mk 11 .data, .mk 13 .data, .mk 15 .data, .mk 17 .data, .mk 19 .data, .mk 21 .data, .mk 24 .data], none⟩) rfl (fun KK hK => ?_) AllReadyH.nil)
         · rw [if_pos (by rfl)]
           refine wp_op_value (v := .slice (some ⟨wq.heap.size, 0, none⟩) 12 12) (w' := wq.alloc (.cells #[.int .i64 b.base, .int .i64 (49 + rows.length), .int .i64 b.leader, .int .i64 (x : Int), .int .i64 at_, .int .i64 b.last, .int .i64 b.first, .int .i64 b.maxt, .int .i64 b.prod, .int .i64 b.epoch, .int .i64 b.seq, .int .i64 l.length] 3 (0, 0))) (exec_build #[(0, .int .i64 b.base), (1, .int .i64 (49 + rows.length)), (2, .int .i64 b.leader), (3, .int .i64 (x : Int)), (4, .int .i64 at_), (5, .int .i64 b.last), (6, .int .i64 b.first), (7, .int .i64 b.maxt), (8, .int .i64 b.prod), (9, .int .i64 b.epoch), (10, .int .i64 b.seq), (11, .int .i64 l.length)] _ _ _ (by kernel_rfl) (build12 ( b.base) ( (49 + rows.length)) ( b.leader) ( (x : Int)) ( at_) ( b.last) ( b.first) ( b.maxt) ( b.prod) ( b.epoch) ( b.seq) ( l.length) wq)) ?_
           obtain ⟨wy, bS, ey, eb, hs⟩ := hs.allocEx #[.int .i64 b.base, .int .i64 (49 + rows.length), .int .i64 b.leader, .int .i64 (x : Int), .int .i64 at_, .int .i64 b.last, .int .i64 b.first, .int .i64 b.maxt, .int .i64 b.prod, .int .i64 b.epoch, .int .i64 b.seq, .int .i64 l.length] 3
           rw [ey, eb]
           clear ey eb
           refine hK.out _ _ (let ⟨x0, x1, x2, x3, x4, x5, x6, x7, x8, x9, x10, x11, _⟩ := raw12 (b := hb) (hs.p1); ⟨x0, x1, x2, x3, x4, x5, x6, x7, x8, x9, x10, x11⟩) (fun hHeld => ?_)
           clear hK KK
           try simp only [Act.put, sA, sB, sC]
           refine wpAnyH_ready (rs := [26]) (by kernel_rfl) (by simp) (AllReadyH.cons (o := ⟨some 87, .call { callee := .value (.func 22), args := #[.tmp 86], argTypes := #[62] }, 60, "ref.go:118", #[.mk 25 .data, .mk 9 .chain], none⟩) rfl (fun KK hK => ?_) AllReadyH.nil)
           · go_simp
             go_at_call 22
             with_reducible refine (ref10_pre bS b (x : Int) rows HRW.out at_ AT.out l.length HN.out said1 HS1.out HF1.out HR1.out hs).mono ?_
             rintro e wq ⟨rfl, hs⟩
             refine hK.out _ _ (let ⟨x0, x1, x2, x3, x4, x5, x6, x7, x8, x9, x10, x11, _⟩ := raw12 (b := hb) (hs.p1); ⟨x0, x1, x2, x3, x4, x5, x6, x7, x8, x9, x10, x11⟩) (fun hHeld => ?_)
             clear hK KK
             try simp only [Act.put, sA, sB, sC]
             have hs := hs.drop
             refine tQ 27 ⟨some 60, .move (.tmp 87), 60, "ref.go:118", #[.mk 26 .data], none⟩ ?_; simp only [Act.put, sA, sB, sC]
             refine tQ 28 ⟨some 88, .extract (.tmp 60) 0, 9, "ref.go:118", #[.mk 27 .data], none⟩ ?_; simp only [Act.put, sA, sB, sC]
             refine tQ 29 ⟨some 89, .extract (.tmp 60) 1, 4, "ref.go:118", #[.mk 27 .data, { on := 30, ground := Ground.gcOnly Departure.lateStores }], none⟩ ?_; simp only [Act.put, sA, sB, sC]
             refine tQ 30 ⟨some 8, .assign (.tmp 88), 9, "ref.go:118", #[.mk 28 .data, .mk 26 .chain, .mk 0 .phase, .mk 1 .phase, .mk 2 .phase, .mk 3 .phase, .mk 4 .phase, .mk 5 .phase, .mk 6 .phase, .mk 7 .phase, .mk 8 .phase, .mk 9 .phase, .mk 10 .phase, .mk 11 .phase, .mk 12 .phase, .mk 13 .phase, .mk 14 .phase, .mk 15 .phase, .mk 16 .phase, .mk 17 .phase, .mk 18 .phase, .mk 19 .phase, .mk 20 .phase, .mk 21 .phase, .mk 22 .phase, .mk 23 .phase, .mk 24 .phase, .mk 25 .phase, .mk 26 .phase, .mk 27 .phase, .mk 28 .phase, { on := 29, ground := Ground.textOnly Departure.lateStores }], none⟩ ?_; simp only [Act.put, sA, sB, sC]
             refine tQ 31 ⟨some 9, .assign (.tmp 89), 4, "ref.go:118", #[.mk 29 .data, .mk 30 .chain, .mk 0 .phase, .mk 1 .phase, .mk 2 .phase, .mk 3 .phase, .mk 4 .phase, .mk 5 .phase, .mk 6 .phase, .mk 7 .phase, .mk 8 .phase, .mk 9 .phase, .mk 10 .phase, .mk 11 .phase, .mk 12 .phase, .mk 13 .phase, .mk 14 .phase, .mk 15 .phase, .mk 16 .phase, .mk 17 .phase, .mk 18 .phase, .mk 19 .phase, .mk 20 .phase, .mk 21 .phase, .mk 22 .phase, .mk 23 .phase, .mk 24 .phase, .mk 25 .phase, .mk 26 .phase, .mk 27 .phase, .mk 28 .phase, .mk 29 .phase, .mk 30 .phase], none⟩ ?_; simp only [Act.put, sA, sB, sC]
             refine wpAnyH_done (by kernel_rfl) ?_ _
             clear hHeld
             go_wp2_with fail
             go_meet
             exact ⟨rfl, hs⟩
     case rest =>
       obtain ⟨rfl, h⟩ := hcut
       clear H
       have H := Lib.hid h
       clear h
       obtain ⟨hcat1, hg1⟩ := HG1.out
       go_wp2_with (fail)
       go_ret
       exact ⟨rfl, H.out.drop⟩
theorem ctlRead_mark (n m : Int) (ks vs : Bs) (hk : verB n 2 = ks) (hv : verB m 4 = vs) (h1 : n = 0 ∨ n = 1) (h2 : 0 ≤ m ∧ m < 2147483648) : ctlRead false false ks vs (([] : List HdrS).length : Int) 0 = (n, m, 0) := by
 subst hk hv
 have r1 : verRd 2 way 12 (verB n 2) = (n, 0) := by
  rcases h1 with rfl | rfl
  · exact verRd_back 0 2 way 12 (by decide) (by decide) (fits2 0 (by decide)) (by decide)
  · exact verRd_back 1 2 way 12 (by decide) (by decide) (fits2 1 (by decide)) (by decide)
 have r2 := verRd_back m 4 time0 11 (by decide) (by decide) ((fits4 m).2 (by omega)) (decide_eq_true h2.1)
 unfold ctlRead
 rw [if_neg (by decide), r1, r2]
 rfl
theorem endOf_mark (base leader : Int) (n1 n2 n3 n4 n5 : Int) (ks vs : Bs) (hks : ctlKey n3 = (ks, 0)) (hvs : ctlVal n5 = (vs, 0)) (he : batErr (⟨base, leader, false, true, true, 0, n4, n4, n1, n2, -1, [(⟨0, 0, ⟨false, ks⟩, ⟨false, vs⟩, []⟩ : RecS)]⟩ : BatS) = 0) : endOf (⟨base, leader, false, true, true, 0, n4, n4, n1, n2, -1, [(⟨0, 0, ⟨false, ks⟩, ⟨false, vs⟩, []⟩ : RecS)]⟩ : BatS) = (n1, n2, n3, n4, n5, true) := by
 have hk : verB n3 2 = ks ∧ (n3 = 0 ∨ n3 = 1) := by unfold ctlKey at hks; split at hks <;> cases hks; exact ⟨rfl, by assumption⟩
 have hv : verB n5 4 = vs ∧ (0 ≤ n5 ∧ n5 < 2147483648) := by unfold ctlVal at hvs; split at hvs <;> cases hvs; exact ⟨rfl, by assumption⟩
 have hc : ctlOf (⟨0, 0, ⟨false, ks⟩, ⟨false, vs⟩, []⟩ : RecS) = (n3, n5, 0) := by
  unfold ctlOf
  exact ctlRead_mark n3 n5 ks vs hk.1 hv.1 hk.2 hv.2
 unfold endOf
 rw [if_pos ⟨rfl, he⟩]
 simp only [hc, Int.add_zero]
structure EndS where
  n1 : Int
  n2 : Int
  n3 : Int
  n4 : Int
  n5 : Int
def REnd (cs : List Value) (x : EndS) : Prop := cs = [.int .i64 x.n1, .int .i64 x.n2, .int .i64 x.n3, .int .i64 x.n4, .int .i64 x.n5]
def EndS.R (x : EndS) : Prop := Rn x.n1 ∧ Rn x.n2 ∧ Rn x.n3 ∧ Rn x.n4 ∧ Rn x.n5
theorem ends_at {W0 w : World} {K : Know} {L : List Res} {q : Option Addr} {n cap : Nat} {l : List EndS} (hk : K.has (Know.flat REnd (.slice q n cap) 5 l)) (h : St W0 w K L) (h0 : 0 < l.length) : ∃ b off, q = some ⟨b, off, none⟩ := by
 obtain ⟨F, hF, _⟩ := h.get
 obtain ⟨q2, cap2, hv, hr⟩ := (hk _ _ hF).at
 obtain ⟨b, off, hq, _⟩ := hr h0
 simp at hv
 exact ⟨b, off, hv.1.trans hq⟩
theorem ends_cell {W0 w : World} {K : Know} {L : List Res} {b off n cap : Nat} {l : List EndS} (hk : K.has (Know.flat REnd (.slice (some ⟨b, off, none⟩) n cap) 5 l)) (h : St W0 w K L) (i : Nat) (hi : i < l.length) (n1 n2 n3 n4 n5 : Int) (hx : l[i] = ⟨n1, n2, n3, n4, n5⟩) :
  w.cell? ⟨b, off + i * 5, none⟩ = some (.int .i64 n1) ∧ w.cell? ⟨b, off + i * 5 + 1, none⟩ = some (.int .i64 n2) ∧ w.cell? ⟨b, off + i * 5 + 2, none⟩ = some (.int .i64 n3) ∧ w.cell? ⟨b, off + i * 5 + 3, none⟩ = some (.int .i64 n4) ∧ w.cell? ⟨b, off + i * 5 + 4, none⟩ = some (.int .i64 n5) := by
 obtain ⟨F, hF, _⟩ := h.get
 obtain ⟨q2, cap2, hv, hr⟩ := (hk _ _ hF).at
 obtain ⟨b2, off2, hq, hc⟩ := hr (by omega)
 rw [hq] at hv
 simp at hv
 obtain ⟨⟨rfl, rfl⟩, _, _⟩ := hv
 obtain ⟨cs, _, hR, hcs⟩ := hc i hi
 rw [hx] at hR
 unfold REnd at hR
 subst hR
 exact ⟨hcs 0 _ rfl, by rw [Nat.add_assoc]; exact hcs 1 _ rfl, by rw [Nat.add_assoc]; exact hcs 2 _ rfl, by rw [Nat.add_assoc]; exact hcs 3 _ rfl, by rw [Nat.add_assoc]; exact hcs 4 _ rfl⟩
def batcells (x : BatR) : List Value := [.int .i64 x.b.base, .int .i64 x.b.leader, .bool x.b.app, .bool x.b.txn, .bool x.b.ctl, .int .i64 x.b.last, .int .i64 x.b.first, .int .i64 x.b.maxt, .int .i64 x.b.prod, .int .i64 x.b.epoch, .int .i64 x.b.seq, .slice x.q x.l.length x.cap]
def tellB (x : BatR) : Option EndS := if x.b.ctl = true then some ⟨(endOf x.b).1, (endOf x.b).2.1, (endOf x.b).2.2.1, (endOf x.b).2.2.2.1, (endOf x.b).2.2.2.2.1⟩ else none
structure Good1 (x : BatR) : Prop where
  so : SmallOk x.b
  recs : x.l.map (·.1) = x.b.recs
  len : x.b.enc.length ≤ 14000
  told : x.b.ctl = true → (endOf x.b).2.2.2.2.2 = true
theorem endOf_plain (b : BatS) (h : b.ctl = false) : endOf b = (0, 0, 0, 0, 0, false) := by
 unfold endOf
 rw [if_neg (fun hh => by rw [h] at hh; cases hh.1)]
theorem good_plain (x : BatR) (hf : x.Fit) (hs : smallB (x.l.map (·.1)) = true) (he : batErr x.b = 0) (hc : x.b.ctl = false) : Good1 x :=
 ⟨BatR.small hf hs he, hf.2.2, BatR.elen hf hs, fun h => by rw [hc] at h; cases h⟩
theorem tell_plain (x : BatR) (hc : x.b.ctl = false) : tellB x = none := by unfold tellB; rw [if_neg (by rw [hc]; decide)]
theorem mark_len (base leader : Int) (n1 n2 n3 n4 n5 : Int) (ks vs : Bs) (hks : ctlKey n3 = (ks, 0)) (hvs : ctlVal n5 = (vs, 0)) : (BatS.enc (⟨base, leader, false, true, true, 0, n4, n4, n1, n2, -1, [(⟨0, 0, ⟨false, ks⟩, ⟨false, vs⟩, []⟩ : RecS)]⟩ : BatS)).length ≤ 14000 := by
 have hk : ks.length = 4 := by unfold ctlKey at hks; split at hks <;> cases hks; exact verB_len _ _
 have hv : vs.length = 6 := by unfold ctlVal at hvs; split at hvs <;> cases hvs; exact verB_len _ _
 have hs : smallRec (⟨0, 0, ⟨false, ks⟩, ⟨false, vs⟩, []⟩ : RecS) = true := by
  unfold smallRec
  simp [hk, hv, hAll]
 have h1 := encR_small2 (⟨0, 0, ⟨false, ks⟩, ⟨false, vs⟩, []⟩ : RecS) (mark_R ks vs) hs
 rw [BatS.enc_len]
 unfold BatS.rowsB
 rw [List.flatMap_cons, List.flatMap_nil, List.append_nil]
 omega
theorem good_mark (base leader : Int) (n1 n2 n3 n4 n5 : Int) (ks vs : Bs) (q : Option Addr) (hks : ctlKey n3 = (ks, 0)) (hvs : ctlVal n5 = (vs, 0)) (hR : BatS.R (⟨base, leader, false, true, true, 0, n4, n4, n1, n2, -1, [(⟨0, 0, ⟨false, ks⟩, ⟨false, vs⟩, []⟩ : RecS)]⟩ : BatS)) (he : batErr (⟨base, leader, false, true, true, 0, n4, n4, n1, n2, -1, [(⟨0, 0, ⟨false, ks⟩, ⟨false, vs⟩, []⟩ : RecS)]⟩ : BatS) = 0) : Good1 (⟨(⟨base, leader, false, true, true, 0, n4, n4, n1, n2, -1, [(⟨0, 0, ⟨false, ks⟩, ⟨false, vs⟩, []⟩ : RecS)]⟩ : BatS), [((⟨0, 0, ⟨false, ks⟩, ⟨false, vs⟩, []⟩ : RecS), .slice none 0 0)], q, 1⟩ : BatR) :=
 ⟨smallOk_mark base leader n1 n2 n3 n4 n5 ks vs hks hvs hR he, rfl, mark_len base leader n1 n2 n3 n4 n5 ks vs hks hvs, fun _ => by rw [show (endOf (⟨base, leader, false, true, true, 0, n4, n4, n1, n2, -1, [(⟨0, 0, ⟨false, ks⟩, ⟨false, vs⟩, []⟩ : RecS)]⟩ : BatS)) = (n1, n2, n3, n4, n5, true) from endOf_mark base leader n1 n2 n3 n4 n5 ks vs hks hvs he]⟩
theorem tell_mark (base leader : Int) (n1 n2 n3 n4 n5 : Int) (ks vs : Bs) (q : Option Addr) (hks : ctlKey n3 = (ks, 0)) (hvs : ctlVal n5 = (vs, 0)) (he : batErr (⟨base, leader, false, true, true, 0, n4, n4, n1, n2, -1, [(⟨0, 0, ⟨false, ks⟩, ⟨false, vs⟩, []⟩ : RecS)]⟩ : BatS) = 0) : tellB (⟨(⟨base, leader, false, true, true, 0, n4, n4, n1, n2, -1, [(⟨0, 0, ⟨false, ks⟩, ⟨false, vs⟩, []⟩ : RecS)]⟩ : BatS), [((⟨0, 0, ⟨false, ks⟩, ⟨false, vs⟩, []⟩ : RecS), .slice none 0 0)], q, 1⟩ : BatR) = some ⟨n1, n2, n3, n4, n5⟩ := by
 unfold tellB
 rw [if_pos rfl]
 simp only [endOf_mark base leader n1 n2 n3 n4 n5 ks vs hks hvs he]
theorem fitB_of {b : BatS} (so : SmallOk b) {l : List (RecS × Value)} (hl : l.map (·.1) = b.recs) : FitB l := by
 intro x hx
 obtain ⟨a, c, d⟩ := so.fit x.1 (by rw [← hl]; exact List.mem_map.2 ⟨x, hx, rfl⟩)
 have := hsum_fit x.1.hdrs 1000 (by unfold RecS.sum at d; omega)
 exact ⟨a, fun y hy => by have := this y hy; omega, by omega⟩
theorem filt_take {α β : Type} (f : α → Option β) (W : List α) (j : Nat) (hj : j < W.length) (x : α) (hx : W[j] = x) : (W.take (j + 1)).filterMap f = (W.take j).filterMap f ++ (match f x with | some y => [y] | none => []) := by
 rw [List.take_succ_eq_append_getElem hj, List.filterMap_append, hx]
 congr 1
 rw [List.filterMap_cons]
 cases f x <;> rfl
theorem filt_get {α β : Type} (f : α → Option β) (W : List α) (j : Nat) (hj : j < W.length) (x : α) (hx : W[j] = x) (y : β) (hy : f x = some y) (E : List β) (hE : W.filterMap f = E) : ∃ h : ((W.take j).filterMap f).length < E.length, E[((W.take j).filterMap f).length] = y := by
 have e : E = (W.take j).filterMap f ++ (y :: (W.drop (j + 1)).filterMap f) := by
  rw [← hE]
  have h1 : W = W.take j ++ (x :: W.drop (j + 1)) := by rw [← hx, ← List.drop_eq_getElem_cons hj, List.take_append_drop]
  have h2 := congrArg (List.filterMap f) h1
  rw [List.filterMap_append, List.filterMap_cons, hy] at h2
  exact h2
 subst e
 refine ⟨by rw [List.length_append, List.length_cons]; omega, ?_⟩
 rw [List.getElem_append_right (Nat.le_refl _)]
 simp
theorem encB_le14 : ∀ (W : List BatR), (∀ x ∈ W, Good1 x) → (encB W).length ≤ 14000 * W.length
  | [], _ => by simp [encB]
  | x :: t, h => by
    have h1 := encB_le14 t (fun y hy => h y (by simp [hy]))
    have h2 := (h x (by simp)).len
    have e : encB (x :: t) = x.b.enc ++ encB t := rfl
    rw [e, List.length_append, List.length_cons]
    omega
theorem elem_bat : ElemT Tryz.prog 26 (.agg #[.int .i64 0, .int .i64 0, .bool false, .bool false, .bool false, .int .i64 0, .int .i64 0, .int .i64 0, .int .i64 0, .int .i64 0, .int .i64 0, .slice none 0 0]) 12 96 := elemT_of (by kernel_rfl) rfl (by decide)
theorem results_cell_tmp2 {P : Program} {fn : Func} {p t t' : Tmp} {ty : TypeId} (h : fn.results = #[.cell p ty, .tmp t, .tmp t']) (tmps : Array Value) (w : World) (b : Nat) (cs : List Value) (dd : TypeDesc)
    (hp : tmps.getD p undef = .pointer (some ⟨b, 0, none⟩)) (hc : w.rangeAt b 0 cs) (hu : P.underlying ty = some dd) (hd : dd.isRow = true) (hi : (P.info? ty).map (·.size) = some cs.length) :
    (results fn tmps).run P w = .ok (.tuple #[.agg cs.toArray, tmps.getD t undef, tmps.getD t' undef]) w := by
  have hp' : tmps[p]?.getD undef = .pointer (some ⟨b, 0, none⟩) := by simpa using hp
  simp [results, h, hp', asAddr, run_loadVar_mid w b 0 ty cs dd hc hu hd hi]
def noneB : BatS := ⟨0, 0, false, false, false, 0, 0, 0, -1, -1, -1, []⟩
theorem so_none : SmallOk noneB where
 fit := fun x hx => by cases hx
 len := by decide
 err := by decide +kernel
 rng := by unfold BatS.R noneB Rn; decide
theorem len_none : noneB.enc.length = 61 := by rw [BatS.enc_len]; rfl
theorem encode_none (s : Bs) (hs : noneB.enc = s) {W0 w : World} {K : Know} {L : List Res} (h : St W0 w K L) :
  Calls Tryz.prog 15 #[.agg #[.int .i64 0, .int .i64 0, .bool false, .bool false, .bool false, .int .i64 0, .int .i64 0, .int .i64 0, .int .i64 (-1), .int .i64 (-1), .int .i64 (-1), .slice none 0 0]] w fun en w' => en = .returned (.tuple #[.string (bb s), .int .i64 0]) ∧ St W0 w' K L := by
 subst hs
 exact bat_encode_enc noneB [] none 0 rfl so_none (recs_nilK K) h
set_option maxHeartbeats 4000000 in
set_option maxRecDepth 100000 in
theorem top_none {W0 w : World} {K : Know} {L : List Res} (h : St W0 w K L) :
  Calls Tryz.prog 4 #[] w fun en w' => ∃ s : Bs, en = .returned (.tuple #[.agg #[.int .i64 0, .int .i64 0, .bool false, .bool false, .bool false, .int .i64 0, .int .i64 0, .int .i64 0, .int .i64 (-1), .int .i64 (-1), .int .i64 (-1), .slice none 0 0], .string (bb s), .bool true]) ∧ St W0 w' K L := by
 obtain ⟨s, hs⟩ : ∃ s, noneB.enc = s := ⟨_, rfl⟩
 have HS := Lib.hid hs
 have hsl : s.length = 61 := by rw [← hs]; exact len_none
 have hl61 : ((s.length : Int) == 61) = true := by rw [hsl]; rfl
 obtain ⟨rb, hrb⟩ : ∃ b, w.heap.size = b := ⟨_, rfl⟩
 obtain ⟨nb, hnb⟩ : ∃ b, rb + 1 = b := ⟨_, rfl⟩
 have h1 := (h.allocRaw #[.int .i64 0, .int .i64 0, .bool false, .bool false, .bool false, .int .i64 0, .int .i64 0, .int .i64 0, .int .i64 0, .int .i64 0, .int .i64 0, .slice none 0 0] 26).allocRaw #[.int .i64 0, .int .i64 0, .bool false, .bool false, .bool false, .int .i64 0, .int .i64 0, .int .i64 0, .int .i64 (-1), .int .i64 (-1), .int .i64 (-1), .slice none 0 0] 26
 simp only [World.size_alloc, hrb, hnb] at h1
 obtain ⟨x0, x1, x2, x3, x4, x5, x6, x7, x8, x9, x10, x11, y0, y1, y2, y3, y4, y5, y6, y7, y8, y9, y10, y11⟩ := raw12 (b := nb) (h1)
 obtain ⟨z0, z1, z2, z3, z4, z5, z6, z7, z8, z9, z10, z11, v0, v1, v2, v3, v4, v5, v6, v7, v8, v9, v10, v11⟩ := raw12 (b := rb) (h1.p1)
 have H := Lib.hid h1
 clear h h1 hs hsl
 go_enter Tryz.func4, Tryz.ntmps4
 go_wp2_with (go_at_call 15; clear x0 y0 z0 v0 x1 y1 z1 v1 x2 y2 z2 v2 x3 y3 z3 v3 x4 y4 z4 v4 x5 y5 z5 v5 x6 y6 z6 v6 x7 y7 z7 v7 x8 y8 z8 v8 x9 y9 z9 v9 x10 y10 z10 v10 x11 y11 z11 v11; (with_reducible refine (encode_none s HS.out H.out).mono ?_); rintro e_ wn ⟨rfl, h⟩; obtain ⟨x0, x1, x2, x3, x4, x5, x6, x7, x8, x9, x10, x11, y0, y1, y2, y3, y4, y5, y6, y7, y8, y9, y10, y11⟩ := raw12 (b := nb) (h); obtain ⟨z0, z1, z2, z3, z4, z5, z6, z7, z8, z9, z10, z11, v0, v1, v2, v3, v4, v5, v6, v7, v8, v9, v10, v11⟩ := raw12 (b := rb) (h.p1); replace H := Lib.hid h; clear h)
 have hz : St W0 _ K (.raw rb #[.int .i64 0, .int .i64 0, .bool false, .bool false, .bool false, .int .i64 0, .int .i64 0, .int .i64 0, .int .i64 (-1), .int .i64 (-1), .int .i64 (-1), .slice none 0 0] 26 :: _) := St.sets12 _ _ _ _ _ _ _ _ _ _ _ _ (H.out.p1)
 refine bodyPost_ret (results_cell_tmp2 rfl _ _ rb [.int .i64 0, .int .i64 0, .bool false, .bool false, .bool false, .int .i64 0, .int .i64 0, .int .i64 0, .int .i64 (-1), .int .i64 (-1), .int .i64 (-1), .slice none 0 0] _ rfl (rc_range hz) Tryz.underlying26 rfl (by kernel_rfl)) rfl ?_
 exact ⟨s, rfl, hz.drop.drop⟩
set_option maxHeartbeats 4000000 in
set_option maxRecDepth 100000 in
theorem asm_ok (said rows : Bs) (base ln leader sm at_ last first maxt prod epoch sq : Int) (cnt : Nat) (x : Nat) (hx : (crcMore 0#32 (said.drop 21 ++ rows)).toNat = x) (hs1 : 21 ≤ said.length) (hs2 : said.length ≤ 140737488355328) (hs3 : rows.length ≤ 140737488355328) (h0 : (x : Int) = sm) (hat : chk at_ = 0) (har : R64 at_) (hcn : cnt ≤ 2147483647) (hr1 : rows.length ≤ 1000000) (hmx : first ≤ 9223372036854775807) (rs : List RecS) (hu : unp cnt ⟨rows, 0, 0⟩ = .ok rs) (hbe : batErr (⟨base, leader, bitAt at_ 3, bitAt at_ 4, bitAt at_ 5, last, first, maxt, prod, epoch, sq, rs⟩ : BatS) = 0) {W0 w : World} {K : Know} {L : List Res} (h : St W0 w K L) :
   Calls Tryz.prog 31 #[.agg #[.int .i64 base, .int .i64 ln, .int .i64 leader, .int .i64 sm, .int .i64 at_, .int .i64 last, .int .i64 first, .int .i64 maxt, .int .i64 prod, .int .i64 epoch, .int .i64 sq, .int .i64 cnt], .string (bb said), .string (bb rows)] w fun en w' => ∃ (q : Option Addr) (l : List (RecS × Value)) (cap : Nat), en = .returned (.tuple #[.agg #[.int .i64 base, .int .i64 leader, .bool (bitAt at_ 3), .bool (bitAt at_ 4), .bool (bitAt at_ 5), .int .i64 last, .int .i64 first, .int .i64 maxt, .int .i64 prod, .int .i64 epoch, .int .i64 sq, .slice q l.length cap], .int .i64 0]) ∧ l.map (·.1) = rs ∧ St W0 w' (K.and (Know.recs (.slice q l.length cap) l)) L := by
 have gs : ((x : Int) == sm) = true := by rw [h0]; exact beq_self_eq_true _
 have gs2 : ((x : Int) != sm) = false := by simp [bne, gs]
 clear h0
 have HAT := Lib.hid hat
 have HAR := Lib.hid har
 have HCN := Lib.hid hcn
 have HU := Lib.hid hu
 have HR1 := Lib.hid hr1
 have HMX := Lib.hid hmx
 have HB0 := Lib.hid hbe
 clear hat har hcn hu hr1 hmx hbe
 have g1 := h.allocRaw #[.int .i64 base, .int .i64 ln, .int .i64 leader, .int .i64 sm, .int .i64 at_, .int .i64 last, .int .i64 first, .int .i64 maxt, .int .i64 prod, .int .i64 epoch, .int .i64 sq, .int .i64 cnt] 72
 have g2 := g1.allocRaw #[.int .i64 0, .int .i64 0, .bool false, .bool false, .bool false, .int .i64 0, .int .i64 0, .int .i64 0, .int .i64 0, .int .i64 0, .int .i64 0, .slice none 0 0] 26
 obtain ⟨pb, hpb⟩ : ∃ b, w.heap.size = b := ⟨_, rfl⟩
 obtain ⟨rb, hrb⟩ : ∃ b, pb + 1 = b := ⟨_, rfl⟩
 simp only [World.size_alloc, hpb, hrb] at g2
 have H := Lib.hid g2
 have HX := Lib.hid hx
 have HS1 := Lib.hid hs1
 have HS2 := Lib.hid hs2
 have HS3 := Lib.hid hs3
 clear h g1 g2 hx hs1 hs2 hs3
 go_enter Tryz.func31, Tryz.ntmps31
 go_upto_region 1 with (fail)
 have hs := H.out.drew
 refine wp_region_held_drew (S := fun w' => w'.cell? ⟨pb, 0, none⟩ = some (.int .i64 base) ∧ w'.cell? ⟨pb, 1, none⟩ = some (.int .i64 ln) ∧ w'.cell? ⟨pb, 2, none⟩ = some (.int .i64 leader) ∧ w'.cell? ⟨pb, 3, none⟩ = some (.int .i64 sm) ∧ w'.cell? ⟨pb, 4, none⟩ = some (.int .i64 at_) ∧ w'.cell? ⟨pb, 5, none⟩ = some (.int .i64 last) ∧ w'.cell? ⟨pb, 6, none⟩ = some (.int .i64 first) ∧ w'.cell? ⟨pb, 7, none⟩ = some (.int .i64 maxt) ∧ w'.cell? ⟨pb, 8, none⟩ = some (.int .i64 prod) ∧ w'.cell? ⟨pb, 9, none⟩ = some (.int .i64 epoch) ∧ w'.cell? ⟨pb, 10, none⟩ = some (.int .i64 sq) ∧ w'.cell? ⟨pb, 11, none⟩ = some (.int .i64 cnt)) (by kernel_rfl) (let ⟨x0, x1, x2, x3, x4, x5, x6, x7, x8, x9, x10, x11, _⟩ := raw12 (b := pb) (hs.p1); ⟨x0, x1, x2, x3, x4, x5, x6, x7, x8, x9, x10, x11⟩) (fun hHeld => ?_)
 refine tQ 0 ⟨some 12, .move (.tmp 1), 9, "batch.go:88", #[], none⟩ ?_; simp only [Act.put, sA, sB, sC]
 refine tQ 1 ⟨some 13, .move (.tmp 2), 9, "batch.go:88", #[], none⟩ ?_; simp only [Act.put, sA, sB, sC]
 refine tQ 3 ⟨some 15, .fieldAddr 72 (.tmp 3) 3, 0, "batch.go:88", #[], none⟩ ?_; simp only [Act.put, sA, sB, sC]
 refine tQ 4 ⟨some 16, .load 3 (.tmp 15), 3, "batch.go:88", #[.mk 3 .data], none⟩ ?_; simp only [Act.put, sA, sB, sC]
 refine wpAnyH_ready (rs := [2]) (by kernel_rfl) (by simp) (AllReadyH.cons (o := ⟨some 14, .call { callee := .value (.func 38), args := #[.tmp 12, .tmp 13], argTypes := #[9, 9] }, 3, "batch.go:88", #[.mk 0 .data, .mk 1 .data], none⟩) rfl (fun KK hK => ?_) AllReadyH.nil)
 · go_simp
   go_at_call 38
   with_reducible refine (bat_sum said rows x HX.out HS1.out HS2.out HS3.out hs).mono ?_
   rintro e wq ⟨rfl, hs⟩
   refine hK.out _ _ (let ⟨x0, x1, x2, x3, x4, x5, x6, x7, x8, x9, x10, x11, _⟩ := raw12 (b := pb) (hs.p1); ⟨x0, x1, x2, x3, x4, x5, x6, x7, x8, x9, x10, x11⟩) (fun hHeld => ?_)
   clear hK KK
   try simp only [Act.put, sA, sB, sC]
   refine tQ 5 ⟨some 17, .binOp .neq 3 (.tmp 14) (.tmp 16) 3, 4, "batch.go:88", #[.mk 2 .data, .mk 4 .data], none⟩ ?_; simp only [Act.put, sA, sB, sC]
   refine wpAnyH_done (by kernel_rfl) ?_ _
   clear hHeld
   have H := Lib.hid hs
   clear hs
   obtain ⟨p0, p1, p2, p3, p4, p5, p6, p7, p8, p9, p10, p11, u0, u1, u2, u3, u4, u5, u6, u7, u8, u9, u10, u11⟩ := raw12 (b := rb) (H.out); obtain ⟨x0, x1, x2, x3, x4, x5, x6, x7, x8, x9, x10, x11, y0, y1, y2, y3, y4, y5, y6, y7, y8, y9, y10, y11⟩ := raw12 (b := pb) ((H.out).p1)
   go_upto_region 11 with (first
   | (go_at_call 59; (with_reducible refine (attr_checkE at_ 0 HAT.out HAR.out H.out).mono ?_); rintro e_ wn ⟨rfl, h⟩; replace H := Lib.hid h; clear h; obtain ⟨p0, p1, p2, p3, p4, p5, p6, p7, p8, p9, p10, p11, u0, u1, u2, u3, u4, u5, u6, u7, u8, u9, u10, u11⟩ := raw12 (b := rb) (H.out); obtain ⟨x0, x1, x2, x3, x4, x5, x6, x7, x8, x9, x10, x11, y0, y1, y2, y3, y4, y5, y6, y7, y8, y9, y10, y11⟩ := raw12 (b := pb) ((H.out).p1))
   | (go_at_call 60; (with_reducible refine (bat_unpack_ok rows cnt HCN.out HS3.out rs HU.out H.out).mono ?_); rintro e_ wn ⟨rv, l, rfl, hlr, h⟩; obtain ⟨q, cap, hrv⟩ := recs_form (Know.has_right (Know.has_refl _)) h; subst hrv; obtain ⟨hff, hfl⟩ := unp_fitB HU.out hlr HR1.out; have HFT := Lib.hid hff; have HLL := Lib.hid hfl; have HLR := Lib.hid hlr; clear hff hfl hlr; obtain ⟨p0, p1, p2, p3, p4, p5, p6, p7, p8, p9, p10, p11, u0, u1, u2, u3, u4, u5, u6, u7, u8, u9, u10, u11⟩ := raw12 (b := rb) (h); obtain ⟨x0, x1, x2, x3, x4, x5, x6, x7, x8, x9, x10, x11, y0, y1, y2, y3, y4, y5, y6, y7, y8, y9, y10, y11⟩ := raw12 (b := pb) ((h).p1); have h := h.allocRaw #[.int .i64 base, .int .i64 leader, .bool false, .bool false, .bool false, .int .i64 last, .int .i64 first, .int .i64 maxt, .int .i64 prod, .int .i64 epoch, .int .i64 sq, .slice q l.length cap] 26; obtain ⟨bB, hbB⟩ : ∃ b, wn.heap.size = b := ⟨_, rfl⟩; rw [hbB] at h; obtain ⟨x0, x1, x2, x3, x4, x5, x6, x7, x8, x9, x10, x11, y0, y1, y2, y3, y4, y5, y6, y7, y8, y9, y10, y11⟩ := raw12 (b := pb) (h.p2); obtain ⟨a0, a1, a2, a3, a4, a5, a6, a7, a8, a9, a10, a11, f0, f1, f2, f3, f4, f5, f6, f7, f8, f9, f10, f11⟩ := raw12 (b := bB) (h); replace H := Lib.hid h; clear h)
   | (go_at_call 61; (with_reducible refine (attr_readE at_ H.out).mono ?_); rintro e_ wn ⟨rfl, h⟩; obtain ⟨a0, a1, a2, a3, a4, a5, a6, a7, a8, a9, a10, a11, f0, f1, f2, f3, f4, f5, f6, f7, f8, f9, f10, f11⟩ := raw12 (b := bB) (h); replace H := Lib.hid h; clear h))
   have HBE := Lib.hid (show batErr ⟨base, leader, bitAt at_ 3, bitAt at_ 4, bitAt at_ 5, last, first, maxt, prod, epoch, sq, l.map (·.1)⟩ = 0 by rw [HLR.out]; exact HB0.out)
   have hs : St W0 _ _ (.raw bB #[.int .i64 base, .int .i64 leader, .bool (bitAt at_ 3), .bool (bitAt at_ 4), .bool (bitAt at_ 5), .int .i64 last, .int .i64 first, .int .i64 maxt, .int .i64 prod, .int .i64 epoch, .int .i64 sq, .slice q l.length cap] 26 :: _) := ((H.out.rawSet 2 (.bool (bitAt at_ 3))).rawSet 3 (.bool (bitAt at_ 4))).rawSet 4 (.bool (bitAt at_ 5))
   have hs := hs.drew
   clear x0 y0 a0 f0 x1 y1 a1 f1 x2 y2 a2 f2 x3 y3 a3 f3 x4 y4 a4 f4 x5 y5 a5 f5 x6 y6 a6 f6 x7 y7 a7 f7 x8 y8 a8 f8 x9 y9 a9 f9 x10 y10 a10 f10 x11 y11 a11 f11
   refine wp_region_held_drew (S := fun w' => w'.cell? ⟨bB, 0, none⟩ = some (.int .i64 base) ∧ w'.cell? ⟨bB, 1, none⟩ = some (.int .i64 leader) ∧ w'.cell? ⟨bB, 2, none⟩ = some (.bool (bitAt at_ 3)) ∧ w'.cell? ⟨bB, 3, none⟩ = some (.bool (bitAt at_ 4)) ∧ w'.cell? ⟨bB, 4, none⟩ = some (.bool (bitAt at_ 5)) ∧ w'.cell? ⟨bB, 5, none⟩ = some (.int .i64 last) ∧ w'.cell? ⟨bB, 6, none⟩ = some (.int .i64 first) ∧ w'.cell? ⟨bB, 7, none⟩ = some (.int .i64 maxt) ∧ w'.cell? ⟨bB, 8, none⟩ = some (.int .i64 prod) ∧ w'.cell? ⟨bB, 9, none⟩ = some (.int .i64 epoch) ∧ w'.cell? ⟨bB, 10, none⟩ = some (.int .i64 sq) ∧ w'.cell? ⟨bB, 11, none⟩ = some (.slice q l.length cap)) (by kernel_rfl) (let ⟨x0, x1, x2, x3, x4, x5, x6, x7, x8, x9, x10, x11, _⟩ := raw12 (b := bB) (hs); ⟨x0, x1, x2, x3, x4, x5, x6, x7, x8, x9, x10, x11⟩) (fun hHeld => ?_)
   refine tQ 0 ⟨some 65, .load 26 (.tmp 11), 26, "batch.go:105", #[], none⟩ ?_; simp only [Act.put, sA, sB, sC]
   refine tQ 1 ⟨some 66, .load 26 (.tmp 11), 26, "batch.go:105", #[], none⟩ ?_; simp only [Act.put, sA, sB, sC]
   refine wpAnyH_ready (rs := [2]) (by kernel_rfl) (by simp) (AllReadyH.cons (o := ⟨some 67, .call { callee := .value (.func 26), args := #[.tmp 66], argTypes := #[26] }, 31, "batch.go:105", #[.mk 1 .data], none⟩) rfl (fun KK hK => ?_) AllReadyH.nil)
   · go_simp
     go_at_call 26
     with_reducible refine (bat_check base leader (bitAt at_ 3) (bitAt at_ 4) (bitAt at_ 5) last first maxt prod epoch sq l q cap 0 HBE.out HMX.out HFT.out HLL.out (Know.has_right (Know.has_refl _)) hs).mono ?_
     rintro e wq ⟨rfl, hs⟩
     refine hK.out _ _ (let ⟨x0, x1, x2, x3, x4, x5, x6, x7, x8, x9, x10, x11, _⟩ := raw12 (b := bB) (hs); ⟨x0, x1, x2, x3, x4, x5, x6, x7, x8, x9, x10, x11⟩) (fun hHeld => ?_)
     clear hK KK
     try simp only [Act.put, sA, sB, sC]
     refine wpAnyH_ready (rs := [3]) (by kernel_rfl) (by simp) (AllReadyH.cons (o := ⟨none, .store 26 (.tmp 6) (.tmp 65), 0, "batch.go:105", #[.mk 0 .data, .mk 2 .chain, .mk 0 .phase, { on := 1, ground := Ground.textOnly Departure.lateStores }, { on := 2, ground := Ground.textOnly Departure.lateStoresUnsure }], none⟩) rfl (fun KK hK => ?_) AllReadyH.nil)
     · have hs := hs.p1
       rw [if_pos (by rfl)]
       refine wp_store_mid 26 (.tmp 6) (.tmp 65) rfl rb 0 #[.int .i64 base, .int .i64 leader, .bool (bitAt at_ 3), .bool (bitAt at_ 4), .bool (bitAt at_ 5), .int .i64 last, .int .i64 first, .int .i64 maxt, .int .i64 prod, .int .i64 epoch, .int .i64 sq, .slice q l.length cap] (by rfl) (by rfl) hs.there (by kernel_rfl) (by simp [Value.oneCell']) ?_
       obtain ⟨wz, ez, hs⟩ := hs.storeEx #[.int .i64 base, .int .i64 leader, .bool (bitAt at_ 3), .bool (bitAt at_ 4), .bool (bitAt at_ 5), .int .i64 last, .int .i64 first, .int .i64 maxt, .int .i64 prod, .int .i64 epoch, .int .i64 sq, .slice q l.length cap]
       rw [ez]
       clear ez
       refine hK.out _ _ (let ⟨x0, x1, x2, x3, x4, x5, x6, x7, x8, x9, x10, x11, _⟩ := raw12 (b := bB) (hs.p1); ⟨x0, x1, x2, x3, x4, x5, x6, x7, x8, x9, x10, x11⟩) (fun hHeld => ?_)
       clear hK KK
       try simp only [Act.put, sA, sB, sC]
       refine tQ 4 ⟨some 7, .assign (.tmp 67), 31, "batch.go:105", #[.mk 2 .data, .mk 3 .chain, .mk 0 .phase, .mk 1 .phase, .mk 2 .phase, .mk 3 .phase], none⟩ ?_; simp only [Act.put, sA, sB, sC]
       refine wpAnyH_done (by kernel_rfl) ?_ _
       clear hHeld
       rw [setAll_all] at hs
       rotate_left
       · rfl
       have hz : St W0 _ _ (.raw rb #[.int .i64 base, .int .i64 leader, .bool (bitAt at_ 3), .bool (bitAt at_ 4), .bool (bitAt at_ 5), .int .i64 last, .int .i64 first, .int .i64 maxt, .int .i64 prod, .int .i64 epoch, .int .i64 sq, .slice q l.length cap] 26 :: _) := hs
       go_wp2_with fail
       refine bodyPost_ret (rc_cell_tmp rfl _ _ rb [.int .i64 base, .int .i64 leader, .bool (bitAt at_ 3), .bool (bitAt at_ 4), .bool (bitAt at_ 5), .int .i64 last, .int .i64 first, .int .i64 maxt, .int .i64 prod, .int .i64 epoch, .int .i64 sq, .slice q l.length cap] _ rfl (rc_range hz) Tryz.underlying26 rfl (by kernel_rfl)) rfl ?_
       exact ⟨q, l, cap, rfl, HLR.out, hz.drop.drop.drop⟩
theorem asm_good (x : PreS) (said rows : Bs) (hs1 : 21 ≤ said.length) (hs2 : said.length ≤ 140737488355328) (hr1 : rows.length ≤ 1000000) (har : R64 x.attr) (hc0 : 0 ≤ x.count) (hcn : x.count ≤ 2147483647) (hmx : x.first ≤ 9223372036854775807) (b : BatS) (ha : asmB x said rows = .ok b) {W0 w : World} {K : Know} {L : List Res} (h : St W0 w K L) :
  Calls Tryz.prog 31 #[.agg #[.int .i64 x.base, .int .i64 x.len, .int .i64 x.leader, .int .i64 x.sum, .int .i64 x.attr, .int .i64 x.last, .int .i64 x.first, .int .i64 x.maxt, .int .i64 x.prod, .int .i64 x.epoch, .int .i64 x.seq, .int .i64 x.count], .string (bb said), .string (bb rows)] w fun en w' => ∃ (q : Option Addr) (l : List (RecS × Value)) (cap : Nat), en = .returned (.tuple #[.agg #[.int .i64 b.base, .int .i64 b.leader, .bool b.app, .bool b.txn, .bool b.ctl, .int .i64 b.last, .int .i64 b.first, .int .i64 b.maxt, .int .i64 b.prod, .int .i64 b.epoch, .int .i64 b.seq, .slice q l.length cap], .int .i64 0]) ∧ l.map (·.1) = b.recs ∧ St W0 w' (K.and (Know.recs (.slice q l.length cap) l)) L := by
 obtain ⟨c1, c2, rs, hu, c3, rfl⟩ := asmB_ok ha
 obtain ⟨base, len, leader, sum, attr, last, first, maxt, prod, epoch, seq, count⟩ := x
 simp only at har hc0 hcn hmx c1 c2 hu c3
 obtain ⟨cnt, rfl⟩ : ∃ n : Nat, count = (n : Int) := ⟨count.toNat, by omega⟩
 rw [Int.toNat_natCast] at hu
 exact asm_ok said rows base len leader sum attr last first maxt prod epoch seq cnt _ rfl hs1 hs2 (by omega) c1 c2 har (by omega) hr1 hmx rs hu c3 h
set_option maxHeartbeats 4000000 in
set_option maxRecDepth 100000 in
theorem bat_read_ok (p : Nat) (i i1 i3 j : InS) (said rows : Bs) (x : PreS) (hxl : -2147483648 ≤ x.len ∧ x.len < 2147483648) (hs1 : 21 ≤ said.length) (hsl : said.length ≤ 140737488355328) (hr1 : rows.length ≤ 1000000) (har : R64 x.attr) (hc0 : 0 ≤ x.count) (hcn : x.count ≤ 2147483647) (hmx : x.first ≤ 9223372036854775807) (ht1 : i.take 61 = (said, i1)) (hp : (⟨said, 0, 0⟩ : InS).pre = (x, j)) (hj : j.err = 0) (ht2 : i1.take (x.len - 49) = (rows, i3)) (he3 : i3.err = 0) (b : BatS) (ha : asmB x said rows = .ok b) {W0 w : World} {K : Know} {L : List Res} (h : St W0 w K (.inp p i :: L)) :
  Calls Tryz.prog 11 #[inPtr p] w fun en w' => ∃ (q : Option Addr) (l : List (RecS × Value)) (cap : Nat), en = .returned (.agg #[.int .i64 b.base, .int .i64 b.leader, .bool b.app, .bool b.txn, .bool b.ctl, .int .i64 b.last, .int .i64 b.first, .int .i64 b.maxt, .int .i64 b.prod, .int .i64 b.epoch, .int .i64 b.seq, .slice q l.length cap]) ∧ l.map (·.1) = b.recs ∧ St W0 w' (K.and (Know.recs (.slice q l.length cap) l)) (.inp p i3 :: L) := by
 have g1 := h.allocRaw #[.int .i64 0, .int .i64 0, .bool false, .bool false, .bool false, .int .i64 0, .int .i64 0, .int .i64 0, .int .i64 0, .int .i64 0, .int .i64 0, .slice none 0 0] 26
 obtain ⟨rb, hrb⟩ : ∃ b, w.heap.size = b := ⟨_, rfl⟩
 rw [hrb] at g1
 have H := Lib.hid g1
 have HT1 := Lib.hid ht1
 have HSL := Lib.hid hsl
 have HS1 := Lib.hid hs1
 have HR1 := Lib.hid hr1
 have HAR := Lib.hid har
 have HC0 := Lib.hid hc0
 have HCN := Lib.hid hcn
 have HMX := Lib.hid hmx
 have HA := Lib.hid ha
 have HP := Lib.hid hp
 have HJ := Lib.hid hj
 have HT2 := Lib.hid ht2
 have HE3 := Lib.hid he3
 have f1 : wrap64 (x.len - 49) = x.len - 49 := by unfold wrap64; omega
 have f2 : IntKind.i64.wrap (x.len - 49) = x.len - 49 := IntWalk.i64_in _ (by omega)
 clear h g1 ht1 hsl hs1 hr1 har hc0 hcn hmx ha hp hj ht2 he3 hxl 
 go_enter Tryz.func11, Tryz.ntmps11
 go_wp2_with (first
  | (go_at_call 27; (with_reducible refine (s_takeE p i i1 _ said HT1.out H.out.p1).mono ?_); rintro e_ wn ⟨rfl, h⟩; replace H := Lib.hid h; clear h)
  | (go_at_call 10; (with_reducible refine (s_new said HSL.out H.out).mono ?_); rintro e_ wn ⟨bi, rfl, h⟩; replace H := Lib.hid h; clear h)
  | (go_at_call 28; (with_reducible refine (prefix_readQ bi _ j x HP.out H.out).mono ?_); rintro e_ wn ⟨rfl, h⟩; replace H := Lib.hid h; clear h; have h := H.out; obtain ⟨pb, hpb⟩ : ∃ b, wn.heap.size = b := ⟨_, rfl⟩; have h := h.allocRaw #[.int .i64 x.base, .int .i64 x.len, .int .i64 x.leader, .int .i64 x.sum, .int .i64 x.attr, .int .i64 x.last, .int .i64 x.first, .int .i64 x.maxt, .int .i64 x.prod, .int .i64 x.epoch, .int .i64 x.seq, .int .i64 x.count] 72; rw [hpb] at h; obtain ⟨x0, x1, x2, x3, x4, x5, x6, x7, x8, x9, x10, x11, y0, y1, y2, y3, y4, y5, y6, y7, y8, y9, y10, y11⟩ := raw12 (b := pb) (h); replace H := Lib.hid h.p1; clear h)
  | (go_at_call 29; (with_reducible refine (s_errE bi j 0 HJ.out H.out).mono ?_); rintro e_ wn ⟨rfl, h⟩; replace H := Lib.hid h; clear h; obtain ⟨x0, x1, x2, x3, x4, x5, x6, x7, x8, x9, x10, x11, y0, y1, y2, y3, y4, y5, y6, y7, y8, y9, y10, y11⟩ := raw12 (b := pb) (H.out.p1))
  | (go_at_call 27; (with_reducible refine (s_takeE p i1 i3 _ rows HT2.out H.out.p2).mono ?_); rintro e_ wn ⟨rfl, h⟩; replace H := Lib.hid h; clear h; obtain ⟨x0, x1, x2, x3, x4, x5, x6, x7, x8, x9, x10, x11, y0, y1, y2, y3, y4, y5, y6, y7, y8, y9, y10, y11⟩ := raw12 (b := pb) (H.out.p2))
  | (go_at_call 29; (with_reducible refine (s_errE p i3 0 HE3.out H.out).mono ?_); rintro e_ wn ⟨rfl, h⟩; replace H := Lib.hid h; clear h; obtain ⟨x0, x1, x2, x3, x4, x5, x6, x7, x8, x9, x10, x11, y0, y1, y2, y3, y4, y5, y6, y7, y8, y9, y10, y11⟩ := raw12 (b := pb) (H.out.p2); obtain ⟨a0, a1, a2, a3, a4, a5, a6, a7, a8, a9, a10, a11, f0, f1, f2, f3, f4, f5, f6, f7, f8, f9, f10, f11⟩ := raw12 (b := rb) (H.out.p3))
  | (go_at_call 31; (with_reducible refine (asm_good x said rows HS1.out HSL.out HR1.out HAR.out HC0.out HCN.out HMX.out b HA.out H.out).mono ?_); rintro e_ wn ⟨q, l, cap, rfl, hl, h⟩; have h := h.allocRaw #[.int .i64 b.base, .int .i64 b.leader, .bool b.app, .bool b.txn, .bool b.ctl, .int .i64 b.last, .int .i64 b.first, .int .i64 b.maxt, .int .i64 b.prod, .int .i64 b.epoch, .int .i64 b.seq, .slice q l.length cap] 26; obtain ⟨bB, hbB⟩ : ∃ b, wn.heap.size = b := ⟨_, rfl⟩; rw [hbB] at h; obtain ⟨c0, c1, c2, c3, c4, c5, c6, c7, c8, c9, c10, c11, g0, g1, g2, g3, g4, g5, g6, g7, g8, g9, g10, g11⟩ := raw12 (b := bB) (h); obtain ⟨a0, a1, a2, a3, a4, a5, a6, a7, a8, a9, a10, a11, f0, f1, f2, f3, f4, f5, f6, f7, f8, f9, f10, f11⟩ := raw12 (b := rb) (h.p4); replace H := Lib.hid h; clear h))
 have hz : St W0 _ _ (.raw rb #[.int .i64 b.base, .int .i64 b.leader, .bool b.app, .bool b.txn, .bool b.ctl, .int .i64 b.last, .int .i64 b.first, .int .i64 b.maxt, .int .i64 b.prod, .int .i64 b.epoch, .int .i64 b.seq, .slice q l.length cap] 26 :: _) := St.sets12 _ _ _ _ _ _ _ _ _ _ _ _ (H.out.p4)
 refine bodyPost_ret (rc_cell_only rfl _ _ rb [.int .i64 b.base, .int .i64 b.leader, .bool b.app, .bool b.txn, .bool b.ctl, .int .i64 b.last, .int .i64 b.first, .int .i64 b.maxt, .int .i64 b.prod, .int .i64 b.epoch, .int .i64 b.seq, .slice q l.length cap] _ rfl (rc_range hz) Tryz.underlying26 rfl (by kernel_rfl)) rfl ?_
 exact ⟨q, l, cap, rfl, hl, hz.drop.drop.p1.drop.p1.drop⟩
theorem bat_read_good (p : Nat) (s : Bs) (pos : Nat) (hsl : s.length ≤ 1000000) (hp : pos ≤ s.length) (b : BatS) (n : Nat) (hr : reBat (s.drop pos) = .ok (b, n)) {W0 w : World} {K : Know} {L : List Res} (h : St W0 w K (.inp p ⟨s, pos, 0⟩ :: L)) :
  Calls Tryz.prog 11 #[inPtr p] w fun en w' => ∃ (q : Option Addr) (l : List (RecS × Value)) (cap : Nat), en = .returned (.agg #[.int .i64 b.base, .int .i64 b.leader, .bool b.app, .bool b.txn, .bool b.ctl, .int .i64 b.last, .int .i64 b.first, .int .i64 b.maxt, .int .i64 b.prod, .int .i64 b.epoch, .int .i64 b.seq, .slice q l.length cap]) ∧ l.map (·.1) = b.recs ∧ St W0 w' (K.and (Know.recs (.slice q l.length cap) l)) (.inp p ⟨s, pos + n, 0⟩ :: L) := by
 obtain ⟨x, hx, rfl, hn, ha⟩ := reBat_ok hr
 obtain ⟨r1, r2, r3, r4, r5, r6⟩ := pre_ranges hx
 have h61 := (rePre_ok hx).1
 rw [List.length_drop] at hn h61
 have hl61 : ((s.drop pos).take 61).length = 61 := by rw [List.length_take, List.length_drop]; omega
 have hrl : (((s.drop pos).drop 61).take (x.len - 49).toNat).length ≤ 1000000 := by rw [List.length_take, List.length_drop, List.length_drop]; omega
 have ht1 : (⟨s, pos, 0⟩ : InS).take 61 = ((s.drop pos).take 61, ⟨s, pos + 61, 0⟩) := InS.take_ok rfl (by omega) (by simp only [InS.left]; omega)
 have ht2 : (⟨s, pos + 61, 0⟩ : InS).take (x.len - 49) = (((s.drop pos).drop 61).take (x.len - 49).toNat, ⟨s, pos + 61 + (x.len - 49).toNat, 0⟩) := by
  rw [InS.take_ok rfl (by omega) (by simp only [InS.left]; omega), List.drop_drop]
 have hpre := pre_okA ((s.drop pos).take 61) 0 (by omega)
 rw [List.drop_zero, rePre_take _ (by rw [List.length_drop]; omega), hx] at hpre
 rw [← Nat.add_assoc]
 exact bat_read_ok p _ _ _ _ _ _ x r1 (by rw [hl61]; omega) (by rw [hl61]; omega) hrl r3 r4 r5 r6 ht1 hpre rfl ht2 rfl b ha h
set_option maxHeartbeats 1000000 in
set_option maxRecDepth 100000 in
theorem ref11_encodeX (base leader : Int) (app txn ctl : Bool) (last first maxt prod epoch sq : Int) (rcs : List RecS) (xl : List (RecS × Value)) (hrc : xl.map (·.1) = rcs) (xq : Option Addr) (xcap : Nat) (s : Bs) (hs : BatS.enc (⟨base, leader, app, txn, ctl, last, first, maxt, prod, epoch, sq, rcs⟩ : BatS) = s) (so : SmallOk (⟨base, leader, app, txn, ctl, last, first, maxt, prod, epoch, sq, rcs⟩ : BatS)) {W0 w : World} {K : Know} {L : List Res} (hk : K.has (Know.recs (.slice xq xl.length xcap) xl)) (h : St W0 w K L) :
  Calls Tryz.prog 7 #[.agg #[.int .i64 base, .int .i64 leader, .bool app, .bool txn, .bool ctl, .int .i64 last, .int .i64 first, .int .i64 maxt, .int .i64 prod, .int .i64 epoch, .int .i64 sq, .slice xq xl.length xcap]] w fun en w' => en = .returned (.string (bb s)) ∧ St W0 w' K L := by
 have key := ref11_encode (⟨base, leader, app, txn, ctl, last, first, maxt, prod, epoch, sq, rcs⟩ : BatS) s hs xl xq xcap hrc so hk h
 dsimp only at key
 exact key
set_option maxHeartbeats 1000000 in
set_option maxRecDepth 100000 in
theorem bat_readX (base leader : Int) (app txn ctl : Bool) (last first maxt prod epoch sq : Int) (rcs : List RecS) (p : Nat) (s : Bs) (pos : Nat) (hsl : s.length ≤ 1000000) (hp : pos ≤ s.length) (n : Nat) (hr : reBat (s.drop pos) = .ok ((⟨base, leader, app, txn, ctl, last, first, maxt, prod, epoch, sq, rcs⟩ : BatS), n)) {W0 w : World} {K : Know} {L : List Res} (h : St W0 w K (.inp p ⟨s, pos, 0⟩ :: L)) :
  Calls Tryz.prog 11 #[inPtr p] w fun en w' => ∃ (q1 : Option Addr) (l1 : List (RecS × Value)) (cap1 : Nat), en = .returned (.agg #[.int .i64 base, .int .i64 leader, .bool app, .bool txn, .bool ctl, .int .i64 last, .int .i64 first, .int .i64 maxt, .int .i64 prod, .int .i64 epoch, .int .i64 sq, .slice q1 l1.length cap1]) ∧ l1.map (·.1) = rcs ∧ St W0 w' (K.and (Know.recs (.slice q1 l1.length cap1) l1)) (.inp p ⟨s, pos + n, 0⟩ :: L) := by
 have key := bat_read_good p s pos hsl hp (⟨base, leader, app, txn, ctl, last, first, maxt, prod, epoch, sq, rcs⟩ : BatS) n hr h
 dsimp only at key
 exact key
set_option maxHeartbeats 1000000 in
set_option maxRecDepth 100000 in
theorem ref11_sameX (base leader : Int) (app txn ctl : Bool) (last first maxt prod epoch sq : Int) (l1 xl : List (RecS × Value)) (q1 xq : Option Addr) (cap1 xcap : Nat) (hn : l1.length ≤ 1000000) (hx : l1.map (·.1) = xl.map (·.1)) (hf1 : ∀ x ∈ l1, x.1.hdrs.length ≤ 9223372036854775807) (hf2 : ∀ x ∈ xl, x.1.hdrs.length ≤ 9223372036854775807) {W0 w : World} {K : Know} {L : List Res} (hk1 : K.has (Know.recs (.slice q1 l1.length cap1) l1)) (hk2 : K.has (Know.recs (.slice xq xl.length xcap) xl)) (h : St W0 w K L) :
 Calls Tryz.prog 13 #[.agg #[.int .i64 base, .int .i64 leader, .bool app, .bool txn, .bool ctl, .int .i64 last, .int .i64 first, .int .i64 maxt, .int .i64 prod, .int .i64 epoch, .int .i64 sq, .slice q1 l1.length cap1], .agg #[.int .i64 base, .int .i64 leader, .bool app, .bool txn, .bool ctl, .int .i64 last, .int .i64 first, .int .i64 maxt, .int .i64 prod, .int .i64 epoch, .int .i64 sq, .slice xq xl.length xcap]] w fun en w' => en = .returned (.bool true) ∧ St W0 w' K L := ref11_sameT0 base leader app txn ctl last first maxt prod epoch sq l1 xl q1 xq cap1 xcap hn hx hf1 hf2 hk1 hk2 h

set_option maxHeartbeats 2000000 in
set_option maxRecDepth 100000 in
theorem wm_long (l : List BatR) (ends : List EndS) (q q5 : Option Addr) (cap cap5 : Nat) (hl : 6 < l.length ∨ 6 < ends.length) {W0 w : World} {K : Know} (h : St W0 w K []) :
   Calls Tryz.prog 3 #[.slice q l.length cap, .slice q5 ends.length cap5] w fun en w' => en = .returned (.bool true) ∧ Below W0.heap.size W0 w' := by
 have H := Lib.hid h
 clear h
 by_cases h1 : 6 < l.length
 · as_aux_lemma =>
   have d1 : decide ((6 : Int) < (l.length : Int)) = true := decide_eq_true (by omega)
   clear hl h1
   go_enter Tryz.func3, Tryz.ntmps3
   go_wp2_with (go_at_call 4; (with_reducible refine (top_none H.out).mono ?_); rintro e_ wn ⟨s0, rfl, h⟩; obtain ⟨nb, hnb⟩ : ∃ b, wn.heap.size = b := ⟨_, rfl⟩; have h := (h.allocRaw #[.int .i64 0, .int .i64 0, .bool false, .bool false, .bool false, .int .i64 0, .int .i64 0, .int .i64 0, .int .i64 (-1), .int .i64 (-1), .int .i64 (-1), .slice none 0 0] 26).drop; replace H := Lib.hid h; clear h)
   go_ret
   exact ⟨rfl, H.out.below⟩
 · as_aux_lemma =>
   have d1 : decide ((6 : Int) < (l.length : Int)) = false := decide_eq_false (by omega)
   have d2 : decide ((6 : Int) < (ends.length : Int)) = true := decide_eq_true (by omega)
   clear hl h1
   go_enter Tryz.func3, Tryz.ntmps3
   go_wp2_with (go_at_call 4; (with_reducible refine (top_none H.out).mono ?_); rintro e_ wn ⟨s0, rfl, h⟩; obtain ⟨nb, hnb⟩ : ∃ b, wn.heap.size = b := ⟨_, rfl⟩; have h := (h.allocRaw #[.int .i64 0, .int .i64 0, .bool false, .bool false, .bool false, .int .i64 0, .int .i64 0, .int .i64 0, .int .i64 (-1), .int .i64 (-1), .int .i64 (-1), .slice none 0 0] 26).drop; replace H := Lib.hid h; clear h)
   go_ret
   exact ⟨rfl, H.out.below⟩
theorem St.freezeBatsW {W0 w : World} {K : Know} {L : List Res} {v : Value} {T : TypeId} {l : List BatR} (h : St W0 w K (.row v T 12 l.length (l.flatMap batcells) :: L)) (ht : ∀ x ∈ l, K.has (Know.recs (.slice x.q x.l.length x.cap) x.l)) : St W0 w (K.and (Know.bats v l)) L := by
 have hf := h.freezeRow (R := RBat) (fun x _ => ⟨rfl, rfl⟩)
 exact hf.know (K' := K.and (Know.bats v l)) (fun w F hh => ⟨hh.1, hh.2, fun x hx => ht x hx _ _ hh.1⟩)
theorem s_closeW (p : Nat) (s : Bs) (n : Nat) (hn : n = s.length) {W0 w : World} {K : Know} {L : List Res} (h : St W0 w K (.inp p ⟨s, n, 0⟩ :: L)) :
  Calls Tryz.prog 14 #[inPtr p] w fun en w' => en = .returned (.int .i64 0) ∧ St W0 w' K (.inp p ⟨s, n, 0⟩ :: L) := by
 have e : (⟨s, n, 0⟩ : InS).close = ⟨s, n, 0⟩ := by
  unfold InS.close
  rw [if_neg (by simp only [InS.left]; omega)]
 have := s_close p ⟨s, n, 0⟩ h
 rw [e] at this
 exact this

end Go.Proofs.YtolndcljbjlacaaGreat
