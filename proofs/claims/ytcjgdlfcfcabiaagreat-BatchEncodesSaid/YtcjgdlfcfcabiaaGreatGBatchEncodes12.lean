/- Layer 7, walked: RecordEncodes. -/
import Derived.Test.YtcjgdlfcfcabiaaGreatGBatchEncodes9
import Derived.Test.YtcjgdlfcfcabiaaGreatGBatchEncodes6
import Derived.Test.YtcjgdlfcfcabiaaGreatGBatchEncodes10
import Derived.Test.YtcjgdlfcfcabiaaGreatGBatchEncodes11
import Derived.Test.YtcjgdlfcfcabiaaGreatGBatchEncodes5
import Derived.Deep.RegionHeld3
import Derived.Deep.DeepCutAuto
import Derived.IntWalk
import Derived.Test.YtcjgdlfcfcabiaaGreatGBatchEncodes7
import Derived.Test.YtcjgdlfcfcabiaaGreatGBatchEncodes8
import Derived.Test.YtcjgdlfcfcabiaaGreatRec5
import Derived.Test.YtcjgdlfcfcabiaaGreatArgs
import Derived.SizedLaws
import Derived.Deep.Slices
import Derived.Test.YtcjgdlfcfcabiaaGreatL06F
import Derived.Test.YtcjgdlfcfcabiaaGreatRec8
/- Batches: the document's bytes. -/
namespace Go.Proofs.YtcjgdlfcfcabiaaGreat
open Go.RowKit

theorem wp_op_value {P : Program} {o : Oper} {a : Act} {w w' : World} {v : Value} {KK : Act → World → Prop} {Q : Exit → Act → World → Prop} (hr : (execOp a.eval o).run P w = .ok (.value v) w') (h : KK (a.put o.dst v) w') : o.wp P a w KK Q := by
  unfold Oper.wp
  rw [hr]
  exact h
theorem build12 (n0 n1 n2 n3 n4 n5 n6 n7 n8 n9 n10 n11 : Int) (w : World) : (Instr.buildSlice 76 12 #[(0, .int .i64 n0), (1, .int .i64 n1), (2, .int .i64 n2), (3, .int .i64 n3), (4, .int .i64 n4), (5, .int .i64 n5), (6, .int .i64 n6), (7, .int .i64 n7), (8, .int .i64 n8), (9, .int .i64 n9), (10, .int .i64 n10), (11, .int .i64 n11)]).run Tryz.prog w = .ok (.slice (some ⟨w.heap.size, 0, none⟩) 12 12) (w.alloc (.cells #[.int .i64 n0, .int .i64 n1, .int .i64 n2, .int .i64 n3, .int .i64 n4, .int .i64 n5, .int .i64 n6, .int .i64 n7, .int .i64 n8, .int .i64 n9, .int .i64 n10, .int .i64 n11] 3 (0, 0))) := by go_simp
theorem exec_val {v : Value} {w w' : World} (s : Sem Value) (hb : s.run Tryz.prog w = .ok v w') : (do pure (Next.value (← s)) : Sem Next).run Tryz.prog w = .ok (.value v) w' := by go_simp
theorem exec_build {o : Oper} {ρ : Operand → Value} (ps : Array (Nat × Value)) (v : Value) (w w' : World) (ho : execOp ρ o = (do pure (Next.value (← Instr.buildSlice 76 12 ps)))) (hb : (Instr.buildSlice 76 12 ps).run Tryz.prog w = .ok v w') : (execOp ρ o).run Tryz.prog w = .ok (.value v) w' := by
  rw [ho]
  exact exec_val _ hb
theorem ref10_pre (bl : Nat) (b : BatS) (sm : Int) (rows : Bs) (hrw : b.rowsB = rows) (at_ : Int) (hat : attrN b.app b.txn b.ctl 3 = at_) (n : Nat) (hn : b.recs.length = n) (said : Bs) (hsaid : encInts (b.pre sm).items = said) (hfit : FitsAll (b.pre sm).items) (hR : (b.pre sm).R) {W0 w : World} {K : Know} {L : List Res} (h : St W0 w K (.raw bl #[.int .i64 b.base, .int .i64 (49 + rows.length), .int .i64 b.leader, .int .i64 sm, .int .i64 at_, .int .i64 b.last, .int .i64 b.first, .int .i64 b.maxt, .int .i64 b.prod, .int .i64 b.epoch, .int .i64 b.seq, .int .i64 n] 3 :: L)) :
    Calls Tryz.prog 40 #[.slice (some ⟨bl, 0, none⟩) 12 12] w fun en w' => en = .returned (.tuple #[.string (bb said), .bool true]) ∧ St W0 w' K (.raw bl #[.int .i64 b.base, .int .i64 (49 + rows.length), .int .i64 b.leader, .int .i64 sm, .int .i64 at_, .int .i64 b.last, .int .i64 b.first, .int .i64 b.maxt, .int .i64 b.prod, .int .i64 b.epoch, .int .i64 b.seq, .int .i64 n] 3 :: L) := by
  subst hrw hat hn hsaid
  have e : preBytes (b.pre sm) = (encInts (b.pre sm).items, true) := if_pos hfit
  have c := ref10_bytes bl (b.pre sm) hR h
  rw [e] at c
  exact c

set_option maxHeartbeats 1000000 in
set_option maxRecDepth 100000 in
theorem ref11_attr (base leader : Int) (app txn ctl : Bool) (last first maxt prod epoch sq : Int) (rv : Value) (r : Int) (hr : attrN app txn ctl 3 = r) {W0 w : World} {K : Know} {L : List Res} (h : St W0 w K L) :
    Calls Tryz.prog 41 #[.agg #[.int .i64 base, .int .i64 leader, .bool app, .bool txn, .bool ctl, .int .i64 last, .int .i64 first, .int .i64 maxt, .int .i64 prod, .int .i64 epoch, .int .i64 sq, rv]] w fun en w' => en = .returned (.int .i64 r) ∧ St W0 w' K L := by
  obtain ⟨hb, hhb⟩ : ∃ b, w.heap.size = b := ⟨_, rfl⟩
  have h1 := h.allocRaw #[.int .i64 base, .int .i64 leader, .bool app, .bool txn, .bool ctl, .int .i64 last, .int .i64 first, .int .i64 maxt, .int .i64 prod, .int .i64 epoch, .int .i64 sq, rv] 24
  rw [hhb] at h1
  obtain ⟨x0, x1, x2, x3, x4, x5, x6, x7, x8, x9, x10, x11, y0, y1, y2, y3, y4, y5, y6, y7, y8, y9, y10, y11⟩ := raw12 (b := hb) (h1)
  have H := Lib.hid h1
  subst hr
  clear h h1
  cases app <;> cases txn <;> cases ctl
  all_goals
    go_enter Tryz.func41, Tryz.ntmps41
    go_wp2
    go_ret
    exact ⟨by kernel_rfl, H.out.drop⟩

theorem ref05_sumX (s : Bs) (hs : s.length ≤ 1000000) (x : Nat) (hx : (crcMore 0#32 s).toNat = x) {W0 w : World} {K : Know} {L : List Res} (h : St W0 w K L) :
    Calls Tryz.prog 42 #[.string (bb s)] w fun en w' => en = .returned (.int .u32 x) ∧ St W0 w' K L := by
  subst hx
  exact ref05_sumW s hs h
set_option maxHeartbeats 4000000 in
set_option maxRecDepth 1000000 in
theorem ref11_encode (b : BatS) (s : Bs) (hs : b.enc = s) (l : List (RecS × Value)) (q : Option Addr) (cap : Nat) (hl : l.map (·.1) = b.recs) (so : SmallOk b) {W0 w : World} {K : Know} {L : List Res} (hk : K.has (Know.recs (.slice q l.length cap) l)) (h : St W0 w K L) :
    Calls Tryz.prog 12 #[.agg #[.int .i64 b.base, .int .i64 b.leader, .bool b.app, .bool b.txn, .bool b.ctl, .int .i64 b.last, .int .i64 b.first, .int .i64 b.maxt, .int .i64 b.prod, .int .i64 b.epoch, .int .i64 b.seq, .slice q l.length cap]] w fun en w' => en = .returned (.string (bb s)) ∧ St W0 w' K L := by
  obtain ⟨hb, hhb⟩ : ∃ b, w.heap.size = b := ⟨_, rfl⟩
  have h1 := h.allocRaw #[.int .i64 b.base, .int .i64 b.leader, .bool b.app, .bool b.txn, .bool b.ctl, .int .i64 b.last, .int .i64 b.first, .int .i64 b.maxt, .int .i64 b.prod, .int .i64 b.epoch, .int .i64 b.seq, .slice q l.length cap] 24
  rw [hhb] at h1
  obtain ⟨x0, x1, x2, x3, x4, x5, x6, x7, x8, x9, x10, x11, y0, y1, y2, y3, y4, y5, y6, y7, y8, y9, y10, y11⟩ := raw12 (b := hb) (h1)
  have H := Lib.hid h1
  have HK := Lib.hid hk
  have hrn := so.rows
  have hre : encAll l = b.rowsB := by rw [encAll_rows, hl]; rfl
  obtain ⟨rows, hrows⟩ : ∃ r, b.rowsB = r := ⟨_, rfl⟩
  have hcr := b.crc_lt
  have hln := so.len
  obtain ⟨at_, hat⟩ : ∃ a, attrN b.app b.txn b.ctl 3 = a := ⟨_, rfl⟩
  obtain ⟨x, hx⟩ : ∃ x, b.crc = x := ⟨_, rfl⟩
  obtain ⟨said0, hs0⟩ : ∃ t, encInts (b.pre 0).items = t := ⟨_, rfl⟩
  obtain ⟨said1, hs1⟩ : ∃ t, encInts (b.pre x).items = t := ⟨_, rfl⟩
  obtain ⟨all0, ha0⟩ : ∃ t, b.back ++ b.rowsB = t := ⟨_, rfl⟩
  have hbl : b.back.length = 40 := by unfold BatS.back; rw [encInts_length]; rfl
  obtain ⟨back, hbk⟩ : ∃ t, b.back = t := ⟨_, rfl⟩
  have hl0 : said0.length = 61 := by rw [← hs0]; exact items_len _
  have hl1 : said1.length = 61 := by rw [← hs1]; exact items_len _
  have HRW := Lib.hid hrows
  have HN := Lib.hid (show b.recs.length = l.length by rw [← hl, List.length_map])
  have AT := Lib.hid hat
  have HS0 := Lib.hid hs0
  have HS1 := Lib.hid hs1
  have HF0 := Lib.hid (BatS.fitsAll so.err so.rng 0 (by omega) (by omega) (by omega))
  have HR0 := Lib.hid (BatS.pre_R so.err so.rng 0 (by omega) (by omega) (by omega))
  have HF1 := Lib.hid (BatS.fitsAll so.err so.rng x (by omega) (by omega) (by omega))
  have HR1 := Lib.hid (BatS.pre_R so.err so.rng x (by omega) (by omega) (by omega))
  have HX := Lib.hid (show (crcMore 0#32 all0).toNat = x by rw [← ha0, ← hx]; rfl)
  have HA0 := Lib.hid (show all0.length ≤ 1000000 by rw [← ha0, List.length_append]; omega)
  have hT : List.take (said0.length - 21) (List.drop 21 said0) = back := by
    rw [List.take_of_length_le (by rw [List.length_drop]; omega), ← hs0, b.pre_drop, hbk]
  have hcat0 : bb back ++ bb rows = bb all0 := by rw [← ha0, ← hbk, ← hrows]; exact bb_append _ _
  have hcat1 : bb said1 ++ bb rows = bb s := by
    rw [← hs, ← hs1, ← hrows, ← hx]; exact bb_append _ _
  have hrl : rows.length ≤ 400000 := by rw [← hrows]; exact hrn
  have hg0 : ¬ (9223372036854775807 < back.length + rows.length) := by rw [← hbk]; omega
  have hg1 : ¬ (9223372036854775807 < said1.length + rows.length) := by omega
  have l21 : (21 : Int) ≤ (said0.length : Int) := by omega
  have l21' : 21 ≤ said0.length := by omega
  have hne : ¬ (said0 = []) := by intro hh; rw [hh] at hl0; simp at hl0
  have w1 : IntKind.i64.wrap (49 + (rows.length : Int)) = 49 + (rows.length : Int) := IntWalk.i64_in _ (by omega)
  have w1' : wrap64 (49 + (rows.length : Int)) = 49 + (rows.length : Int) := by unfold wrap64; omega
  have w2 : IntKind.i64.wrap (x : Int) = (x : Int) := IntWalk.i64_in _ (by omega)
  have w2' : wrap64 (x : Int) = (x : Int) := by unfold wrap64; omega
  have HRE := Lib.hid (hre.trans hrows)
  have HXS := Lib.hid (show ∀ y ∈ l, y.1.R ∧ y.1.sum ≤ 1000000 from fun y hy => by
    have hm : y.1 ∈ b.recs := hl ▸ List.mem_map_of_mem hy
    have := so.recs y.1 hm
    exact ⟨this.1, this.2.2⟩)
  have HLN := Lib.hid (show l.length ≤ 12 by have h9 := congrArg List.length hl; rw [List.length_map] at h9; omega)
  have HRN := Lib.hid hrl
  clear h h1 hk hrn hre hrows hcr hln hat hx hs0 hs1 ha0 hbl hbk hl0 hl1 hl hs so
  have HG0 := Lib.hid (And.intro hT (And.intro hcat0 (And.intro hg0 (And.intro l21 (And.intro l21' hne)))))
  have HG1 := Lib.hid (And.intro hcat1 hg1)
  have HW := Lib.hid (And.intro w1 (And.intro w1' (And.intro w2 w2')))
  clear hT hcat0 hg0 l21 l21' hne hcat1 hg1 w1 w1' w2 w2' hrl
  go_enter Tryz.func12, Tryz.ntmps12
  go_wp2
  go_loopw [3, 4] (fun sv iv wr => ∃ k : Nat, k ≤ l.length ∧ iv = .int .i64 k ∧ sv = .string (bb (encAll (l.take k))) ∧ St W0 wr K (.raw hb #[.int .i64 b.base, .int .i64 b.leader, .bool b.app, .bool b.txn, .bool b.ctl, .int .i64 b.last, .int .i64 b.first, .int .i64 b.maxt, .int .i64 b.prod, .int .i64 b.epoch, .int .i64 b.seq, .slice q l.length cap] 24 :: L)) (fun _ iv _ => l.length - (intOf iv).toNat)
  case atStart => exact ⟨0, Nat.zero_le _, rfl, rfl, H.out⟩
  case round =>
    obtain ⟨k, hkl, rfl, rfl, hst⟩ := hrel
    clear H x0 x1 x2 x3 x4 x5 x6 x7 x8 x9 x10 x11 y0 y1 y2 y3 y4 y5 y6 y7 y8 y9 y10 y11
    have H := Lib.hid hst
    clear hst
    by_cases hlt : k < l.length
    · as_aux_lemma =>
      have het := encAll_take l k hlt
      have hpl : (encAll (l.take k)).length ≤ rows.length := by
        rw [← HRE.out]
        conv => rhs; rw [← List.take_append_drop k l]
        unfold encAll
        rw [List.flatMap_append, List.length_append]
        omega
      have hpl2 : (encAll (l.take (k + 1))).length ≤ rows.length := by
        rw [← HRE.out]
        conv => rhs; rw [← List.take_append_drop (k + 1) l]
        unfold encAll
        rw [List.flatMap_append, List.length_append]
        omega
      obtain ⟨b0, off, hqq⟩ := recs_at HK.out H.out (by omega)
      subst hqq
      obtain ⟨⟨x, vx⟩, hx⟩ : ∃ x, l[k] = x := ⟨_, rfl⟩
      have cc := recs_cell HK.out H.out k hlt (x, vx) hx
      have hmem : (x, vx) ∈ l := hx ▸ List.getElem_mem hlt
      have XF := HXS.out (x, vx) hmem
      have XF1 := Lib.hid XF.1
      have XF2 := Lib.hid XF.2
      clear XF
      have xk : K.has (Know.flat RHdr vx 3 x.hdrs) := recs_hdrs HK.out hmem
      obtain ⟨qx, capx, hvx⟩ := flat_form xk H.out
      subst hvx
      have XK := Lib.hid xk
      simp only at cc
      obtain ⟨c0, c1, c2, c3, c4, c5, c6⟩ := cc
      rw [← Nat.add_assoc] at c1 c2 c3 c4 c5 c6
      obtain ⟨sx, hsx⟩ : ∃ t, encR x = t := ⟨_, rfl⟩
      have HSX := Lib.hid hsx
      rw [hx] at het
      simp only [hsx] at het
      obtain ⟨pre, hpre⟩ : ∃ t, encAll (l.take k) = t := ⟨_, rfl⟩
      obtain ⟨nxt, hnxt⟩ : ∃ t, encAll (l.take (k + 1)) = t := ⟨_, rfl⟩
      rw [hpre] at het hpl ⊢
      rw [hnxt] at het hpl2
      have HNXT := Lib.hid hnxt
      have hcat : bb pre ++ bb sx = bb nxt := by rw [het]; exact bb_append _ _
      have hg : ¬ (9223372036854775807 < pre.length + sx.length) := by
        have h1 := HRN.out
        have h2 := congrArg List.length het
        rw [List.length_append] at h2
        omega
      have hki : (k : Int) < (l.length : Int) := by omega
      have hl12 : (l.length : Int) ≤ 12 := by have := HLN.out; omega
      obtain ⟨x0, x1, x2, x3, x4, x5, x6, x7, x8, x9, x10, x11, y0, y1, y2, y3, y4, y5, y6, y7, y8, y9, y10, y11⟩ := raw12 (b := hb) (H.out)
      clear xk hmem hx hsx het hpl hpl2 hpre hnxt
      go_wp2_with (go_at_call 39; (with_reducible refine (ref07_write x (.slice qx x.hdrs.length capx) sx HSX.out XF1.out XF2.out XK.out H.out).mono ?_); rintro e_ wn ⟨rfl, h⟩; replace H := Lib.hid h; clear h)
      go_roundw
      case rel => exact ⟨k + 1, hlt, by go_num, by rw [HNXT.out], H.out⟩
      case measure => first | (simp [intOf]; done) | (simp [intOf]; omega)
    · obtain rfl : k = l.length := by omega
      rw [List.take_length, HRE.out]
      have w1 := HW.out.1
      obtain ⟨x0, x1, x2, x3, x4, x5, x6, x7, x8, x9, x10, x11, y0, y1, y2, y3, y4, y5, y6, y7, y8, y9, y10, y11⟩ := raw12 (b := hb) (H.out)
      go_upto_region 6 with (fail)
      clear x0 x1 x2 x3 x4 x5 x6 x7 x8 x9 x10 x11 y0 y1 y2 y3 y4 y5 y6 y7 y8 y9 y10 y11
      go_cut [5] (fun s5 wx => s5 = .string (bb said0) ∧ St W0 wx K (.raw hb #[.int .i64 b.base, .int .i64 b.leader, .bool b.app, .bool b.txn, .bool b.ctl, .int .i64 b.last, .int .i64 b.first, .int .i64 b.maxt, .int .i64 b.prod, .int .i64 b.epoch, .int .i64 b.seq, .slice q l.length cap] 24 :: L))
      case first =>
        as_aux_lemma =>
        have hs := H.out.drew
        refine wp_region_held_drew (S := fun w' => w'.cell? ⟨hb, 0, none⟩ = some (.int .i64 b.base) ∧ w'.cell? ⟨hb, 1, none⟩ = some (.int .i64 b.leader) ∧ w'.cell? ⟨hb, 2, none⟩ = some (.bool b.app) ∧ w'.cell? ⟨hb, 3, none⟩ = some (.bool b.txn) ∧ w'.cell? ⟨hb, 4, none⟩ = some (.bool b.ctl) ∧ w'.cell? ⟨hb, 5, none⟩ = some (.int .i64 b.last) ∧ w'.cell? ⟨hb, 6, none⟩ = some (.int .i64 b.first) ∧ w'.cell? ⟨hb, 7, none⟩ = some (.int .i64 b.maxt) ∧ w'.cell? ⟨hb, 8, none⟩ = some (.int .i64 b.prod) ∧ w'.cell? ⟨hb, 9, none⟩ = some (.int .i64 b.epoch) ∧ w'.cell? ⟨hb, 10, none⟩ = some (.int .i64 b.seq) ∧ w'.cell? ⟨hb, 11, none⟩ = some (.slice q l.length cap)) (by kernel_rfl) (let ⟨x0, x1, x2, x3, x4, x5, x6, x7, x8, x9, x10, x11, _⟩ := raw12 (b := hb) (hs); ⟨x0, x1, x2, x3, x4, x5, x6, x7, x8, x9, x10, x11⟩) (fun hHeld => ?_)
        refine wpAnyH_take (i := 0) (oi := { dst := some 26, op := Op.fieldAddr 24 (Operand.tmp 1) 0, type := 0, pos := "ref.go:116", after := #[], guard := none }) (v := ?_) rfl (by kernel_rfl) (by kernel_rfl) (by kernel_rfl) (fun _ _ _ h => h) (Or.inl ⟨by rfl, ?_⟩) (by assumption) ?_
        rotate_left
        · intro w hSw; (try dsimp only at hSw); go_simp; try with_reducible rfl
        simp only [Act.put, List.setIfInBounds_toArray, List.set_cons_zero, List.set_cons_succ]
        refine wpAnyH_take (i := 1) (oi := { dst := some 27, op := Op.load 3 (Operand.tmp 26), type := 3, pos := "ref.go:116", after := #[{ on := 0, ground := Ground.data }], guard := none }) (v := ?_) rfl (by kernel_rfl) (by kernel_rfl) (by kernel_rfl) (fun _ _ _ h => h) (Or.inl ⟨by rfl, ?_⟩) (by assumption) ?_
        rotate_left
        · intro w hSw; (try dsimp only at hSw); go_simp; try with_reducible rfl
        simp only [Act.put, List.setIfInBounds_toArray, List.set_cons_zero, List.set_cons_succ]
        refine wpAnyH_take (i := 2) (oi := { dst := some 28, op := Op.move (Operand.tmp 3), type := 9, pos := "ref.go:116", after := #[], guard := none }) (v := ?_) rfl (by kernel_rfl) (by kernel_rfl) (by kernel_rfl) (fun _ _ _ h => h) (Or.inl ⟨by rfl, ?_⟩) (by assumption) ?_
        rotate_left
        · intro w hSw; (try dsimp only at hSw); go_simp; try with_reducible rfl
        simp only [Act.put, List.setIfInBounds_toArray, List.set_cons_zero, List.set_cons_succ]
        refine wpAnyH_take (i := 3) (oi := { dst := some 29, op := Op.call { callee := Callee.builtin Builtin.len, args := #[Operand.tmp 28], argTypes := #[9] }, type := 3, pos := "ref.go:116", after := #[{ on := 2, ground := Ground.data }], guard := none }) (v := ?_) rfl (by kernel_rfl) (by kernel_rfl) (by kernel_rfl) (fun _ _ _ h => h) (Or.inl ⟨by rfl, ?_⟩) (by assumption) ?_
        rotate_left
        · intro w hSw; (try dsimp only at hSw); go_simp; try with_reducible rfl
        simp only [Act.put, List.setIfInBounds_toArray, List.set_cons_zero, List.set_cons_succ]
        refine wpAnyH_take (i := 4) (oi := { dst := some 30, op := Op.binOp BinOp.add 3 (Operand.const (Value.int IntKind.i64 49)) (Operand.tmp 29) 3, type := 3, pos := "ref.go:116", after := #[{ on := 3, ground := Ground.data }], guard := none }) (v := ?_) rfl (by kernel_rfl) (by kernel_rfl) (by kernel_rfl) (fun _ _ _ h => h) (Or.inl ⟨by rfl, ?_⟩) (by assumption) ?_
        rotate_left
        · intro w hSw; (try dsimp only at hSw); go_simp; try with_reducible rfl
        simp only [Act.put, List.setIfInBounds_toArray, List.set_cons_zero, List.set_cons_succ]
        refine wpAnyH_take (i := 5) (oi := { dst := some 31, op := Op.fieldAddr 24 (Operand.tmp 1) 1, type := 0, pos := "ref.go:116", after := #[], guard := none }) (v := ?_) rfl (by kernel_rfl) (by kernel_rfl) (by kernel_rfl) (fun _ _ _ h => h) (Or.inl ⟨by rfl, ?_⟩) (by assumption) ?_
        rotate_left
        · intro w hSw; (try dsimp only at hSw); go_simp; try with_reducible rfl
        simp only [Act.put, List.setIfInBounds_toArray, List.set_cons_zero, List.set_cons_succ]
        refine wpAnyH_take (i := 6) (oi := { dst := some 32, op := Op.load 3 (Operand.tmp 31), type := 3, pos := "ref.go:116", after := #[{ on := 5, ground := Ground.data }], guard := none }) (v := ?_) rfl (by kernel_rfl) (by kernel_rfl) (by kernel_rfl) (fun _ _ _ h => h) (Or.inl ⟨by rfl, ?_⟩) (by assumption) ?_
        rotate_left
        · intro w hSw; (try dsimp only at hSw); go_simp; try with_reducible rfl
        simp only [Act.put, List.setIfInBounds_toArray, List.set_cons_zero, List.set_cons_succ]
        refine wpAnyH_take (i := 7) (oi := { dst := some 33, op := Op.load 24 (Operand.tmp 1), type := 24, pos := "ref.go:116", after := #[], guard := none }) (v := ?_) rfl (by kernel_rfl) (by kernel_rfl) (by kernel_rfl) (fun _ _ _ h => h) (Or.inl ⟨by rfl, ?_⟩) (by assumption) ?_
        rotate_left
        · intro w hSw; (try dsimp only at hSw); go_simp; try with_reducible rfl
        simp only [Act.put, List.setIfInBounds_toArray, List.set_cons_zero, List.set_cons_succ]
        refine wpAnyH_take (i := 9) (oi := { dst := some 35, op := Op.fieldAddr 24 (Operand.tmp 1) 5, type := 0, pos := "ref.go:116", after := #[], guard := none }) (v := ?_) rfl (by kernel_rfl) (by kernel_rfl) (by kernel_rfl) (fun _ _ _ h => h) (Or.inl ⟨by rfl, ?_⟩) (by assumption) ?_
        rotate_left
        · intro w hSw; (try dsimp only at hSw); go_simp; try with_reducible rfl
        simp only [Act.put, List.setIfInBounds_toArray, List.set_cons_zero, List.set_cons_succ]
        refine wpAnyH_take (i := 10) (oi := { dst := some 36, op := Op.load 3 (Operand.tmp 35), type := 3, pos := "ref.go:116", after := #[{ on := 9, ground := Ground.data }], guard := none }) (v := ?_) rfl (by kernel_rfl) (by kernel_rfl) (by kernel_rfl) (fun _ _ _ h => h) (Or.inl ⟨by rfl, ?_⟩) (by assumption) ?_
        rotate_left
        · intro w hSw; (try dsimp only at hSw); go_simp; try with_reducible rfl
        simp only [Act.put, List.setIfInBounds_toArray, List.set_cons_zero, List.set_cons_succ]
        refine wpAnyH_take (i := 11) (oi := { dst := some 37, op := Op.fieldAddr 24 (Operand.tmp 1) 6, type := 0, pos := "ref.go:116", after := #[], guard := none }) (v := ?_) rfl (by kernel_rfl) (by kernel_rfl) (by kernel_rfl) (fun _ _ _ h => h) (Or.inl ⟨by rfl, ?_⟩) (by assumption) ?_
        rotate_left
        · intro w hSw; (try dsimp only at hSw); go_simp; try with_reducible rfl
        simp only [Act.put, List.setIfInBounds_toArray, List.set_cons_zero, List.set_cons_succ]
        refine wpAnyH_take (i := 12) (oi := { dst := some 38, op := Op.load 3 (Operand.tmp 37), type := 3, pos := "ref.go:116", after := #[{ on := 11, ground := Ground.data }], guard := none }) (v := ?_) rfl (by kernel_rfl) (by kernel_rfl) (by kernel_rfl) (fun _ _ _ h => h) (Or.inl ⟨by rfl, ?_⟩) (by assumption) ?_
        rotate_left
        · intro w hSw; (try dsimp only at hSw); go_simp; try with_reducible rfl
        simp only [Act.put, List.setIfInBounds_toArray, List.set_cons_zero, List.set_cons_succ]
        refine wpAnyH_take (i := 13) (oi := { dst := some 39, op := Op.fieldAddr 24 (Operand.tmp 1) 7, type := 0, pos := "ref.go:116", after := #[], guard := none }) (v := ?_) rfl (by kernel_rfl) (by kernel_rfl) (by kernel_rfl) (fun _ _ _ h => h) (Or.inl ⟨by rfl, ?_⟩) (by assumption) ?_
        rotate_left
        · intro w hSw; (try dsimp only at hSw); go_simp; try with_reducible rfl
        simp only [Act.put, List.setIfInBounds_toArray, List.set_cons_zero, List.set_cons_succ]
        refine wpAnyH_take (i := 14) (oi := { dst := some 40, op := Op.load 3 (Operand.tmp 39), type := 3, pos := "ref.go:116", after := #[{ on := 13, ground := Ground.data }], guard := none }) (v := ?_) rfl (by kernel_rfl) (by kernel_rfl) (by kernel_rfl) (fun _ _ _ h => h) (Or.inl ⟨by rfl, ?_⟩) (by assumption) ?_
        rotate_left
        · intro w hSw; (try dsimp only at hSw); go_simp; try with_reducible rfl
        simp only [Act.put, List.setIfInBounds_toArray, List.set_cons_zero, List.set_cons_succ]
        refine wpAnyH_take (i := 15) (oi := { dst := some 41, op := Op.fieldAddr 24 (Operand.tmp 1) 8, type := 0, pos := "ref.go:116", after := #[], guard := none }) (v := ?_) rfl (by kernel_rfl) (by kernel_rfl) (by kernel_rfl) (fun _ _ _ h => h) (Or.inl ⟨by rfl, ?_⟩) (by assumption) ?_
        rotate_left
        · intro w hSw; (try dsimp only at hSw); go_simp; try with_reducible rfl
        simp only [Act.put, List.setIfInBounds_toArray, List.set_cons_zero, List.set_cons_succ]
        refine wpAnyH_take (i := 16) (oi := { dst := some 42, op := Op.load 3 (Operand.tmp 41), type := 3, pos := "ref.go:116", after := #[{ on := 15, ground := Ground.data }], guard := none }) (v := ?_) rfl (by kernel_rfl) (by kernel_rfl) (by kernel_rfl) (fun _ _ _ h => h) (Or.inl ⟨by rfl, ?_⟩) (by assumption) ?_
        rotate_left
        · intro w hSw; (try dsimp only at hSw); go_simp; try with_reducible rfl
        simp only [Act.put, List.setIfInBounds_toArray, List.set_cons_zero, List.set_cons_succ]
        refine wpAnyH_take (i := 17) (oi := { dst := some 43, op := Op.fieldAddr 24 (Operand.tmp 1) 9, type := 0, pos := "ref.go:116", after := #[], guard := none }) (v := ?_) rfl (by kernel_rfl) (by kernel_rfl) (by kernel_rfl) (fun _ _ _ h => h) (Or.inl ⟨by rfl, ?_⟩) (by assumption) ?_
        rotate_left
        · intro w hSw; (try dsimp only at hSw); go_simp; try with_reducible rfl
        simp only [Act.put, List.setIfInBounds_toArray, List.set_cons_zero, List.set_cons_succ]
        refine wpAnyH_take (i := 18) (oi := { dst := some 44, op := Op.load 3 (Operand.tmp 43), type := 3, pos := "ref.go:116", after := #[{ on := 17, ground := Ground.data }], guard := none }) (v := ?_) rfl (by kernel_rfl) (by kernel_rfl) (by kernel_rfl) (fun _ _ _ h => h) (Or.inl ⟨by rfl, ?_⟩) (by assumption) ?_
        rotate_left
        · intro w hSw; (try dsimp only at hSw); go_simp; try with_reducible rfl
        simp only [Act.put, List.setIfInBounds_toArray, List.set_cons_zero, List.set_cons_succ]
        refine wpAnyH_take (i := 19) (oi := { dst := some 45, op := Op.fieldAddr 24 (Operand.tmp 1) 10, type := 0, pos := "ref.go:116", after := #[], guard := none }) (v := ?_) rfl (by kernel_rfl) (by kernel_rfl) (by kernel_rfl) (fun _ _ _ h => h) (Or.inl ⟨by rfl, ?_⟩) (by assumption) ?_
        rotate_left
        · intro w hSw; (try dsimp only at hSw); go_simp; try with_reducible rfl
        simp only [Act.put, List.setIfInBounds_toArray, List.set_cons_zero, List.set_cons_succ]
        refine wpAnyH_take (i := 20) (oi := { dst := some 46, op := Op.load 3 (Operand.tmp 45), type := 3, pos := "ref.go:116", after := #[{ on := 19, ground := Ground.data }], guard := none }) (v := ?_) rfl (by kernel_rfl) (by kernel_rfl) (by kernel_rfl) (fun _ _ _ h => h) (Or.inl ⟨by rfl, ?_⟩) (by assumption) ?_
        rotate_left
        · intro w hSw; (try dsimp only at hSw); go_simp; try with_reducible rfl
        simp only [Act.put, List.setIfInBounds_toArray, List.set_cons_zero, List.set_cons_succ]
        refine wpAnyH_take (i := 21) (oi := { dst := some 47, op := Op.fieldAddr 24 (Operand.tmp 1) 11, type := 0, pos := "ref.go:116", after := #[], guard := none }) (v := ?_) rfl (by kernel_rfl) (by kernel_rfl) (by kernel_rfl) (fun _ _ _ h => h) (Or.inl ⟨by rfl, ?_⟩) (by assumption) ?_
        rotate_left
        · intro w hSw; (try dsimp only at hSw); go_simp; try with_reducible rfl
        simp only [Act.put, List.setIfInBounds_toArray, List.set_cons_zero, List.set_cons_succ]
        refine wpAnyH_take (i := 22) (oi := { dst := some 48, op := Op.load 22 (Operand.tmp 47), type := 22, pos := "ref.go:116", after := #[{ on := 21, ground := Ground.data }], guard := none }) (v := ?_) rfl (by kernel_rfl) (by kernel_rfl) (by kernel_rfl) (fun _ _ _ h => h) (Or.inl ⟨by rfl, ?_⟩) (by assumption) ?_
        rotate_left
        · intro w hSw; (try dsimp only at hSw); go_simp; try with_reducible rfl
        simp only [Act.put, List.setIfInBounds_toArray, List.set_cons_zero, List.set_cons_succ]
        refine wpAnyH_take (i := 23) (oi := { dst := some 49, op := Op.call { callee := Callee.builtin Builtin.len, args := #[Operand.tmp 48], argTypes := #[22] }, type := 3, pos := "ref.go:116", after := #[{ on := 22, ground := Ground.data }], guard := none }) (v := ?_) rfl (by kernel_rfl) (by kernel_rfl) (by kernel_rfl) (fun _ _ _ h => h) (Or.inl ⟨by rfl, ?_⟩) (by assumption) ?_
        rotate_left
        · intro w hSw; (try dsimp only at hSw); go_simp; try with_reducible rfl
        simp only [Act.put, List.setIfInBounds_toArray, List.set_cons_zero, List.set_cons_succ]
        refine wpAnyH_ready (rs := [8]) (by kernel_rfl) (by simp) (AllReadyH.cons (o := { dst := some 34, op := Op.call { callee := Callee.value (Operand.func 41), args := #[Operand.tmp 33], argTypes := #[24] }, type := 3, pos := "ref.go:116", after := #[{ on := 7, ground := Ground.data }], guard := none }) rfl (fun KK hK => ?_) AllReadyH.nil)
        · go_simp
          go_at_call 41
          with_reducible refine (ref11_attr b.base b.leader b.app b.txn b.ctl b.last b.first b.maxt b.prod b.epoch b.seq (.slice q l.length cap) at_ AT.out hs).mono ?_
          rintro e wq ⟨rfl, hs⟩
          refine hK.out _ _ (let ⟨x0, x1, x2, x3, x4, x5, x6, x7, x8, x9, x10, x11, _⟩ := raw12 (b := hb) (hs); ⟨x0, x1, x2, x3, x4, x5, x6, x7, x8, x9, x10, x11⟩) (fun hHeld => ?_)
          clear hK KK
          try simp only [Act.put, List.setIfInBounds_toArray, List.set_cons_zero, List.set_cons_succ]
          refine wpAnyH_ready (rs := [24]) (by kernel_rfl) (by simp) (AllReadyH.cons (o := { dst := some 50, op := Op.buildSlice 76 12 #[(0, Operand.tmp 27), (1, Operand.tmp 30), (2, Operand.tmp 32), (3, Operand.const (Value.int IntKind.i64 0)), (4, Operand.tmp 34), (5, Operand.tmp 36), (6, Operand.tmp 38), (7, Operand.tmp 40), (8, Operand.tmp 42), (9, Operand.tmp 44), (10, Operand.tmp 46), (11, Operand.tmp 49)], type := 76, pos := "ref.go:116", after := #[{ on := 1, ground := Ground.data }, { on := 4, ground := Ground.data }, { on := 6, ground := Ground.data }, { on := 8, ground := Ground.data }, { on := 10, ground := Ground.data }, { on := 12, ground := Ground.data }, { on := 14, ground := Ground.data }, { on := 16, ground := Ground.data }, { on := 18, ground := Ground.data }, { on := 20, ground := Ground.data }, { on := 23, ground := Ground.data }], guard := none }) rfl (fun KK hK => ?_) AllReadyH.nil)
          · rw [if_pos (by rfl)]
            refine wp_op_value (v := .slice (some ⟨wq.heap.size, 0, none⟩) 12 12) (w' := wq.alloc (.cells #[.int .i64 b.base, .int .i64 (49 + rows.length), .int .i64 b.leader, .int .i64 0, .int .i64 at_, .int .i64 b.last, .int .i64 b.first, .int .i64 b.maxt, .int .i64 b.prod, .int .i64 b.epoch, .int .i64 b.seq, .int .i64 l.length] 3 (0, 0))) (exec_build #[(0, .int .i64 b.base), (1, .int .i64 (49 + rows.length)), (2, .int .i64 b.leader), (3, .int .i64 0), (4, .int .i64 at_), (5, .int .i64 b.last), (6, .int .i64 b.first), (7, .int .i64 b.maxt), (8, .int .i64 b.prod), (9, .int .i64 b.epoch), (10, .int .i64 b.seq), (11, .int .i64 l.length)] _ _ _ (by kernel_rfl) (build12 ( b.base) ( (49 + rows.length)) ( b.leader) ( 0) ( at_) ( b.last) ( b.first) ( b.maxt) ( b.prod) ( b.epoch) ( b.seq) ( l.length) wq)) ?_
            obtain ⟨wy, bS, ey, eb, hs⟩ := hs.allocEx #[.int .i64 b.base, .int .i64 (49 + rows.length), .int .i64 b.leader, .int .i64 0, .int .i64 at_, .int .i64 b.last, .int .i64 b.first, .int .i64 b.maxt, .int .i64 b.prod, .int .i64 b.epoch, .int .i64 b.seq, .int .i64 l.length] 3
            rw [ey, eb]
            clear ey eb
            refine hK.out _ _ (let ⟨x0, x1, x2, x3, x4, x5, x6, x7, x8, x9, x10, x11, _⟩ := raw12 (b := hb) (hs.p1); ⟨x0, x1, x2, x3, x4, x5, x6, x7, x8, x9, x10, x11⟩) (fun hHeld => ?_)
            clear hK KK
            try simp only [Act.put, List.setIfInBounds_toArray, List.set_cons_zero, List.set_cons_succ]
            refine wpAnyH_ready (rs := [25]) (by kernel_rfl) (by simp) (AllReadyH.cons (o := { dst := some 51, op := Op.call { callee := Callee.value (Operand.func 40), args := #[Operand.tmp 50], argTypes := #[76] }, type := 74, pos := "ref.go:116", after := #[{ on := 24, ground := Ground.data }, { on := 8, ground := Ground.chain }], guard := none }) rfl (fun KK hK => ?_) AllReadyH.nil)
            · go_simp
              go_at_call 40
              with_reducible refine (ref10_pre bS b 0 rows HRW.out at_ AT.out l.length HN.out said0 HS0.out HF0.out HR0.out hs).mono ?_
              rintro e wq ⟨rfl, hs⟩
              refine hK.out _ _ (let ⟨x0, x1, x2, x3, x4, x5, x6, x7, x8, x9, x10, x11, _⟩ := raw12 (b := hb) (hs.p1); ⟨x0, x1, x2, x3, x4, x5, x6, x7, x8, x9, x10, x11⟩) (fun hHeld => ?_)
              clear hK KK
              try simp only [Act.put, List.setIfInBounds_toArray, List.set_cons_zero, List.set_cons_succ]
              have hs := hs.drop
              refine wpAnyH_take (i := 26) (oi := { dst := some 25, op := Op.move (Operand.tmp 51), type := 74, pos := "ref.go:116", after := #[{ on := 25, ground := Ground.data }], guard := none }) (v := ?_) rfl (by kernel_rfl) (by kernel_rfl) (by kernel_rfl) (fun _ _ _ h => h) (Or.inl ⟨by rfl, ?_⟩) (by assumption) ?_
              rotate_left
              · intro w hSw; (try dsimp only at hSw); go_simp; try with_reducible rfl
              simp only [Act.put, List.setIfInBounds_toArray, List.set_cons_zero, List.set_cons_succ]
              refine wpAnyH_take (i := 27) (oi := { dst := some 52, op := Op.extract (Operand.tmp 25) 0, type := 9, pos := "ref.go:116", after := #[{ on := 26, ground := Ground.data }], guard := none }) (v := ?_) rfl (by kernel_rfl) (by kernel_rfl) (by kernel_rfl) (fun _ _ _ h => h) (Or.inl ⟨by rfl, ?_⟩) (by assumption) ?_
              rotate_left
              · intro w hSw; (try dsimp only at hSw); go_simp; try with_reducible rfl
              simp only [Act.put, List.setIfInBounds_toArray, List.set_cons_zero, List.set_cons_succ]
              refine wpAnyH_take (i := 28) (oi := { dst := some 53, op := Op.extract (Operand.tmp 25) 1, type := 4, pos := "ref.go:116", after := #[{ on := 26, ground := Ground.data }, { on := 29, ground := Ground.gcOnly Departure.lateStores }], guard := none }) (v := ?_) rfl (by kernel_rfl) (by kernel_rfl) (by kernel_rfl) (fun _ _ _ h => h) (Or.inl ⟨by rfl, ?_⟩) (by assumption) ?_
              rotate_left
              · intro w hSw; (try dsimp only at hSw); go_simp; try with_reducible rfl
              simp only [Act.put, List.setIfInBounds_toArray, List.set_cons_zero, List.set_cons_succ]
              refine wpAnyH_take (i := 29) (oi := { dst := some 5, op := Op.assign (Operand.tmp 52), type := 9, pos := "ref.go:116", after := #[{ on := 27, ground := Ground.data }, { on := 25, ground := Ground.chain }, { on := 0, ground := Ground.phase }, { on := 1, ground := Ground.phase }, { on := 2, ground := Ground.phase }, { on := 3, ground := Ground.phase }, { on := 4, ground := Ground.phase }, { on := 5, ground := Ground.phase }, { on := 6, ground := Ground.phase }, { on := 7, ground := Ground.phase }, { on := 8, ground := Ground.phase }, { on := 9, ground := Ground.phase }, { on := 10, ground := Ground.phase }, { on := 11, ground := Ground.phase }, { on := 12, ground := Ground.phase }, { on := 13, ground := Ground.phase }, { on := 14, ground := Ground.phase }, { on := 15, ground := Ground.phase }, { on := 16, ground := Ground.phase }, { on := 17, ground := Ground.phase }, { on := 18, ground := Ground.phase }, { on := 19, ground := Ground.phase }, { on := 20, ground := Ground.phase }, { on := 21, ground := Ground.phase }, { on := 22, ground := Ground.phase }, { on := 23, ground := Ground.phase }, { on := 24, ground := Ground.phase }, { on := 25, ground := Ground.phase }, { on := 26, ground := Ground.phase }, { on := 27, ground := Ground.phase }, { on := 28, ground := Ground.textOnly Departure.lateStores }], guard := none }) (v := ?_) rfl (by kernel_rfl) (by kernel_rfl) (by kernel_rfl) (fun _ _ _ h => h) (Or.inl ⟨by rfl, ?_⟩) (by assumption) ?_
              rotate_left
              · intro w hSw; (try dsimp only at hSw); go_simp; try with_reducible rfl
              simp only [Act.put, List.setIfInBounds_toArray, List.set_cons_zero, List.set_cons_succ]
              refine wpAnyH_take (i := 30) (oi := { dst := some 6, op := Op.assign (Operand.tmp 53), type := 4, pos := "ref.go:116", after := #[{ on := 28, ground := Ground.data }, { on := 29, ground := Ground.chain }, { on := 0, ground := Ground.phase }, { on := 1, ground := Ground.phase }, { on := 2, ground := Ground.phase }, { on := 3, ground := Ground.phase }, { on := 4, ground := Ground.phase }, { on := 5, ground := Ground.phase }, { on := 6, ground := Ground.phase }, { on := 7, ground := Ground.phase }, { on := 8, ground := Ground.phase }, { on := 9, ground := Ground.phase }, { on := 10, ground := Ground.phase }, { on := 11, ground := Ground.phase }, { on := 12, ground := Ground.phase }, { on := 13, ground := Ground.phase }, { on := 14, ground := Ground.phase }, { on := 15, ground := Ground.phase }, { on := 16, ground := Ground.phase }, { on := 17, ground := Ground.phase }, { on := 18, ground := Ground.phase }, { on := 19, ground := Ground.phase }, { on := 20, ground := Ground.phase }, { on := 21, ground := Ground.phase }, { on := 22, ground := Ground.phase }, { on := 23, ground := Ground.phase }, { on := 24, ground := Ground.phase }, { on := 25, ground := Ground.phase }, { on := 26, ground := Ground.phase }, { on := 27, ground := Ground.phase }, { on := 28, ground := Ground.phase }, { on := 29, ground := Ground.phase }], guard := none }) (v := ?_) rfl (by kernel_rfl) (by kernel_rfl) (by kernel_rfl) (fun _ _ _ h => h) (Or.inl ⟨by rfl, ?_⟩) (by assumption) ?_
              rotate_left
              · intro w hSw; (try dsimp only at hSw); go_simp; try with_reducible rfl
              simp only [Act.put, List.setIfInBounds_toArray, List.set_cons_zero, List.set_cons_succ]
              refine wpAnyH_done (by kernel_rfl) ?_ _
              clear hHeld
              go_wp2_with fail
              go_meet
              exact ⟨rfl, hs⟩
      case rest =>
        obtain ⟨rfl, h⟩ := hcut
        clear H
        have H := Lib.hid h
        clear h
        obtain ⟨hT, hcat0, hg0, l21, l21', hne⟩ := HG0.out
        have w2 := HW.out.2.2.1
        go_upto_region 8 with (go_at_call 42; (with_reducible refine (ref05_sumX all0 HA0.out x HX.out H.out).mono ?_); rintro e_ wn ⟨rfl, h⟩; replace H := Lib.hid h; clear h)
        clear w2 hT hcat0 hg0 l21 l21' hne
        go_cut [8] (fun s8 wx => s8 = .string (bb said1) ∧ St W0 wx K (.raw hb #[.int .i64 b.base, .int .i64 b.leader, .bool b.app, .bool b.txn, .bool b.ctl, .int .i64 b.last, .int .i64 b.first, .int .i64 b.maxt, .int .i64 b.prod, .int .i64 b.epoch, .int .i64 b.seq, .slice q l.length cap] 24 :: L))
        case first =>
          have hs := H.out.drew
          refine wp_region_held_drew (S := fun w' => w'.cell? ⟨hb, 0, none⟩ = some (.int .i64 b.base) ∧ w'.cell? ⟨hb, 1, none⟩ = some (.int .i64 b.leader) ∧ w'.cell? ⟨hb, 2, none⟩ = some (.bool b.app) ∧ w'.cell? ⟨hb, 3, none⟩ = some (.bool b.txn) ∧ w'.cell? ⟨hb, 4, none⟩ = some (.bool b.ctl) ∧ w'.cell? ⟨hb, 5, none⟩ = some (.int .i64 b.last) ∧ w'.cell? ⟨hb, 6, none⟩ = some (.int .i64 b.first) ∧ w'.cell? ⟨hb, 7, none⟩ = some (.int .i64 b.maxt) ∧ w'.cell? ⟨hb, 8, none⟩ = some (.int .i64 b.prod) ∧ w'.cell? ⟨hb, 9, none⟩ = some (.int .i64 b.epoch) ∧ w'.cell? ⟨hb, 10, none⟩ = some (.int .i64 b.seq) ∧ w'.cell? ⟨hb, 11, none⟩ = some (.slice q l.length cap)) (by kernel_rfl) (let ⟨x0, x1, x2, x3, x4, x5, x6, x7, x8, x9, x10, x11, _⟩ := raw12 (b := hb) (hs); ⟨x0, x1, x2, x3, x4, x5, x6, x7, x8, x9, x10, x11⟩) (fun hHeld => ?_)
          refine wpAnyH_take (i := 0) (oi := { dst := some 61, op := Op.fieldAddr 24 (Operand.tmp 1) 0, type := 0, pos := "ref.go:118", after := #[], guard := none }) (v := ?_) rfl (by kernel_rfl) (by kernel_rfl) (by kernel_rfl) (fun _ _ _ h => h) (Or.inl ⟨by rfl, ?_⟩) (by assumption) ?_
          rotate_left
          · intro w hSw; (try dsimp only at hSw); go_simp; try with_reducible rfl
          simp only [Act.put, List.setIfInBounds_toArray, List.set_cons_zero, List.set_cons_succ]
          refine wpAnyH_take (i := 1) (oi := { dst := some 62, op := Op.load 3 (Operand.tmp 61), type := 3, pos := "ref.go:118", after := #[{ on := 0, ground := Ground.data }], guard := none }) (v := ?_) rfl (by kernel_rfl) (by kernel_rfl) (by kernel_rfl) (fun _ _ _ h => h) (Or.inl ⟨by rfl, ?_⟩) (by assumption) ?_
          rotate_left
          · intro w hSw; (try dsimp only at hSw); go_simp; try with_reducible rfl
          simp only [Act.put, List.setIfInBounds_toArray, List.set_cons_zero, List.set_cons_succ]
          refine wpAnyH_take (i := 2) (oi := { dst := some 63, op := Op.move (Operand.tmp 3), type := 9, pos := "ref.go:118", after := #[], guard := none }) (v := ?_) rfl (by kernel_rfl) (by kernel_rfl) (by kernel_rfl) (fun _ _ _ h => h) (Or.inl ⟨by rfl, ?_⟩) (by assumption) ?_
          rotate_left
          · intro w hSw; (try dsimp only at hSw); go_simp; try with_reducible rfl
          simp only [Act.put, List.setIfInBounds_toArray, List.set_cons_zero, List.set_cons_succ]
          refine wpAnyH_take (i := 3) (oi := { dst := some 64, op := Op.call { callee := Callee.builtin Builtin.len, args := #[Operand.tmp 63], argTypes := #[9] }, type := 3, pos := "ref.go:118", after := #[{ on := 2, ground := Ground.data }], guard := none }) (v := ?_) rfl (by kernel_rfl) (by kernel_rfl) (by kernel_rfl) (fun _ _ _ h => h) (Or.inl ⟨by rfl, ?_⟩) (by assumption) ?_
          rotate_left
          · intro w hSw; (try dsimp only at hSw); go_simp; try with_reducible rfl
          simp only [Act.put, List.setIfInBounds_toArray, List.set_cons_zero, List.set_cons_succ]
          refine wpAnyH_take (i := 4) (oi := { dst := some 65, op := Op.binOp BinOp.add 3 (Operand.const (Value.int IntKind.i64 49)) (Operand.tmp 64) 3, type := 3, pos := "ref.go:118", after := #[{ on := 3, ground := Ground.data }], guard := none }) (v := ?_) rfl (by kernel_rfl) (by kernel_rfl) (by kernel_rfl) (fun _ _ _ h => h) (Or.inl ⟨by rfl, ?_⟩) (by assumption) ?_
          rotate_left
          · intro w hSw; (try dsimp only at hSw); go_simp; try with_reducible rfl
          simp only [Act.put, List.setIfInBounds_toArray, List.set_cons_zero, List.set_cons_succ]
          refine wpAnyH_take (i := 5) (oi := { dst := some 66, op := Op.fieldAddr 24 (Operand.tmp 1) 1, type := 0, pos := "ref.go:118", after := #[], guard := none }) (v := ?_) rfl (by kernel_rfl) (by kernel_rfl) (by kernel_rfl) (fun _ _ _ h => h) (Or.inl ⟨by rfl, ?_⟩) (by assumption) ?_
          rotate_left
          · intro w hSw; (try dsimp only at hSw); go_simp; try with_reducible rfl
          simp only [Act.put, List.setIfInBounds_toArray, List.set_cons_zero, List.set_cons_succ]
          refine wpAnyH_take (i := 6) (oi := { dst := some 67, op := Op.load 3 (Operand.tmp 66), type := 3, pos := "ref.go:118", after := #[{ on := 5, ground := Ground.data }], guard := none }) (v := ?_) rfl (by kernel_rfl) (by kernel_rfl) (by kernel_rfl) (fun _ _ _ h => h) (Or.inl ⟨by rfl, ?_⟩) (by assumption) ?_
          rotate_left
          · intro w hSw; (try dsimp only at hSw); go_simp; try with_reducible rfl
          simp only [Act.put, List.setIfInBounds_toArray, List.set_cons_zero, List.set_cons_succ]
          refine wpAnyH_take (i := 7) (oi := { dst := some 68, op := Op.move (Operand.tmp 7), type := 3, pos := "ref.go:118", after := #[], guard := none }) (v := ?_) rfl (by kernel_rfl) (by kernel_rfl) (by kernel_rfl) (fun _ _ _ h => h) (Or.inl ⟨by rfl, ?_⟩) (by assumption) ?_
          rotate_left
          · intro w hSw; (try dsimp only at hSw); go_simp; try with_reducible rfl
          simp only [Act.put, List.setIfInBounds_toArray, List.set_cons_zero, List.set_cons_succ]
          refine wpAnyH_take (i := 8) (oi := { dst := some 69, op := Op.load 24 (Operand.tmp 1), type := 24, pos := "ref.go:118", after := #[], guard := none }) (v := ?_) rfl (by kernel_rfl) (by kernel_rfl) (by kernel_rfl) (fun _ _ _ h => h) (Or.inl ⟨by rfl, ?_⟩) (by assumption) ?_
          rotate_left
          · intro w hSw; (try dsimp only at hSw); go_simp; try with_reducible rfl
          simp only [Act.put, List.setIfInBounds_toArray, List.set_cons_zero, List.set_cons_succ]
          refine wpAnyH_take (i := 10) (oi := { dst := some 71, op := Op.fieldAddr 24 (Operand.tmp 1) 5, type := 0, pos := "ref.go:118", after := #[], guard := none }) (v := ?_) rfl (by kernel_rfl) (by kernel_rfl) (by kernel_rfl) (fun _ _ _ h => h) (Or.inl ⟨by rfl, ?_⟩) (by assumption) ?_
          rotate_left
          · intro w hSw; (try dsimp only at hSw); go_simp; try with_reducible rfl
          simp only [Act.put, List.setIfInBounds_toArray, List.set_cons_zero, List.set_cons_succ]
          refine wpAnyH_take (i := 11) (oi := { dst := some 72, op := Op.load 3 (Operand.tmp 71), type := 3, pos := "ref.go:118", after := #[{ on := 10, ground := Ground.data }], guard := none }) (v := ?_) rfl (by kernel_rfl) (by kernel_rfl) (by kernel_rfl) (fun _ _ _ h => h) (Or.inl ⟨by rfl, ?_⟩) (by assumption) ?_
          rotate_left
          · intro w hSw; (try dsimp only at hSw); go_simp; try with_reducible rfl
          simp only [Act.put, List.setIfInBounds_toArray, List.set_cons_zero, List.set_cons_succ]
          refine wpAnyH_take (i := 12) (oi := { dst := some 73, op := Op.fieldAddr 24 (Operand.tmp 1) 6, type := 0, pos := "ref.go:118", after := #[], guard := none }) (v := ?_) rfl (by kernel_rfl) (by kernel_rfl) (by kernel_rfl) (fun _ _ _ h => h) (Or.inl ⟨by rfl, ?_⟩) (by assumption) ?_
          rotate_left
          · intro w hSw; (try dsimp only at hSw); go_simp; try with_reducible rfl
          simp only [Act.put, List.setIfInBounds_toArray, List.set_cons_zero, List.set_cons_succ]
          refine wpAnyH_take (i := 13) (oi := { dst := some 74, op := Op.load 3 (Operand.tmp 73), type := 3, pos := "ref.go:118", after := #[{ on := 12, ground := Ground.data }], guard := none }) (v := ?_) rfl (by kernel_rfl) (by kernel_rfl) (by kernel_rfl) (fun _ _ _ h => h) (Or.inl ⟨by rfl, ?_⟩) (by assumption) ?_
          rotate_left
          · intro w hSw; (try dsimp only at hSw); go_simp; try with_reducible rfl
          simp only [Act.put, List.setIfInBounds_toArray, List.set_cons_zero, List.set_cons_succ]
          refine wpAnyH_take (i := 14) (oi := { dst := some 75, op := Op.fieldAddr 24 (Operand.tmp 1) 7, type := 0, pos := "ref.go:118", after := #[], guard := none }) (v := ?_) rfl (by kernel_rfl) (by kernel_rfl) (by kernel_rfl) (fun _ _ _ h => h) (Or.inl ⟨by rfl, ?_⟩) (by assumption) ?_
          rotate_left
          · intro w hSw; (try dsimp only at hSw); go_simp; try with_reducible rfl
          simp only [Act.put, List.setIfInBounds_toArray, List.set_cons_zero, List.set_cons_succ]
          refine wpAnyH_take (i := 15) (oi := { dst := some 76, op := Op.load 3 (Operand.tmp 75), type := 3, pos := "ref.go:118", after := #[{ on := 14, ground := Ground.data }], guard := none }) (v := ?_) rfl (by kernel_rfl) (by kernel_rfl) (by kernel_rfl) (fun _ _ _ h => h) (Or.inl ⟨by rfl, ?_⟩) (by assumption) ?_
          rotate_left
          · intro w hSw; (try dsimp only at hSw); go_simp; try with_reducible rfl
          simp only [Act.put, List.setIfInBounds_toArray, List.set_cons_zero, List.set_cons_succ]
          refine wpAnyH_take (i := 16) (oi := { dst := some 77, op := Op.fieldAddr 24 (Operand.tmp 1) 8, type := 0, pos := "ref.go:118", after := #[], guard := none }) (v := ?_) rfl (by kernel_rfl) (by kernel_rfl) (by kernel_rfl) (fun _ _ _ h => h) (Or.inl ⟨by rfl, ?_⟩) (by assumption) ?_
          rotate_left
          · intro w hSw; (try dsimp only at hSw); go_simp; try with_reducible rfl
          simp only [Act.put, List.setIfInBounds_toArray, List.set_cons_zero, List.set_cons_succ]
          refine wpAnyH_take (i := 17) (oi := { dst := some 78, op := Op.load 3 (Operand.tmp 77), type := 3, pos := "ref.go:118", after := #[{ on := 16, ground := Ground.data }], guard := none }) (v := ?_) rfl (by kernel_rfl) (by kernel_rfl) (by kernel_rfl) (fun _ _ _ h => h) (Or.inl ⟨by rfl, ?_⟩) (by assumption) ?_
          rotate_left
          · intro w hSw; (try dsimp only at hSw); go_simp; try with_reducible rfl
          simp only [Act.put, List.setIfInBounds_toArray, List.set_cons_zero, List.set_cons_succ]
          refine wpAnyH_take (i := 18) (oi := { dst := some 79, op := Op.fieldAddr 24 (Operand.tmp 1) 9, type := 0, pos := "ref.go:118", after := #[], guard := none }) (v := ?_) rfl (by kernel_rfl) (by kernel_rfl) (by kernel_rfl) (fun _ _ _ h => h) (Or.inl ⟨by rfl, ?_⟩) (by assumption) ?_
          rotate_left
          · intro w hSw; (try dsimp only at hSw); go_simp; try with_reducible rfl
          simp only [Act.put, List.setIfInBounds_toArray, List.set_cons_zero, List.set_cons_succ]
          refine wpAnyH_take (i := 19) (oi := { dst := some 80, op := Op.load 3 (Operand.tmp 79), type := 3, pos := "ref.go:118", after := #[{ on := 18, ground := Ground.data }], guard := none }) (v := ?_) rfl (by kernel_rfl) (by kernel_rfl) (by kernel_rfl) (fun _ _ _ h => h) (Or.inl ⟨by rfl, ?_⟩) (by assumption) ?_
          rotate_left
          · intro w hSw; (try dsimp only at hSw); go_simp; try with_reducible rfl
          simp only [Act.put, List.setIfInBounds_toArray, List.set_cons_zero, List.set_cons_succ]
          refine wpAnyH_take (i := 20) (oi := { dst := some 81, op := Op.fieldAddr 24 (Operand.tmp 1) 10, type := 0, pos := "ref.go:118", after := #[], guard := none }) (v := ?_) rfl (by kernel_rfl) (by kernel_rfl) (by kernel_rfl) (fun _ _ _ h => h) (Or.inl ⟨by rfl, ?_⟩) (by assumption) ?_
          rotate_left
          · intro w hSw; (try dsimp only at hSw); go_simp; try with_reducible rfl
          simp only [Act.put, List.setIfInBounds_toArray, List.set_cons_zero, List.set_cons_succ]
          refine wpAnyH_take (i := 21) (oi := { dst := some 82, op := Op.load 3 (Operand.tmp 81), type := 3, pos := "ref.go:118", after := #[{ on := 20, ground := Ground.data }], guard := none }) (v := ?_) rfl (by kernel_rfl) (by kernel_rfl) (by kernel_rfl) (fun _ _ _ h => h) (Or.inl ⟨by rfl, ?_⟩) (by assumption) ?_
          rotate_left
          · intro w hSw; (try dsimp only at hSw); go_simp; try with_reducible rfl
          simp only [Act.put, List.setIfInBounds_toArray, List.set_cons_zero, List.set_cons_succ]
          refine wpAnyH_take (i := 22) (oi := { dst := some 83, op := Op.fieldAddr 24 (Operand.tmp 1) 11, type := 0, pos := "ref.go:118", after := #[], guard := none }) (v := ?_) rfl (by kernel_rfl) (by kernel_rfl) (by kernel_rfl) (fun _ _ _ h => h) (Or.inl ⟨by rfl, ?_⟩) (by assumption) ?_
          rotate_left
          · intro w hSw; (try dsimp only at hSw); go_simp; try with_reducible rfl
          simp only [Act.put, List.setIfInBounds_toArray, List.set_cons_zero, List.set_cons_succ]
          refine wpAnyH_take (i := 23) (oi := { dst := some 84, op := Op.load 22 (Operand.tmp 83), type := 22, pos := "ref.go:118", after := #[{ on := 22, ground := Ground.data }], guard := none }) (v := ?_) rfl (by kernel_rfl) (by kernel_rfl) (by kernel_rfl) (fun _ _ _ h => h) (Or.inl ⟨by rfl, ?_⟩) (by assumption) ?_
          rotate_left
          · intro w hSw; (try dsimp only at hSw); go_simp; try with_reducible rfl
          simp only [Act.put, List.setIfInBounds_toArray, List.set_cons_zero, List.set_cons_succ]
          refine wpAnyH_take (i := 24) (oi := { dst := some 85, op := Op.call { callee := Callee.builtin Builtin.len, args := #[Operand.tmp 84], argTypes := #[22] }, type := 3, pos := "ref.go:118", after := #[{ on := 23, ground := Ground.data }], guard := none }) (v := ?_) rfl (by kernel_rfl) (by kernel_rfl) (by kernel_rfl) (fun _ _ _ h => h) (Or.inl ⟨by rfl, ?_⟩) (by assumption) ?_
          rotate_left
          · intro w hSw; (try dsimp only at hSw); go_simp; try with_reducible rfl
          simp only [Act.put, List.setIfInBounds_toArray, List.set_cons_zero, List.set_cons_succ]
          refine wpAnyH_ready (rs := [9]) (by kernel_rfl) (by simp) (AllReadyH.cons (o := { dst := some 70, op := Op.call { callee := Callee.value (Operand.func 41), args := #[Operand.tmp 69], argTypes := #[24] }, type := 3, pos := "ref.go:118", after := #[{ on := 8, ground := Ground.data }], guard := none }) rfl (fun KK hK => ?_) AllReadyH.nil)
          · go_simp
            go_at_call 41
            with_reducible refine (ref11_attr b.base b.leader b.app b.txn b.ctl b.last b.first b.maxt b.prod b.epoch b.seq (.slice q l.length cap) at_ AT.out hs).mono ?_
            rintro e wq ⟨rfl, hs⟩
            refine hK.out _ _ (let ⟨x0, x1, x2, x3, x4, x5, x6, x7, x8, x9, x10, x11, _⟩ := raw12 (b := hb) (hs); ⟨x0, x1, x2, x3, x4, x5, x6, x7, x8, x9, x10, x11⟩) (fun hHeld => ?_)
            clear hK KK
            try simp only [Act.put, List.setIfInBounds_toArray, List.set_cons_zero, List.set_cons_succ]
            refine wpAnyH_ready (rs := [25]) (by kernel_rfl) (by simp) (AllReadyH.cons (o := { dst := some 86, op := Op.buildSlice 76 12 #[(0, Operand.tmp 62), (1, Operand.tmp 65), (2, Operand.tmp 67), (3, Operand.tmp 68), (4, Operand.tmp 70), (5, Operand.tmp 72), (6, Operand.tmp 74), (7, Operand.tmp 76), (8, Operand.tmp 78), (9, Operand.tmp 80), (10, Operand.tmp 82), (11, Operand.tmp 85)], type := 76, pos := "ref.go:118", after := #[{ on := 1, ground := Ground.data }, { on := 4, ground := Ground.data }, { on := 6, ground := Ground.data }, { on := 7, ground := Ground.data }, { on := 9, ground := Ground.data }, { on := 11, ground := Ground.data }, { on := 13, ground := Ground.data }, { on := 15, ground := Ground.data }, { on := 17, ground := Ground.data }, { on := 19, ground := Ground.data }, { on := 21, ground := Ground.data }, { on := 24, ground := Ground.data }], guard := none }) rfl (fun KK hK => ?_) AllReadyH.nil)
            · rw [if_pos (by rfl)]
              refine wp_op_value (v := .slice (some ⟨wq.heap.size, 0, none⟩) 12 12) (w' := wq.alloc (.cells #[.int .i64 b.base, .int .i64 (49 + rows.length), .int .i64 b.leader, .int .i64 (x : Int), .int .i64 at_, .int .i64 b.last, .int .i64 b.first, .int .i64 b.maxt, .int .i64 b.prod, .int .i64 b.epoch, .int .i64 b.seq, .int .i64 l.length] 3 (0, 0))) (exec_build #[(0, .int .i64 b.base), (1, .int .i64 (49 + rows.length)), (2, .int .i64 b.leader), (3, .int .i64 (x : Int)), (4, .int .i64 at_), (5, .int .i64 b.last), (6, .int .i64 b.first), (7, .int .i64 b.maxt), (8, .int .i64 b.prod), (9, .int .i64 b.epoch), (10, .int .i64 b.seq), (11, .int .i64 l.length)] _ _ _ (by kernel_rfl) (build12 ( b.base) ( (49 + rows.length)) ( b.leader) ( (x : Int)) ( at_) ( b.last) ( b.first) ( b.maxt) ( b.prod) ( b.epoch) ( b.seq) ( l.length) wq)) ?_
              obtain ⟨wy, bS, ey, eb, hs⟩ := hs.allocEx #[.int .i64 b.base, .int .i64 (49 + rows.length), .int .i64 b.leader, .int .i64 (x : Int), .int .i64 at_, .int .i64 b.last, .int .i64 b.first, .int .i64 b.maxt, .int .i64 b.prod, .int .i64 b.epoch, .int .i64 b.seq, .int .i64 l.length] 3
              rw [ey, eb]
              clear ey eb
              refine hK.out _ _ (let ⟨x0, x1, x2, x3, x4, x5, x6, x7, x8, x9, x10, x11, _⟩ := raw12 (b := hb) (hs.p1); ⟨x0, x1, x2, x3, x4, x5, x6, x7, x8, x9, x10, x11⟩) (fun hHeld => ?_)
              clear hK KK
              try simp only [Act.put, List.setIfInBounds_toArray, List.set_cons_zero, List.set_cons_succ]
              refine wpAnyH_ready (rs := [26]) (by kernel_rfl) (by simp) (AllReadyH.cons (o := { dst := some 87, op := Op.call { callee := Callee.value (Operand.func 40), args := #[Operand.tmp 86], argTypes := #[76] }, type := 74, pos := "ref.go:118", after := #[{ on := 25, ground := Ground.data }, { on := 9, ground := Ground.chain }], guard := none }) rfl (fun KK hK => ?_) AllReadyH.nil)
              · go_simp
                go_at_call 40
                with_reducible refine (ref10_pre bS b (x : Int) rows HRW.out at_ AT.out l.length HN.out said1 HS1.out HF1.out HR1.out hs).mono ?_
                rintro e wq ⟨rfl, hs⟩
                refine hK.out _ _ (let ⟨x0, x1, x2, x3, x4, x5, x6, x7, x8, x9, x10, x11, _⟩ := raw12 (b := hb) (hs.p1); ⟨x0, x1, x2, x3, x4, x5, x6, x7, x8, x9, x10, x11⟩) (fun hHeld => ?_)
                clear hK KK
                try simp only [Act.put, List.setIfInBounds_toArray, List.set_cons_zero, List.set_cons_succ]
                have hs := hs.drop
                refine wpAnyH_take (i := 27) (oi := { dst := some 60, op := Op.move (Operand.tmp 87), type := 74, pos := "ref.go:118", after := #[{ on := 26, ground := Ground.data }], guard := none }) (v := ?_) rfl (by kernel_rfl) (by kernel_rfl) (by kernel_rfl) (fun _ _ _ h => h) (Or.inl ⟨by rfl, ?_⟩) (by assumption) ?_
                rotate_left
                · intro w hSw; (try dsimp only at hSw); go_simp; try with_reducible rfl
                simp only [Act.put, List.setIfInBounds_toArray, List.set_cons_zero, List.set_cons_succ]
                refine wpAnyH_take (i := 28) (oi := { dst := some 88, op := Op.extract (Operand.tmp 60) 0, type := 9, pos := "ref.go:118", after := #[{ on := 27, ground := Ground.data }], guard := none }) (v := ?_) rfl (by kernel_rfl) (by kernel_rfl) (by kernel_rfl) (fun _ _ _ h => h) (Or.inl ⟨by rfl, ?_⟩) (by assumption) ?_
                rotate_left
                · intro w hSw; (try dsimp only at hSw); go_simp; try with_reducible rfl
                simp only [Act.put, List.setIfInBounds_toArray, List.set_cons_zero, List.set_cons_succ]
                refine wpAnyH_take (i := 29) (oi := { dst := some 89, op := Op.extract (Operand.tmp 60) 1, type := 4, pos := "ref.go:118", after := #[{ on := 27, ground := Ground.data }, { on := 30, ground := Ground.gcOnly Departure.lateStores }], guard := none }) (v := ?_) rfl (by kernel_rfl) (by kernel_rfl) (by kernel_rfl) (fun _ _ _ h => h) (Or.inl ⟨by rfl, ?_⟩) (by assumption) ?_
                rotate_left
                · intro w hSw; (try dsimp only at hSw); go_simp; try with_reducible rfl
                simp only [Act.put, List.setIfInBounds_toArray, List.set_cons_zero, List.set_cons_succ]
                refine wpAnyH_take (i := 30) (oi := { dst := some 8, op := Op.assign (Operand.tmp 88), type := 9, pos := "ref.go:118", after := #[{ on := 28, ground := Ground.data }, { on := 26, ground := Ground.chain }, { on := 0, ground := Ground.phase }, { on := 1, ground := Ground.phase }, { on := 2, ground := Ground.phase }, { on := 3, ground := Ground.phase }, { on := 4, ground := Ground.phase }, { on := 5, ground := Ground.phase }, { on := 6, ground := Ground.phase }, { on := 7, ground := Ground.phase }, { on := 8, ground := Ground.phase }, { on := 9, ground := Ground.phase }, { on := 10, ground := Ground.phase }, { on := 11, ground := Ground.phase }, { on := 12, ground := Ground.phase }, { on := 13, ground := Ground.phase }, { on := 14, ground := Ground.phase }, { on := 15, ground := Ground.phase }, { on := 16, ground := Ground.phase }, { on := 17, ground := Ground.phase }, { on := 18, ground := Ground.phase }, { on := 19, ground := Ground.phase }, { on := 20, ground := Ground.phase }, { on := 21, ground := Ground.phase }, { on := 22, ground := Ground.phase }, { on := 23, ground := Ground.phase }, { on := 24, ground := Ground.phase }, { on := 25, ground := Ground.phase }, { on := 26, ground := Ground.phase }, { on := 27, ground := Ground.phase }, { on := 28, ground := Ground.phase }, { on := 29, ground := Ground.textOnly Departure.lateStores }], guard := none }) (v := ?_) rfl (by kernel_rfl) (by kernel_rfl) (by kernel_rfl) (fun _ _ _ h => h) (Or.inl ⟨by rfl, ?_⟩) (by assumption) ?_
                rotate_left
                · intro w hSw; (try dsimp only at hSw); go_simp; try with_reducible rfl
                simp only [Act.put, List.setIfInBounds_toArray, List.set_cons_zero, List.set_cons_succ]
                refine wpAnyH_take (i := 31) (oi := { dst := some 9, op := Op.assign (Operand.tmp 89), type := 4, pos := "ref.go:118", after := #[{ on := 29, ground := Ground.data }, { on := 30, ground := Ground.chain }, { on := 0, ground := Ground.phase }, { on := 1, ground := Ground.phase }, { on := 2, ground := Ground.phase }, { on := 3, ground := Ground.phase }, { on := 4, ground := Ground.phase }, { on := 5, ground := Ground.phase }, { on := 6, ground := Ground.phase }, { on := 7, ground := Ground.phase }, { on := 8, ground := Ground.phase }, { on := 9, ground := Ground.phase }, { on := 10, ground := Ground.phase }, { on := 11, ground := Ground.phase }, { on := 12, ground := Ground.phase }, { on := 13, ground := Ground.phase }, { on := 14, ground := Ground.phase }, { on := 15, ground := Ground.phase }, { on := 16, ground := Ground.phase }, { on := 17, ground := Ground.phase }, { on := 18, ground := Ground.phase }, { on := 19, ground := Ground.phase }, { on := 20, ground := Ground.phase }, { on := 21, ground := Ground.phase }, { on := 22, ground := Ground.phase }, { on := 23, ground := Ground.phase }, { on := 24, ground := Ground.phase }, { on := 25, ground := Ground.phase }, { on := 26, ground := Ground.phase }, { on := 27, ground := Ground.phase }, { on := 28, ground := Ground.phase }, { on := 29, ground := Ground.phase }, { on := 30, ground := Ground.phase }], guard := none }) (v := ?_) rfl (by kernel_rfl) (by kernel_rfl) (by kernel_rfl) (fun _ _ _ h => h) (Or.inl ⟨by rfl, ?_⟩) (by assumption) ?_
                rotate_left
                · intro w hSw; (try dsimp only at hSw); go_simp; try with_reducible rfl
                simp only [Act.put, List.setIfInBounds_toArray, List.set_cons_zero, List.set_cons_succ]
                refine wpAnyH_done (by kernel_rfl) ?_ _
                clear hHeld
                go_wp2_with fail
                go_meet
                exact ⟨rfl, hs⟩
        case rest =>
          obtain ⟨rfl, h⟩ := hcut
          clear H
          have H := Lib.hid h
          clear h
          obtain ⟨hcat1, hg1⟩ := HG1.out
          go_wp2_with (fail)
          go_ret
          exact ⟨rfl, H.out.drop⟩

end Go.Proofs.YtcjgdlfcfcabiaaGreat

/- Layer 11, walked: BatchEncodes. -/
namespace Go.Proofs.YtcjgdlfcfcabiaaGreat
open Go.RowKit

set_option maxHeartbeats 4000000 in
set_option maxRecDepth 100000 in
theorem be_long (b : BatS) (l : List (RecS × Value)) (q : Option Addr) (cap : Nat) (hl : l.map (·.1) = b.recs) (hR : b.R) (hfw : FitW l) (hs : smallB (l.map (·.1)) = false) {W0 w : World} {K : Know} (hk : K.has (Know.recs (.slice q l.length cap) l)) (h : St W0 w K []) :
    Calls Tryz.prog 3 #[.agg #[.int .i64 b.base, .int .i64 b.leader, .bool b.app, .bool b.txn, .bool b.ctl, .int .i64 b.last, .int .i64 b.first, .int .i64 b.maxt, .int .i64 b.prod, .int .i64 b.epoch, .int .i64 b.seq, .slice q l.length cap]] w fun en w' => en = .returned (.bool true) ∧ Below W0.heap.size W0 w' := by
  have HK := Lib.hid hk
  have HFW := Lib.hid hfw
  have HMX := Lib.hid (show b.first ≤ 9223372036854775807 by have := hR.2.2.2.1.2; omega)
  have HRB := Lib.hid hR.1
  obtain ⟨hb, hhb⟩ : ∃ b, w.heap.size = b := ⟨_, rfl⟩
  have h1 := h.allocRaw #[.int .i64 b.base, .int .i64 b.leader, .bool b.app, .bool b.txn, .bool b.ctl, .int .i64 b.last, .int .i64 b.first, .int .i64 b.maxt, .int .i64 b.prod, .int .i64 b.epoch, .int .i64 b.seq, .slice q l.length cap] 24
  rw [hhb] at h1
  obtain ⟨x0, x1, x2, x3, x4, x5, x6, x7, x8, x9, x10, x11, y0, y1, y2, y3, y4, y5, y6, y7, y8, y9, y10, y11⟩ := raw12 (b := hb) (h1)
  have H := Lib.hid h1
  have HSM := Lib.hid hs
  clear h h1 hk hfw hs hR hl
  go_enter Tryz.func3, Tryz.ntmps3
  go_wp2_with (first
    | (go_at_call 6; clear x0 y0 x1 y1 x2 y2 x3 y3 x4 y4 x5 y5 x6 y6 x7 y7 x8 y8 x9 y9 x10 y10 x11 y11; (with_reducible refine (speaks11 H.out).mono ?_); rintro e_ wn ⟨rfl, K2, hk2, h⟩; have HK2 := Lib.hid (Know.has_trans hk2 HK.out); clear hk2 HK; replace H := Lib.hid h; clear h; obtain ⟨x0, x1, x2, x3, x4, x5, x6, x7, x8, x9, x10, x11, y0, y1, y2, y3, y4, y5, y6, y7, y8, y9, y10, y11⟩ := raw12 (b := hb) (H.out))
    | (go_at_call 7; clear x0 y0 x1 y1 x2 y2 x3 y3 x4 y4 x5 y5 x6 y6 x7 y7 x8 y8 x9 y9 x10 y10 x11 y11; (with_reducible refine (l11_small _ _ _ _ _ _ _ _ _ _ _ l _ _ false HSM.out HFW.out HK2.out H.out).mono ?_); rintro e_ wn ⟨rfl, h⟩; replace H := Lib.hid h; clear h; obtain ⟨x0, x1, x2, x3, x4, x5, x6, x7, x8, x9, x10, x11, y0, y1, y2, y3, y4, y5, y6, y7, y8, y9, y10, y11⟩ := raw12 (b := hb) (H.out)))
  go_ret
  exact ⟨rfl, H.out.below⟩

set_option maxHeartbeats 4000000 in
set_option maxRecDepth 100000 in
theorem be_bad (b : BatS) (l : List (RecS × Value)) (q : Option Addr) (cap : Nat) (hl : l.map (·.1) = b.recs) (hR : b.R) (hfw : FitW l) (hs : smallB (l.map (·.1)) = true) (e : Int) (he : batErr ⟨b.base, b.leader, b.app, b.txn, b.ctl, b.last, b.first, b.maxt, b.prod, b.epoch, b.seq, l.map (·.1)⟩ = e) (h0 : e ≠ 0) {W0 w : World} {K : Know} (hk : K.has (Know.recs (.slice q l.length cap) l)) (h : St W0 w K []) :
    Calls Tryz.prog 3 #[.agg #[.int .i64 b.base, .int .i64 b.leader, .bool b.app, .bool b.txn, .bool b.ctl, .int .i64 b.last, .int .i64 b.first, .int .i64 b.maxt, .int .i64 b.prod, .int .i64 b.epoch, .int .i64 b.seq, .slice q l.length cap]] w fun en w' => en = .returned (.bool true) ∧ Below W0.heap.size W0 w' := by
  have HK := Lib.hid hk
  have HFW := Lib.hid hfw
  have HMX := Lib.hid (show b.first ≤ 9223372036854775807 by have := hR.2.2.2.1.2; omega)
  have HRB := Lib.hid hR.1
  obtain ⟨hb, hhb⟩ : ∃ b, w.heap.size = b := ⟨_, rfl⟩
  have h1 := h.allocRaw #[.int .i64 b.base, .int .i64 b.leader, .bool b.app, .bool b.txn, .bool b.ctl, .int .i64 b.last, .int .i64 b.first, .int .i64 b.maxt, .int .i64 b.prod, .int .i64 b.epoch, .int .i64 b.seq, .slice q l.length cap] 24
  rw [hhb] at h1
  obtain ⟨x0, x1, x2, x3, x4, x5, x6, x7, x8, x9, x10, x11, y0, y1, y2, y3, y4, y5, y6, y7, y8, y9, y10, y11⟩ := raw12 (b := hb) (h1)
  have H := Lib.hid h1
  have HSM := Lib.hid hs
  have HFT := Lib.hid (FitW.fit hfw hs)
  have HLL := Lib.hid (show l.length ≤ 1000000 by have := smallB_len hs; omega)
  have HLL3 := Lib.hid (show l.length ≤ 1000 by have := smallB_len hs; omega)
  have HE := Lib.hid he
  have H0 := Lib.hid h0
  have gz : (e == 0) = false := by rw [beq_eq_false_iff_ne]; exact h0
  have gz3 : (e != 0) = true := by simp [bne, gz]
  have ge : (e == e) = true := beq_self_eq_true _
  have ge2 : (e != e) = false := by simp [bne, ge]
  clear h h1 hk hfw hs he h0 hR hl
  go_enter Tryz.func3, Tryz.ntmps3
  go_wp2_with (first
    | (go_at_call 6; clear x0 y0 x1 y1 x2 y2 x3 y3 x4 y4 x5 y5 x6 y6 x7 y7 x8 y8 x9 y9 x10 y10 x11 y11; (with_reducible refine (speaks11 H.out).mono ?_); rintro e_ wn ⟨rfl, K2, hk2, h⟩; have HK2 := Lib.hid (Know.has_trans hk2 HK.out); clear hk2 HK; replace H := Lib.hid h; clear h; obtain ⟨x0, x1, x2, x3, x4, x5, x6, x7, x8, x9, x10, x11, y0, y1, y2, y3, y4, y5, y6, y7, y8, y9, y10, y11⟩ := raw12 (b := hb) (H.out))
    | (go_at_call 7; clear x0 y0 x1 y1 x2 y2 x3 y3 x4 y4 x5 y5 x6 y6 x7 y7 x8 y8 x9 y9 x10 y10 x11 y11; (with_reducible refine (l11_small _ _ _ _ _ _ _ _ _ _ _ l _ _ true HSM.out HFW.out HK2.out H.out).mono ?_); rintro e_ wn ⟨rfl, h⟩; replace H := Lib.hid h; clear h; obtain ⟨x0, x1, x2, x3, x4, x5, x6, x7, x8, x9, x10, x11, y0, y1, y2, y3, y4, y5, y6, y7, y8, y9, y10, y11⟩ := raw12 (b := hb) (H.out))
    | (go_at_call 9; clear x0 y0 x1 y1 x2 y2 x3 y3 x4 y4 x5 y5 x6 y6 x7 y7 x8 y8 x9 y9 x10 y10 x11 y11; (with_reducible refine (ref11_check _ _ _ _ _ _ _ _ _ _ _ l _ _ e HE.out HMX.out HRB.out HFT.out HLL.out HK2.out H.out).mono ?_); rintro e_ wn ⟨rfl, h⟩; replace H := Lib.hid h; clear h; obtain ⟨x0, x1, x2, x3, x4, x5, x6, x7, x8, x9, x10, x11, y0, y1, y2, y3, y4, y5, y6, y7, y8, y9, y10, y11⟩ := raw12 (b := hb) (H.out))
    | (go_at_call 10; clear x0 y0 x1 y1 x2 y2 x3 y3 x4 y4 x5 y5 x6 y6 x7 y7 x8 y8 x9 y9 x10 y10 x11 y11; (with_reducible refine (bat_check _ _ _ _ _ _ _ _ _ _ _ l _ _ e HE.out HMX.out HFT.out HLL.out HK2.out H.out).mono ?_); rintro e_ wn ⟨rfl, h⟩; replace H := Lib.hid h; clear h; obtain ⟨x0, x1, x2, x3, x4, x5, x6, x7, x8, x9, x10, x11, y0, y1, y2, y3, y4, y5, y6, y7, y8, y9, y10, y11⟩ := raw12 (b := hb) (H.out))
    | (go_at_call 8; clear x0 y0 x1 y1 x2 y2 x3 y3 x4 y4 x5 y5 x6 y6 x7 y7 x8 y8 x9 y9 x10 y10 x11 y11; (with_reducible refine (bat_encode_bad _ _ _ _ _ _ _ _ _ _ _ l _ _ e HE.out H0.out HMX.out HFT.out HLL3.out HK2.out H.out).mono ?_); rintro e_ wn ⟨rfl, h⟩; replace H := Lib.hid h; clear h; obtain ⟨x0, x1, x2, x3, x4, x5, x6, x7, x8, x9, x10, x11, y0, y1, y2, y3, y4, y5, y6, y7, y8, y9, y10, y11⟩ := raw12 (b := hb) (H.out)))
  go_ret
  exact ⟨rfl, H.out.below⟩


set_option maxHeartbeats 4000000 in
set_option maxRecDepth 100000 in
theorem be_main (b : BatS) (l : List (RecS × Value)) (q : Option Addr) (cap : Nat) (hl : l.map (·.1) = b.recs) (hR : b.R) (hfw : FitW l) (hs : smallB (l.map (·.1)) = true) (he : batErr ⟨b.base, b.leader, b.app, b.txn, b.ctl, b.last, b.first, b.maxt, b.prod, b.epoch, b.seq, l.map (·.1)⟩ = 0) (so : SmallOk b) {W0 w : World} {K : Know} (hk : K.has (Know.recs (.slice q l.length cap) l)) (h : St W0 w K []) :
    Calls Tryz.prog 3 #[.agg #[.int .i64 b.base, .int .i64 b.leader, .bool b.app, .bool b.txn, .bool b.ctl, .int .i64 b.last, .int .i64 b.first, .int .i64 b.maxt, .int .i64 b.prod, .int .i64 b.epoch, .int .i64 b.seq, .slice q l.length cap]] w fun en w' => en = .returned (.bool true) ∧ Below W0.heap.size W0 w' := by
  have HK := Lib.hid hk
  have HFW := Lib.hid hfw
  have HMX := Lib.hid (show b.first ≤ 9223372036854775807 by have := hR.2.2.2.1.2; omega)
  have HRB := Lib.hid hR.1
  obtain ⟨hb, hhb⟩ : ∃ b, w.heap.size = b := ⟨_, rfl⟩
  have h1 := h.allocRaw #[.int .i64 b.base, .int .i64 b.leader, .bool b.app, .bool b.txn, .bool b.ctl, .int .i64 b.last, .int .i64 b.first, .int .i64 b.maxt, .int .i64 b.prod, .int .i64 b.epoch, .int .i64 b.seq, .slice q l.length cap] 24
  rw [hhb] at h1
  obtain ⟨x0, x1, x2, x3, x4, x5, x6, x7, x8, x9, x10, x11, y0, y1, y2, y3, y4, y5, y6, y7, y8, y9, y10, y11⟩ := raw12 (b := hb) (h1)
  have H := Lib.hid h1
  have HSM := Lib.hid hs
  have HFT := Lib.hid (FitW.fit hfw hs)
  have HLL := Lib.hid (show l.length ≤ 1000000 by have := smallB_len hs; omega)
  have HLL3 := Lib.hid (show l.length ≤ 1000 by have := smallB_len hs; omega)
  have HE := Lib.hid he
  have HSO := Lib.hid so
  have HBR := Lib.hid hl
  have HF2 := Lib.hid (fit_of_recs so hl)
  obtain ⟨s, hss⟩ : ∃ s, b.enc = s := ⟨_, rfl⟩
  have HS := Lib.hid hss
  have HSL := Lib.hid (show s.length ≤ 1000000 by have := so.elen; rw [hss] at this; omega)
  have HD1 := Lib.hid (show batD s = .ok b by rw [← hss]; exact own_pure so)
  have ge : (s == s) = true := beq_self_eq_true _
  clear h h1 hk hfw hs he hR hl so hss
  go_enter Tryz.func3, Tryz.ntmps3
  go_wp2_with (first
    | (go_at_call 6; clear x0 y0 x1 y1 x2 y2 x3 y3 x4 y4 x5 y5 x6 y6 x7 y7 x8 y8 x9 y9 x10 y10 x11 y11; (with_reducible refine (speaks11 H.out).mono ?_); rintro e_ wn ⟨rfl, K2, hk2, h⟩; have HK2 := Lib.hid (Know.has_trans hk2 HK.out); clear hk2 HK; replace H := Lib.hid h; clear h; obtain ⟨x0, x1, x2, x3, x4, x5, x6, x7, x8, x9, x10, x11, y0, y1, y2, y3, y4, y5, y6, y7, y8, y9, y10, y11⟩ := raw12 (b := hb) (H.out))
    | (go_at_call 7; clear x0 y0 x1 y1 x2 y2 x3 y3 x4 y4 x5 y5 x6 y6 x7 y7 x8 y8 x9 y9 x10 y10 x11 y11; (with_reducible refine (l11_small _ _ _ _ _ _ _ _ _ _ _ l _ _ true HSM.out HFW.out HK2.out H.out).mono ?_); rintro e_ wn ⟨rfl, h⟩; replace H := Lib.hid h; clear h; obtain ⟨x0, x1, x2, x3, x4, x5, x6, x7, x8, x9, x10, x11, y0, y1, y2, y3, y4, y5, y6, y7, y8, y9, y10, y11⟩ := raw12 (b := hb) (H.out))
    | (go_at_call 9; clear x0 y0 x1 y1 x2 y2 x3 y3 x4 y4 x5 y5 x6 y6 x7 y7 x8 y8 x9 y9 x10 y10 x11 y11; (with_reducible refine (ref11_check _ _ _ _ _ _ _ _ _ _ _ l _ _ 0 HE.out HMX.out HRB.out HFT.out HLL.out HK2.out H.out).mono ?_); rintro e_ wn ⟨rfl, h⟩; replace H := Lib.hid h; clear h; obtain ⟨x0, x1, x2, x3, x4, x5, x6, x7, x8, x9, x10, x11, y0, y1, y2, y3, y4, y5, y6, y7, y8, y9, y10, y11⟩ := raw12 (b := hb) (H.out))
    | (go_at_call 10; clear x0 y0 x1 y1 x2 y2 x3 y3 x4 y4 x5 y5 x6 y6 x7 y7 x8 y8 x9 y9 x10 y10 x11 y11; (with_reducible refine (bat_check _ _ _ _ _ _ _ _ _ _ _ l _ _ 0 HE.out HMX.out HFT.out HLL.out HK2.out H.out).mono ?_); rintro e_ wn ⟨rfl, h⟩; replace H := Lib.hid h; clear h; obtain ⟨x0, x1, x2, x3, x4, x5, x6, x7, x8, x9, x10, x11, y0, y1, y2, y3, y4, y5, y6, y7, y8, y9, y10, y11⟩ := raw12 (b := hb) (H.out))
    | (go_at_call 8; clear x0 y0 x1 y1 x2 y2 x3 y3 x4 y4 x5 y5 x6 y6 x7 y7 x8 y8 x9 y9 x10 y10 x11 y11; (with_reducible refine (bat_encode_encE b s HS.out l _ _ HBR.out HSO.out HK2.out H.out).mono ?_); rintro e_ wn ⟨rfl, h⟩; replace H := Lib.hid h; clear h; obtain ⟨x0, x1, x2, x3, x4, x5, x6, x7, x8, x9, x10, x11, y0, y1, y2, y3, y4, y5, y6, y7, y8, y9, y10, y11⟩ := raw12 (b := hb) (H.out))
    | (go_at_call 11; clear x0 y0 x1 y1 x2 y2 x3 y3 x4 y4 x5 y5 x6 y6 x7 y7 x8 y8 x9 y9 x10 y10 x11 y11; (with_reducible refine (bat_decode_ok s HSL.out b HD1.out H.out).mono ?_); rintro e_ wn ⟨q1, l1, cap1, rfl, hl1, h⟩; obtain ⟨hx, hhx⟩ : ∃ b, wn.heap.size = b := ⟨_, rfl⟩; have h := h.allocRaw #[.int .i64 b.base, .int .i64 b.leader, .bool b.app, .bool b.txn, .bool b.ctl, .int .i64 b.last, .int .i64 b.first, .int .i64 b.maxt, .int .i64 b.prod, .int .i64 b.epoch, .int .i64 b.seq, .slice q1 l1.length cap1] 24; rw [hhx] at h; have HL1 := Lib.hid hl1; have HF1 := Lib.hid (fit_of_recs HSO.out hl1); have HK3 := Lib.hid (show (K2.and (Know.recs (.slice q1 l1.length cap1) l1)).has (Know.recs (.slice q l.length cap) l) from Know.has_left HK2.out); have HK4 := Lib.hid (show (K2.and (Know.recs (.slice q1 l1.length cap1) l1)).has (Know.recs (.slice q1 l1.length cap1) l1) from Know.has_right (Know.has_refl _)); have HN1 := Lib.hid (len_of_recs HSO.out hl1); clear hl1; replace H := Lib.hid h; clear h; obtain ⟨u0, u1, u2, u3, u4, u5, u6, u7, u8, u9, u10, u11, v0, v1, v2, v3, v4, v5, v6, v7, v8, v9, v10, v11⟩ := raw12 (b := hx) (H.out); obtain ⟨x0, x1, x2, x3, x4, x5, x6, x7, x8, x9, x10, x11, y0, y1, y2, y3, y4, y5, y6, y7, y8, y9, y10, y11⟩ := raw12 (b := hb) (H.out.p1))
    | (go_at_call 12; clear x0 y0 x1 y1 x2 y2 x3 y3 x4 y4 x5 y5 x6 y6 x7 y7 x8 y8 x9 y9 x10 y10 x11 y11; clear u0 v0 u1 v1 u2 v2 u3 v3 u4 v4 u5 v5 u6 v6 u7 v7 u8 v8 u9 v9 u10 v10 u11 v11; (with_reducible refine (ref11_encode b s HS.out l _ _ HBR.out HSO.out HK3.out H.out).mono ?_); rintro e_ wn ⟨rfl, h⟩; replace H := Lib.hid h; clear h; obtain ⟨u0, u1, u2, u3, u4, u5, u6, u7, u8, u9, u10, u11, v0, v1, v2, v3, v4, v5, v6, v7, v8, v9, v10, v11⟩ := raw12 (b := hx) (H.out); obtain ⟨x0, x1, x2, x3, x4, x5, x6, x7, x8, x9, x10, x11, y0, y1, y2, y3, y4, y5, y6, y7, y8, y9, y10, y11⟩ := raw12 (b := hb) (H.out.p1))
    | (go_at_call 13; clear x0 y0 x1 y1 x2 y2 x3 y3 x4 y4 x5 y5 x6 y6 x7 y7 x8 y8 x9 y9 x10 y10 x11 y11; clear u0 v0 u1 v1 u2 v2 u3 v3 u4 v4 u5 v5 u6 v6 u7 v7 u8 v8 u9 v9 u10 v10 u11 v11; (with_reducible refine (ref11_sameT b l1 l _ _ _ _ HN1.out HL1.out HBR.out HF1.out HF2.out HK4.out HK3.out H.out).mono ?_); rintro e_ wn ⟨rfl, h⟩; replace H := Lib.hid h; clear h; obtain ⟨u0, u1, u2, u3, u4, u5, u6, u7, u8, u9, u10, u11, v0, v1, v2, v3, v4, v5, v6, v7, v8, v9, v10, v11⟩ := raw12 (b := hx) (H.out); obtain ⟨x0, x1, x2, x3, x4, x5, x6, x7, x8, x9, x10, x11, y0, y1, y2, y3, y4, y5, y6, y7, y8, y9, y10, y11⟩ := raw12 (b := hb) (H.out.p1))
    | (go_at_call 14; clear x0 y0 x1 y1 x2 y2 x3 y3 x4 y4 x5 y5 x6 y6 x7 y7 x8 y8 x9 y9 x10 y10 x11 y11; clear u0 v0 u1 v1 u2 v2 u3 v3 u4 v4 u5 v5 u6 v6 u7 v7 u8 v8 u9 v9 u10 v10 u11 v11; (with_reducible refine (bat_sameT b l1 l _ _ _ _ HN1.out HL1.out HBR.out HF1.out HF2.out HK4.out HK3.out H.out).mono ?_); rintro e_ wn ⟨rfl, h⟩; replace H := Lib.hid h; clear h; obtain ⟨u0, u1, u2, u3, u4, u5, u6, u7, u8, u9, u10, u11, v0, v1, v2, v3, v4, v5, v6, v7, v8, v9, v10, v11⟩ := raw12 (b := hx) (H.out); obtain ⟨x0, x1, x2, x3, x4, x5, x6, x7, x8, x9, x10, x11, y0, y1, y2, y3, y4, y5, y6, y7, y8, y9, y10, y11⟩ := raw12 (b := hb) (H.out.p1)))
  go_ret
  exact ⟨rfl, H.out.below⟩

end Go.Proofs.YtcjgdlfcfcabiaaGreat

/- Layer 11, walked: BatchEncodes, any. -/
namespace Go.Proofs.YtcjgdlfcfcabiaaGreat
open Go.RowKit

theorem batchEncodes_any (base leader : Int) (app txn ctl : Bool) (last first maxt prod epoch sq : Int) (l : List (RecS × Value)) (q : Option Addr) (cap : Nat) (bb0 : BatS) (hbb : bb0 = ⟨base, leader, app, txn, ctl, last, first, maxt, prod, epoch, sq, l.map (·.1)⟩) (hR : bb0.R) (hfw : FitW l) {W0 w : World} {K : Know} (hk : K.has (Know.recs (.slice q l.length cap) l)) (h : St W0 w K []) :
    Calls Tryz.prog 3 #[.agg #[.int .i64 base, .int .i64 leader, .bool app, .bool txn, .bool ctl, .int .i64 last, .int .i64 first, .int .i64 maxt, .int .i64 prod, .int .i64 epoch, .int .i64 sq, .slice q l.length cap]] w fun en w' => en = .returned (.bool true) ∧ Below W0.heap.size W0 w' := by
  have hb1 : l.map (·.1) = bb0.recs := by rw [hbb]
  have hb2 : (⟨bb0.base, bb0.leader, bb0.app, bb0.txn, bb0.ctl, bb0.last, bb0.first, bb0.maxt, bb0.prod, bb0.epoch, bb0.seq, l.map (·.1)⟩ : BatS) = bb0 := by rw [hb1]
  have key : Calls Tryz.prog 3 #[.agg #[.int .i64 bb0.base, .int .i64 bb0.leader, .bool bb0.app, .bool bb0.txn, .bool bb0.ctl, .int .i64 bb0.last, .int .i64 bb0.first, .int .i64 bb0.maxt, .int .i64 bb0.prod, .int .i64 bb0.epoch, .int .i64 bb0.seq, .slice q l.length cap]] w fun en w' => en = .returned (.bool true) ∧ Below W0.heap.size W0 w' := by
    cases hs : smallB (l.map (·.1)) with
    | false => exact be_long bb0 l q cap hb1 hR hfw hs hk h
    | true =>
      by_cases he : batErr bb0 = 0
      · exact be_main bb0 l q cap hb1 hR hfw hs (by rw [hb2]; exact he) (SmallOk.of hb1.symm hfw hs he hR) hk h
      · exact be_bad bb0 l q cap hb1 hR hfw hs (batErr bb0) (by rw [hb2]) he hk h
  subst hbb
  exact key

end Go.Proofs.YtcjgdlfcfcabiaaGreat

/- Lists of cells. -/
namespace Go.Proofs.YtcjgdlfcfcabiaaGreat
open Go.RowKit

theorem cells_u8 : Tryz.prog.cellsOf 5 = 1 := by kernel_rfl
theorem cells_int : Tryz.prog.cellsOf 3 = 1 := by kernel_rfl
theorem cells_str : Tryz.prog.cellsOf 9 = 1 := by kernel_rfl
theorem len2 {α : Type} {l : List α} (h : l.length = 2) : ∃ a b, l = [a, b] := by
  match l, h with
  | [a, b], _ => exact ⟨a, b, rfl⟩
theorem len3 {α : Type} {l : List α} (h : l.length = 3) : ∃ a b c, l = [a, b, c] := by
  match l, h with
  | [a, b, c], _ => exact ⟨a, b, c, rfl⟩
theorem len4 {α : Type} {l : List α} (h : l.length = 4) : ∃ a b c d, l = [a, b, c, d] := by
  match l, h with
  | [a, b, c, d], _ => exact ⟨a, b, c, d, rfl⟩

end Go.Proofs.YtcjgdlfcfcabiaaGreat

/- What arguments are made of, with the reach of each part. -/
namespace Go.Proofs.YtcjgdlfcfcabiaaGreat
open Go.RowKit
open Go.ChangeShapes Go.WideShapes Go.ChangeAt Go.Deep

/-- No part is beyond all reach. -/
def Light {H : Type} (t : TypeId) (d : DataW H) : Prop := ∀ k ∈ d.weights Tryz.prog t, k ≤ reachBytes
theorem reach_eq : reachBytes = 140737488351232 := rfl

section
variable {H : Type} {enc : TypeId × Value → H} {w : World} {spare : Nat → Bool} {held : Bool}

theorem light_arg {ts : List TypeId} {ds : List (DataW H)} (h : (DataW.weightsEach Tryz.prog ts ds).all (· ≤ reachBytes) = true) {j : Nat} {t : TypeId} {d : DataW H} (ht : ts[j]? = some t) (hd : ds[j]? = some d) : Light t d := by
  intro k hk
  have := List.all_eq_true.1 h k (DataW.weights_mem_each ht hd k hk)
  simpa using this

theorem opens_field {t : TypeId} {fs : Array Field} {n N : Nat} {cs : List Value} {y : DataW H × List MemPlace} (ht : Tryz.prog.underlying t = some (.struct fs)) (h : DataW.trod enc Tryz.prog w 0 spare held n t cs = some y) (hl : Light t y.1) (hN : ∀ x ∈ y.2, x.block < N) :
    cs.length = Tryz.prog.cellsOf t ∧ ∃ m, ∀ (i : Nat) (f : Field), fs[i]? = some f → ∃ z, DataW.trod enc Tryz.prog w 0 spare held m f.type ((cs.drop f.offset).take (Tryz.prog.cellsOf f.type)) = some z ∧ Light f.type z.1 ∧ ∀ x ∈ z.2, x.block < N := by
  obtain ⟨xs, m, _, rfl, hc, hxl, hg⟩ := DataW.trod_struct ht h
  refine ⟨hc, m, fun i f hf => ?_⟩
  have hi : i < fs.size := (Array.getElem?_eq_some_iff.1 hf).1
  have hx : xs[i]? = some (xs[i]'(by omega)) := List.getElem?_eq_getElem (by omega)
  refine ⟨_, (hg i f hf).trans hx, ?_, fun x hxx => hN x (List.mem_flatMap.2 ⟨_, List.getElem_mem _, hxx⟩)⟩
  intro k hk
  refine hl k ?_
  simp only [DataW.weights, ht]
  exact DataW.weights_mem_each (j := i) (by rw [List.getElem?_map, Array.getElem?_toList, hf]; rfl) (by rw [List.getElem?_map, hx]; rfl) k hk

theorem opens_str {t : TypeId} {n : Nat} {cs : List Value} {y : DataW H × List MemPlace} (ht : Tryz.prog.underlying t = some .string) (h : DataW.trod enc Tryz.prog w 0 spare held n t cs = some y) (hl : Light t y.1) : ∃ s : Bs, cs = [.string (bb s)] ∧ s.length ≤ 140737488351232 := by
  obtain ⟨s, e, e2, q⟩ := DataW.trod_string ht h
  refine ⟨s.data.toList, e, ?_⟩
  subst e2
  have := hl s.data.toList.length (by simp [DataW.weights])
  rw [reach_eq] at this
  exact this
theorem opens_i64 {t : TypeId} {n : Nat} {cs : List Value} {y : DataW H × List MemPlace} (ht : Tryz.prog.underlying t = some (.int .i64)) (h : DataW.trod enc Tryz.prog w 0 spare held n t cs = some y) : ∃ x : Int, cs = [.int .i64 x] ∧ -9223372036854775808 ≤ x ∧ x < 9223372036854775808 := by
  obtain ⟨x, e, _, q⟩ := DataW.trod_int ht h
  exact ⟨x, e, wf_i64 q⟩
theorem opens_bool {t : TypeId} {n : Nat} {cs : List Value} {y : DataW H × List MemPlace} (ht : Tryz.prog.underlying t = some .bool) (h : DataW.trod enc Tryz.prog w 0 spare held n t cs = some y) : ∃ x : Bool, cs = [.bool x] := by
  obtain ⟨x, e, _⟩ := DataW.trod_bool ht h
  exact ⟨x, e⟩

theorem weightsAll_mem' {P : Program} {e : TypeId} : ∀ {l : List (DataW H)} {d : DataW H}, d ∈ l → ∀ k ∈ d.weights P e, k ∈ DataW.weightsAll P e l
  | a :: l, d, hd, k, hk => by
    simp only [DataW.weightsAll, List.mem_append]
    rcases List.mem_cons.1 hd with rfl | hd
    · exact .inl hk
    · exact .inr (weightsAll_mem' hd k hk)

theorem opens_rows {α : Type} {R : World → List Value → α → Prop} {t e : TypeId} {sz N : Nat} (ht : Tryz.prog.underlying t = some (.slice e)) (hC : Tryz.prog.cellsOf e = sz) (hsz : 0 < sz)
    (hR : ∀ n cs y, DataW.trod enc Tryz.prog w 0 spare held n e cs = some y → Light e y.1 → (∀ x ∈ y.2, x.block < N) → ∃ x, R w cs x)
    {fuel : Nat} {cs : List Value} {x : DataW H × List MemPlace} (h : DataW.trod enc Tryz.prog w 0 spare held fuel t cs = some x) (hl : Light t x.1) (hlt : ∀ y ∈ x.2, y.block < N) (hN : N ≤ w.heap.size) :
    ∃ v l, cs = [v] ∧ RowsOf R (· < N) w v sz l ∧ l.length * Tryz.prog.bytesOf e ≤ 140737488351232 ∧ l.length ≤ maxLen := by
  rcases open_slice ht h with ⟨rfl, rfl⟩ | ⟨a, len, cap, m, n, D, Pl, rfl, hb, hlc, hm, hmm, hx, hi⟩
  · exact ⟨_, [], rfl, ⟨none, 0, rfl, fun h => absurd h (by simp)⟩, by simp, by simp⟩
  · have hlm : len ≤ m := by rw [hmm]; split <;> omega
    have hp2 : x.2 = MemPlace.row a (m * Tryz.prog.cellsOf e) ++ (List.range m).flatMap Pl := by rw [hx]
    have hx1 : x.1 = .slice ((List.range len).map D) ((List.range (m - len)).map fun j => D (len + j)) := by rw [hx]
    have hsum : len * Tryz.prog.bytesOf e ≤ 140737488351232 := by
      have := hl (((List.range len).map D).length * Tryz.prog.bytesOf e + ((List.range (m - len)).map fun j => D (len + j)).length * Tryz.prog.bytesOf e) (by rw [hx1]; simp [DataW.weights, ht, Nat.add_mul])
      rw [reach_eq] at this
      simp only [List.length_map, List.length_range] at this
      omega
    have hle : ∀ i, i < len → Light e (D i) := by
      intro i hil k hk
      refine hl k ?_
      rw [hx1]
      simp only [DataW.weights, ht, List.mem_cons, List.mem_append]
      exact .inr (.inl (weightsAll_mem' (List.mem_map.2 ⟨i, List.mem_range.2 hil, rfl⟩) k hk))
    have key : ∀ i, i < len → ∃ y : α, ∃ cs', cs'.length = sz ∧ R w cs' y ∧ (∀ f u, cs'[f]? = some u → w.cell? ((a.add (i * sz)).add f) = some u) := by
      intro i hil
      obtain ⟨cs', hc, htr⟩ := hi i (by omega)
      obtain ⟨_, hcl, hat⟩ := World.cells?_some hc
      obtain ⟨y, hy⟩ := hR n cs' _ htr (hle i hil) (fun z hz => hlt z (by rw [hp2, List.mem_append]; exact .inr (List.mem_flatMap.2 ⟨i, by simp; omega, hz⟩)))
      rw [hC] at hcl hat
      refine ⟨y, cs', hcl, hy, fun f u hu => ?_⟩
      have hf : f < sz := by rw [← hcl]; exact (List.getElem?_eq_some_iff.1 hu).1
      rw [hat f hf, hu]
    obtain ⟨l, hll, hq⟩ := list_of len _ key
    refine ⟨_, l, rfl, ⟨some a, cap, by rw [hll], fun h0 => ?_⟩, by rw [hll]; exact hsum, by omega⟩
    obtain ⟨cs0, h1, h2, h3⟩ := hq 0 h0
    have hc0 : w.cell? a = some (cs0[0]'(by omega)) := by
      have := h3 0 _ (List.getElem?_eq_getElem (by omega))
      simpa [Addr.add] using this
    have hsp : a.spot = none := by
      cases hs : a.spot with
      | none => rfl
      | some s =>
        unfold World.cell? at hc0
        split at hc0 <;> simp_all
    obtain ⟨ab, ao, asp⟩ := a
    simp only at hsp
    subst hsp
    have hlt0 : ab < N := hlt (.cell ab ao) (by
      rw [hp2, List.mem_append]
      left
      simp only [MemPlace.row, List.mem_map, List.mem_range]
      exact ⟨0, by rw [hC]; exact Nat.mul_pos (by omega) hsz, by simp⟩)
    refine ⟨ab, ao, rfl, hlt0, Nat.lt_of_lt_of_le hlt0 hN, fun i hi => ?_⟩
    obtain ⟨cs', g1, g2, g3⟩ := hq i hi
    refine ⟨cs', g1, g2, fun f u hu => ?_⟩
    have := g3 f u hu
    have e1 : ∀ (o q : Nat), (⟨ab, o, none⟩ : Addr).add q = ⟨ab, o + q, none⟩ := by intro o q; unfold Addr.add; split <;> simp_all
    rw [e1, e1, Nat.add_assoc] at this
    exact this
end

/-- Of a row's things, what is said of each, apart. -/
theorem RowsOf.part {α : Type} {R : World → List Value → α → Prop} {Q : α → Prop} {D : Nat → Prop} {w : World} {v : Value} {sz : Nat} {l : List α} (h : RowsOf (fun w cs x => R w cs x ∧ Q x) D w v sz l) : RowsOf R D w v sz l ∧ ∀ x ∈ l, Q x := by
  refine ⟨h.mono (fun _ _ h => h) (fun _ _ h => h.1), fun x hx => ?_⟩
  obtain ⟨i, hi, rfl⟩ := List.mem_iff_getElem.1 hx
  obtain ⟨p, cap, rfl, h⟩ := h
  obtain ⟨b, off, rfl, _, _, hc⟩ := h (by omega)
  obtain ⟨cs, _, h2, _⟩ := hc i hi
  exact h2.2

end Go.Proofs.YtcjgdlfcfcabiaaGreat

/- The elements of arguments, opened: headers. -/
namespace Go.Proofs.YtcjgdlfcfcabiaaGreat
open Go.RowKit

open Go.ChangeShapes Go.WideShapes Go.ChangeAt Go.Deep

theorem cells_hdr : Tryz.prog.cellsOf 59 = 3 := by kernel_rfl
theorem cells_blob : Tryz.prog.cellsOf 42 = 2 := by kernel_rfl
theorem cells_bool : Tryz.prog.cellsOf 4 = 1 := by kernel_rfl
section
variable {H : Type} {enc : TypeId × Value → H} {w : World} {spare : Nat → Bool} {held : Bool}
set_option maxRecDepth 100000 in
theorem blob_open : ∀ n a b y, DataW.trod enc Tryz.prog w 0 spare held n 42 [a, b] = some y → ∃ (nl : Bool) (d : ByteArray), a = .bool nl ∧ b = .string d ∧ d.size ≤ maxLen := by
  intro n a b y h
  obtain ⟨xs, n', _, hx, hl, hxl, hg⟩ := DataW.trod_struct Tryz.underlying42 h
  have g0 : DataW.trod enc Tryz.prog w 0 spare held n' 4 (List.take (Tryz.prog.cellsOf 4) (List.drop 0 [a, b])) = xs[0]? := hg 0 _ rfl
  have g1 : DataW.trod enc Tryz.prog w 0 spare held n' 9 (List.take (Tryz.prog.cellsOf 9) (List.drop 1 [a, b])) = xs[1]? := hg 1 _ rfl
  rw [cells_bool] at g0
  rw [cells_str] at g1
  obtain ⟨y0, y1, rfl⟩ := len2 hxl
  obtain ⟨x0, e0, _⟩ := DataW.trod_bool Tryz.underlying4 g0
  obtain ⟨x1, e1, _, q1⟩ := DataW.trod_string Tryz.underlying9 g1
  simp at e0 e1
  exact ⟨x0, x1, e0, e1, q1⟩
set_option maxRecDepth 100000 in
theorem rhdr_open {N : Nat} : ∀ n cs y, DataW.trod enc Tryz.prog w 0 spare held n 59 cs = some y → (∀ x ∈ y.2, x.block < N) → ∃ x : HdrS, RHdr cs x := by
  intro n cs y h _
  obtain ⟨xs, n', _, hx, hl, hxl, hg⟩ := DataW.trod_struct Tryz.underlying59 h
  rw [cells_hdr] at hl
  obtain ⟨a, b, c, rfl⟩ := len3 hl
  have g0 : DataW.trod enc Tryz.prog w 0 spare held n' 9 (List.take (Tryz.prog.cellsOf 9) (List.drop 0 [a, b, c])) = xs[0]? := hg 0 _ rfl
  have g1 : DataW.trod enc Tryz.prog w 0 spare held n' 42 (List.take (Tryz.prog.cellsOf 42) (List.drop 1 [a, b, c])) = xs[1]? := hg 1 _ rfl
  rw [cells_str] at g0
  rw [cells_blob] at g1
  obtain ⟨y0, y1, rfl⟩ := len2 hxl
  obtain ⟨x0, e0, _, q0⟩ := DataW.trod_string Tryz.underlying9 g0
  obtain ⟨nl, d, e1, e2, _⟩ := blob_open _ _ _ _ g1
  simp at e0
  subst e0 e1 e2
  exact ⟨⟨x0.data.toList, ⟨nl, d.data.toList⟩⟩, rfl⟩
end

end Go.Proofs.YtcjgdlfcfcabiaaGreat

/- The elements of arguments, opened, with their reach: headers. -/
namespace Go.Proofs.YtcjgdlfcfcabiaaGreat
open Go.RowKit
open Go.ChangeShapes Go.WideShapes Go.ChangeAt Go.Deep

section
variable {H : Type} {enc : TypeId × Value → H} {w : World} {spare : Nat → Bool} {held : Bool}
set_option maxRecDepth 100000 in
theorem blob_opens {N : Nat} : ∀ n cs y, DataW.trod enc Tryz.prog w 0 spare held n 42 cs = some y → Light 42 y.1 → (∀ x ∈ y.2, x.block < N) → ∃ x : BlobS, cs = [.bool x.null, .string (bb x.data)] ∧ x.data.length ≤ 140737488351232 := by
  intro n cs y h hl hN
  obtain ⟨hc, m, hf⟩ := opens_field Tryz.underlying42 h hl hN
  rw [cells_blob] at hc
  obtain ⟨a, b, rfl⟩ := len2 hc
  obtain ⟨z0, g0, l0, _⟩ := hf 0 _ rfl
  obtain ⟨z1, g1, l1, _⟩ := hf 1 _ rfl
  have g0 : DataW.trod enc Tryz.prog w 0 spare held m 4 (List.take (Tryz.prog.cellsOf 4) (List.drop 0 [a, b])) = some z0 := g0
  have g1 : DataW.trod enc Tryz.prog w 0 spare held m 9 (List.take (Tryz.prog.cellsOf 9) (List.drop 1 [a, b])) = some z1 := g1
  rw [cells_bool] at g0
  rw [cells_str] at g1
  obtain ⟨x, e0⟩ := opens_bool Tryz.underlying4 g0
  obtain ⟨s, e1, hs⟩ := opens_str Tryz.underlying9 g1 l1
  simp at e0 e1
  subst e0 e1
  exact ⟨⟨x, s⟩, rfl, hs⟩
set_option maxRecDepth 100000 in
theorem rhdr_opens {N : Nat} : ∀ n cs y, DataW.trod enc Tryz.prog w 0 spare held n 59 cs = some y → Light 59 y.1 → (∀ x ∈ y.2, x.block < N) → ∃ x : HdrS, RHdr cs x ∧ (x.key.length ≤ 140737488351232 ∧ x.val.data.length ≤ 140737488351232) := by
  intro n cs y h hl hN
  obtain ⟨hc, m, hf⟩ := opens_field Tryz.underlying59 h hl hN
  rw [cells_hdr] at hc
  obtain ⟨a, b, c, rfl⟩ := len3 hc
  obtain ⟨z0, g0, l0, n0⟩ := hf 0 _ rfl
  obtain ⟨z1, g1, l1, n1⟩ := hf 1 _ rfl
  have g0 : DataW.trod enc Tryz.prog w 0 spare held m 9 (List.take (Tryz.prog.cellsOf 9) (List.drop 0 [a, b, c])) = some z0 := g0
  have g1 : DataW.trod enc Tryz.prog w 0 spare held m 42 (List.take (Tryz.prog.cellsOf 42) (List.drop 1 [a, b, c])) = some z1 := g1
  rw [cells_str] at g0
  rw [cells_blob] at g1
  obtain ⟨s, e0, hs⟩ := opens_str Tryz.underlying9 g0 l0
  obtain ⟨x, e1, hx⟩ := blob_opens _ _ _ g1 l1 n1
  simp at e0 e1
  obtain ⟨e1, e2⟩ := e1
  subst e0 e1 e2
  exact ⟨⟨s, x⟩, rfl, hs, hx⟩
end

end Go.Proofs.YtcjgdlfcfcabiaaGreat

/- Layer 7, walked: RecordEncodes. -/
namespace Go.Proofs.YtcjgdlfcfcabiaaGreat
open Go.RowKit

end Go.Proofs.YtcjgdlfcfcabiaaGreat
