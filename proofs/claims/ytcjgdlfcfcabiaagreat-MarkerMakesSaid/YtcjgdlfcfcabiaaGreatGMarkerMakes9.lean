/- Markers, the document's. -/
import Derived.Test.YtcjgdlfcfcabiaaGreatGMarkerMakes7
import Derived.Test.YtcjgdlfcfcabiaaGreatGMarkerMakes5
import Derived.Test.YtcjgdlfcfcabiaaGreatGMarkerMakes8
import Derived.Test.YtcjgdlfcfcabiaaGreatGMarkerMakes4
import Derived.Deep.RegionHeld3
import Derived.Deep.DeepCutAuto
import Derived.IntWalk
import Derived.Test.YtcjgdlfcfcabiaaGreatGMarkerMakes6
/- Batches: the document's bytes. -/
namespace Go.Proofs.YtcjgdlfcfcabiaaGreat
open Go.RowKit

theorem wp_op_value {P : Program} {o : Oper} {a : Act} {w w' : World} {v : Value} {KK : Act → World → Prop} {Q : Exit → Act → World → Prop} (hr : (execOp a.eval o).run P w = .ok (.value v) w') (h : KK (a.put o.dst v) w') : o.wp P a w KK Q := by
  unfold Oper.wp
  rw [hr]
  exact h
theorem build12 (n0 n1 n2 n3 n4 n5 n6 n7 n8 n9 n10 n11 : Int) (w : World) : (Instr.buildSlice 76 12 #[(0, .int .i64 n0), (1, .int .i64 n1), (2, .int .i64 n2), (3, .int .i64 n3), (4, .int .i64 n4), (5, .int .i64 n5), (6, .int .i64 n6), (7, .int .i64 n7), (8, .int .i64 n8), (9, .int .i64 n9), (10, .int .i64 n10), (11, .int .i64 n11)]).run Tryz.prog w = .ok (.slice (some ⟨w.heap.size, 0, none⟩) 12 12) (w.alloc (.cells #[.int .i64 n0, .int .i64 n1, .int .i64 n2, .int .i64 n3, .int .i64 n4, .int .i64 n5, .int .i64 n6, .int .i64 n7, .int .i64 n8, .int .i64 n9, .int .i64 n10, .int .i64 n11] 3 (0, 0))) := by go_simp
theorem exec_val {v : Value} {w w' : World} (s : Sem Value) (hb : s.run Tryz.prog w = .ok v w') : (do pure (Next.value (← s)) : Sem Next).run Tryz.prog w = .ok (.value v) w' := by go_simp
theorem exec_build {o : Oper} {ρ : Operand → Value} (ps : Array (Nat × Value)) (v : Value) (w w' : World) (ho : execOp ρ o = (do pure (Next.value (← Instr.buildSlice 76 12 ps)))) (hb : (Instr.buildSlice 76 12 ps).run Tryz.prog w = .ok v w') : (execOp ρ o).run Tryz.prog w = .ok (.value v) w' := by
  rw [ho]
  exact exec_val _ hb
theorem ref10_pre (bl : Nat) (b : BatS) (sm : Int) (rows : Bs) (hrw : b.rowsB = rows) (at_ : Int) (hat : attrN b.app b.txn b.ctl 3 = at_) (n : Nat) (hn : b.recs.length = n) (said : Bs) (hsaid : encInts (b.pre sm).items = said) (hfit : FitsAll (b.pre sm).items) (hR : (b.pre sm).R) {W0 w : World} {K : Know} {L : List Res} (h : St W0 w K (.raw bl #[.int .i64 b.base, .int .i64 (49 + rows.length), .int .i64 b.leader, .int .i64 sm, .int .i64 at_, .int .i64 b.last, .int .i64 b.first, .int .i64 b.maxt, .int .i64 b.prod, .int .i64 b.epoch, .int .i64 b.seq, .int .i64 n] 3 :: L)) :
    Calls Tryz.prog 40 #[.slice (some ⟨bl, 0, none⟩) 12 12] w fun en w' => en = .returned (.tuple #[.string (bb said), .bool true]) ∧ St W0 w' K (.raw bl #[.int .i64 b.base, .int .i64 (49 + rows.length), .int .i64 b.leader, .int .i64 sm, .int .i64 at_, .int .i64 b.last, .int .i64 b.first, .int .i64 b.maxt, .int .i64 b.prod, .int .i64 b.epoch, .int .i64 b.seq, .int .i64 n] 3 :: L) := by
  subst hrw hat hn hsaid
  have e : preBytes (b.pre sm) = (encInts (b.pre sm).items, true) := if_pos hfit
  have c := ref10_bytes bl (b.pre sm) hR h
  rw [e] at c
  exact c

set_option maxHeartbeats 1000000 in
set_option maxRecDepth 100000 in
theorem ref11_attr (base leader : Int) (app txn ctl : Bool) (last first maxt prod epoch sq : Int) (rv : Value) (r : Int) (hr : attrN app txn ctl 3 = r) {W0 w : World} {K : Know} {L : List Res} (h : St W0 w K L) :
    Calls Tryz.prog 41 #[.agg #[.int .i64 base, .int .i64 leader, .bool app, .bool txn, .bool ctl, .int .i64 last, .int .i64 first, .int .i64 maxt, .int .i64 prod, .int .i64 epoch, .int .i64 sq, rv]] w fun en w' => en = .returned (.int .i64 r) ∧ St W0 w' K L := by
  obtain ⟨hb, hhb⟩ : ∃ b, w.heap.size = b := ⟨_, rfl⟩
  have h1 := h.allocRaw #[.int .i64 base, .int .i64 leader, .bool app, .bool txn, .bool ctl, .int .i64 last, .int .i64 first, .int .i64 maxt, .int .i64 prod, .int .i64 epoch, .int .i64 sq, rv] 24
  rw [hhb] at h1
  obtain ⟨x0, x1, x2, x3, x4, x5, x6, x7, x8, x9, x10, x11, y0, y1, y2, y3, y4, y5, y6, y7, y8, y9, y10, y11⟩ := raw12 (b := hb) (h1)
  have H := Lib.hid h1
  subst hr
  clear h h1
  cases app <;> cases txn <;> cases ctl
  all_goals
    go_enter Tryz.func41, Tryz.ntmps41
    go_wp2
    go_ret
    exact ⟨by kernel_rfl, H.out.drop⟩

theorem ref05_sumX (s : Bs) (hs : s.length ≤ 1000000) (x : Nat) (hx : (crcMore 0#32 s).toNat = x) {W0 w : World} {K : Know} {L : List Res} (h : St W0 w K L) :
    Calls Tryz.prog 42 #[.string (bb s)] w fun en w' => en = .returned (.int .u32 x) ∧ St W0 w' K L := by
  subst hx
  exact ref05_sumW s hs h
set_option maxHeartbeats 4000000 in
set_option maxRecDepth 1000000 in
theorem ref11_encode (b : BatS) (s : Bs) (hs : b.enc = s) (l : List (RecS × Value)) (q : Option Addr) (cap : Nat) (hl : l.map (·.1) = b.recs) (so : SmallOk b) {W0 w : World} {K : Know} {L : List Res} (hk : K.has (Know.recs (.slice q l.length cap) l)) (h : St W0 w K L) :
    Calls Tryz.prog 12 #[.agg #[.int .i64 b.base, .int .i64 b.leader, .bool b.app, .bool b.txn, .bool b.ctl, .int .i64 b.last, .int .i64 b.first, .int .i64 b.maxt, .int .i64 b.prod, .int .i64 b.epoch, .int .i64 b.seq, .slice q l.length cap]] w fun en w' => en = .returned (.string (bb s)) ∧ St W0 w' K L := by
  obtain ⟨hb, hhb⟩ : ∃ b, w.heap.size = b := ⟨_, rfl⟩
  have h1 := h.allocRaw #[.int .i64 b.base, .int .i64 b.leader, .bool b.app, .bool b.txn, .bool b.ctl, .int .i64 b.last, .int .i64 b.first, .int .i64 b.maxt, .int .i64 b.prod, .int .i64 b.epoch, .int .i64 b.seq, .slice q l.length cap] 24
  rw [hhb] at h1
  obtain ⟨x0, x1, x2, x3, x4, x5, x6, x7, x8, x9, x10, x11, y0, y1, y2, y3, y4, y5, y6, y7, y8, y9, y10, y11⟩ := raw12 (b := hb) (h1)
  have H := Lib.hid h1
  have HK := Lib.hid hk
  have hrn := so.rows
  have hre : encAll l = b.rowsB := by rw [encAll_rows, hl]; rfl
  obtain ⟨rows, hrows⟩ : ∃ r, b.rowsB = r := ⟨_, rfl⟩
  have hcr := b.crc_lt
  have hln := so.len
  obtain ⟨at_, hat⟩ : ∃ a, attrN b.app b.txn b.ctl 3 = a := ⟨_, rfl⟩
  obtain ⟨x, hx⟩ : ∃ x, b.crc = x := ⟨_, rfl⟩
  obtain ⟨said0, hs0⟩ : ∃ t, encInts (b.pre 0).items = t := ⟨_, rfl⟩
  obtain ⟨said1, hs1⟩ : ∃ t, encInts (b.pre x).items = t := ⟨_, rfl⟩
  obtain ⟨all0, ha0⟩ : ∃ t, b.back ++ b.rowsB = t := ⟨_, rfl⟩
  have hbl : b.back.length = 40 := by unfold BatS.back; rw [encInts_length]; rfl
  obtain ⟨back, hbk⟩ : ∃ t, b.back = t := ⟨_, rfl⟩
  have hl0 : said0.length = 61 := by rw [← hs0]; exact items_len _
  have hl1 : said1.length = 61 := by rw [← hs1]; exact items_len _
  have HRW := Lib.hid hrows
  have HN := Lib.hid (show b.recs.length = l.length by rw [← hl, List.length_map])
  have AT := Lib.hid hat
  have HS0 := Lib.hid hs0
  have HS1 := Lib.hid hs1
  have HF0 := Lib.hid (BatS.fitsAll so.err so.rng 0 (by omega) (by omega) (by omega))
  have HR0 := Lib.hid (BatS.pre_R so.err so.rng 0 (by omega) (by omega) (by omega))
  have HF1 := Lib.hid (BatS.fitsAll so.err so.rng x (by omega) (by omega) (by omega))
  have HR1 := Lib.hid (BatS.pre_R so.err so.rng x (by omega) (by omega) (by omega))
  have HX := Lib.hid (show (crcMore 0#32 all0).toNat = x by rw [← ha0, ← hx]; rfl)
  have HA0 := Lib.hid (show all0.length ≤ 1000000 by rw [← ha0, List.length_append]; omega)
  have hT : List.take (said0.length - 21) (List.drop 21 said0) = back := by
    rw [List.take_of_length_le (by rw [List.length_drop]; omega), ← hs0, b.pre_drop, hbk]
  have hcat0 : bb back ++ bb rows = bb all0 := by rw [← ha0, ← hbk, ← hrows]; exact bb_append _ _
  have hcat1 : bb said1 ++ bb rows = bb s := by
    rw [← hs, ← hs1, ← hrows, ← hx]; exact bb_append _ _
  have hrl : rows.length ≤ 400000 := by rw [← hrows]; exact hrn
  have hg0 : ¬ (9223372036854775807 < back.length + rows.length) := by rw [← hbk]; omega
  have hg1 : ¬ (9223372036854775807 < said1.length + rows.length) := by omega
  have l21 : (21 : Int) ≤ (said0.length : Int) := by omega
  have l21' : 21 ≤ said0.length := by omega
  have hne : ¬ (said0 = []) := by intro hh; rw [hh] at hl0; simp at hl0
  have w1 : IntKind.i64.wrap (49 + (rows.length : Int)) = 49 + (rows.length : Int) := IntWalk.i64_in _ (by omega)
  have w1' : wrap64 (49 + (rows.length : Int)) = 49 + (rows.length : Int) := by unfold wrap64; omega
  have w2 : IntKind.i64.wrap (x : Int) = (x : Int) := IntWalk.i64_in _ (by omega)
  have w2' : wrap64 (x : Int) = (x : Int) := by unfold wrap64; omega
  have HRE := Lib.hid (hre.trans hrows)
  have HXS := Lib.hid (show ∀ y ∈ l, y.1.R ∧ y.1.sum ≤ 1000000 from fun y hy => by
    have hm : y.1 ∈ b.recs := hl ▸ List.mem_map_of_mem hy
    have := so.recs y.1 hm
    exact ⟨this.1, this.2.2⟩)
  have HLN := Lib.hid (show l.length ≤ 12 by have h9 := congrArg List.length hl; rw [List.length_map] at h9; omega)
  have HRN := Lib.hid hrl
  clear h h1 hk hrn hre hrows hcr hln hat hx hs0 hs1 ha0 hbl hbk hl0 hl1 hl hs so
  have HG0 := Lib.hid (And.intro hT (And.intro hcat0 (And.intro hg0 (And.intro l21 (And.intro l21' hne)))))
  have HG1 := Lib.hid (And.intro hcat1 hg1)
  have HW := Lib.hid (And.intro w1 (And.intro w1' (And.intro w2 w2')))
  clear hT hcat0 hg0 l21 l21' hne hcat1 hg1 w1 w1' w2 w2' hrl
  go_enter Tryz.func12, Tryz.ntmps12
  go_wp2
  go_loopw [3, 4] (fun sv iv wr => ∃ k : Nat, k ≤ l.length ∧ iv = .int .i64 k ∧ sv = .string (bb (encAll (l.take k))) ∧ St W0 wr K (.raw hb #[.int .i64 b.base, .int .i64 b.leader, .bool b.app, .bool b.txn, .bool b.ctl, .int .i64 b.last, .int .i64 b.first, .int .i64 b.maxt, .int .i64 b.prod, .int .i64 b.epoch, .int .i64 b.seq, .slice q l.length cap] 24 :: L)) (fun _ iv _ => l.length - (intOf iv).toNat)
  case atStart => exact ⟨0, Nat.zero_le _, rfl, rfl, H.out⟩
  case round =>
    obtain ⟨k, hkl, rfl, rfl, hst⟩ := hrel
    clear H x0 x1 x2 x3 x4 x5 x6 x7 x8 x9 x10 x11 y0 y1 y2 y3 y4 y5 y6 y7 y8 y9 y10 y11
    have H := Lib.hid hst
    clear hst
    by_cases hlt : k < l.length
    · as_aux_lemma =>
      have het := encAll_take l k hlt
      have hpl : (encAll (l.take k)).length ≤ rows.length := by
        rw [← HRE.out]
        conv => rhs; rw [← List.take_append_drop k l]
        unfold encAll
        rw [List.flatMap_append, List.length_append]
        omega
      have hpl2 : (encAll (l.take (k + 1))).length ≤ rows.length := by
        rw [← HRE.out]
        conv => rhs; rw [← List.take_append_drop (k + 1) l]
        unfold encAll
        rw [List.flatMap_append, List.length_append]
        omega
      obtain ⟨b0, off, hqq⟩ := recs_at HK.out H.out (by omega)
      subst hqq
      obtain ⟨⟨x, vx⟩, hx⟩ : ∃ x, l[k] = x := ⟨_, rfl⟩
      have cc := recs_cell HK.out H.out k hlt (x, vx) hx
      have hmem : (x, vx) ∈ l := hx ▸ List.getElem_mem hlt
      have XF := HXS.out (x, vx) hmem
      have XF1 := Lib.hid XF.1
      have XF2 := Lib.hid XF.2
      clear XF
      have xk : K.has (Know.flat RHdr vx 3 x.hdrs) := recs_hdrs HK.out hmem
      obtain ⟨qx, capx, hvx⟩ := flat_form xk H.out
      subst hvx
      have XK := Lib.hid xk
      simp only at cc
      obtain ⟨c0, c1, c2, c3, c4, c5, c6⟩ := cc
      rw [← Nat.add_assoc] at c1 c2 c3 c4 c5 c6
      obtain ⟨sx, hsx⟩ : ∃ t, encR x = t := ⟨_, rfl⟩
      have HSX := Lib.hid hsx
      rw [hx] at het
      simp only [hsx] at het
      obtain ⟨pre, hpre⟩ : ∃ t, encAll (l.take k) = t := ⟨_, rfl⟩
      obtain ⟨nxt, hnxt⟩ : ∃ t, encAll (l.take (k + 1)) = t := ⟨_, rfl⟩
      rw [hpre] at het hpl ⊢
      rw [hnxt] at het hpl2
      have HNXT := Lib.hid hnxt
      have hcat : bb pre ++ bb sx = bb nxt := by rw [het]; exact bb_append _ _
      have hg : ¬ (9223372036854775807 < pre.length + sx.length) := by
        have h1 := HRN.out
        have h2 := congrArg List.length het
        rw [List.length_append] at h2
        omega
      have hki : (k : Int) < (l.length : Int) := by omega
      have hl12 : (l.length : Int) ≤ 12 := by have := HLN.out; omega
      obtain ⟨x0, x1, x2, x3, x4, x5, x6, x7, x8, x9, x10, x11, y0, y1, y2, y3, y4, y5, y6, y7, y8, y9, y10, y11⟩ := raw12 (b := hb) (H.out)
      clear xk hmem hx hsx het hpl hpl2 hpre hnxt
      go_wp2_with (go_at_call 39; (with_reducible refine (ref07_write x (.slice qx x.hdrs.length capx) sx HSX.out XF1.out XF2.out XK.out H.out).mono ?_); rintro e_ wn ⟨rfl, h⟩; replace H := Lib.hid h; clear h)
      go_roundw
      case rel => exact ⟨k + 1, hlt, by go_num, by rw [HNXT.out], H.out⟩
      case measure => first | (simp [intOf]; done) | (simp [intOf]; omega)
    · obtain rfl : k = l.length := by omega
      rw [List.take_length, HRE.out]
      have w1 := HW.out.1
      obtain ⟨x0, x1, x2, x3, x4, x5, x6, x7, x8, x9, x10, x11, y0, y1, y2, y3, y4, y5, y6, y7, y8, y9, y10, y11⟩ := raw12 (b := hb) (H.out)
      go_upto_region 6 with (fail)
      clear x0 x1 x2 x3 x4 x5 x6 x7 x8 x9 x10 x11 y0 y1 y2 y3 y4 y5 y6 y7 y8 y9 y10 y11
      go_cut [5] (fun s5 wx => s5 = .string (bb said0) ∧ St W0 wx K (.raw hb #[.int .i64 b.base, .int .i64 b.leader, .bool b.app, .bool b.txn, .bool b.ctl, .int .i64 b.last, .int .i64 b.first, .int .i64 b.maxt, .int .i64 b.prod, .int .i64 b.epoch, .int .i64 b.seq, .slice q l.length cap] 24 :: L))
      case first =>
        as_aux_lemma =>
        have hs := H.out.drew
        refine wp_region_held_drew (S := fun w' => w'.cell? ⟨hb, 0, none⟩ = some (.int .i64 b.base) ∧ w'.cell? ⟨hb, 1, none⟩ = some (.int .i64 b.leader) ∧ w'.cell? ⟨hb, 2, none⟩ = some (.bool b.app) ∧ w'.cell? ⟨hb, 3, none⟩ = some (.bool b.txn) ∧ w'.cell? ⟨hb, 4, none⟩ = some (.bool b.ctl) ∧ w'.cell? ⟨hb, 5, none⟩ = some (.int .i64 b.last) ∧ w'.cell? ⟨hb, 6, none⟩ = some (.int .i64 b.first) ∧ w'.cell? ⟨hb, 7, none⟩ = some (.int .i64 b.maxt) ∧ w'.cell? ⟨hb, 8, none⟩ = some (.int .i64 b.prod) ∧ w'.cell? ⟨hb, 9, none⟩ = some (.int .i64 b.epoch) ∧ w'.cell? ⟨hb, 10, none⟩ = some (.int .i64 b.seq) ∧ w'.cell? ⟨hb, 11, none⟩ = some (.slice q l.length cap)) (by kernel_rfl) (let ⟨x0, x1, x2, x3, x4, x5, x6, x7, x8, x9, x10, x11, _⟩ := raw12 (b := hb) (hs); ⟨x0, x1, x2, x3, x4, x5, x6, x7, x8, x9, x10, x11⟩) (fun hHeld => ?_)
        refine wpAnyH_take (i := 0) (oi := { dst := some 26, op := Op.fieldAddr 24 (Operand.tmp 1) 0, type := 0, pos := "ref.go:116", after := #[], guard := none }) (v := ?_) rfl (by kernel_rfl) (by kernel_rfl) (by kernel_rfl) (fun _ _ _ h => h) (Or.inl ⟨by rfl, ?_⟩) (by assumption) ?_
        rotate_left
        · intro w hSw; (try dsimp only at hSw); go_simp; try with_reducible rfl
        simp only [Act.put, List.setIfInBounds_toArray, List.set_cons_zero, List.set_cons_succ]
        refine wpAnyH_take (i := 1) (oi := { dst := some 27, op := Op.load 3 (Operand.tmp 26), type := 3, pos := "ref.go:116", after := #[{ on := 0, ground := Ground.data }], guard := none }) (v := ?_) rfl (by kernel_rfl) (by kernel_rfl) (by kernel_rfl) (fun _ _ _ h => h) (Or.inl ⟨by rfl, ?_⟩) (by assumption) ?_
        rotate_left
        · intro w hSw; (try dsimp only at hSw); go_simp; try with_reducible rfl
        simp only [Act.put, List.setIfInBounds_toArray, List.set_cons_zero, List.set_cons_succ]
        refine wpAnyH_take (i := 2) (oi := { dst := some 28, op := Op.move (Operand.tmp 3), type := 9, pos := "ref.go:116", after := #[], guard := none }) (v := ?_) rfl (by kernel_rfl) (by kernel_rfl) (by kernel_rfl) (fun _ _ _ h => h) (Or.inl ⟨by rfl, ?_⟩) (by assumption) ?_
        rotate_left
        · intro w hSw; (try dsimp only at hSw); go_simp; try with_reducible rfl
        simp only [Act.put, List.setIfInBounds_toArray, List.set_cons_zero, List.set_cons_succ]
        refine wpAnyH_take (i := 3) (oi := { dst := some 29, op := Op.call { callee := Callee.builtin Builtin.len, args := #[Operand.tmp 28], argTypes := #[9] }, type := 3, pos := "ref.go:116", after := #[{ on := 2, ground := Ground.data }], guard := none }) (v := ?_) rfl (by kernel_rfl) (by kernel_rfl) (by kernel_rfl) (fun _ _ _ h => h) (Or.inl ⟨by rfl, ?_⟩) (by assumption) ?_
        rotate_left
        · intro w hSw; (try dsimp only at hSw); go_simp; try with_reducible rfl
        simp only [Act.put, List.setIfInBounds_toArray, List.set_cons_zero, List.set_cons_succ]
        refine wpAnyH_take (i := 4) (oi := { dst := some 30, op := Op.binOp BinOp.add 3 (Operand.const (Value.int IntKind.i64 49)) (Operand.tmp 29) 3, type := 3, pos := "ref.go:116", after := #[{ on := 3, ground := Ground.data }], guard := none }) (v := ?_) rfl (by kernel_rfl) (by kernel_rfl) (by kernel_rfl) (fun _ _ _ h => h) (Or.inl ⟨by rfl, ?_⟩) (by assumption) ?_
        rotate_left
        · intro w hSw; (try dsimp only at hSw); go_simp; try with_reducible rfl
        simp only [Act.put, List.setIfInBounds_toArray, List.set_cons_zero, List.set_cons_succ]
        refine wpAnyH_take (i := 5) (oi := { dst := some 31, op := Op.fieldAddr 24 (Operand.tmp 1) 1, type := 0, pos := "ref.go:116", after := #[], guard := none }) (v := ?_) rfl (by kernel_rfl) (by kernel_rfl) (by kernel_rfl) (fun _ _ _ h => h) (Or.inl ⟨by rfl, ?_⟩) (by assumption) ?_
        rotate_left
        · intro w hSw; (try dsimp only at hSw); go_simp; try with_reducible rfl
        simp only [Act.put, List.setIfInBounds_toArray, List.set_cons_zero, List.set_cons_succ]
        refine wpAnyH_take (i := 6) (oi := { dst := some 32, op := Op.load 3 (Operand.tmp 31), type := 3, pos := "ref.go:116", after := #[{ on := 5, ground := Ground.data }], guard := none }) (v := ?_) rfl (by kernel_rfl) (by kernel_rfl) (by kernel_rfl) (fun _ _ _ h => h) (Or.inl ⟨by rfl, ?_⟩) (by assumption) ?_
        rotate_left
        · intro w hSw; (try dsimp only at hSw); go_simp; try with_reducible rfl
        simp only [Act.put, List.setIfInBounds_toArray, List.set_cons_zero, List.set_cons_succ]
        refine wpAnyH_take (i := 7) (oi := { dst := some 33, op := Op.load 24 (Operand.tmp 1), type := 24, pos := "ref.go:116", after := #[], guard := none }) (v := ?_) rfl (by kernel_rfl) (by kernel_rfl) (by kernel_rfl) (fun _ _ _ h => h) (Or.inl ⟨by rfl, ?_⟩) (by assumption) ?_
        rotate_left
        · intro w hSw; (try dsimp only at hSw); go_simp; try with_reducible rfl
        simp only [Act.put, List.setIfInBounds_toArray, List.set_cons_zero, List.set_cons_succ]
        refine wpAnyH_take (i := 9) (oi := { dst := some 35, op := Op.fieldAddr 24 (Operand.tmp 1) 5, type := 0, pos := "ref.go:116", after := #[], guard := none }) (v := ?_) rfl (by kernel_rfl) (by kernel_rfl) (by kernel_rfl) (fun _ _ _ h => h) (Or.inl ⟨by rfl, ?_⟩) (by assumption) ?_
        rotate_left
        · intro w hSw; (try dsimp only at hSw); go_simp; try with_reducible rfl
        simp only [Act.put, List.setIfInBounds_toArray, List.set_cons_zero, List.set_cons_succ]
        refine wpAnyH_take (i := 10) (oi := { dst := some 36, op := Op.load 3 (Operand.tmp 35), type := 3, pos := "ref.go:116", after := #[{ on := 9, ground := Ground.data }], guard := none }) (v := ?_) rfl (by kernel_rfl) (by kernel_rfl) (by kernel_rfl) (fun _ _ _ h => h) (Or.inl ⟨by rfl, ?_⟩) (by assumption) ?_
        rotate_left
        · intro w hSw; (try dsimp only at hSw); go_simp; try with_reducible rfl
        simp only [Act.put, List.setIfInBounds_toArray, List.set_cons_zero, List.set_cons_succ]
        refine wpAnyH_take (i := 11) (oi := { dst := some 37, op := Op.fieldAddr 24 (Operand.tmp 1) 6, type := 0, pos := "ref.go:116", after := #[], guard := none }) (v := ?_) rfl (by kernel_rfl) (by kernel_rfl) (by kernel_rfl) (fun _ _ _ h => h) (Or.inl ⟨by rfl, ?_⟩) (by assumption) ?_
        rotate_left
        · intro w hSw; (try dsimp only at hSw); go_simp; try with_reducible rfl
        simp only [Act.put, List.setIfInBounds_toArray, List.set_cons_zero, List.set_cons_succ]
        refine wpAnyH_take (i := 12) (oi := { dst := some 38, op := Op.load 3 (Operand.tmp 37), type := 3, pos := "ref.go:116", after := #[{ on := 11, ground := Ground.data }], guard := none }) (v := ?_) rfl (by kernel_rfl) (by kernel_rfl) (by kernel_rfl) (fun _ _ _ h => h) (Or.inl ⟨by rfl, ?_⟩) (by assumption) ?_
        rotate_left
        · intro w hSw; (try dsimp only at hSw); go_simp; try with_reducible rfl
        simp only [Act.put, List.setIfInBounds_toArray, List.set_cons_zero, List.set_cons_succ]
        refine wpAnyH_take (i := 13) (oi := { dst := some 39, op := Op.fieldAddr 24 (Operand.tmp 1) 7, type := 0, pos := "ref.go:116", after := #[], guard := none }) (v := ?_) rfl (by kernel_rfl) (by kernel_rfl) (by kernel_rfl) (fun _ _ _ h => h) (Or.inl ⟨by rfl, ?_⟩) (by assumption) ?_
        rotate_left
        · intro w hSw; (try dsimp only at hSw); go_simp; try with_reducible rfl
        simp only [Act.put, List.setIfInBounds_toArray, List.set_cons_zero, List.set_cons_succ]
        refine wpAnyH_take (i := 14) (oi := { dst := some 40, op := Op.load 3 (Operand.tmp 39), type := 3, pos := "ref.go:116", after := #[{ on := 13, ground := Ground.data }], guard := none }) (v := ?_) rfl (by kernel_rfl) (by kernel_rfl) (by kernel_rfl) (fun _ _ _ h => h) (Or.inl ⟨by rfl, ?_⟩) (by assumption) ?_
        rotate_left
        · intro w hSw; (try dsimp only at hSw); go_simp; try with_reducible rfl
        simp only [Act.put, List.setIfInBounds_toArray, List.set_cons_zero, List.set_cons_succ]
        refine wpAnyH_take (i := 15) (oi := { dst := some 41, op := Op.fieldAddr 24 (Operand.tmp 1) 8, type := 0, pos := "ref.go:116", after := #[], guard := none }) (v := ?_) rfl (by kernel_rfl) (by kernel_rfl) (by kernel_rfl) (fun _ _ _ h => h) (Or.inl ⟨by rfl, ?_⟩) (by assumption) ?_
        rotate_left
        · intro w hSw; (try dsimp only at hSw); go_simp; try with_reducible rfl
        simp only [Act.put, List.setIfInBounds_toArray, List.set_cons_zero, List.set_cons_succ]
        refine wpAnyH_take (i := 16) (oi := { dst := some 42, op := Op.load 3 (Operand.tmp 41), type := 3, pos := "ref.go:116", after := #[{ on := 15, ground := Ground.data }], guard := none }) (v := ?_) rfl (by kernel_rfl) (by kernel_rfl) (by kernel_rfl) (fun _ _ _ h => h) (Or.inl ⟨by rfl, ?_⟩) (by assumption) ?_
        rotate_left
        · intro w hSw; (try dsimp only at hSw); go_simp; try with_reducible rfl
        simp only [Act.put, List.setIfInBounds_toArray, List.set_cons_zero, List.set_cons_succ]
        refine wpAnyH_take (i := 17) (oi := { dst := some 43, op := Op.fieldAddr 24 (Operand.tmp 1) 9, type := 0, pos := "ref.go:116", after := #[], guard := none }) (v := ?_) rfl (by kernel_rfl) (by kernel_rfl) (by kernel_rfl) (fun _ _ _ h => h) (Or.inl ⟨by rfl, ?_⟩) (by assumption) ?_
        rotate_left
        · intro w hSw; (try dsimp only at hSw); go_simp; try with_reducible rfl
        simp only [Act.put, List.setIfInBounds_toArray, List.set_cons_zero, List.set_cons_succ]
        refine wpAnyH_take (i := 18) (oi := { dst := some 44, op := Op.load 3 (Operand.tmp 43), type := 3, pos := "ref.go:116", after := #[{ on := 17, ground := Ground.data }], guard := none }) (v := ?_) rfl (by kernel_rfl) (by kernel_rfl) (by kernel_rfl) (fun _ _ _ h => h) (Or.inl ⟨by rfl, ?_⟩) (by assumption) ?_
        rotate_left
        · intro w hSw; (try dsimp only at hSw); go_simp; try with_reducible rfl
        simp only [Act.put, List.setIfInBounds_toArray, List.set_cons_zero, List.set_cons_succ]
        refine wpAnyH_take (i := 19) (oi := { dst := some 45, op := Op.fieldAddr 24 (Operand.tmp 1) 10, type := 0, pos := "ref.go:116", after := #[], guard := none }) (v := ?_) rfl (by kernel_rfl) (by kernel_rfl) (by kernel_rfl) (fun _ _ _ h => h) (Or.inl ⟨by rfl, ?_⟩) (by assumption) ?_
        rotate_left
        · intro w hSw; (try dsimp only at hSw); go_simp; try with_reducible rfl
        simp only [Act.put, List.setIfInBounds_toArray, List.set_cons_zero, List.set_cons_succ]
        refine wpAnyH_take (i := 20) (oi := { dst := some 46, op := Op.load 3 (Operand.tmp 45), type := 3, pos := "ref.go:116", after := #[{ on := 19, ground := Ground.data }], guard := none }) (v := ?_) rfl (by kernel_rfl) (by kernel_rfl) (by kernel_rfl) (fun _ _ _ h => h) (Or.inl ⟨by rfl, ?_⟩) (by assumption) ?_
        rotate_left
        · intro w hSw; (try dsimp only at hSw); go_simp; try with_reducible rfl
        simp only [Act.put, List.setIfInBounds_toArray, List.set_cons_zero, List.set_cons_succ]
        refine wpAnyH_take (i := 21) (oi := { dst := some 47, op := Op.fieldAddr 24 (Operand.tmp 1) 11, type := 0, pos := "ref.go:116", after := #[], guard := none }) (v := ?_) rfl (by kernel_rfl) (by kernel_rfl) (by kernel_rfl) (fun _ _ _ h => h) (Or.inl ⟨by rfl, ?_⟩) (by assumption) ?_
        rotate_left
        · intro w hSw; (try dsimp only at hSw); go_simp; try with_reducible rfl
        simp only [Act.put, List.setIfInBounds_toArray, List.set_cons_zero, List.set_cons_succ]
        refine wpAnyH_take (i := 22) (oi := { dst := some 48, op := Op.load 22 (Operand.tmp 47), type := 22, pos := "ref.go:116", after := #[{ on := 21, ground := Ground.data }], guard := none }) (v := ?_) rfl (by kernel_rfl) (by kernel_rfl) (by kernel_rfl) (fun _ _ _ h => h) (Or.inl ⟨by rfl, ?_⟩) (by assumption) ?_
        rotate_left
        · intro w hSw; (try dsimp only at hSw); go_simp; try with_reducible rfl
        simp only [Act.put, List.setIfInBounds_toArray, List.set_cons_zero, List.set_cons_succ]
        refine wpAnyH_take (i := 23) (oi := { dst := some 49, op := Op.call { callee := Callee.builtin Builtin.len, args := #[Operand.tmp 48], argTypes := #[22] }, type := 3, pos := "ref.go:116", after := #[{ on := 22, ground := Ground.data }], guard := none }) (v := ?_) rfl (by kernel_rfl) (by kernel_rfl) (by kernel_rfl) (fun _ _ _ h => h) (Or.inl ⟨by rfl, ?_⟩) (by assumption) ?_
        rotate_left
        · intro w hSw; (try dsimp only at hSw); go_simp; try with_reducible rfl
        simp only [Act.put, List.setIfInBounds_toArray, List.set_cons_zero, List.set_cons_succ]
        refine wpAnyH_ready (rs := [8]) (by kernel_rfl) (by simp) (AllReadyH.cons (o := { dst := some 34, op := Op.call { callee := Callee.value (Operand.func 41), args := #[Operand.tmp 33], argTypes := #[24] }, type := 3, pos := "ref.go:116", after := #[{ on := 7, ground := Ground.data }], guard := none }) rfl (fun KK hK => ?_) AllReadyH.nil)
        · go_simp
          go_at_call 41
          with_reducible refine (ref11_attr b.base b.leader b.app b.txn b.ctl b.last b.first b.maxt b.prod b.epoch b.seq (.slice q l.length cap) at_ AT.out hs).mono ?_
          rintro e wq ⟨rfl, hs⟩
          refine hK.out _ _ (let ⟨x0, x1, x2, x3, x4, x5, x6, x7, x8, x9, x10, x11, _⟩ := raw12 (b := hb) (hs); ⟨x0, x1, x2, x3, x4, x5, x6, x7, x8, x9, x10, x11⟩) (fun hHeld => ?_)
          clear hK KK
          try simp only [Act.put, List.setIfInBounds_toArray, List.set_cons_zero, List.set_cons_succ]
          refine wpAnyH_ready (rs := [24]) (by kernel_rfl) (by simp) (AllReadyH.cons (o := { dst := some 50, op := Op.buildSlice 76 12 #[(0, Operand.tmp 27), (1, Operand.tmp 30), (2, Operand.tmp 32), (3, Operand.const (Value.int IntKind.i64 0)), (4, Operand.tmp 34), (5, Operand.tmp 36), (6, Operand.tmp 38), (7, Operand.tmp 40), (8, Operand.tmp 42), (9, Operand.tmp 44), (10, Operand.tmp 46), (11, Operand.tmp 49)], type := 76, pos := "ref.go:116", after := #[{ on := 1, ground := Ground.data }, { on := 4, ground := Ground.data }, { on := 6, ground := Ground.data }, { on := 8, ground := Ground.data }, { on := 10, ground := Ground.data }, { on := 12, ground := Ground.data }, { on := 14, ground := Ground.data }, { on := 16, ground := Ground.data }, { on := 18, ground := Ground.data }, { on := 20, ground := Ground.data }, { on := 23, ground := Ground.data }], guard := none }) rfl (fun KK hK => ?_) AllReadyH.nil)
          · rw [if_pos (by rfl)]
            refine wp_op_value (v := .slice (some ⟨wq.heap.size, 0, none⟩) 12 12) (w' := wq.alloc (.cells #[.int .i64 b.base, .int .i64 (49 + rows.length), .int .i64 b.leader, .int .i64 0, .int .i64 at_, .int .i64 b.last, .int .i64 b.first, .int .i64 b.maxt, .int .i64 b.prod, .int .i64 b.epoch, .int .i64 b.seq, .int .i64 l.length] 3 (0, 0))) (exec_build #[(0, .int .i64 b.base), (1, .int .i64 (49 + rows.length)), (2, .int .i64 b.leader), (3, .int .i64 0), (4, .int .i64 at_), (5, .int .i64 b.last), (6, .int .i64 b.first), (7, .int .i64 b.maxt), (8, .int .i64 b.prod), (9, .int .i64 b.epoch), (10, .int .i64 b.seq), (11, .int .i64 l.length)] _ _ _ (by kernel_rfl) (build12 ( b.base) ( (49 + rows.length)) ( b.leader) ( 0) ( at_) ( b.last) ( b.first) ( b.maxt) ( b.prod) ( b.epoch) ( b.seq) ( l.length) wq)) ?_
            obtain ⟨wy, bS, ey, eb, hs⟩ := hs.allocEx #[.int .i64 b.base, .int .i64 (49 + rows.length), .int .i64 b.leader, .int .i64 0, .int .i64 at_, .int .i64 b.last, .int .i64 b.first, .int .i64 b.maxt, .int .i64 b.prod, .int .i64 b.epoch, .int .i64 b.seq, .int .i64 l.length] 3
            rw [ey, eb]
            clear ey eb
            refine hK.out _ _ (let ⟨x0, x1, x2, x3, x4, x5, x6, x7, x8, x9, x10, x11, _⟩ := raw12 (b := hb) (hs.p1); ⟨x0, x1, x2, x3, x4, x5, x6, x7, x8, x9, x10, x11⟩) (fun hHeld => ?_)
            clear hK KK
            try simp only [Act.put, List.setIfInBounds_toArray, List.set_cons_zero, List.set_cons_succ]
            refine wpAnyH_ready (rs := [25]) (by kernel_rfl) (by simp) (AllReadyH.cons (o := { dst := some 51, op := Op.call { callee := Callee.value (Operand.func 40), args := #[Operand.tmp 50], argTypes := #[76] }, type := 74, pos := "ref.go:116", after := #[{ on := 24, ground := Ground.data }, { on := 8, ground := Ground.chain }], guard := none }) rfl (fun KK hK => ?_) AllReadyH.nil)
            · go_simp
              go_at_call 40
              with_reducible refine (ref10_pre bS b 0 rows HRW.out at_ AT.out l.length HN.out said0 HS0.out HF0.out HR0.out hs).mono ?_
              rintro e wq ⟨rfl, hs⟩
              refine hK.out _ _ (let ⟨x0, x1, x2, x3, x4, x5, x6, x7, x8, x9, x10, x11, _⟩ := raw12 (b := hb) (hs.p1); ⟨x0, x1, x2, x3, x4, x5, x6, x7, x8, x9, x10, x11⟩) (fun hHeld => ?_)
              clear hK KK
              try simp only [Act.put, List.setIfInBounds_toArray, List.set_cons_zero, List.set_cons_succ]
              have hs := hs.drop
              refine wpAnyH_take (i := 26) (oi := { dst := some 25, op := Op.move (Operand.tmp 51), type := 74, pos := "ref.go:116", after := #[{ on := 25, ground := Ground.data }], guard := none }) (v := ?_) rfl (by kernel_rfl) (by kernel_rfl) (by kernel_rfl) (fun _ _ _ h => h) (Or.inl ⟨by rfl, ?_⟩) (by assumption) ?_
              rotate_left
              · intro w hSw; (try dsimp only at hSw); go_simp; try with_reducible rfl
              simp only [Act.put, List.setIfInBounds_toArray, List.set_cons_zero, List.set_cons_succ]
              refine wpAnyH_take (i := 27) (oi := { dst := some 52, op := Op.extract (Operand.tmp 25) 0, type := 9, pos := "ref.go:116", after := #[{ on := 26, ground := Ground.data }], guard := none }) (v := ?_) rfl (by kernel_rfl) (by kernel_rfl) (by kernel_rfl) (fun _ _ _ h => h) (Or.inl ⟨by rfl, ?_⟩) (by assumption) ?_
              rotate_left
              · intro w hSw; (try dsimp only at hSw); go_simp; try with_reducible rfl
              simp only [Act.put, List.setIfInBounds_toArray, List.set_cons_zero, List.set_cons_succ]
              refine wpAnyH_take (i := 28) (oi := { dst := some 53, op := Op.extract (Operand.tmp 25) 1, type := 4, pos := "ref.go:116", after := #[{ on := 26, ground := Ground.data }, { on := 29, ground := Ground.gcOnly Departure.lateStores }], guard := none }) (v := ?_) rfl (by kernel_rfl) (by kernel_rfl) (by kernel_rfl) (fun _ _ _ h => h) (Or.inl ⟨by rfl, ?_⟩) (by assumption) ?_
              rotate_left
              · intro w hSw; (try dsimp only at hSw); go_simp; try with_reducible rfl
              simp only [Act.put, List.setIfInBounds_toArray, List.set_cons_zero, List.set_cons_succ]
              refine wpAnyH_take (i := 29) (oi := { dst := some 5, op := Op.assign (Operand.tmp 52), type := 9, pos := "ref.go:116", after := #[{ on := 27, ground := Ground.data }, { on := 25, ground := Ground.chain }, { on := 0, ground := Ground.phase }, { on := 1, ground := Ground.phase }, { on := 2, ground := Ground.phase }, { on := 3, ground := Ground.phase }, { on := 4, ground := Ground.phase }, { on := 5, ground := Ground.phase }, { on := 6, ground := Ground.phase }, { on := 7, ground := Ground.phase }, { on := 8, ground := Ground.phase }, { on := 9, ground := Ground.phase }, { on := 10, ground := Ground.phase }, { on := 11, ground := Ground.phase }, { on := 12, ground := Ground.phase }, { on := 13, ground := Ground.phase }, { on := 14, ground := Ground.phase }, { on := 15, ground := Ground.phase }, { on := 16, ground := Ground.phase }, { on := 17, ground := Ground.phase }, { on := 18, ground := Ground.phase }, { on := 19, ground := Ground.phase }, { on := 20, ground := Ground.phase }, { on := 21, ground := Ground.phase }, { on := 22, ground := Ground.phase }, { on := 23, ground := Ground.phase }, { on := 24, ground := Ground.phase }, { on := 25, ground := Ground.phase }, { on := 26, ground := Ground.phase }, { on := 27, ground := Ground.phase }, { on := 28, ground := Ground.textOnly Departure.lateStores }], guard := none }) (v := ?_) rfl (by kernel_rfl) (by kernel_rfl) (by kernel_rfl) (fun _ _ _ h => h) (Or.inl ⟨by rfl, ?_⟩) (by assumption) ?_
              rotate_left
              · intro w hSw; (try dsimp only at hSw); go_simp; try with_reducible rfl
              simp only [Act.put, List.setIfInBounds_toArray, List.set_cons_zero, List.set_cons_succ]
              refine wpAnyH_take (i := 30) (oi := { dst := some 6, op := Op.assign (Operand.tmp 53), type := 4, pos := "ref.go:116", after := #[{ on := 28, ground := Ground.data }, { on := 29, ground := Ground.chain }, { on := 0, ground := Ground.phase }, { on := 1, ground := Ground.phase }, { on := 2, ground := Ground.phase }, { on := 3, ground := Ground.phase }, { on := 4, ground := Ground.phase }, { on := 5, ground := Ground.phase }, { on := 6, ground := Ground.phase }, { on := 7, ground := Ground.phase }, { on := 8, ground := Ground.phase }, { on := 9, ground := Ground.phase }, { on := 10, ground := Ground.phase }, { on := 11, ground := Ground.phase }, { on := 12, ground := Ground.phase }, { on := 13, ground := Ground.phase }, { on := 14, ground := Ground.phase }, { on := 15, ground := Ground.phase }, { on := 16, ground := Ground.phase }, { on := 17, ground := Ground.phase }, { on := 18, ground := Ground.phase }, { on := 19, ground := Ground.phase }, { on := 20, ground := Ground.phase }, { on := 21, ground := Ground.phase }, { on := 22, ground := Ground.phase }, { on := 23, ground := Ground.phase }, { on := 24, ground := Ground.phase }, { on := 25, ground := Ground.phase }, { on := 26, ground := Ground.phase }, { on := 27, ground := Ground.phase }, { on := 28, ground := Ground.phase }, { on := 29, ground := Ground.phase }], guard := none }) (v := ?_) rfl (by kernel_rfl) (by kernel_rfl) (by kernel_rfl) (fun _ _ _ h => h) (Or.inl ⟨by rfl, ?_⟩) (by assumption) ?_
              rotate_left
              · intro w hSw; (try dsimp only at hSw); go_simp; try with_reducible rfl
              simp only [Act.put, List.setIfInBounds_toArray, List.set_cons_zero, List.set_cons_succ]
              refine wpAnyH_done (by kernel_rfl) ?_ _
              clear hHeld
              go_wp2_with fail
              go_meet
              exact ⟨rfl, hs⟩
      case rest =>
        obtain ⟨rfl, h⟩ := hcut
        clear H
        have H := Lib.hid h
        clear h
        obtain ⟨hT, hcat0, hg0, l21, l21', hne⟩ := HG0.out
        have w2 := HW.out.2.2.1
        go_upto_region 8 with (go_at_call 42; (with_reducible refine (ref05_sumX all0 HA0.out x HX.out H.out).mono ?_); rintro e_ wn ⟨rfl, h⟩; replace H := Lib.hid h; clear h)
        clear w2 hT hcat0 hg0 l21 l21' hne
        go_cut [8] (fun s8 wx => s8 = .string (bb said1) ∧ St W0 wx K (.raw hb #[.int .i64 b.base, .int .i64 b.leader, .bool b.app, .bool b.txn, .bool b.ctl, .int .i64 b.last, .int .i64 b.first, .int .i64 b.maxt, .int .i64 b.prod, .int .i64 b.epoch, .int .i64 b.seq, .slice q l.length cap] 24 :: L))
        case first =>
          have hs := H.out.drew
          refine wp_region_held_drew (S := fun w' => w'.cell? ⟨hb, 0, none⟩ = some (.int .i64 b.base) ∧ w'.cell? ⟨hb, 1, none⟩ = some (.int .i64 b.leader) ∧ w'.cell? ⟨hb, 2, none⟩ = some (.bool b.app) ∧ w'.cell? ⟨hb, 3, none⟩ = some (.bool b.txn) ∧ w'.cell? ⟨hb, 4, none⟩ = some (.bool b.ctl) ∧ w'.cell? ⟨hb, 5, none⟩ = some (.int .i64 b.last) ∧ w'.cell? ⟨hb, 6, none⟩ = some (.int .i64 b.first) ∧ w'.cell? ⟨hb, 7, none⟩ = some (.int .i64 b.maxt) ∧ w'.cell? ⟨hb, 8, none⟩ = some (.int .i64 b.prod) ∧ w'.cell? ⟨hb, 9, none⟩ = some (.int .i64 b.epoch) ∧ w'.cell? ⟨hb, 10, none⟩ = some (.int .i64 b.seq) ∧ w'.cell? ⟨hb, 11, none⟩ = some (.slice q l.length cap)) (by kernel_rfl) (let ⟨x0, x1, x2, x3, x4, x5, x6, x7, x8, x9, x10, x11, _⟩ := raw12 (b := hb) (hs); ⟨x0, x1, x2, x3, x4, x5, x6, x7, x8, x9, x10, x11⟩) (fun hHeld => ?_)
          refine wpAnyH_take (i := 0) (oi := { dst := some 61, op := Op.fieldAddr 24 (Operand.tmp 1) 0, type := 0, pos := "ref.go:118", after := #[], guard := none }) (v := ?_) rfl (by kernel_rfl) (by kernel_rfl) (by kernel_rfl) (fun _ _ _ h => h) (Or.inl ⟨by rfl, ?_⟩) (by assumption) ?_
          rotate_left
          · intro w hSw; (try dsimp only at hSw); go_simp; try with_reducible rfl
          simp only [Act.put, List.setIfInBounds_toArray, List.set_cons_zero, List.set_cons_succ]
          refine wpAnyH_take (i := 1) (oi := { dst := some 62, op := Op.load 3 (Operand.tmp 61), type := 3, pos := "ref.go:118", after := #[{ on := 0, ground := Ground.data }], guard := none }) (v := ?_) rfl (by kernel_rfl) (by kernel_rfl) (by kernel_rfl) (fun _ _ _ h => h) (Or.inl ⟨by rfl, ?_⟩) (by assumption) ?_
          rotate_left
          · intro w hSw; (try dsimp only at hSw); go_simp; try with_reducible rfl
          simp only [Act.put, List.setIfInBounds_toArray, List.set_cons_zero, List.set_cons_succ]
          refine wpAnyH_take (i := 2) (oi := { dst := some 63, op := Op.move (Operand.tmp 3), type := 9, pos := "ref.go:118", after := #[], guard := none }) (v := ?_) rfl (by kernel_rfl) (by kernel_rfl) (by kernel_rfl) (fun _ _ _ h => h) (Or.inl ⟨by rfl, ?_⟩) (by assumption) ?_
          rotate_left
          · intro w hSw; (try dsimp only at hSw); go_simp; try with_reducible rfl
          simp only [Act.put, List.setIfInBounds_toArray, List.set_cons_zero, List.set_cons_succ]
          refine wpAnyH_take (i := 3) (oi := { dst := some 64, op := Op.call { callee := Callee.builtin Builtin.len, args := #[Operand.tmp 63], argTypes := #[9] }, type := 3, pos := "ref.go:118", after := #[{ on := 2, ground := Ground.data }], guard := none }) (v := ?_) rfl (by kernel_rfl) (by kernel_rfl) (by kernel_rfl) (fun _ _ _ h => h) (Or.inl ⟨by rfl, ?_⟩) (by assumption) ?_
          rotate_left
          · intro w hSw; (try dsimp only at hSw); go_simp; try with_reducible rfl
          simp only [Act.put, List.setIfInBounds_toArray, List.set_cons_zero, List.set_cons_succ]
          refine wpAnyH_take (i := 4) (oi := { dst := some 65, op := Op.binOp BinOp.add 3 (Operand.const (Value.int IntKind.i64 49)) (Operand.tmp 64) 3, type := 3, pos := "ref.go:118", after := #[{ on := 3, ground := Ground.data }], guard := none }) (v := ?_) rfl (by kernel_rfl) (by kernel_rfl) (by kernel_rfl) (fun _ _ _ h => h) (Or.inl ⟨by rfl, ?_⟩) (by assumption) ?_
          rotate_left
          · intro w hSw; (try dsimp only at hSw); go_simp; try with_reducible rfl
          simp only [Act.put, List.setIfInBounds_toArray, List.set_cons_zero, List.set_cons_succ]
          refine wpAnyH_take (i := 5) (oi := { dst := some 66, op := Op.fieldAddr 24 (Operand.tmp 1) 1, type := 0, pos := "ref.go:118", after := #[], guard := none }) (v := ?_) rfl (by kernel_rfl) (by kernel_rfl) (by kernel_rfl) (fun _ _ _ h => h) (Or.inl ⟨by rfl, ?_⟩) (by assumption) ?_
          rotate_left
          · intro w hSw; (try dsimp only at hSw); go_simp; try with_reducible rfl
          simp only [Act.put, List.setIfInBounds_toArray, List.set_cons_zero, List.set_cons_succ]
          refine wpAnyH_take (i := 6) (oi := { dst := some 67, op := Op.load 3 (Operand.tmp 66), type := 3, pos := "ref.go:118", after := #[{ on := 5, ground := Ground.data }], guard := none }) (v := ?_) rfl (by kernel_rfl) (by kernel_rfl) (by kernel_rfl) (fun _ _ _ h => h) (Or.inl ⟨by rfl, ?_⟩) (by assumption) ?_
          rotate_left
          · intro w hSw; (try dsimp only at hSw); go_simp; try with_reducible rfl
          simp only [Act.put, List.setIfInBounds_toArray, List.set_cons_zero, List.set_cons_succ]
          refine wpAnyH_take (i := 7) (oi := { dst := some 68, op := Op.move (Operand.tmp 7), type := 3, pos := "ref.go:118", after := #[], guard := none }) (v := ?_) rfl (by kernel_rfl) (by kernel_rfl) (by kernel_rfl) (fun _ _ _ h => h) (Or.inl ⟨by rfl, ?_⟩) (by assumption) ?_
          rotate_left
          · intro w hSw; (try dsimp only at hSw); go_simp; try with_reducible rfl
          simp only [Act.put, List.setIfInBounds_toArray, List.set_cons_zero, List.set_cons_succ]
          refine wpAnyH_take (i := 8) (oi := { dst := some 69, op := Op.load 24 (Operand.tmp 1), type := 24, pos := "ref.go:118", after := #[], guard := none }) (v := ?_) rfl (by kernel_rfl) (by kernel_rfl) (by kernel_rfl) (fun _ _ _ h => h) (Or.inl ⟨by rfl, ?_⟩) (by assumption) ?_
          rotate_left
          · intro w hSw; (try dsimp only at hSw); go_simp; try with_reducible rfl
          simp only [Act.put, List.setIfInBounds_toArray, List.set_cons_zero, List.set_cons_succ]
          refine wpAnyH_take (i := 10) (oi := { dst := some 71, op := Op.fieldAddr 24 (Operand.tmp 1) 5, type := 0, pos := "ref.go:118", after := #[], guard := none }) (v := ?_) rfl (by kernel_rfl) (by kernel_rfl) (by kernel_rfl) (fun _ _ _ h => h) (Or.inl ⟨by rfl, ?_⟩) (by assumption) ?_
          rotate_left
          · intro w hSw; (try dsimp only at hSw); go_simp; try with_reducible rfl
          simp only [Act.put, List.setIfInBounds_toArray, List.set_cons_zero, List.set_cons_succ]
          refine wpAnyH_take (i := 11) (oi := { dst := some 72, op := Op.load 3 (Operand.tmp 71), type := 3, pos := "ref.go:118", after := #[{ on := 10, ground := Ground.data }], guard := none }) (v := ?_) rfl (by kernel_rfl) (by kernel_rfl) (by kernel_rfl) (fun _ _ _ h => h) (Or.inl ⟨by rfl, ?_⟩) (by assumption) ?_
          rotate_left
          · intro w hSw; (try dsimp only at hSw); go_simp; try with_reducible rfl
          simp only [Act.put, List.setIfInBounds_toArray, List.set_cons_zero, List.set_cons_succ]
          refine wpAnyH_take (i := 12) (oi := { dst := some 73, op := Op.fieldAddr 24 (Operand.tmp 1) 6, type := 0, pos := "ref.go:118", after := #[], guard := none }) (v := ?_) rfl (by kernel_rfl) (by kernel_rfl) (by kernel_rfl) (fun _ _ _ h => h) (Or.inl ⟨by rfl, ?_⟩) (by assumption) ?_
          rotate_left
          · intro w hSw; (try dsimp only at hSw); go_simp; try with_reducible rfl
          simp only [Act.put, List.setIfInBounds_toArray, List.set_cons_zero, List.set_cons_succ]
          refine wpAnyH_take (i := 13) (oi := { dst := some 74, op := Op.load 3 (Operand.tmp 73), type := 3, pos := "ref.go:118", after := #[{ on := 12, ground := Ground.data }], guard := none }) (v := ?_) rfl (by kernel_rfl) (by kernel_rfl) (by kernel_rfl) (fun _ _ _ h => h) (Or.inl ⟨by rfl, ?_⟩) (by assumption) ?_
          rotate_left
          · intro w hSw; (try dsimp only at hSw); go_simp; try with_reducible rfl
          simp only [Act.put, List.setIfInBounds_toArray, List.set_cons_zero, List.set_cons_succ]
          refine wpAnyH_take (i := 14) (oi := { dst := some 75, op := Op.fieldAddr 24 (Operand.tmp 1) 7, type := 0, pos := "ref.go:118", after := #[], guard := none }) (v := ?_) rfl (by kernel_rfl) (by kernel_rfl) (by kernel_rfl) (fun _ _ _ h => h) (Or.inl ⟨by rfl, ?_⟩) (by assumption) ?_
          rotate_left
          · intro w hSw; (try dsimp only at hSw); go_simp; try with_reducible rfl
          simp only [Act.put, List.setIfInBounds_toArray, List.set_cons_zero, List.set_cons_succ]
          refine wpAnyH_take (i := 15) (oi := { dst := some 76, op := Op.load 3 (Operand.tmp 75), type := 3, pos := "ref.go:118", after := #[{ on := 14, ground := Ground.data }], guard := none }) (v := ?_) rfl (by kernel_rfl) (by kernel_rfl) (by kernel_rfl) (fun _ _ _ h => h) (Or.inl ⟨by rfl, ?_⟩) (by assumption) ?_
          rotate_left
          · intro w hSw; (try dsimp only at hSw); go_simp; try with_reducible rfl
          simp only [Act.put, List.setIfInBounds_toArray, List.set_cons_zero, List.set_cons_succ]
          refine wpAnyH_take (i := 16) (oi := { dst := some 77, op := Op.fieldAddr 24 (Operand.tmp 1) 8, type := 0, pos := "ref.go:118", after := #[], guard := none }) (v := ?_) rfl (by kernel_rfl) (by kernel_rfl) (by kernel_rfl) (fun _ _ _ h => h) (Or.inl ⟨by rfl, ?_⟩) (by assumption) ?_
          rotate_left
          · intro w hSw; (try dsimp only at hSw); go_simp; try with_reducible rfl
          simp only [Act.put, List.setIfInBounds_toArray, List.set_cons_zero, List.set_cons_succ]
          refine wpAnyH_take (i := 17) (oi := { dst := some 78, op := Op.load 3 (Operand.tmp 77), type := 3, pos := "ref.go:118", after := #[{ on := 16, ground := Ground.data }], guard := none }) (v := ?_) rfl (by kernel_rfl) (by kernel_rfl) (by kernel_rfl) (fun _ _ _ h => h) (Or.inl ⟨by rfl, ?_⟩) (by assumption) ?_
          rotate_left
          · intro w hSw; (try dsimp only at hSw); go_simp; try with_reducible rfl
          simp only [Act.put, List.setIfInBounds_toArray, List.set_cons_zero, List.set_cons_succ]
          refine wpAnyH_take (i := 18) (oi := { dst := some 79, op := Op.fieldAddr 24 (Operand.tmp 1) 9, type := 0, pos := "ref.go:118", after := #[], guard := none }) (v := ?_) rfl (by kernel_rfl) (by kernel_rfl) (by kernel_rfl) (fun _ _ _ h => h) (Or.inl ⟨by rfl, ?_⟩) (by assumption) ?_
          rotate_left
          · intro w hSw; (try dsimp only at hSw); go_simp; try with_reducible rfl
          simp only [Act.put, List.setIfInBounds_toArray, List.set_cons_zero, List.set_cons_succ]
          refine wpAnyH_take (i := 19) (oi := { dst := some 80, op := Op.load 3 (Operand.tmp 79), type := 3, pos := "ref.go:118", after := #[{ on := 18, ground := Ground.data }], guard := none }) (v := ?_) rfl (by kernel_rfl) (by kernel_rfl) (by kernel_rfl) (fun _ _ _ h => h) (Or.inl ⟨by rfl, ?_⟩) (by assumption) ?_
          rotate_left
          · intro w hSw; (try dsimp only at hSw); go_simp; try with_reducible rfl
          simp only [Act.put, List.setIfInBounds_toArray, List.set_cons_zero, List.set_cons_succ]
          refine wpAnyH_take (i := 20) (oi := { dst := some 81, op := Op.fieldAddr 24 (Operand.tmp 1) 10, type := 0, pos := "ref.go:118", after := #[], guard := none }) (v := ?_) rfl (by kernel_rfl) (by kernel_rfl) (by kernel_rfl) (fun _ _ _ h => h) (Or.inl ⟨by rfl, ?_⟩) (by assumption) ?_
          rotate_left
          · intro w hSw; (try dsimp only at hSw); go_simp; try with_reducible rfl
          simp only [Act.put, List.setIfInBounds_toArray, List.set_cons_zero, List.set_cons_succ]
          refine wpAnyH_take (i := 21) (oi := { dst := some 82, op := Op.load 3 (Operand.tmp 81), type := 3, pos := "ref.go:118", after := #[{ on := 20, ground := Ground.data }], guard := none }) (v := ?_) rfl (by kernel_rfl) (by kernel_rfl) (by kernel_rfl) (fun _ _ _ h => h) (Or.inl ⟨by rfl, ?_⟩) (by assumption) ?_
          rotate_left
          · intro w hSw; (try dsimp only at hSw); go_simp; try with_reducible rfl
          simp only [Act.put, List.setIfInBounds_toArray, List.set_cons_zero, List.set_cons_succ]
          refine wpAnyH_take (i := 22) (oi := { dst := some 83, op := Op.fieldAddr 24 (Operand.tmp 1) 11, type := 0, pos := "ref.go:118", after := #[], guard := none }) (v := ?_) rfl (by kernel_rfl) (by kernel_rfl) (by kernel_rfl) (fun _ _ _ h => h) (Or.inl ⟨by rfl, ?_⟩) (by assumption) ?_
          rotate_left
          · intro w hSw; (try dsimp only at hSw); go_simp; try with_reducible rfl
          simp only [Act.put, List.setIfInBounds_toArray, List.set_cons_zero, List.set_cons_succ]
          refine wpAnyH_take (i := 23) (oi := { dst := some 84, op := Op.load 22 (Operand.tmp 83), type := 22, pos := "ref.go:118", after := #[{ on := 22, ground := Ground.data }], guard := none }) (v := ?_) rfl (by kernel_rfl) (by kernel_rfl) (by kernel_rfl) (fun _ _ _ h => h) (Or.inl ⟨by rfl, ?_⟩) (by assumption) ?_
          rotate_left
          · intro w hSw; (try dsimp only at hSw); go_simp; try with_reducible rfl
          simp only [Act.put, List.setIfInBounds_toArray, List.set_cons_zero, List.set_cons_succ]
          refine wpAnyH_take (i := 24) (oi := { dst := some 85, op := Op.call { callee := Callee.builtin Builtin.len, args := #[Operand.tmp 84], argTypes := #[22] }, type := 3, pos := "ref.go:118", after := #[{ on := 23, ground := Ground.data }], guard := none }) (v := ?_) rfl (by kernel_rfl) (by kernel_rfl) (by kernel_rfl) (fun _ _ _ h => h) (Or.inl ⟨by rfl, ?_⟩) (by assumption) ?_
          rotate_left
          · intro w hSw; (try dsimp only at hSw); go_simp; try with_reducible rfl
          simp only [Act.put, List.setIfInBounds_toArray, List.set_cons_zero, List.set_cons_succ]
          refine wpAnyH_ready (rs := [9]) (by kernel_rfl) (by simp) (AllReadyH.cons (o := { dst := some 70, op := Op.call { callee := Callee.value (Operand.func 41), args := #[Operand.tmp 69], argTypes := #[24] }, type := 3, pos := "ref.go:118", after := #[{ on := 8, ground := Ground.data }], guard := none }) rfl (fun KK hK => ?_) AllReadyH.nil)
          · go_simp
            go_at_call 41
            with_reducible refine (ref11_attr b.base b.leader b.app b.txn b.ctl b.last b.first b.maxt b.prod b.epoch b.seq (.slice q l.length cap) at_ AT.out hs).mono ?_
            rintro e wq ⟨rfl, hs⟩
            refine hK.out _ _ (let ⟨x0, x1, x2, x3, x4, x5, x6, x7, x8, x9, x10, x11, _⟩ := raw12 (b := hb) (hs); ⟨x0, x1, x2, x3, x4, x5, x6, x7, x8, x9, x10, x11⟩) (fun hHeld => ?_)
            clear hK KK
            try simp only [Act.put, List.setIfInBounds_toArray, List.set_cons_zero, List.set_cons_succ]
            refine wpAnyH_ready (rs := [25]) (by kernel_rfl) (by simp) (AllReadyH.cons (o := { dst := some 86, op := Op.buildSlice 76 12 #[(0, Operand.tmp 62), (1, Operand.tmp 65), (2, Operand.tmp 67), (3, Operand.tmp 68), (4, Operand.tmp 70), (5, Operand.tmp 72), (6, Operand.tmp 74), (7, Operand.tmp 76), (8, Operand.tmp 78), (9, Operand.tmp 80), (10, Operand.tmp 82), (11, Operand.tmp 85)], type := 76, pos := "ref.go:118", after := #[{ on := 1, ground := Ground.data }, { on := 4, ground := Ground.data }, { on := 6, ground := Ground.data }, { on := 7, ground := Ground.data }, { on := 9, ground := Ground.data }, { on := 11, ground := Ground.data }, { on := 13, ground := Ground.data }, { on := 15, ground := Ground.data }, { on := 17, ground := Ground.data }, { on := 19, ground := Ground.data }, { on := 21, ground := Ground.data }, { on := 24, ground := Ground.data }], guard := none }) rfl (fun KK hK => ?_) AllReadyH.nil)
            · rw [if_pos (by rfl)]
              refine wp_op_value (v := .slice (some ⟨wq.heap.size, 0, none⟩) 12 12) (w' := wq.alloc (.cells #[.int .i64 b.base, .int .i64 (49 + rows.length), .int .i64 b.leader, .int .i64 (x : Int), .int .i64 at_, .int .i64 b.last, .int .i64 b.first, .int .i64 b.maxt, .int .i64 b.prod, .int .i64 b.epoch, .int .i64 b.seq, .int .i64 l.length] 3 (0, 0))) (exec_build #[(0, .int .i64 b.base), (1, .int .i64 (49 + rows.length)), (2, .int .i64 b.leader), (3, .int .i64 (x : Int)), (4, .int .i64 at_), (5, .int .i64 b.last), (6, .int .i64 b.first), (7, .int .i64 b.maxt), (8, .int .i64 b.prod), (9, .int .i64 b.epoch), (10, .int .i64 b.seq), (11, .int .i64 l.length)] _ _ _ (by kernel_rfl) (build12 ( b.base) ( (49 + rows.length)) ( b.leader) ( (x : Int)) ( at_) ( b.last) ( b.first) ( b.maxt) ( b.prod) ( b.epoch) ( b.seq) ( l.length) wq)) ?_
              obtain ⟨wy, bS, ey, eb, hs⟩ := hs.allocEx #[.int .i64 b.base, .int .i64 (49 + rows.length), .int .i64 b.leader, .int .i64 (x : Int), .int .i64 at_, .int .i64 b.last, .int .i64 b.first, .int .i64 b.maxt, .int .i64 b.prod, .int .i64 b.epoch, .int .i64 b.seq, .int .i64 l.length] 3
              rw [ey, eb]
              clear ey eb
              refine hK.out _ _ (let ⟨x0, x1, x2, x3, x4, x5, x6, x7, x8, x9, x10, x11, _⟩ := raw12 (b := hb) (hs.p1); ⟨x0, x1, x2, x3, x4, x5, x6, x7, x8, x9, x10, x11⟩) (fun hHeld => ?_)
              clear hK KK
              try simp only [Act.put, List.setIfInBounds_toArray, List.set_cons_zero, List.set_cons_succ]
              refine wpAnyH_ready (rs := [26]) (by kernel_rfl) (by simp) (AllReadyH.cons (o := { dst := some 87, op := Op.call { callee := Callee.value (Operand.func 40), args := #[Operand.tmp 86], argTypes := #[76] }, type := 74, pos := "ref.go:118", after := #[{ on := 25, ground := Ground.data }, { on := 9, ground := Ground.chain }], guard := none }) rfl (fun KK hK => ?_) AllReadyH.nil)
              · go_simp
                go_at_call 40
                with_reducible refine (ref10_pre bS b (x : Int) rows HRW.out at_ AT.out l.length HN.out said1 HS1.out HF1.out HR1.out hs).mono ?_
                rintro e wq ⟨rfl, hs⟩
                refine hK.out _ _ (let ⟨x0, x1, x2, x3, x4, x5, x6, x7, x8, x9, x10, x11, _⟩ := raw12 (b := hb) (hs.p1); ⟨x0, x1, x2, x3, x4, x5, x6, x7, x8, x9, x10, x11⟩) (fun hHeld => ?_)
                clear hK KK
                try simp only [Act.put, List.setIfInBounds_toArray, List.set_cons_zero, List.set_cons_succ]
                have hs := hs.drop
                refine wpAnyH_take (i := 27) (oi := { dst := some 60, op := Op.move (Operand.tmp 87), type := 74, pos := "ref.go:118", after := #[{ on := 26, ground := Ground.data }], guard := none }) (v := ?_) rfl (by kernel_rfl) (by kernel_rfl) (by kernel_rfl) (fun _ _ _ h => h) (Or.inl ⟨by rfl, ?_⟩) (by assumption) ?_
                rotate_left
                · intro w hSw; (try dsimp only at hSw); go_simp; try with_reducible rfl
                simp only [Act.put, List.setIfInBounds_toArray, List.set_cons_zero, List.set_cons_succ]
                refine wpAnyH_take (i := 28) (oi := { dst := some 88, op := Op.extract (Operand.tmp 60) 0, type := 9, pos := "ref.go:118", after := #[{ on := 27, ground := Ground.data }], guard := none }) (v := ?_) rfl (by kernel_rfl) (by kernel_rfl) (by kernel_rfl) (fun _ _ _ h => h) (Or.inl ⟨by rfl, ?_⟩) (by assumption) ?_
                rotate_left
                · intro w hSw; (try dsimp only at hSw); go_simp; try with_reducible rfl
                simp only [Act.put, List.setIfInBounds_toArray, List.set_cons_zero, List.set_cons_succ]
                refine wpAnyH_take (i := 29) (oi := { dst := some 89, op := Op.extract (Operand.tmp 60) 1, type := 4, pos := "ref.go:118", after := #[{ on := 27, ground := Ground.data }, { on := 30, ground := Ground.gcOnly Departure.lateStores }], guard := none }) (v := ?_) rfl (by kernel_rfl) (by kernel_rfl) (by kernel_rfl) (fun _ _ _ h => h) (Or.inl ⟨by rfl, ?_⟩) (by assumption) ?_
                rotate_left
                · intro w hSw; (try dsimp only at hSw); go_simp; try with_reducible rfl
                simp only [Act.put, List.setIfInBounds_toArray, List.set_cons_zero, List.set_cons_succ]
                refine wpAnyH_take (i := 30) (oi := { dst := some 8, op := Op.assign (Operand.tmp 88), type := 9, pos := "ref.go:118", after := #[{ on := 28, ground := Ground.data }, { on := 26, ground := Ground.chain }, { on := 0, ground := Ground.phase }, { on := 1, ground := Ground.phase }, { on := 2, ground := Ground.phase }, { on := 3, ground := Ground.phase }, { on := 4, ground := Ground.phase }, { on := 5, ground := Ground.phase }, { on := 6, ground := Ground.phase }, { on := 7, ground := Ground.phase }, { on := 8, ground := Ground.phase }, { on := 9, ground := Ground.phase }, { on := 10, ground := Ground.phase }, { on := 11, ground := Ground.phase }, { on := 12, ground := Ground.phase }, { on := 13, ground := Ground.phase }, { on := 14, ground := Ground.phase }, { on := 15, ground := Ground.phase }, { on := 16, ground := Ground.phase }, { on := 17, ground := Ground.phase }, { on := 18, ground := Ground.phase }, { on := 19, ground := Ground.phase }, { on := 20, ground := Ground.phase }, { on := 21, ground := Ground.phase }, { on := 22, ground := Ground.phase }, { on := 23, ground := Ground.phase }, { on := 24, ground := Ground.phase }, { on := 25, ground := Ground.phase }, { on := 26, ground := Ground.phase }, { on := 27, ground := Ground.phase }, { on := 28, ground := Ground.phase }, { on := 29, ground := Ground.textOnly Departure.lateStores }], guard := none }) (v := ?_) rfl (by kernel_rfl) (by kernel_rfl) (by kernel_rfl) (fun _ _ _ h => h) (Or.inl ⟨by rfl, ?_⟩) (by assumption) ?_
                rotate_left
                · intro w hSw; (try dsimp only at hSw); go_simp; try with_reducible rfl
                simp only [Act.put, List.setIfInBounds_toArray, List.set_cons_zero, List.set_cons_succ]
                refine wpAnyH_take (i := 31) (oi := { dst := some 9, op := Op.assign (Operand.tmp 89), type := 4, pos := "ref.go:118", after := #[{ on := 29, ground := Ground.data }, { on := 30, ground := Ground.chain }, { on := 0, ground := Ground.phase }, { on := 1, ground := Ground.phase }, { on := 2, ground := Ground.phase }, { on := 3, ground := Ground.phase }, { on := 4, ground := Ground.phase }, { on := 5, ground := Ground.phase }, { on := 6, ground := Ground.phase }, { on := 7, ground := Ground.phase }, { on := 8, ground := Ground.phase }, { on := 9, ground := Ground.phase }, { on := 10, ground := Ground.phase }, { on := 11, ground := Ground.phase }, { on := 12, ground := Ground.phase }, { on := 13, ground := Ground.phase }, { on := 14, ground := Ground.phase }, { on := 15, ground := Ground.phase }, { on := 16, ground := Ground.phase }, { on := 17, ground := Ground.phase }, { on := 18, ground := Ground.phase }, { on := 19, ground := Ground.phase }, { on := 20, ground := Ground.phase }, { on := 21, ground := Ground.phase }, { on := 22, ground := Ground.phase }, { on := 23, ground := Ground.phase }, { on := 24, ground := Ground.phase }, { on := 25, ground := Ground.phase }, { on := 26, ground := Ground.phase }, { on := 27, ground := Ground.phase }, { on := 28, ground := Ground.phase }, { on := 29, ground := Ground.phase }, { on := 30, ground := Ground.phase }], guard := none }) (v := ?_) rfl (by kernel_rfl) (by kernel_rfl) (by kernel_rfl) (fun _ _ _ h => h) (Or.inl ⟨by rfl, ?_⟩) (by assumption) ?_
                rotate_left
                · intro w hSw; (try dsimp only at hSw); go_simp; try with_reducible rfl
                simp only [Act.put, List.setIfInBounds_toArray, List.set_cons_zero, List.set_cons_succ]
                refine wpAnyH_done (by kernel_rfl) ?_ _
                clear hHeld
                go_wp2_with fail
                go_meet
                exact ⟨rfl, hs⟩
        case rest =>
          obtain ⟨rfl, h⟩ := hcut
          clear H
          have H := Lib.hid h
          clear h
          obtain ⟨hcat1, hg1⟩ := HG1.out
          go_wp2_with (fail)
          go_ret
          exact ⟨rfl, H.out.drop⟩

end Go.Proofs.YtcjgdlfcfcabiaaGreat

/- Markers, the document's. -/
namespace Go.Proofs.YtcjgdlfcfcabiaaGreat
open Go.RowKit

theorem alloc_at {W0 w : World} {K : Know} {L : List Res} (h : St W0 w K L) (c : Array Value) (T : TypeId) : ∃ b, w.heap.size = b ∧ St W0 (w.alloc (.cells c T (0, 0))) K (.raw b c T :: L) := ⟨_, rfl, h.allocRaw c T⟩
theorem ref11_check1 (base leader : Int) (n1 n2 n3 n4 n5 : Int) (ks vs : Bs) (e : Int) (he : batErr (⟨base, leader, false, true, true, 0, n4, n4, n1, n2, -1, [(⟨0, 0, ⟨false, ks⟩, ⟨false, vs⟩, []⟩ : RecS)]⟩ : BatS) = e) (hmx : n4 ≤ 9223372036854775807) (hrb : Rn base) (hfr : (⟨0, 0, ⟨false, ks⟩, ⟨false, vs⟩, []⟩ : RecS).R ∧ HFit (⟨0, 0, ⟨false, ks⟩, ⟨false, vs⟩, []⟩ : RecS).hdrs ∧ (⟨0, 0, ⟨false, ks⟩, ⟨false, vs⟩, []⟩ : RecS).sum ≤ 1000000) (q : Option Addr) {W0 w : World} {K : Know} {L : List Res} (hk : K.has (Know.recs (.slice q 1 1) [((⟨0, 0, ⟨false, ks⟩, ⟨false, vs⟩, []⟩ : RecS), .slice none 0 0)])) (h : St W0 w K L) :
    Calls Tryz.prog 9 #[.agg #[.int .i64 base, .int .i64 leader, .bool false, .bool true, .bool true, .int .i64 0, .int .i64 n4, .int .i64 n4, .int .i64 n1, .int .i64 n2, .int .i64 (-1), .slice q 1 1]] w fun en w' => en = .returned (.int .i64 e) ∧ St W0 w' K L :=
  ref11_check base leader false true true 0 n4 n4 n1 n2 (-1) [((⟨0, 0, ⟨false, ks⟩, ⟨false, vs⟩, []⟩ : RecS), .slice none 0 0)] q 1 e he hmx hrb (fun x hx => by rw [List.mem_singleton.1 hx]; exact hfr) (by simp) hk h
theorem ref11_same1 (base leader : Int) (n1 n2 n3 n4 n5 : Int) (ks vs : Bs) (q1 q2 : Option Addr) {W0 w : World} {K : Know} {L : List Res} (hk1 : K.has (Know.recs (.slice q1 1 1) [((⟨0, 0, ⟨false, ks⟩, ⟨false, vs⟩, []⟩ : RecS), .slice none 0 0)])) (hk2 : K.has (Know.recs (.slice q2 1 1) [((⟨0, 0, ⟨false, ks⟩, ⟨false, vs⟩, []⟩ : RecS), .slice none 0 0)])) (h : St W0 w K L) :
    Calls Tryz.prog 13 #[.agg #[.int .i64 base, .int .i64 leader, .bool false, .bool true, .bool true, .int .i64 0, .int .i64 n4, .int .i64 n4, .int .i64 n1, .int .i64 n2, .int .i64 (-1), .slice q1 1 1], .agg #[.int .i64 base, .int .i64 leader, .bool false, .bool true, .bool true, .int .i64 0, .int .i64 n4, .int .i64 n4, .int .i64 n1, .int .i64 n2, .int .i64 (-1), .slice q2 1 1]] w fun en w' => en = .returned (.bool true) ∧ St W0 w' K L :=
  ref11_sameT (⟨base, leader, false, true, true, 0, n4, n4, n1, n2, -1, [(⟨0, 0, ⟨false, ks⟩, ⟨false, vs⟩, []⟩ : RecS)]⟩ : BatS) [((⟨0, 0, ⟨false, ks⟩, ⟨false, vs⟩, []⟩ : RecS), .slice none 0 0)] [((⟨0, 0, ⟨false, ks⟩, ⟨false, vs⟩, []⟩ : RecS), .slice none 0 0)] q1 q2 1 1 (by simp) rfl rfl (fun x hx => by rw [List.mem_singleton.1 hx]; exact Nat.zero_le _) (fun x hx => by rw [List.mem_singleton.1 hx]; exact Nat.zero_le _) hk1 hk2 h
theorem ref11_encode1 (base leader : Int) (n1 n2 n3 n4 n5 : Int) (ks vs s : Bs) (hs : BatS.enc (⟨base, leader, false, true, true, 0, n4, n4, n1, n2, -1, [(⟨0, 0, ⟨false, ks⟩, ⟨false, vs⟩, []⟩ : RecS)]⟩ : BatS) = s) (so : SmallOk (⟨base, leader, false, true, true, 0, n4, n4, n1, n2, -1, [(⟨0, 0, ⟨false, ks⟩, ⟨false, vs⟩, []⟩ : RecS)]⟩ : BatS)) (q : Option Addr) {W0 w : World} {K : Know} {L : List Res} (hk : K.has (Know.recs (.slice q 1 1) [((⟨0, 0, ⟨false, ks⟩, ⟨false, vs⟩, []⟩ : RecS), .slice none 0 0)])) (h : St W0 w K L) :
    Calls Tryz.prog 12 #[.agg #[.int .i64 base, .int .i64 leader, .bool false, .bool true, .bool true, .int .i64 0, .int .i64 n4, .int .i64 n4, .int .i64 n1, .int .i64 n2, .int .i64 (-1), .slice q 1 1]] w fun en w' => en = .returned (.string (bb s)) ∧ St W0 w' K L :=
  ref11_encode (⟨base, leader, false, true, true, 0, n4, n4, n1, n2, -1, [(⟨0, 0, ⟨false, ks⟩, ⟨false, vs⟩, []⟩ : RecS)]⟩ : BatS) s hs [((⟨0, 0, ⟨false, ks⟩, ⟨false, vs⟩, []⟩ : RecS), .slice none 0 0)] q 1 rfl so hk h
theorem ref08_keyK (n : Int) (hn : -9223372036854775808 ≤ n ∧ n < 9223372036854775808) (ks : Bs) (hk : ctlKey n = (ks, 0)) {W0 w : World} {K : Know} {L : List Res} (h : St W0 w K L) :
    Calls Tryz.prog 18 #[.int .i64 n] w fun en w' => en = .returned (.string (bb ks)) ∧ St W0 w' K L := by
  have e : verB n 2 = ks := by unfold ctlKey at hk; split at hk <;> cases hk; rfl
  rw [← e]
  exact ref08_key n hn h
theorem ref08_valueK (n : Int) (hn : -9223372036854775808 ≤ n ∧ n < 9223372036854775808) (vs : Bs) (hv : ctlVal n = (vs, 0)) {W0 w : World} {K : Know} {L : List Res} (h : St W0 w K L) :
    Calls Tryz.prog 19 #[.int .i64 n] w fun en w' => en = .returned (.string (bb vs)) ∧ St W0 w' K L := by
  have e : verB n 4 = vs := by unfold ctlVal at hv; split at hv <;> cases hv; rfl
  rw [← e]
  exact ref08_value n hn h
theorem ctlRead_mark (n m : Int) (ks vs : Bs) (hk : verB n 2 = ks) (hv : verB m 4 = vs) (h1 : n = 0 ∨ n = 1) (h2 : 0 ≤ m ∧ m < 2147483648) : ctlRead false false ks vs (([] : List HdrS).length : Int) 0 = (n, m, 0) := by
  subst hk hv
  have r1 : verRd 2 way 12 (verB n 2) = (n, 0) := by
    rcases h1 with rfl | rfl
    · exact verRd_back 0 2 way 12 (by decide) (by decide) (fits2 0 (by decide)) (by decide)
    · exact verRd_back 1 2 way 12 (by decide) (by decide) (fits2 1 (by decide)) (by decide)
  have r2 := verRd_back m 4 time0 11 (by decide) (by decide) ((fits4 m).2 (by omega)) (decide_eq_true h2.1)
  unfold ctlRead
  rw [if_neg (by decide), r1, r2]
  rfl
theorem endOf_mark (base leader : Int) (n1 n2 n3 n4 n5 : Int) (ks vs : Bs) (hks : ctlKey n3 = (ks, 0)) (hvs : ctlVal n5 = (vs, 0)) (he : batErr (⟨base, leader, false, true, true, 0, n4, n4, n1, n2, -1, [(⟨0, 0, ⟨false, ks⟩, ⟨false, vs⟩, []⟩ : RecS)]⟩ : BatS) = 0) : endOf (⟨base, leader, false, true, true, 0, n4, n4, n1, n2, -1, [(⟨0, 0, ⟨false, ks⟩, ⟨false, vs⟩, []⟩ : RecS)]⟩ : BatS) = (n1, n2, n3, n4, n5, true) := by
  have hk : verB n3 2 = ks ∧ (n3 = 0 ∨ n3 = 1) := by unfold ctlKey at hks; split at hks <;> cases hks; exact ⟨rfl, by assumption⟩
  have hv : verB n5 4 = vs ∧ (0 ≤ n5 ∧ n5 < 2147483648) := by unfold ctlVal at hvs; split at hvs <;> cases hvs; exact ⟨rfl, by assumption⟩
  have hc : ctlOf (⟨0, 0, ⟨false, ks⟩, ⟨false, vs⟩, []⟩ : RecS) = (n3, n5, 0) := by
    unfold ctlOf
    exact ctlRead_mark n3 n5 ks vs hk.1 hv.1 hk.2 hv.2
  unfold endOf
  rw [if_pos ⟨rfl, he⟩]
  simp only [hc, Int.add_zero]

theorem mark_fitB {ks vs : Bs} (hfr : (⟨0, 0, ⟨false, ks⟩, ⟨false, vs⟩, []⟩ : RecS).R ∧ HFit (⟨0, 0, ⟨false, ks⟩, ⟨false, vs⟩, []⟩ : RecS).hdrs ∧ (⟨0, 0, ⟨false, ks⟩, ⟨false, vs⟩, []⟩ : RecS).sum ≤ 1000000) {l : List (RecS × Value)} (h : l.map (·.1) = [(⟨0, 0, ⟨false, ks⟩, ⟨false, vs⟩, []⟩ : RecS)]) : FitB l := by
  intro x hx
  have hm : x.1 ∈ l.map (·.1) := List.mem_map_of_mem hx
  rw [h] at hm
  rw [List.mem_singleton.1 hm]
  exact hfr

end Go.Proofs.YtcjgdlfcfcabiaaGreat
