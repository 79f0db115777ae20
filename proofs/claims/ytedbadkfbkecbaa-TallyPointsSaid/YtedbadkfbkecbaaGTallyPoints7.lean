/- Sums of sizes, turned. -/
import Derived.Test.YtedbadkfbkecbaaGTallyPoints4
import Derived.Test.YtedbadkfbkecbaaGTallyPoints3
import Derived.Test.YtedbadkfbkecbaaGTallyPoints5
import Derived.Test.YtedbadkfbkecbaaGTallyPoints6
import Derived.Test.YtedbadkfbkecbaaGTallyPoints2
import Derived.Deep.RegionHeld3
import Derived.Deep.DeepCutAuto
import Derived.IntWalk
import Derived.Test.YtedbadkfbkecbaaGrow
import Derived.Laws.ComplexArith
import Derived.Test.YtedbadkfbkecbaaNum
import Derived.Laws.Cover3
import Derived.Test.YtedbadkfbkecbaaSep
import Derived.Test.YtedbadkfbkecbaaHdr1
import Derived.Laws.Cover2
/- Batches: the document's bytes. -/
namespace Go.Proofs.Ytedbadkfbkecbaa
open Go.RowKit

theorem wp_op_value {P : Program} {o : Oper} {a : Act} {w w' : World} {v : Value} {KK : Act → World → Prop} {Q : Exit → Act → World → Prop} (hr : (execOp a.eval o).run P w = .ok (.value v) w') (h : KK (a.put o.dst v) w') : o.wp P a w KK Q := by
  unfold Oper.wp
  rw [hr]
  exact h
theorem build12 (n0 n1 n2 n3 n4 n5 n6 n7 n8 n9 n10 n11 : Int) (w : World) : (Instr.buildSlice 55 12 #[(0, .int .i64 n0), (1, .int .i64 n1), (2, .int .i64 n2), (3, .int .i64 n3), (4, .int .i64 n4), (5, .int .i64 n5), (6, .int .i64 n6), (7, .int .i64 n7), (8, .int .i64 n8), (9, .int .i64 n9), (10, .int .i64 n10), (11, .int .i64 n11)]).run Try.prog w = .ok (.slice (some ⟨w.heap.size, 0, none⟩) 12 12) (w.alloc (.cells #[.int .i64 n0, .int .i64 n1, .int .i64 n2, .int .i64 n3, .int .i64 n4, .int .i64 n5, .int .i64 n6, .int .i64 n7, .int .i64 n8, .int .i64 n9, .int .i64 n10, .int .i64 n11] 3 (0, 0))) := by go_simp
theorem exec_val {v : Value} {w w' : World} (s : Sem Value) (hb : s.run Try.prog w = .ok v w') : (do pure (Next.value (← s)) : Sem Next).run Try.prog w = .ok (.value v) w' := by go_simp
theorem exec_build {o : Oper} {ρ : Operand → Value} (ps : Array (Nat × Value)) (v : Value) (w w' : World) (ho : execOp ρ o = (do pure (Next.value (← Instr.buildSlice 55 12 ps)))) (hb : (Instr.buildSlice 55 12 ps).run Try.prog w = .ok v w') : (execOp ρ o).run Try.prog w = .ok (.value v) w' := by
  rw [ho]
  exact exec_val _ hb
theorem ref10_pre (bl : Nat) (b : BatS) (sm : Int) (rows : Bs) (hrw : b.rowsB = rows) (at_ : Int) (hat : attrN b.app b.txn b.ctl 3 = at_) (n : Nat) (hn : b.recs.length = n) (said : Bs) (hsaid : encInts (b.pre sm).items = said) (hfit : FitsAll (b.pre sm).items) (hR : (b.pre sm).R) {W0 w : World} {K : Know} {L : List Res} (h : St W0 w K (.raw bl #[.int .i64 b.base, .int .i64 (49 + rows.length), .int .i64 b.leader, .int .i64 sm, .int .i64 at_, .int .i64 b.last, .int .i64 b.first, .int .i64 b.maxt, .int .i64 b.prod, .int .i64 b.epoch, .int .i64 b.seq, .int .i64 n] 3 :: L)) :
    Calls Try.prog 21 #[.slice (some ⟨bl, 0, none⟩) 12 12] w fun en w' => en = .returned (.tuple #[.string (bb said), .bool true]) ∧ St W0 w' K (.raw bl #[.int .i64 b.base, .int .i64 (49 + rows.length), .int .i64 b.leader, .int .i64 sm, .int .i64 at_, .int .i64 b.last, .int .i64 b.first, .int .i64 b.maxt, .int .i64 b.prod, .int .i64 b.epoch, .int .i64 b.seq, .int .i64 n] 3 :: L) := by
  subst hrw hat hn hsaid
  have e : preBytes (b.pre sm) = (encInts (b.pre sm).items, true) := if_pos hfit
  have c := ref10_bytes bl (b.pre sm) hR h
  rw [e] at c
  exact c

set_option maxHeartbeats 1000000 in
set_option maxRecDepth 100000 in
theorem ref11_attr (base leader : Int) (app txn ctl : Bool) (last first maxt prod epoch sq : Int) (rv : Value) (r : Int) (hr : attrN app txn ctl 3 = r) {W0 w : World} {K : Know} {L : List Res} (h : St W0 w K L) :
    Calls Try.prog 22 #[.agg #[.int .i64 base, .int .i64 leader, .bool app, .bool txn, .bool ctl, .int .i64 last, .int .i64 first, .int .i64 maxt, .int .i64 prod, .int .i64 epoch, .int .i64 sq, rv]] w fun en w' => en = .returned (.int .i64 r) ∧ St W0 w' K L := by
  obtain ⟨hb, hhb⟩ : ∃ b, w.heap.size = b := ⟨_, rfl⟩
  have h1 := h.allocRaw #[.int .i64 base, .int .i64 leader, .bool app, .bool txn, .bool ctl, .int .i64 last, .int .i64 first, .int .i64 maxt, .int .i64 prod, .int .i64 epoch, .int .i64 sq, rv] 26
  rw [hhb] at h1
  obtain ⟨x0, x1, x2, x3, x4, x5, x6, x7, x8, x9, x10, x11, y0, y1, y2, y3, y4, y5, y6, y7, y8, y9, y10, y11⟩ := raw12 (b := hb) (h1)
  have H := Lib.hid h1
  subst hr
  clear h h1
  cases app <;> cases txn <;> cases ctl
  all_goals
    go_enter Try.func22, Try.ntmps22
    go_wp2
    go_ret
    exact ⟨by kernel_rfl, H.out.drop⟩

theorem ref05_sumX (s : Bs) (hs : s.length ≤ 1000000) (x : Nat) (hx : (crcMore 0#32 s).toNat = x) {W0 w : World} {K : Know} {L : List Res} (h : St W0 w K L) :
    Calls Try.prog 23 #[.string (bb s)] w fun en w' => en = .returned (.int .u32 x) ∧ St W0 w' K L := by
  subst hx
  exact ref05_sumW s hs h
set_option maxHeartbeats 4000000 in
set_option maxRecDepth 1000000 in
theorem ref11_encode (b : BatS) (s : Bs) (hs : b.enc = s) (l : List (RecS × Value)) (q : Option Addr) (cap : Nat) (hl : l.map (·.1) = b.recs) (so : SmallOk b) {W0 w : World} {K : Know} {L : List Res} (hk : K.has (Know.recs (.slice q l.length cap) l)) (h : St W0 w K L) :
    Calls Try.prog 7 #[.agg #[.int .i64 b.base, .int .i64 b.leader, .bool b.app, .bool b.txn, .bool b.ctl, .int .i64 b.last, .int .i64 b.first, .int .i64 b.maxt, .int .i64 b.prod, .int .i64 b.epoch, .int .i64 b.seq, .slice q l.length cap]] w fun en w' => en = .returned (.string (bb s)) ∧ St W0 w' K L := by
  obtain ⟨hb, hhb⟩ : ∃ b, w.heap.size = b := ⟨_, rfl⟩
  have h1 := h.allocRaw #[.int .i64 b.base, .int .i64 b.leader, .bool b.app, .bool b.txn, .bool b.ctl, .int .i64 b.last, .int .i64 b.first, .int .i64 b.maxt, .int .i64 b.prod, .int .i64 b.epoch, .int .i64 b.seq, .slice q l.length cap] 26
  rw [hhb] at h1
  obtain ⟨x0, x1, x2, x3, x4, x5, x6, x7, x8, x9, x10, x11, y0, y1, y2, y3, y4, y5, y6, y7, y8, y9, y10, y11⟩ := raw12 (b := hb) (h1)
  have H := Lib.hid h1
  have HK := Lib.hid hk
  have hrn := so.rows
  have hre : encAll l = b.rowsB := by rw [encAll_rows, hl]; rfl
  obtain ⟨rows, hrows⟩ : ∃ r, b.rowsB = r := ⟨_, rfl⟩
  have hcr := b.crc_lt
  have hln := so.len
  obtain ⟨at_, hat⟩ : ∃ a, attrN b.app b.txn b.ctl 3 = a := ⟨_, rfl⟩
  obtain ⟨x, hx⟩ : ∃ x, b.crc = x := ⟨_, rfl⟩
  obtain ⟨said0, hs0⟩ : ∃ t, encInts (b.pre 0).items = t := ⟨_, rfl⟩
  obtain ⟨said1, hs1⟩ : ∃ t, encInts (b.pre x).items = t := ⟨_, rfl⟩
  obtain ⟨all0, ha0⟩ : ∃ t, b.back ++ b.rowsB = t := ⟨_, rfl⟩
  have hbl : b.back.length = 40 := by unfold BatS.back; rw [encInts_length]; rfl
  obtain ⟨back, hbk⟩ : ∃ t, b.back = t := ⟨_, rfl⟩
  have hl0 : said0.length = 61 := by rw [← hs0]; exact items_len _
  have hl1 : said1.length = 61 := by rw [← hs1]; exact items_len _
  have HRW := Lib.hid hrows
  have HN := Lib.hid (show b.recs.length = l.length by rw [← hl, List.length_map])
  have AT := Lib.hid hat
  have HS0 := Lib.hid hs0
  have HS1 := Lib.hid hs1
  have HF0 := Lib.hid (BatS.fitsAll so.err so.rng 0 (by omega) (by omega) (by omega))
  have HR0 := Lib.hid (BatS.pre_R so.err so.rng 0 (by omega) (by omega) (by omega))
  have HF1 := Lib.hid (BatS.fitsAll so.err so.rng x (by omega) (by omega) (by omega))
  have HR1 := Lib.hid (BatS.pre_R so.err so.rng x (by omega) (by omega) (by omega))
  have HX := Lib.hid (show (crcMore 0#32 all0).toNat = x by rw [← ha0, ← hx]; rfl)
  have HA0 := Lib.hid (show all0.length ≤ 1000000 by rw [← ha0, List.length_append]; omega)
  have hT : List.take (said0.length - 21) (List.drop 21 said0) = back := by
    rw [List.take_of_length_le (by rw [List.length_drop]; omega), ← hs0, b.pre_drop, hbk]
  have hcat0 : bb back ++ bb rows = bb all0 := by rw [← ha0, ← hbk, ← hrows]; exact bb_append _ _
  have hcat1 : bb said1 ++ bb rows = bb s := by
    rw [← hs, ← hs1, ← hrows, ← hx]; exact bb_append _ _
  have hrl : rows.length ≤ 400000 := by rw [← hrows]; exact hrn
  have hg0 : ¬ (9223372036854775807 < back.length + rows.length) := by rw [← hbk]; omega
  have hg1 : ¬ (9223372036854775807 < said1.length + rows.length) := by omega
  have l21 : (21 : Int) ≤ (said0.length : Int) := by omega
  have l21' : 21 ≤ said0.length := by omega
  have hne : ¬ (said0 = []) := by intro hh; rw [hh] at hl0; simp at hl0
  have w1 : IntKind.i64.wrap (49 + (rows.length : Int)) = 49 + (rows.length : Int) := IntWalk.i64_in _ (by omega)
  have w1' : wrap64 (49 + (rows.length : Int)) = 49 + (rows.length : Int) := by unfold wrap64; omega
  have w2 : IntKind.i64.wrap (x : Int) = (x : Int) := IntWalk.i64_in _ (by omega)
  have w2' : wrap64 (x : Int) = (x : Int) := by unfold wrap64; omega
  have HRE := Lib.hid (hre.trans hrows)
  have HXS := Lib.hid (show ∀ y ∈ l, y.1.R ∧ y.1.sum ≤ 1000000 from fun y hy => by
    have hm : y.1 ∈ b.recs := hl ▸ List.mem_map_of_mem hy
    have := so.recs y.1 hm
    exact ⟨this.1, this.2.2⟩)
  have HLN := Lib.hid (show l.length ≤ 12 by have h9 := congrArg List.length hl; rw [List.length_map] at h9; omega)
  have HRN := Lib.hid hrl
  clear h h1 hk hrn hre hrows hcr hln hat hx hs0 hs1 ha0 hbl hbk hl0 hl1 hl hs so
  have HG0 := Lib.hid (And.intro hT (And.intro hcat0 (And.intro hg0 (And.intro l21 (And.intro l21' hne)))))
  have HG1 := Lib.hid (And.intro hcat1 hg1)
  have HW := Lib.hid (And.intro w1 (And.intro w1' (And.intro w2 w2')))
  clear hT hcat0 hg0 l21 l21' hne hcat1 hg1 w1 w1' w2 w2' hrl
  go_enter Try.func7, Try.ntmps7
  go_wp2
  go_loopw [3, 4] (fun sv iv wr => ∃ k : Nat, k ≤ l.length ∧ iv = .int .i64 k ∧ sv = .string (bb (encAll (l.take k))) ∧ St W0 wr K (.raw hb #[.int .i64 b.base, .int .i64 b.leader, .bool b.app, .bool b.txn, .bool b.ctl, .int .i64 b.last, .int .i64 b.first, .int .i64 b.maxt, .int .i64 b.prod, .int .i64 b.epoch, .int .i64 b.seq, .slice q l.length cap] 26 :: L)) (fun _ iv _ => l.length - (intOf iv).toNat)
  case atStart => exact ⟨0, Nat.zero_le _, rfl, rfl, H.out⟩
  case round =>
    obtain ⟨k, hkl, rfl, rfl, hst⟩ := hrel
    clear H x0 x1 x2 x3 x4 x5 x6 x7 x8 x9 x10 x11 y0 y1 y2 y3 y4 y5 y6 y7 y8 y9 y10 y11
    have H := Lib.hid hst
    clear hst
    by_cases hlt : k < l.length
    · as_aux_lemma =>
      have het := encAll_take l k hlt
      have hpl : (encAll (l.take k)).length ≤ rows.length := by
        rw [← HRE.out]
        conv => rhs; rw [← List.take_append_drop k l]
        unfold encAll
        rw [List.flatMap_append, List.length_append]
        omega
      have hpl2 : (encAll (l.take (k + 1))).length ≤ rows.length := by
        rw [← HRE.out]
        conv => rhs; rw [← List.take_append_drop (k + 1) l]
        unfold encAll
        rw [List.flatMap_append, List.length_append]
        omega
      obtain ⟨b0, off, hqq⟩ := recs_at HK.out H.out (by omega)
      subst hqq
      obtain ⟨⟨x, vx⟩, hx⟩ : ∃ x, l[k] = x := ⟨_, rfl⟩
      have cc := recs_cell HK.out H.out k hlt (x, vx) hx
      have hmem : (x, vx) ∈ l := hx ▸ List.getElem_mem hlt
      have XF := HXS.out (x, vx) hmem
      have XF1 := Lib.hid XF.1
      have XF2 := Lib.hid XF.2
      clear XF
      have xk : K.has (Know.flat RHdr vx 3 x.hdrs) := recs_hdrs HK.out hmem
      obtain ⟨qx, capx, hvx⟩ := flat_form xk H.out
      subst hvx
      have XK := Lib.hid xk
      simp only at cc
      obtain ⟨c0, c1, c2, c3, c4, c5, c6⟩ := cc
      rw [← Nat.add_assoc] at c1 c2 c3 c4 c5 c6
      obtain ⟨sx, hsx⟩ : ∃ t, encR x = t := ⟨_, rfl⟩
      have HSX := Lib.hid hsx
      rw [hx] at het
      simp only [hsx] at het
      obtain ⟨pre, hpre⟩ : ∃ t, encAll (l.take k) = t := ⟨_, rfl⟩
      obtain ⟨nxt, hnxt⟩ : ∃ t, encAll (l.take (k + 1)) = t := ⟨_, rfl⟩
      rw [hpre] at het hpl ⊢
      rw [hnxt] at het hpl2
      have HNXT := Lib.hid hnxt
      have hcat : bb pre ++ bb sx = bb nxt := by rw [het]; exact bb_append _ _
      have hg : ¬ (9223372036854775807 < pre.length + sx.length) := by
        have h1 := HRN.out
        have h2 := congrArg List.length het
        rw [List.length_append] at h2
        omega
      have hki : (k : Int) < (l.length : Int) := by omega
      have hl12 : (l.length : Int) ≤ 12 := by have := HLN.out; omega
      obtain ⟨x0, x1, x2, x3, x4, x5, x6, x7, x8, x9, x10, x11, y0, y1, y2, y3, y4, y5, y6, y7, y8, y9, y10, y11⟩ := raw12 (b := hb) (H.out)
      clear xk hmem hx hsx het hpl hpl2 hpre hnxt
      go_wp2_with (go_at_call 20; (with_reducible refine (ref07_write x (.slice qx x.hdrs.length capx) sx HSX.out XF1.out XF2.out XK.out H.out).mono ?_); rintro e_ wn ⟨rfl, h⟩; replace H := Lib.hid h; clear h)
      go_roundw
      case rel => exact ⟨k + 1, hlt, by go_num, by rw [HNXT.out], H.out⟩
      case measure => first | (simp [intOf]; done) | (simp [intOf]; omega)
    · obtain rfl : k = l.length := by omega
      rw [List.take_length, HRE.out]
      have w1 := HW.out.1
      obtain ⟨x0, x1, x2, x3, x4, x5, x6, x7, x8, x9, x10, x11, y0, y1, y2, y3, y4, y5, y6, y7, y8, y9, y10, y11⟩ := raw12 (b := hb) (H.out)
      go_upto_region 6 with (fail)
      clear x0 x1 x2 x3 x4 x5 x6 x7 x8 x9 x10 x11 y0 y1 y2 y3 y4 y5 y6 y7 y8 y9 y10 y11
      go_cut [5] (fun s5 wx => s5 = .string (bb said0) ∧ St W0 wx K (.raw hb #[.int .i64 b.base, .int .i64 b.leader, .bool b.app, .bool b.txn, .bool b.ctl, .int .i64 b.last, .int .i64 b.first, .int .i64 b.maxt, .int .i64 b.prod, .int .i64 b.epoch, .int .i64 b.seq, .slice q l.length cap] 26 :: L))
      case first =>
        as_aux_lemma =>
        have hs := H.out.drew
        refine wp_region_held_drew (S := fun w' => w'.cell? ⟨hb, 0, none⟩ = some (.int .i64 b.base) ∧ w'.cell? ⟨hb, 1, none⟩ = some (.int .i64 b.leader) ∧ w'.cell? ⟨hb, 2, none⟩ = some (.bool b.app) ∧ w'.cell? ⟨hb, 3, none⟩ = some (.bool b.txn) ∧ w'.cell? ⟨hb, 4, none⟩ = some (.bool b.ctl) ∧ w'.cell? ⟨hb, 5, none⟩ = some (.int .i64 b.last) ∧ w'.cell? ⟨hb, 6, none⟩ = some (.int .i64 b.first) ∧ w'.cell? ⟨hb, 7, none⟩ = some (.int .i64 b.maxt) ∧ w'.cell? ⟨hb, 8, none⟩ = some (.int .i64 b.prod) ∧ w'.cell? ⟨hb, 9, none⟩ = some (.int .i64 b.epoch) ∧ w'.cell? ⟨hb, 10, none⟩ = some (.int .i64 b.seq) ∧ w'.cell? ⟨hb, 11, none⟩ = some (.slice q l.length cap)) (by kernel_rfl) (let ⟨x0, x1, x2, x3, x4, x5, x6, x7, x8, x9, x10, x11, _⟩ := raw12 (b := hb) (hs); ⟨x0, x1, x2, x3, x4, x5, x6, x7, x8, x9, x10, x11⟩) (fun hHeld => ?_)
        refine wpAnyH_take (i := 0) (oi := { dst := some 26, op := Op.fieldAddr 26 (Operand.tmp 1) 0, type := 0, pos := "ref.go:116", after := #[], guard := none }) (v := ?_) rfl (by kernel_rfl) (by kernel_rfl) (by kernel_rfl) (fun _ _ _ h => h) (Or.inl ⟨by rfl, ?_⟩) (by assumption) ?_
        rotate_left
        · intro w hSw; (try dsimp only at hSw); go_simp; try with_reducible rfl
        simp only [Act.put, List.setIfInBounds_toArray, List.set_cons_zero, List.set_cons_succ]
        refine wpAnyH_take (i := 1) (oi := { dst := some 27, op := Op.load 3 (Operand.tmp 26), type := 3, pos := "ref.go:116", after := #[{ on := 0, ground := Ground.data }], guard := none }) (v := ?_) rfl (by kernel_rfl) (by kernel_rfl) (by kernel_rfl) (fun _ _ _ h => h) (Or.inl ⟨by rfl, ?_⟩) (by assumption) ?_
        rotate_left
        · intro w hSw; (try dsimp only at hSw); go_simp; try with_reducible rfl
        simp only [Act.put, List.setIfInBounds_toArray, List.set_cons_zero, List.set_cons_succ]
        refine wpAnyH_take (i := 2) (oi := { dst := some 28, op := Op.move (Operand.tmp 3), type := 9, pos := "ref.go:116", after := #[], guard := none }) (v := ?_) rfl (by kernel_rfl) (by kernel_rfl) (by kernel_rfl) (fun _ _ _ h => h) (Or.inl ⟨by rfl, ?_⟩) (by assumption) ?_
        rotate_left
        · intro w hSw; (try dsimp only at hSw); go_simp; try with_reducible rfl
        simp only [Act.put, List.setIfInBounds_toArray, List.set_cons_zero, List.set_cons_succ]
        refine wpAnyH_take (i := 3) (oi := { dst := some 29, op := Op.call { callee := Callee.builtin Builtin.len, args := #[Operand.tmp 28], argTypes := #[9] }, type := 3, pos := "ref.go:116", after := #[{ on := 2, ground := Ground.data }], guard := none }) (v := ?_) rfl (by kernel_rfl) (by kernel_rfl) (by kernel_rfl) (fun _ _ _ h => h) (Or.inl ⟨by rfl, ?_⟩) (by assumption) ?_
        rotate_left
        · intro w hSw; (try dsimp only at hSw); go_simp; try with_reducible rfl
        simp only [Act.put, List.setIfInBounds_toArray, List.set_cons_zero, List.set_cons_succ]
        refine wpAnyH_take (i := 4) (oi := { dst := some 30, op := Op.binOp BinOp.add 3 (Operand.const (Value.int IntKind.i64 49)) (Operand.tmp 29) 3, type := 3, pos := "ref.go:116", after := #[{ on := 3, ground := Ground.data }], guard := none }) (v := ?_) rfl (by kernel_rfl) (by kernel_rfl) (by kernel_rfl) (fun _ _ _ h => h) (Or.inl ⟨by rfl, ?_⟩) (by assumption) ?_
        rotate_left
        · intro w hSw; (try dsimp only at hSw); go_simp; try with_reducible rfl
        simp only [Act.put, List.setIfInBounds_toArray, List.set_cons_zero, List.set_cons_succ]
        refine wpAnyH_take (i := 5) (oi := { dst := some 31, op := Op.fieldAddr 26 (Operand.tmp 1) 1, type := 0, pos := "ref.go:116", after := #[], guard := none }) (v := ?_) rfl (by kernel_rfl) (by kernel_rfl) (by kernel_rfl) (fun _ _ _ h => h) (Or.inl ⟨by rfl, ?_⟩) (by assumption) ?_
        rotate_left
        · intro w hSw; (try dsimp only at hSw); go_simp; try with_reducible rfl
        simp only [Act.put, List.setIfInBounds_toArray, List.set_cons_zero, List.set_cons_succ]
        refine wpAnyH_take (i := 6) (oi := { dst := some 32, op := Op.load 3 (Operand.tmp 31), type := 3, pos := "ref.go:116", after := #[{ on := 5, ground := Ground.data }], guard := none }) (v := ?_) rfl (by kernel_rfl) (by kernel_rfl) (by kernel_rfl) (fun _ _ _ h => h) (Or.inl ⟨by rfl, ?_⟩) (by assumption) ?_
        rotate_left
        · intro w hSw; (try dsimp only at hSw); go_simp; try with_reducible rfl
        simp only [Act.put, List.setIfInBounds_toArray, List.set_cons_zero, List.set_cons_succ]
        refine wpAnyH_take (i := 7) (oi := { dst := some 33, op := Op.load 26 (Operand.tmp 1), type := 26, pos := "ref.go:116", after := #[], guard := none }) (v := ?_) rfl (by kernel_rfl) (by kernel_rfl) (by kernel_rfl) (fun _ _ _ h => h) (Or.inl ⟨by rfl, ?_⟩) (by assumption) ?_
        rotate_left
        · intro w hSw; (try dsimp only at hSw); go_simp; try with_reducible rfl
        simp only [Act.put, List.setIfInBounds_toArray, List.set_cons_zero, List.set_cons_succ]
        refine wpAnyH_take (i := 9) (oi := { dst := some 35, op := Op.fieldAddr 26 (Operand.tmp 1) 5, type := 0, pos := "ref.go:116", after := #[], guard := none }) (v := ?_) rfl (by kernel_rfl) (by kernel_rfl) (by kernel_rfl) (fun _ _ _ h => h) (Or.inl ⟨by rfl, ?_⟩) (by assumption) ?_
        rotate_left
        · intro w hSw; (try dsimp only at hSw); go_simp; try with_reducible rfl
        simp only [Act.put, List.setIfInBounds_toArray, List.set_cons_zero, List.set_cons_succ]
        refine wpAnyH_take (i := 10) (oi := { dst := some 36, op := Op.load 3 (Operand.tmp 35), type := 3, pos := "ref.go:116", after := #[{ on := 9, ground := Ground.data }], guard := none }) (v := ?_) rfl (by kernel_rfl) (by kernel_rfl) (by kernel_rfl) (fun _ _ _ h => h) (Or.inl ⟨by rfl, ?_⟩) (by assumption) ?_
        rotate_left
        · intro w hSw; (try dsimp only at hSw); go_simp; try with_reducible rfl
        simp only [Act.put, List.setIfInBounds_toArray, List.set_cons_zero, List.set_cons_succ]
        refine wpAnyH_take (i := 11) (oi := { dst := some 37, op := Op.fieldAddr 26 (Operand.tmp 1) 6, type := 0, pos := "ref.go:116", after := #[], guard := none }) (v := ?_) rfl (by kernel_rfl) (by kernel_rfl) (by kernel_rfl) (fun _ _ _ h => h) (Or.inl ⟨by rfl, ?_⟩) (by assumption) ?_
        rotate_left
        · intro w hSw; (try dsimp only at hSw); go_simp; try with_reducible rfl
        simp only [Act.put, List.setIfInBounds_toArray, List.set_cons_zero, List.set_cons_succ]
        refine wpAnyH_take (i := 12) (oi := { dst := some 38, op := Op.load 3 (Operand.tmp 37), type := 3, pos := "ref.go:116", after := #[{ on := 11, ground := Ground.data }], guard := none }) (v := ?_) rfl (by kernel_rfl) (by kernel_rfl) (by kernel_rfl) (fun _ _ _ h => h) (Or.inl ⟨by rfl, ?_⟩) (by assumption) ?_
        rotate_left
        · intro w hSw; (try dsimp only at hSw); go_simp; try with_reducible rfl
        simp only [Act.put, List.setIfInBounds_toArray, List.set_cons_zero, List.set_cons_succ]
        refine wpAnyH_take (i := 13) (oi := { dst := some 39, op := Op.fieldAddr 26 (Operand.tmp 1) 7, type := 0, pos := "ref.go:116", after := #[], guard := none }) (v := ?_) rfl (by kernel_rfl) (by kernel_rfl) (by kernel_rfl) (fun _ _ _ h => h) (Or.inl ⟨by rfl, ?_⟩) (by assumption) ?_
        rotate_left
        · intro w hSw; (try dsimp only at hSw); go_simp; try with_reducible rfl
        simp only [Act.put, List.setIfInBounds_toArray, List.set_cons_zero, List.set_cons_succ]
        refine wpAnyH_take (i := 14) (oi := { dst := some 40, op := Op.load 3 (Operand.tmp 39), type := 3, pos := "ref.go:116", after := #[{ on := 13, ground := Ground.data }], guard := none }) (v := ?_) rfl (by kernel_rfl) (by kernel_rfl) (by kernel_rfl) (fun _ _ _ h => h) (Or.inl ⟨by rfl, ?_⟩) (by assumption) ?_
        rotate_left
        · intro w hSw; (try dsimp only at hSw); go_simp; try with_reducible rfl
        simp only [Act.put, List.setIfInBounds_toArray, List.set_cons_zero, List.set_cons_succ]
        refine wpAnyH_take (i := 15) (oi := { dst := some 41, op := Op.fieldAddr 26 (Operand.tmp 1) 8, type := 0, pos := "ref.go:116", after := #[], guard := none }) (v := ?_) rfl (by kernel_rfl) (by kernel_rfl) (by kernel_rfl) (fun _ _ _ h => h) (Or.inl ⟨by rfl, ?_⟩) (by assumption) ?_
        rotate_left
        · intro w hSw; (try dsimp only at hSw); go_simp; try with_reducible rfl
        simp only [Act.put, List.setIfInBounds_toArray, List.set_cons_zero, List.set_cons_succ]
        refine wpAnyH_take (i := 16) (oi := { dst := some 42, op := Op.load 3 (Operand.tmp 41), type := 3, pos := "ref.go:116", after := #[{ on := 15, ground := Ground.data }], guard := none }) (v := ?_) rfl (by kernel_rfl) (by kernel_rfl) (by kernel_rfl) (fun _ _ _ h => h) (Or.inl ⟨by rfl, ?_⟩) (by assumption) ?_
        rotate_left
        · intro w hSw; (try dsimp only at hSw); go_simp; try with_reducible rfl
        simp only [Act.put, List.setIfInBounds_toArray, List.set_cons_zero, List.set_cons_succ]
        refine wpAnyH_take (i := 17) (oi := { dst := some 43, op := Op.fieldAddr 26 (Operand.tmp 1) 9, type := 0, pos := "ref.go:116", after := #[], guard := none }) (v := ?_) rfl (by kernel_rfl) (by kernel_rfl) (by kernel_rfl) (fun _ _ _ h => h) (Or.inl ⟨by rfl, ?_⟩) (by assumption) ?_
        rotate_left
        · intro w hSw; (try dsimp only at hSw); go_simp; try with_reducible rfl
        simp only [Act.put, List.setIfInBounds_toArray, List.set_cons_zero, List.set_cons_succ]
        refine wpAnyH_take (i := 18) (oi := { dst := some 44, op := Op.load 3 (Operand.tmp 43), type := 3, pos := "ref.go:116", after := #[{ on := 17, ground := Ground.data }], guard := none }) (v := ?_) rfl (by kernel_rfl) (by kernel_rfl) (by kernel_rfl) (fun _ _ _ h => h) (Or.inl ⟨by rfl, ?_⟩) (by assumption) ?_
        rotate_left
        · intro w hSw; (try dsimp only at hSw); go_simp; try with_reducible rfl
        simp only [Act.put, List.setIfInBounds_toArray, List.set_cons_zero, List.set_cons_succ]
        refine wpAnyH_take (i := 19) (oi := { dst := some 45, op := Op.fieldAddr 26 (Operand.tmp 1) 10, type := 0, pos := "ref.go:116", after := #[], guard := none }) (v := ?_) rfl (by kernel_rfl) (by kernel_rfl) (by kernel_rfl) (fun _ _ _ h => h) (Or.inl ⟨by rfl, ?_⟩) (by assumption) ?_
        rotate_left
        · intro w hSw; (try dsimp only at hSw); go_simp; try with_reducible rfl
        simp only [Act.put, List.setIfInBounds_toArray, List.set_cons_zero, List.set_cons_succ]
        refine wpAnyH_take (i := 20) (oi := { dst := some 46, op := Op.load 3 (Operand.tmp 45), type := 3, pos := "ref.go:116", after := #[{ on := 19, ground := Ground.data }], guard := none }) (v := ?_) rfl (by kernel_rfl) (by kernel_rfl) (by kernel_rfl) (fun _ _ _ h => h) (Or.inl ⟨by rfl, ?_⟩) (by assumption) ?_
        rotate_left
        · intro w hSw; (try dsimp only at hSw); go_simp; try with_reducible rfl
        simp only [Act.put, List.setIfInBounds_toArray, List.set_cons_zero, List.set_cons_succ]
        refine wpAnyH_take (i := 21) (oi := { dst := some 47, op := Op.fieldAddr 26 (Operand.tmp 1) 11, type := 0, pos := "ref.go:116", after := #[], guard := none }) (v := ?_) rfl (by kernel_rfl) (by kernel_rfl) (by kernel_rfl) (fun _ _ _ h => h) (Or.inl ⟨by rfl, ?_⟩) (by assumption) ?_
        rotate_left
        · intro w hSw; (try dsimp only at hSw); go_simp; try with_reducible rfl
        simp only [Act.put, List.setIfInBounds_toArray, List.set_cons_zero, List.set_cons_succ]
        refine wpAnyH_take (i := 22) (oi := { dst := some 48, op := Op.load 24 (Operand.tmp 47), type := 24, pos := "ref.go:116", after := #[{ on := 21, ground := Ground.data }], guard := none }) (v := ?_) rfl (by kernel_rfl) (by kernel_rfl) (by kernel_rfl) (fun _ _ _ h => h) (Or.inl ⟨by rfl, ?_⟩) (by assumption) ?_
        rotate_left
        · intro w hSw; (try dsimp only at hSw); go_simp; try with_reducible rfl
        simp only [Act.put, List.setIfInBounds_toArray, List.set_cons_zero, List.set_cons_succ]
        refine wpAnyH_take (i := 23) (oi := { dst := some 49, op := Op.call { callee := Callee.builtin Builtin.len, args := #[Operand.tmp 48], argTypes := #[24] }, type := 3, pos := "ref.go:116", after := #[{ on := 22, ground := Ground.data }], guard := none }) (v := ?_) rfl (by kernel_rfl) (by kernel_rfl) (by kernel_rfl) (fun _ _ _ h => h) (Or.inl ⟨by rfl, ?_⟩) (by assumption) ?_
        rotate_left
        · intro w hSw; (try dsimp only at hSw); go_simp; try with_reducible rfl
        simp only [Act.put, List.setIfInBounds_toArray, List.set_cons_zero, List.set_cons_succ]
        refine wpAnyH_ready (rs := [8]) (by kernel_rfl) (by simp) (AllReadyH.cons (o := { dst := some 34, op := Op.call { callee := Callee.value (Operand.func 22), args := #[Operand.tmp 33], argTypes := #[26] }, type := 3, pos := "ref.go:116", after := #[{ on := 7, ground := Ground.data }], guard := none }) rfl (fun KK hK => ?_) AllReadyH.nil)
        · go_simp
          go_at_call 22
          with_reducible refine (ref11_attr b.base b.leader b.app b.txn b.ctl b.last b.first b.maxt b.prod b.epoch b.seq (.slice q l.length cap) at_ AT.out hs).mono ?_
          rintro e wq ⟨rfl, hs⟩
          refine hK.out _ _ (let ⟨x0, x1, x2, x3, x4, x5, x6, x7, x8, x9, x10, x11, _⟩ := raw12 (b := hb) (hs); ⟨x0, x1, x2, x3, x4, x5, x6, x7, x8, x9, x10, x11⟩) (fun hHeld => ?_)
          clear hK KK
          try simp only [Act.put, List.setIfInBounds_toArray, List.set_cons_zero, List.set_cons_succ]
          refine wpAnyH_ready (rs := [24]) (by kernel_rfl) (by simp) (AllReadyH.cons (o := { dst := some 50, op := Op.buildSlice 55 12 #[(0, Operand.tmp 27), (1, Operand.tmp 30), (2, Operand.tmp 32), (3, Operand.const (Value.int IntKind.i64 0)), (4, Operand.tmp 34), (5, Operand.tmp 36), (6, Operand.tmp 38), (7, Operand.tmp 40), (8, Operand.tmp 42), (9, Operand.tmp 44), (10, Operand.tmp 46), (11, Operand.tmp 49)], type := 55, pos := "ref.go:116", after := #[{ on := 1, ground := Ground.data }, { on := 4, ground := Ground.data }, { on := 6, ground := Ground.data }, { on := 8, ground := Ground.data }, { on := 10, ground := Ground.data }, { on := 12, ground := Ground.data }, { on := 14, ground := Ground.data }, { on := 16, ground := Ground.data }, { on := 18, ground := Ground.data }, { on := 20, ground := Ground.data }, { on := 23, ground := Ground.data }], guard := none }) rfl (fun KK hK => ?_) AllReadyH.nil)
          · rw [if_pos (by rfl)]
            refine wp_op_value (v := .slice (some ⟨wq.heap.size, 0, none⟩) 12 12) (w' := wq.alloc (.cells #[.int .i64 b.base, .int .i64 (49 + rows.length), .int .i64 b.leader, .int .i64 0, .int .i64 at_, .int .i64 b.last, .int .i64 b.first, .int .i64 b.maxt, .int .i64 b.prod, .int .i64 b.epoch, .int .i64 b.seq, .int .i64 l.length] 3 (0, 0))) (exec_build #[(0, .int .i64 b.base), (1, .int .i64 (49 + rows.length)), (2, .int .i64 b.leader), (3, .int .i64 0), (4, .int .i64 at_), (5, .int .i64 b.last), (6, .int .i64 b.first), (7, .int .i64 b.maxt), (8, .int .i64 b.prod), (9, .int .i64 b.epoch), (10, .int .i64 b.seq), (11, .int .i64 l.length)] _ _ _ (by kernel_rfl) (build12 ( b.base) ( (49 + rows.length)) ( b.leader) ( 0) ( at_) ( b.last) ( b.first) ( b.maxt) ( b.prod) ( b.epoch) ( b.seq) ( l.length) wq)) ?_
            obtain ⟨wy, bS, ey, eb, hs⟩ := hs.allocEx #[.int .i64 b.base, .int .i64 (49 + rows.length), .int .i64 b.leader, .int .i64 0, .int .i64 at_, .int .i64 b.last, .int .i64 b.first, .int .i64 b.maxt, .int .i64 b.prod, .int .i64 b.epoch, .int .i64 b.seq, .int .i64 l.length] 3
            rw [ey, eb]
            clear ey eb
            refine hK.out _ _ (let ⟨x0, x1, x2, x3, x4, x5, x6, x7, x8, x9, x10, x11, _⟩ := raw12 (b := hb) (hs.p1); ⟨x0, x1, x2, x3, x4, x5, x6, x7, x8, x9, x10, x11⟩) (fun hHeld => ?_)
            clear hK KK
            try simp only [Act.put, List.setIfInBounds_toArray, List.set_cons_zero, List.set_cons_succ]
            refine wpAnyH_ready (rs := [25]) (by kernel_rfl) (by simp) (AllReadyH.cons (o := { dst := some 51, op := Op.call { callee := Callee.value (Operand.func 21), args := #[Operand.tmp 50], argTypes := #[55] }, type := 53, pos := "ref.go:116", after := #[{ on := 24, ground := Ground.data }, { on := 8, ground := Ground.chain }], guard := none }) rfl (fun KK hK => ?_) AllReadyH.nil)
            · go_simp
              go_at_call 21
              with_reducible refine (ref10_pre bS b 0 rows HRW.out at_ AT.out l.length HN.out said0 HS0.out HF0.out HR0.out hs).mono ?_
              rintro e wq ⟨rfl, hs⟩
              refine hK.out _ _ (let ⟨x0, x1, x2, x3, x4, x5, x6, x7, x8, x9, x10, x11, _⟩ := raw12 (b := hb) (hs.p1); ⟨x0, x1, x2, x3, x4, x5, x6, x7, x8, x9, x10, x11⟩) (fun hHeld => ?_)
              clear hK KK
              try simp only [Act.put, List.setIfInBounds_toArray, List.set_cons_zero, List.set_cons_succ]
              have hs := hs.drop
              refine wpAnyH_take (i := 26) (oi := { dst := some 25, op := Op.move (Operand.tmp 51), type := 53, pos := "ref.go:116", after := #[{ on := 25, ground := Ground.data }], guard := none }) (v := ?_) rfl (by kernel_rfl) (by kernel_rfl) (by kernel_rfl) (fun _ _ _ h => h) (Or.inl ⟨by rfl, ?_⟩) (by assumption) ?_
              rotate_left
              · intro w hSw; (try dsimp only at hSw); go_simp; try with_reducible rfl
              simp only [Act.put, List.setIfInBounds_toArray, List.set_cons_zero, List.set_cons_succ]
              refine wpAnyH_take (i := 27) (oi := { dst := some 52, op := Op.extract (Operand.tmp 25) 0, type := 9, pos := "ref.go:116", after := #[{ on := 26, ground := Ground.data }], guard := none }) (v := ?_) rfl (by kernel_rfl) (by kernel_rfl) (by kernel_rfl) (fun _ _ _ h => h) (Or.inl ⟨by rfl, ?_⟩) (by assumption) ?_
              rotate_left
              · intro w hSw; (try dsimp only at hSw); go_simp; try with_reducible rfl
              simp only [Act.put, List.setIfInBounds_toArray, List.set_cons_zero, List.set_cons_succ]
              refine wpAnyH_take (i := 28) (oi := { dst := some 53, op := Op.extract (Operand.tmp 25) 1, type := 4, pos := "ref.go:116", after := #[{ on := 26, ground := Ground.data }, { on := 29, ground := Ground.gcOnly Departure.lateStores }], guard := none }) (v := ?_) rfl (by kernel_rfl) (by kernel_rfl) (by kernel_rfl) (fun _ _ _ h => h) (Or.inl ⟨by rfl, ?_⟩) (by assumption) ?_
              rotate_left
              · intro w hSw; (try dsimp only at hSw); go_simp; try with_reducible rfl
              simp only [Act.put, List.setIfInBounds_toArray, List.set_cons_zero, List.set_cons_succ]
              refine wpAnyH_take (i := 29) (oi := { dst := some 5, op := Op.assign (Operand.tmp 52), type := 9, pos := "ref.go:116", after := #[{ on := 27, ground := Ground.data }, { on := 25, ground := Ground.chain }, { on := 0, ground := Ground.phase }, { on := 1, ground := Ground.phase }, { on := 2, ground := Ground.phase }, { on := 3, ground := Ground.phase }, { on := 4, ground := Ground.phase }, { on := 5, ground := Ground.phase }, { on := 6, ground := Ground.phase }, { on := 7, ground := Ground.phase }, { on := 8, ground := Ground.phase }, { on := 9, ground := Ground.phase }, { on := 10, ground := Ground.phase }, { on := 11, ground := Ground.phase }, { on := 12, ground := Ground.phase }, { on := 13, ground := Ground.phase }, { on := 14, ground := Ground.phase }, { on := 15, ground := Ground.phase }, { on := 16, ground := Ground.phase }, { on := 17, ground := Ground.phase }, { on := 18, ground := Ground.phase }, { on := 19, ground := Ground.phase }, { on := 20, ground := Ground.phase }, { on := 21, ground := Ground.phase }, { on := 22, ground := Ground.phase }, { on := 23, ground := Ground.phase }, { on := 24, ground := Ground.phase }, { on := 25, ground := Ground.phase }, { on := 26, ground := Ground.phase }, { on := 27, ground := Ground.phase }, { on := 28, ground := Ground.textOnly Departure.lateStores }], guard := none }) (v := ?_) rfl (by kernel_rfl) (by kernel_rfl) (by kernel_rfl) (fun _ _ _ h => h) (Or.inl ⟨by rfl, ?_⟩) (by assumption) ?_
              rotate_left
              · intro w hSw; (try dsimp only at hSw); go_simp; try with_reducible rfl
              simp only [Act.put, List.setIfInBounds_toArray, List.set_cons_zero, List.set_cons_succ]
              refine wpAnyH_take (i := 30) (oi := { dst := some 6, op := Op.assign (Operand.tmp 53), type := 4, pos := "ref.go:116", after := #[{ on := 28, ground := Ground.data }, { on := 29, ground := Ground.chain }, { on := 0, ground := Ground.phase }, { on := 1, ground := Ground.phase }, { on := 2, ground := Ground.phase }, { on := 3, ground := Ground.phase }, { on := 4, ground := Ground.phase }, { on := 5, ground := Ground.phase }, { on := 6, ground := Ground.phase }, { on := 7, ground := Ground.phase }, { on := 8, ground := Ground.phase }, { on := 9, ground := Ground.phase }, { on := 10, ground := Ground.phase }, { on := 11, ground := Ground.phase }, { on := 12, ground := Ground.phase }, { on := 13, ground := Ground.phase }, { on := 14, ground := Ground.phase }, { on := 15, ground := Ground.phase }, { on := 16, ground := Ground.phase }, { on := 17, ground := Ground.phase }, { on := 18, ground := Ground.phase }, { on := 19, ground := Ground.phase }, { on := 20, ground := Ground.phase }, { on := 21, ground := Ground.phase }, { on := 22, ground := Ground.phase }, { on := 23, ground := Ground.phase }, { on := 24, ground := Ground.phase }, { on := 25, ground := Ground.phase }, { on := 26, ground := Ground.phase }, { on := 27, ground := Ground.phase }, { on := 28, ground := Ground.phase }, { on := 29, ground := Ground.phase }], guard := none }) (v := ?_) rfl (by kernel_rfl) (by kernel_rfl) (by kernel_rfl) (fun _ _ _ h => h) (Or.inl ⟨by rfl, ?_⟩) (by assumption) ?_
              rotate_left
              · intro w hSw; (try dsimp only at hSw); go_simp; try with_reducible rfl
              simp only [Act.put, List.setIfInBounds_toArray, List.set_cons_zero, List.set_cons_succ]
              refine wpAnyH_done (by kernel_rfl) ?_ _
              clear hHeld
              go_wp2_with fail
              go_meet
              exact ⟨rfl, hs⟩
      case rest =>
        obtain ⟨rfl, h⟩ := hcut
        clear H
        have H := Lib.hid h
        clear h
        obtain ⟨hT, hcat0, hg0, l21, l21', hne⟩ := HG0.out
        have w2 := HW.out.2.2.1
        go_upto_region 8 with (go_at_call 23; (with_reducible refine (ref05_sumX all0 HA0.out x HX.out H.out).mono ?_); rintro e_ wn ⟨rfl, h⟩; replace H := Lib.hid h; clear h)
        clear w2 hT hcat0 hg0 l21 l21' hne
        go_cut [8] (fun s8 wx => s8 = .string (bb said1) ∧ St W0 wx K (.raw hb #[.int .i64 b.base, .int .i64 b.leader, .bool b.app, .bool b.txn, .bool b.ctl, .int .i64 b.last, .int .i64 b.first, .int .i64 b.maxt, .int .i64 b.prod, .int .i64 b.epoch, .int .i64 b.seq, .slice q l.length cap] 26 :: L))
        case first =>
          have hs := H.out.drew
          refine wp_region_held_drew (S := fun w' => w'.cell? ⟨hb, 0, none⟩ = some (.int .i64 b.base) ∧ w'.cell? ⟨hb, 1, none⟩ = some (.int .i64 b.leader) ∧ w'.cell? ⟨hb, 2, none⟩ = some (.bool b.app) ∧ w'.cell? ⟨hb, 3, none⟩ = some (.bool b.txn) ∧ w'.cell? ⟨hb, 4, none⟩ = some (.bool b.ctl) ∧ w'.cell? ⟨hb, 5, none⟩ = some (.int .i64 b.last) ∧ w'.cell? ⟨hb, 6, none⟩ = some (.int .i64 b.first) ∧ w'.cell? ⟨hb, 7, none⟩ = some (.int .i64 b.maxt) ∧ w'.cell? ⟨hb, 8, none⟩ = some (.int .i64 b.prod) ∧ w'.cell? ⟨hb, 9, none⟩ = some (.int .i64 b.epoch) ∧ w'.cell? ⟨hb, 10, none⟩ = some (.int .i64 b.seq) ∧ w'.cell? ⟨hb, 11, none⟩ = some (.slice q l.length cap)) (by kernel_rfl) (let ⟨x0, x1, x2, x3, x4, x5, x6, x7, x8, x9, x10, x11, _⟩ := raw12 (b := hb) (hs); ⟨x0, x1, x2, x3, x4, x5, x6, x7, x8, x9, x10, x11⟩) (fun hHeld => ?_)
          refine wpAnyH_take (i := 0) (oi := { dst := some 61, op := Op.fieldAddr 26 (Operand.tmp 1) 0, type := 0, pos := "ref.go:118", after := #[], guard := none }) (v := ?_) rfl (by kernel_rfl) (by kernel_rfl) (by kernel_rfl) (fun _ _ _ h => h) (Or.inl ⟨by rfl, ?_⟩) (by assumption) ?_
          rotate_left
          · intro w hSw; (try dsimp only at hSw); go_simp; try with_reducible rfl
          simp only [Act.put, List.setIfInBounds_toArray, List.set_cons_zero, List.set_cons_succ]
          refine wpAnyH_take (i := 1) (oi := { dst := some 62, op := Op.load 3 (Operand.tmp 61), type := 3, pos := "ref.go:118", after := #[{ on := 0, ground := Ground.data }], guard := none }) (v := ?_) rfl (by kernel_rfl) (by kernel_rfl) (by kernel_rfl) (fun _ _ _ h => h) (Or.inl ⟨by rfl, ?_⟩) (by assumption) ?_
          rotate_left
          · intro w hSw; (try dsimp only at hSw); go_simp; try with_reducible rfl
          simp only [Act.put, List.setIfInBounds_toArray, List.set_cons_zero, List.set_cons_succ]
          refine wpAnyH_take (i := 2) (oi := { dst := some 63, op := Op.move (Operand.tmp 3), type := 9, pos := "ref.go:118", after := #[], guard := none }) (v := ?_) rfl (by kernel_rfl) (by kernel_rfl) (by kernel_rfl) (fun _ _ _ h => h) (Or.inl ⟨by rfl, ?_⟩) (by assumption) ?_
          rotate_left
          · intro w hSw; (try dsimp only at hSw); go_simp; try with_reducible rfl
          simp only [Act.put, List.setIfInBounds_toArray, List.set_cons_zero, List.set_cons_succ]
          refine wpAnyH_take (i := 3) (oi := { dst := some 64, op := Op.call { callee := Callee.builtin Builtin.len, args := #[Operand.tmp 63], argTypes := #[9] }, type := 3, pos := "ref.go:118", after := #[{ on := 2, ground := Ground.data }], guard := none }) (v := ?_) rfl (by kernel_rfl) (by kernel_rfl) (by kernel_rfl) (fun _ _ _ h => h) (Or.inl ⟨by rfl, ?_⟩) (by assumption) ?_
          rotate_left
          · intro w hSw; (try dsimp only at hSw); go_simp; try with_reducible rfl
          simp only [Act.put, List.setIfInBounds_toArray, List.set_cons_zero, List.set_cons_succ]
          refine wpAnyH_take (i := 4) (oi := { dst := some 65, op := Op.binOp BinOp.add 3 (Operand.const (Value.int IntKind.i64 49)) (Operand.tmp 64) 3, type := 3, pos := "ref.go:118", after := #[{ on := 3, ground := Ground.data }], guard := none }) (v := ?_) rfl (by kernel_rfl) (by kernel_rfl) (by kernel_rfl) (fun _ _ _ h => h) (Or.inl ⟨by rfl, ?_⟩) (by assumption) ?_
          rotate_left
          · intro w hSw; (try dsimp only at hSw); go_simp; try with_reducible rfl
          simp only [Act.put, List.setIfInBounds_toArray, List.set_cons_zero, List.set_cons_succ]
          refine wpAnyH_take (i := 5) (oi := { dst := some 66, op := Op.fieldAddr 26 (Operand.tmp 1) 1, type := 0, pos := "ref.go:118", after := #[], guard := none }) (v := ?_) rfl (by kernel_rfl) (by kernel_rfl) (by kernel_rfl) (fun _ _ _ h => h) (Or.inl ⟨by rfl, ?_⟩) (by assumption) ?_
          rotate_left
          · intro w hSw; (try dsimp only at hSw); go_simp; try with_reducible rfl
          simp only [Act.put, List.setIfInBounds_toArray, List.set_cons_zero, List.set_cons_succ]
          refine wpAnyH_take (i := 6) (oi := { dst := some 67, op := Op.load 3 (Operand.tmp 66), type := 3, pos := "ref.go:118", after := #[{ on := 5, ground := Ground.data }], guard := none }) (v := ?_) rfl (by kernel_rfl) (by kernel_rfl) (by kernel_rfl) (fun _ _ _ h => h) (Or.inl ⟨by rfl, ?_⟩) (by assumption) ?_
          rotate_left
          · intro w hSw; (try dsimp only at hSw); go_simp; try with_reducible rfl
          simp only [Act.put, List.setIfInBounds_toArray, List.set_cons_zero, List.set_cons_succ]
          refine wpAnyH_take (i := 7) (oi := { dst := some 68, op := Op.move (Operand.tmp 7), type := 3, pos := "ref.go:118", after := #[], guard := none }) (v := ?_) rfl (by kernel_rfl) (by kernel_rfl) (by kernel_rfl) (fun _ _ _ h => h) (Or.inl ⟨by rfl, ?_⟩) (by assumption) ?_
          rotate_left
          · intro w hSw; (try dsimp only at hSw); go_simp; try with_reducible rfl
          simp only [Act.put, List.setIfInBounds_toArray, List.set_cons_zero, List.set_cons_succ]
          refine wpAnyH_take (i := 8) (oi := { dst := some 69, op := Op.load 26 (Operand.tmp 1), type := 26, pos := "ref.go:118", after := #[], guard := none }) (v := ?_) rfl (by kernel_rfl) (by kernel_rfl) (by kernel_rfl) (fun _ _ _ h => h) (Or.inl ⟨by rfl, ?_⟩) (by assumption) ?_
          rotate_left
          · intro w hSw; (try dsimp only at hSw); go_simp; try with_reducible rfl
          simp only [Act.put, List.setIfInBounds_toArray, List.set_cons_zero, List.set_cons_succ]
          refine wpAnyH_take (i := 10) (oi := { dst := some 71, op := Op.fieldAddr 26 (Operand.tmp 1) 5, type := 0, pos := "ref.go:118", after := #[], guard := none }) (v := ?_) rfl (by kernel_rfl) (by kernel_rfl) (by kernel_rfl) (fun _ _ _ h => h) (Or.inl ⟨by rfl, ?_⟩) (by assumption) ?_
          rotate_left
          · intro w hSw; (try dsimp only at hSw); go_simp; try with_reducible rfl
          simp only [Act.put, List.setIfInBounds_toArray, List.set_cons_zero, List.set_cons_succ]
          refine wpAnyH_take (i := 11) (oi := { dst := some 72, op := Op.load 3 (Operand.tmp 71), type := 3, pos := "ref.go:118", after := #[{ on := 10, ground := Ground.data }], guard := none }) (v := ?_) rfl (by kernel_rfl) (by kernel_rfl) (by kernel_rfl) (fun _ _ _ h => h) (Or.inl ⟨by rfl, ?_⟩) (by assumption) ?_
          rotate_left
          · intro w hSw; (try dsimp only at hSw); go_simp; try with_reducible rfl
          simp only [Act.put, List.setIfInBounds_toArray, List.set_cons_zero, List.set_cons_succ]
          refine wpAnyH_take (i := 12) (oi := { dst := some 73, op := Op.fieldAddr 26 (Operand.tmp 1) 6, type := 0, pos := "ref.go:118", after := #[], guard := none }) (v := ?_) rfl (by kernel_rfl) (by kernel_rfl) (by kernel_rfl) (fun _ _ _ h => h) (Or.inl ⟨by rfl, ?_⟩) (by assumption) ?_
          rotate_left
          · intro w hSw; (try dsimp only at hSw); go_simp; try with_reducible rfl
          simp only [Act.put, List.setIfInBounds_toArray, List.set_cons_zero, List.set_cons_succ]
          refine wpAnyH_take (i := 13) (oi := { dst := some 74, op := Op.load 3 (Operand.tmp 73), type := 3, pos := "ref.go:118", after := #[{ on := 12, ground := Ground.data }], guard := none }) (v := ?_) rfl (by kernel_rfl) (by kernel_rfl) (by kernel_rfl) (fun _ _ _ h => h) (Or.inl ⟨by rfl, ?_⟩) (by assumption) ?_
          rotate_left
          · intro w hSw; (try dsimp only at hSw); go_simp; try with_reducible rfl
          simp only [Act.put, List.setIfInBounds_toArray, List.set_cons_zero, List.set_cons_succ]
          refine wpAnyH_take (i := 14) (oi := { dst := some 75, op := Op.fieldAddr 26 (Operand.tmp 1) 7, type := 0, pos := "ref.go:118", after := #[], guard := none }) (v := ?_) rfl (by kernel_rfl) (by kernel_rfl) (by kernel_rfl) (fun _ _ _ h => h) (Or.inl ⟨by rfl, ?_⟩) (by assumption) ?_
          rotate_left
          · intro w hSw; (try dsimp only at hSw); go_simp; try with_reducible rfl
          simp only [Act.put, List.setIfInBounds_toArray, List.set_cons_zero, List.set_cons_succ]
          refine wpAnyH_take (i := 15) (oi := { dst := some 76, op := Op.load 3 (Operand.tmp 75), type := 3, pos := "ref.go:118", after := #[{ on := 14, ground := Ground.data }], guard := none }) (v := ?_) rfl (by kernel_rfl) (by kernel_rfl) (by kernel_rfl) (fun _ _ _ h => h) (Or.inl ⟨by rfl, ?_⟩) (by assumption) ?_
          rotate_left
          · intro w hSw; (try dsimp only at hSw); go_simp; try with_reducible rfl
          simp only [Act.put, List.setIfInBounds_toArray, List.set_cons_zero, List.set_cons_succ]
          refine wpAnyH_take (i := 16) (oi := { dst := some 77, op := Op.fieldAddr 26 (Operand.tmp 1) 8, type := 0, pos := "ref.go:118", after := #[], guard := none }) (v := ?_) rfl (by kernel_rfl) (by kernel_rfl) (by kernel_rfl) (fun _ _ _ h => h) (Or.inl ⟨by rfl, ?_⟩) (by assumption) ?_
          rotate_left
          · intro w hSw; (try dsimp only at hSw); go_simp; try with_reducible rfl
          simp only [Act.put, List.setIfInBounds_toArray, List.set_cons_zero, List.set_cons_succ]
          refine wpAnyH_take (i := 17) (oi := { dst := some 78, op := Op.load 3 (Operand.tmp 77), type := 3, pos := "ref.go:118", after := #[{ on := 16, ground := Ground.data }], guard := none }) (v := ?_) rfl (by kernel_rfl) (by kernel_rfl) (by kernel_rfl) (fun _ _ _ h => h) (Or.inl ⟨by rfl, ?_⟩) (by assumption) ?_
          rotate_left
          · intro w hSw; (try dsimp only at hSw); go_simp; try with_reducible rfl
          simp only [Act.put, List.setIfInBounds_toArray, List.set_cons_zero, List.set_cons_succ]
          refine wpAnyH_take (i := 18) (oi := { dst := some 79, op := Op.fieldAddr 26 (Operand.tmp 1) 9, type := 0, pos := "ref.go:118", after := #[], guard := none }) (v := ?_) rfl (by kernel_rfl) (by kernel_rfl) (by kernel_rfl) (fun _ _ _ h => h) (Or.inl ⟨by rfl, ?_⟩) (by assumption) ?_
          rotate_left
          · intro w hSw; (try dsimp only at hSw); go_simp; try with_reducible rfl
          simp only [Act.put, List.setIfInBounds_toArray, List.set_cons_zero, List.set_cons_succ]
          refine wpAnyH_take (i := 19) (oi := { dst := some 80, op := Op.load 3 (Operand.tmp 79), type := 3, pos := "ref.go:118", after := #[{ on := 18, ground := Ground.data }], guard := none }) (v := ?_) rfl (by kernel_rfl) (by kernel_rfl) (by kernel_rfl) (fun _ _ _ h => h) (Or.inl ⟨by rfl, ?_⟩) (by assumption) ?_
          rotate_left
          · intro w hSw; (try dsimp only at hSw); go_simp; try with_reducible rfl
          simp only [Act.put, List.setIfInBounds_toArray, List.set_cons_zero, List.set_cons_succ]
          refine wpAnyH_take (i := 20) (oi := { dst := some 81, op := Op.fieldAddr 26 (Operand.tmp 1) 10, type := 0, pos := "ref.go:118", after := #[], guard := none }) (v := ?_) rfl (by kernel_rfl) (by kernel_rfl) (by kernel_rfl) (fun _ _ _ h => h) (Or.inl ⟨by rfl, ?_⟩) (by assumption) ?_
          rotate_left
          · intro w hSw; (try dsimp only at hSw); go_simp; try with_reducible rfl
          simp only [Act.put, List.setIfInBounds_toArray, List.set_cons_zero, List.set_cons_succ]
          refine wpAnyH_take (i := 21) (oi := { dst := some 82, op := Op.load 3 (Operand.tmp 81), type := 3, pos := "ref.go:118", after := #[{ on := 20, ground := Ground.data }], guard := none }) (v := ?_) rfl (by kernel_rfl) (by kernel_rfl) (by kernel_rfl) (fun _ _ _ h => h) (Or.inl ⟨by rfl, ?_⟩) (by assumption) ?_
          rotate_left
          · intro w hSw; (try dsimp only at hSw); go_simp; try with_reducible rfl
          simp only [Act.put, List.setIfInBounds_toArray, List.set_cons_zero, List.set_cons_succ]
          refine wpAnyH_take (i := 22) (oi := { dst := some 83, op := Op.fieldAddr 26 (Operand.tmp 1) 11, type := 0, pos := "ref.go:118", after := #[], guard := none }) (v := ?_) rfl (by kernel_rfl) (by kernel_rfl) (by kernel_rfl) (fun _ _ _ h => h) (Or.inl ⟨by rfl, ?_⟩) (by assumption) ?_
          rotate_left
          · intro w hSw; (try dsimp only at hSw); go_simp; try with_reducible rfl
          simp only [Act.put, List.setIfInBounds_toArray, List.set_cons_zero, List.set_cons_succ]
          refine wpAnyH_take (i := 23) (oi := { dst := some 84, op := Op.load 24 (Operand.tmp 83), type := 24, pos := "ref.go:118", after := #[{ on := 22, ground := Ground.data }], guard := none }) (v := ?_) rfl (by kernel_rfl) (by kernel_rfl) (by kernel_rfl) (fun _ _ _ h => h) (Or.inl ⟨by rfl, ?_⟩) (by assumption) ?_
          rotate_left
          · intro w hSw; (try dsimp only at hSw); go_simp; try with_reducible rfl
          simp only [Act.put, List.setIfInBounds_toArray, List.set_cons_zero, List.set_cons_succ]
          refine wpAnyH_take (i := 24) (oi := { dst := some 85, op := Op.call { callee := Callee.builtin Builtin.len, args := #[Operand.tmp 84], argTypes := #[24] }, type := 3, pos := "ref.go:118", after := #[{ on := 23, ground := Ground.data }], guard := none }) (v := ?_) rfl (by kernel_rfl) (by kernel_rfl) (by kernel_rfl) (fun _ _ _ h => h) (Or.inl ⟨by rfl, ?_⟩) (by assumption) ?_
          rotate_left
          · intro w hSw; (try dsimp only at hSw); go_simp; try with_reducible rfl
          simp only [Act.put, List.setIfInBounds_toArray, List.set_cons_zero, List.set_cons_succ]
          refine wpAnyH_ready (rs := [9]) (by kernel_rfl) (by simp) (AllReadyH.cons (o := { dst := some 70, op := Op.call { callee := Callee.value (Operand.func 22), args := #[Operand.tmp 69], argTypes := #[26] }, type := 3, pos := "ref.go:118", after := #[{ on := 8, ground := Ground.data }], guard := none }) rfl (fun KK hK => ?_) AllReadyH.nil)
          · go_simp
            go_at_call 22
            with_reducible refine (ref11_attr b.base b.leader b.app b.txn b.ctl b.last b.first b.maxt b.prod b.epoch b.seq (.slice q l.length cap) at_ AT.out hs).mono ?_
            rintro e wq ⟨rfl, hs⟩
            refine hK.out _ _ (let ⟨x0, x1, x2, x3, x4, x5, x6, x7, x8, x9, x10, x11, _⟩ := raw12 (b := hb) (hs); ⟨x0, x1, x2, x3, x4, x5, x6, x7, x8, x9, x10, x11⟩) (fun hHeld => ?_)
            clear hK KK
            try simp only [Act.put, List.setIfInBounds_toArray, List.set_cons_zero, List.set_cons_succ]
            refine wpAnyH_ready (rs := [25]) (by kernel_rfl) (by simp) (AllReadyH.cons (o := { dst := some 86, op := Op.buildSlice 55 12 #[(0, Operand.tmp 62), (1, Operand.tmp 65), (2, Operand.tmp 67), (3, Operand.tmp 68), (4, Operand.tmp 70), (5, Operand.tmp 72), (6, Operand.tmp 74), (7, Operand.tmp 76), (8, Operand.tmp 78), (9, Operand.tmp 80), (10, Operand.tmp 82), (11, Operand.tmp 85)], type := 55, pos := "ref.go:118", after := #[{ on := 1, ground := Ground.data }, { on := 4, ground := Ground.data }, { on := 6, ground := Ground.data }, { on := 7, ground := Ground.data }, { on := 9, ground := Ground.data }, { on := 11, ground := Ground.data }, { on := 13, ground := Ground.data }, { on := 15, ground := Ground.data }, { on := 17, ground := Ground.data }, { on := 19, ground := Ground.data }, { on := 21, ground := Ground.data }, { on := 24, ground := Ground.data }], guard := none }) rfl (fun KK hK => ?_) AllReadyH.nil)
            · rw [if_pos (by rfl)]
              refine wp_op_value (v := .slice (some ⟨wq.heap.size, 0, none⟩) 12 12) (w' := wq.alloc (.cells #[.int .i64 b.base, .int .i64 (49 + rows.length), .int .i64 b.leader, .int .i64 (x : Int), .int .i64 at_, .int .i64 b.last, .int .i64 b.first, .int .i64 b.maxt, .int .i64 b.prod, .int .i64 b.epoch, .int .i64 b.seq, .int .i64 l.length] 3 (0, 0))) (exec_build #[(0, .int .i64 b.base), (1, .int .i64 (49 + rows.length)), (2, .int .i64 b.leader), (3, .int .i64 (x : Int)), (4, .int .i64 at_), (5, .int .i64 b.last), (6, .int .i64 b.first), (7, .int .i64 b.maxt), (8, .int .i64 b.prod), (9, .int .i64 b.epoch), (10, .int .i64 b.seq), (11, .int .i64 l.length)] _ _ _ (by kernel_rfl) (build12 ( b.base) ( (49 + rows.length)) ( b.leader) ( (x : Int)) ( at_) ( b.last) ( b.first) ( b.maxt) ( b.prod) ( b.epoch) ( b.seq) ( l.length) wq)) ?_
              obtain ⟨wy, bS, ey, eb, hs⟩ := hs.allocEx #[.int .i64 b.base, .int .i64 (49 + rows.length), .int .i64 b.leader, .int .i64 (x : Int), .int .i64 at_, .int .i64 b.last, .int .i64 b.first, .int .i64 b.maxt, .int .i64 b.prod, .int .i64 b.epoch, .int .i64 b.seq, .int .i64 l.length] 3
              rw [ey, eb]
              clear ey eb
              refine hK.out _ _ (let ⟨x0, x1, x2, x3, x4, x5, x6, x7, x8, x9, x10, x11, _⟩ := raw12 (b := hb) (hs.p1); ⟨x0, x1, x2, x3, x4, x5, x6, x7, x8, x9, x10, x11⟩) (fun hHeld => ?_)
              clear hK KK
              try simp only [Act.put, List.setIfInBounds_toArray, List.set_cons_zero, List.set_cons_succ]
              refine wpAnyH_ready (rs := [26]) (by kernel_rfl) (by simp) (AllReadyH.cons (o := { dst := some 87, op := Op.call { callee := Callee.value (Operand.func 21), args := #[Operand.tmp 86], argTypes := #[55] }, type := 53, pos := "ref.go:118", after := #[{ on := 25, ground := Ground.data }, { on := 9, ground := Ground.chain }], guard := none }) rfl (fun KK hK => ?_) AllReadyH.nil)
              · go_simp
                go_at_call 21
                with_reducible refine (ref10_pre bS b (x : Int) rows HRW.out at_ AT.out l.length HN.out said1 HS1.out HF1.out HR1.out hs).mono ?_
                rintro e wq ⟨rfl, hs⟩
                refine hK.out _ _ (let ⟨x0, x1, x2, x3, x4, x5, x6, x7, x8, x9, x10, x11, _⟩ := raw12 (b := hb) (hs.p1); ⟨x0, x1, x2, x3, x4, x5, x6, x7, x8, x9, x10, x11⟩) (fun hHeld => ?_)
                clear hK KK
                try simp only [Act.put, List.setIfInBounds_toArray, List.set_cons_zero, List.set_cons_succ]
                have hs := hs.drop
                refine wpAnyH_take (i := 27) (oi := { dst := some 60, op := Op.move (Operand.tmp 87), type := 53, pos := "ref.go:118", after := #[{ on := 26, ground := Ground.data }], guard := none }) (v := ?_) rfl (by kernel_rfl) (by kernel_rfl) (by kernel_rfl) (fun _ _ _ h => h) (Or.inl ⟨by rfl, ?_⟩) (by assumption) ?_
                rotate_left
                · intro w hSw; (try dsimp only at hSw); go_simp; try with_reducible rfl
                simp only [Act.put, List.setIfInBounds_toArray, List.set_cons_zero, List.set_cons_succ]
                refine wpAnyH_take (i := 28) (oi := { dst := some 88, op := Op.extract (Operand.tmp 60) 0, type := 9, pos := "ref.go:118", after := #[{ on := 27, ground := Ground.data }], guard := none }) (v := ?_) rfl (by kernel_rfl) (by kernel_rfl) (by kernel_rfl) (fun _ _ _ h => h) (Or.inl ⟨by rfl, ?_⟩) (by assumption) ?_
                rotate_left
                · intro w hSw; (try dsimp only at hSw); go_simp; try with_reducible rfl
                simp only [Act.put, List.setIfInBounds_toArray, List.set_cons_zero, List.set_cons_succ]
                refine wpAnyH_take (i := 29) (oi := { dst := some 89, op := Op.extract (Operand.tmp 60) 1, type := 4, pos := "ref.go:118", after := #[{ on := 27, ground := Ground.data }, { on := 30, ground := Ground.gcOnly Departure.lateStores }], guard := none }) (v := ?_) rfl (by kernel_rfl) (by kernel_rfl) (by kernel_rfl) (fun _ _ _ h => h) (Or.inl ⟨by rfl, ?_⟩) (by assumption) ?_
                rotate_left
                · intro w hSw; (try dsimp only at hSw); go_simp; try with_reducible rfl
                simp only [Act.put, List.setIfInBounds_toArray, List.set_cons_zero, List.set_cons_succ]
                refine wpAnyH_take (i := 30) (oi := { dst := some 8, op := Op.assign (Operand.tmp 88), type := 9, pos := "ref.go:118", after := #[{ on := 28, ground := Ground.data }, { on := 26, ground := Ground.chain }, { on := 0, ground := Ground.phase }, { on := 1, ground := Ground.phase }, { on := 2, ground := Ground.phase }, { on := 3, ground := Ground.phase }, { on := 4, ground := Ground.phase }, { on := 5, ground := Ground.phase }, { on := 6, ground := Ground.phase }, { on := 7, ground := Ground.phase }, { on := 8, ground := Ground.phase }, { on := 9, ground := Ground.phase }, { on := 10, ground := Ground.phase }, { on := 11, ground := Ground.phase }, { on := 12, ground := Ground.phase }, { on := 13, ground := Ground.phase }, { on := 14, ground := Ground.phase }, { on := 15, ground := Ground.phase }, { on := 16, ground := Ground.phase }, { on := 17, ground := Ground.phase }, { on := 18, ground := Ground.phase }, { on := 19, ground := Ground.phase }, { on := 20, ground := Ground.phase }, { on := 21, ground := Ground.phase }, { on := 22, ground := Ground.phase }, { on := 23, ground := Ground.phase }, { on := 24, ground := Ground.phase }, { on := 25, ground := Ground.phase }, { on := 26, ground := Ground.phase }, { on := 27, ground := Ground.phase }, { on := 28, ground := Ground.phase }, { on := 29, ground := Ground.textOnly Departure.lateStores }], guard := none }) (v := ?_) rfl (by kernel_rfl) (by kernel_rfl) (by kernel_rfl) (fun _ _ _ h => h) (Or.inl ⟨by rfl, ?_⟩) (by assumption) ?_
                rotate_left
                · intro w hSw; (try dsimp only at hSw); go_simp; try with_reducible rfl
                simp only [Act.put, List.setIfInBounds_toArray, List.set_cons_zero, List.set_cons_succ]
                refine wpAnyH_take (i := 31) (oi := { dst := some 9, op := Op.assign (Operand.tmp 89), type := 4, pos := "ref.go:118", after := #[{ on := 29, ground := Ground.data }, { on := 30, ground := Ground.chain }, { on := 0, ground := Ground.phase }, { on := 1, ground := Ground.phase }, { on := 2, ground := Ground.phase }, { on := 3, ground := Ground.phase }, { on := 4, ground := Ground.phase }, { on := 5, ground := Ground.phase }, { on := 6, ground := Ground.phase }, { on := 7, ground := Ground.phase }, { on := 8, ground := Ground.phase }, { on := 9, ground := Ground.phase }, { on := 10, ground := Ground.phase }, { on := 11, ground := Ground.phase }, { on := 12, ground := Ground.phase }, { on := 13, ground := Ground.phase }, { on := 14, ground := Ground.phase }, { on := 15, ground := Ground.phase }, { on := 16, ground := Ground.phase }, { on := 17, ground := Ground.phase }, { on := 18, ground := Ground.phase }, { on := 19, ground := Ground.phase }, { on := 20, ground := Ground.phase }, { on := 21, ground := Ground.phase }, { on := 22, ground := Ground.phase }, { on := 23, ground := Ground.phase }, { on := 24, ground := Ground.phase }, { on := 25, ground := Ground.phase }, { on := 26, ground := Ground.phase }, { on := 27, ground := Ground.phase }, { on := 28, ground := Ground.phase }, { on := 29, ground := Ground.phase }, { on := 30, ground := Ground.phase }], guard := none }) (v := ?_) rfl (by kernel_rfl) (by kernel_rfl) (by kernel_rfl) (fun _ _ _ h => h) (Or.inl ⟨by rfl, ?_⟩) (by assumption) ?_
                rotate_left
                · intro w hSw; (try dsimp only at hSw); go_simp; try with_reducible rfl
                simp only [Act.put, List.setIfInBounds_toArray, List.set_cons_zero, List.set_cons_succ]
                refine wpAnyH_done (by kernel_rfl) ?_ _
                clear hHeld
                go_wp2_with fail
                go_meet
                exact ⟨rfl, hs⟩
        case rest =>
          obtain ⟨rfl, h⟩ := hcut
          clear H
          have H := Lib.hid h
          clear h
          obtain ⟨hcat1, hg1⟩ := HG1.out
          go_wp2_with (fail)
          go_ret
          exact ⟨rfl, H.out.drop⟩

end Go.Proofs.Ytedbadkfbkecbaa

/- Markers, the document's. -/
namespace Go.Proofs.Ytedbadkfbkecbaa
open Go.RowKit

end Go.Proofs.Ytedbadkfbkecbaa

/- Markers among others (pure). -/
namespace Go.Proofs.Ytedbadkfbkecbaa
open Go.RowKit

/-- How a transaction ends. -/
structure EndS where
  n1 : Int
  n2 : Int
  n3 : Int
  n4 : Int
  n5 : Int
def EndS.R (x : EndS) : Prop := Rn x.n1 ∧ Rn x.n2 ∧ Rn x.n3 ∧ Rn x.n4 ∧ Rn x.n5
structure Good1 (x : BatR) : Prop where
  so : SmallOk x.b
  recs : x.l.map (·.1) = x.b.recs
  len : x.b.enc.length ≤ 14000
  told : x.b.ctl = true → (endOf x.b).2.2.2.2.2 = true
end Go.Proofs.Ytedbadkfbkecbaa

/- A batch of nobody. -/
namespace Go.Proofs.Ytedbadkfbkecbaa
open Go.RowKit

end Go.Proofs.Ytedbadkfbkecbaa

/- Batches assembled: why not. -/
namespace Go.Proofs.Ytedbadkfbkecbaa
open Go.RowKit

end Go.Proofs.Ytedbadkfbkecbaa

/- Batches assembled. -/
namespace Go.Proofs.Ytedbadkfbkecbaa
open Go.RowKit

end Go.Proofs.Ytedbadkfbkecbaa

/- Batches of bytes: assembled. -/
namespace Go.Proofs.Ytedbadkfbkecbaa
open Go.RowKit

end Go.Proofs.Ytedbadkfbkecbaa

/- Batches of bytes: why not. -/
namespace Go.Proofs.Ytedbadkfbkecbaa
open Go.RowKit

end Go.Proofs.Ytedbadkfbkecbaa

/- Batches of bytes. -/
namespace Go.Proofs.Ytedbadkfbkecbaa
open Go.RowKit

end Go.Proofs.Ytedbadkfbkecbaa

/- Batches of bytes, read. -/
namespace Go.Proofs.Ytedbadkfbkecbaa
open Go.RowKit

end Go.Proofs.Ytedbadkfbkecbaa

/- Markers among others: too many. -/
namespace Go.Proofs.Ytedbadkfbkecbaa
open Go.RowKit

set_option maxHeartbeats 1000000 in
set_option maxRecDepth 100000 in
theorem ref11_encodeX (base leader : Int) (app txn ctl : Bool) (last first maxt prod epoch sq : Int) (rcs : List RecS) (xl : List (RecS × Value)) (hrc : xl.map (·.1) = rcs) (xq : Option Addr) (xcap : Nat) (s : Bs) (hs : BatS.enc (⟨base, leader, app, txn, ctl, last, first, maxt, prod, epoch, sq, rcs⟩ : BatS) = s) (so : SmallOk (⟨base, leader, app, txn, ctl, last, first, maxt, prod, epoch, sq, rcs⟩ : BatS)) {W0 w : World} {K : Know} {L : List Res} (hk : K.has (Know.recs (.slice xq xl.length xcap) xl)) (h : St W0 w K L) :
    Calls Try.prog 7 #[.agg #[.int .i64 base, .int .i64 leader, .bool app, .bool txn, .bool ctl, .int .i64 last, .int .i64 first, .int .i64 maxt, .int .i64 prod, .int .i64 epoch, .int .i64 sq, .slice xq xl.length xcap]] w fun en w' => en = .returned (.string (bb s)) ∧ St W0 w' K L := by
  have key := ref11_encode (⟨base, leader, app, txn, ctl, last, first, maxt, prod, epoch, sq, rcs⟩ : BatS) s hs xl xq xcap hrc so hk h
  dsimp only at key
  exact key
end Go.Proofs.Ytedbadkfbkecbaa

/- Floats that are whole numbers (pure). -/
namespace Go.Proofs.Ytedbadkfbkecbaa
open Go Ieee

/-- A datum that stands for a whole number. -/
def FV (d : Datum) (n : Int) : Prop := ∃ (s : Bool) (m : Nat) (p : Int), d = .number s m p ∧ p ≤ 0 ∧ (if s then -(m : Int) else (m : Int)) = n * 2 ^ (-p).toNat
/-- A word that does. -/
def FI (x : Nat) (n : Int) : Prop := FV (double.read x) n
def Wh (n : Int) : Prop := -9007199254740992 < n ∧ n < 9007199254740992
theorem signed_eq (s : Bool) (m up : Nat) : signed s m up = (if s then -(m : Int) else (m : Int)) * 2 ^ up := by
  unfold signed
  rw [Nat.shiftLeft_eq]
  cases s <;> simp [Int.neg_mul]
theorem pow_shift {i b : Int} (hb : b ≤ i) (hi : i ≤ 0) : (2 : Int) ^ (-i).toNat * 2 ^ (i - b).toNat = 2 ^ (-b).toNat := by
  rw [← Int.pow_add]
  congr 1
  omega
theorem FV.sum {c d : Datum} {a b : Int} (ha : FV c a) (hb : FV d b) : ∃ e, c.sum d = some e ∧ FV e (a + b) := by
  obtain ⟨s, m, i, rfl, hi, va⟩ := ha
  obtain ⟨t, n, j, rfl, hj, vb⟩ := hb
  refine ⟨_, rfl, ?_⟩
  have hmi : min i j ≤ i := Int.min_le_left _ _
  have hmj : min i j ≤ j := Int.min_le_right _ _
  have e1 : signed s m (i - min i j).toNat = a * 2 ^ (-(min i j)).toNat := by rw [signed_eq, va, Int.mul_assoc, pow_shift hmi hi]
  have e2 : signed t n (j - min i j).toNat = b * 2 ^ (-(min i j)).toNat := by rw [signed_eq, vb, Int.mul_assoc, pow_shift hmj hj]
  have e3 : signed s m (i - min i j).toNat + signed t n (j - min i j).toNat = (a + b) * 2 ^ (-(min i j)).toNat := by rw [e1, e2, Int.add_mul]
  refine ⟨_, _, _, rfl, by omega, ?_⟩
  rw [e3]
  generalize (a + b) * 2 ^ (-(min i j)).toNat = T
  by_cases h0 : T = 0
  · subst h0; cases s <;> cases t <;> simp
  · rw [if_neg h0]
    by_cases h1 : T < 0
    · rw [if_pos (by simpa using h1)]; omega
    · rw [if_neg (by simpa using h1)]; omega
theorem FV.opposite {c : Datum} {a : Int} (ha : FV c a) : FV c.opposite (-a) := by
  obtain ⟨s, m, i, rfl, hi, va⟩ := ha
  refine ⟨!s, m, i, rfl, hi, ?_⟩
  rw [Int.neg_mul, ← va]
  cases s <;> simp
theorem FV.cmp {c d : Datum} {a b : Int} (ha : FV c a) (hb : FV d b) : ∃ o, c.order d = some o ∧ (o = .eq ↔ a = b) := by
  obtain ⟨s, m, i, rfl, hi, va⟩ := ha
  obtain ⟨t, n, j, rfl, hj, vb⟩ := hb
  have hmi : min i j ≤ i := Int.min_le_left _ _
  have hmj : min i j ≤ j := Int.min_le_right _ _
  have e1 : signed s m (i - min i j).toNat = a * 2 ^ (-(min i j)).toNat := by rw [signed_eq, va, Int.mul_assoc, pow_shift hmi hi]
  have e2 : signed t n (j - min i j).toNat = b * 2 ^ (-(min i j)).toNat := by rw [signed_eq, vb, Int.mul_assoc, pow_shift hmj hj]
  refine ⟨compare (a * 2 ^ (-(min i j)).toNat) (b * 2 ^ (-(min i j)).toNat), ?_, ?_⟩
  · show some (compare (signed s m (i - min i j).toNat) (signed t n (j - min i j).toNat)) = _
    rw [e1, e2]
  · have hp : (0 : Int) < 2 ^ (-(min i j)).toNat := Int.pow_pos (by decide)
    constructor
    · intro h
      have h2 : a * 2 ^ (-(min i j)).toNat = b * 2 ^ (-(min i j)).toNat := by
        rw [show compare (a * 2 ^ (-(min i j)).toNat) (b * 2 ^ (-(min i j)).toNat) = compareOfLessAndEq _ _ from rfl] at h
        unfold compareOfLessAndEq at h
        split at h
        · cases h
        · split at h
          · assumption
          · cases h
      exact Int.eq_of_mul_eq_mul_right (by omega) h2
    · rintro rfl
      show compareOfLessAndEq _ _ = _
      unfold compareOfLessAndEq
      rw [if_neg (Int.lt_irrefl _), if_pos rfl]
theorem cut_zero (way : Toward) (neg : Bool) (n : Nat) : way.cut neg n 0 = n := by
  unfold Toward.cut
  cases way <;> simp [Nat.mod_one]
theorem log2_mul_pow (N k : Nat) (h : N ≠ 0) : (N * 2 ^ k).log2 = N.log2 + k := by
  induction k with
  | zero => simp
  | succ k ih =>
    rw [Nat.pow_succ, ← Nat.mul_assoc, Nat.mul_comm _ 2, Nat.log2_two_mul (Nat.mul_ne_zero h (Nat.ne_of_gt (Nat.two_pow_pos k))), ih]
    rfl
theorem cut_pow (way : Toward) (neg : Bool) (N k : Nat) (h : N ≠ 0) : way.cut neg (N * 2 ^ k) k = N := by
  have hl := log2_mul_pow N k h
  unfold Toward.cut
  have hm : min k ((N * 2 ^ k).log2 + 2) = k := by rw [hl]; omega
  have hp : 0 < 2 ^ k := Nat.two_pow_pos k
  simp only [hm, Nat.one_shiftLeft, Nat.mul_div_cancel _ hp, Nat.mul_mod_left]
  cases way <;> simp <;> omega
theorem read_word (s : Bool) (e K : Nat) (he : e ≤ 52) (h1 : 4503599627370496 ≤ K) (h2 : K < 9007199254740992) : double.read (double.word s ((e + 1022) * 4503599627370496 + K)) = .number s K ((e : Int) - 52) := by
  have hR : (e + 1022) * 4503599627370496 + K < 9223372036854775808 := by omega
  have hs : double.signWeight = 9223372036854775808 := by decide
  have hb : double.binade = 4503599627370496 := by decide
  have hi : double.infRung = 9218868437227405312 := by decide
  have hl : double.leastPlace = -1074 := by decide
  have hm : double.word s ((e + 1022) * 4503599627370496 + K) % 9223372036854775808 = (e + 1022) * 4503599627370496 + K := by
    unfold Format.word
    rw [hs]
    cases s <;> simp <;> omega
  have hd : (double.word s ((e + 1022) * 4503599627370496 + K) / 9223372036854775808 % 2 == 1) = s := by
    unfold Format.word
    rw [hs]
    cases s
    · simp only [Bool.false_eq_true, if_false]
      rw [Nat.div_eq_of_lt hR]
      rfl
    · simp only [if_true]
      rw [show (9223372036854775808 + ((e + 1022) * 4503599627370496 + K)) / 9223372036854775808 = 1 by omega]
      rfl
  unfold Format.read
  simp only [hs, hb, hi, hl, hm, hd]
  rw [if_neg (by omega), if_pos (by omega)]
  have e1 : 4503599627370496 + ((e + 1022) * 4503599627370496 + K) % 4503599627370496 = K := by omega
  have e3 : (-1074 : Int) + ((((e + 1022) * 4503599627370496 + K) / 4503599627370496 - 1 : Nat) : Int) = (e : Int) - 52 := by omega
  exact congr (congrArg (Datum.number s) e1) e3
theorem min_word (e K : Nat) (he : e ≤ 52) (hK : K < 9007199254740992) : min ((((e : Int) - 52) - double.leastPlace).toNat * double.binade + K) double.infRung = (e + 1022) * 4503599627370496 + K := by
  have hb : double.binade = 4503599627370496 := by decide
  have hi : double.infRung = 9218868437227405312 := by decide
  have hl : double.leastPlace = -1074 := by decide
  rw [hb, hi, hl, show (((e : Int) - 52) - (-1074)).toNat = e + 1022 by omega]
  omega
theorem neg_place (e : Nat) (he : e ≤ 52) : (e : Int) - 52 ≤ 0 := by omega
theorem neg_place2 (e : Nat) (he : e ≤ 52) : (-((e : Int) - 52)).toNat = 52 - e := by omega
theorem read_zero (s : Bool) : FI (double.word s 0) 0 := by
  cases s
  · exact ⟨false, 0, -1074, by decide +kernel, by decide, by rw [Int.zero_mul]; rfl⟩
  · exact ⟨true, 0, -1074, by decide +kernel, by decide, by rw [Int.zero_mul]; rfl⟩
theorem FV.write {d : Datum} {n : Int} (h : FV d n) (hn : Wh n) : FI (double.write d) n := by
  obtain ⟨s, m, p, rfl, hp, hv⟩ := h
  show FI (double.nearest s m p) n
  unfold Format.nearest
  obtain ⟨k, hk⟩ : ∃ k, (-p).toNat = k := ⟨_, rfl⟩
  have hpk : p = -(k : Int) := by omega
  rw [hk] at hv
  by_cases hm : m = 0
  · rw [if_pos hm]
    subst hm
    have h0 : n = 0 := by
      have hz : n * 2 ^ k = 0 := by rw [← hv]; cases s <;> simp
      rcases Int.mul_eq_zero.1 hz with h | h
      · exact h
      · exact absurd h (Int.ne_of_gt (Int.pow_pos (by decide)))
    subst h0
    exact read_zero s
  · rw [if_neg hm]
    obtain ⟨N, hN⟩ : ∃ N, n.natAbs = N := ⟨_, rfl⟩
    have hmN : m = N * 2 ^ k := by
      have h1 : (m : Int).natAbs = (n * 2 ^ k).natAbs := by rw [← hv]; cases s <;> simp
      rw [Int.natAbs_mul, Int.natAbs_pow, hN] at h1
      simpa using h1
    have hN0 : N ≠ 0 := by rintro rfl; simp at hmN; exact hm hmN
    have hNl : N < 9007199254740992 := by unfold Wh at hn; omega
    have hL := log2_mul_pow N k hN0
    obtain ⟨e, he⟩ : ∃ e, N.log2 = e := ⟨_, rfl⟩
    have he52 : e ≤ 52 := by
      have h53 : N < 2 ^ 53 := hNl
      have := (Nat.log2_lt hN0).2 h53
      omega
    have hb1 : 2 ^ e ≤ N := by rw [← he]; exact Nat.log2_self_le hN0
    have hb2 : N < 2 ^ (e + 1) := by rw [← he]; exact Nat.lt_log2_self
    rw [hmN, hL, he]
    have hlast : max (p + ((e + k : Nat) : Int) - (double.fractionBits : Int)) double.leastPlace = (e : Int) - 52 := by
      show max (p + ((e + k : Nat) : Int) - 52) (-1074) = _
      omega
    simp only [hlast]
    have hkept : Toward.even.cut s ((N * 2 ^ k) <<< (p - ((e : Int) - 52)).toNat) (((e : Int) - 52) - p).toNat = N * 2 ^ (52 - e) := by
      rw [Nat.shiftLeft_eq]
      by_cases hc : k ≤ 52 - e
      · rw [show (((e : Int) - 52) - p).toNat = 0 by omega, cut_zero, Nat.mul_assoc, ← Nat.pow_add]
        congr 2
        omega
      · rw [show (p - ((e : Int) - 52)).toNat = 0 by omega, Nat.pow_zero, Nat.mul_one, show N * 2 ^ k = (N * 2 ^ (52 - e)) * 2 ^ (((e : Int) - 52) - p).toNat by rw [Nat.mul_assoc, ← Nat.pow_add]; congr 2; omega]
        exact cut_pow _ _ _ _ (Nat.mul_ne_zero hN0 (Nat.ne_of_gt (Nat.two_pow_pos _)))
    rw [hkept]
    have hK1 : 4503599627370496 ≤ N * 2 ^ (52 - e) := by
      have h1 := Nat.mul_le_mul_right (2 ^ (52 - e)) hb1
      rw [← Nat.pow_add, show e + (52 - e) = 52 by omega] at h1
      simpa using h1
    have hK2 : N * 2 ^ (52 - e) < 9007199254740992 := by
      have h1 := Nat.mul_lt_mul_of_pos_right hb2 (Nat.two_pow_pos (52 - e))
      rw [← Nat.pow_add, show e + 1 + (52 - e) = 53 by omega] at h1
      simpa using h1
    obtain ⟨K, hKK⟩ : ∃ K, N * 2 ^ (52 - e) = K := ⟨_, rfl⟩
    rw [hKK] at hK1 hK2 ⊢
    have hmin := min_word e K he52 hK2
    rw [hmin]
    refine ⟨s, K, (e : Int) - 52, read_word s e _ he52 hK1 hK2, neg_place e he52, ?_⟩
    rw [neg_place2 e he52, ← hKK]
    have hsg : (if s then -(N : Int) else (N : Int)) = n := by
      have hpp : (0 : Int) < 2 ^ k := Int.pow_pos (by decide)
      have h2 : (if s then -(N : Int) else (N : Int)) * 2 ^ k = n * 2 ^ k := by
        rw [← hv, hmN]
        cases s <;> simp [Int.neg_mul]
      exact Int.eq_of_mul_eq_mul_right (Int.ne_of_gt hpp) h2
    rw [← hsg]
    cases s <;> simp [Int.neg_mul]
/-- Sums of whole numbers are exact. -/
theorem FI.add {x y : Nat} {a b : Int} (ha : FI x a) (hb : FI y b) (h : Wh (a + b)) : ∃ r, double.add x y = some r ∧ FI r (a + b) := by
  obtain ⟨e, he, hv⟩ := FV.sum ha hb
  exact ⟨double.write e, by unfold Format.add; rw [he]; rfl, hv.write h⟩
theorem FI.ofInt (n : Int) (h : Wh n) : FI (double.write (.number (n < 0) n.natAbs 0)) n := by
  refine FV.write ⟨_, _, _, rfl, by decide, ?_⟩ h
  by_cases h0 : n < 0
  · simp [h0]; omega
  · simp [h0]; omega

end Go.Proofs.Ytedbadkfbkecbaa

/- Floats that are whole numbers: more. -/
namespace Go.Proofs.Ytedbadkfbkecbaa
open Go Ieee

theorem neg_mod (x : Nat) : (x ^^^ 9223372036854775808) % 9223372036854775808 = x % 9223372036854775808 := by
  have h := Nat.xor_mod_two_pow (a := x) (b := 9223372036854775808) (n := 63)
  have e : (2 : Nat) ^ 63 = 9223372036854775808 := by decide
  rw [e] at h
  rw [h]
  simp
theorem neg_div (x : Nat) : ((x ^^^ 9223372036854775808) / 9223372036854775808 % 2 == 1) = !(x / 9223372036854775808 % 2 == 1) := by
  have e : (2 : Nat) ^ 63 = 9223372036854775808 := by decide
  have h := Nat.shiftRight_xor_distrib (a := x) (b := 9223372036854775808) (i := 63)
  simp only [Nat.shiftRight_eq_div_pow, e] at h
  have h2 : (9223372036854775808 : Nat) / 9223372036854775808 = 1 := by decide
  have h4 := Nat.xor_mod_two_pow (a := x / 9223372036854775808) (b := 1) (n := 1)
  rw [Nat.pow_one] at h4
  rw [h, h2, h4]
  rcases (by omega : x / 9223372036854775808 % 2 = 0 ∨ x / 9223372036854775808 % 2 = 1) with h3 | h3 <;> rw [h3] <;> decide
theorem read_neg (x : Nat) : double.read (Op.negFloat .f64 x) = (double.read x).opposite := by
  show double.read (x ^^^ 9223372036854775808) = _
  unfold Format.read
  have hs : double.signWeight = 9223372036854775808 := by decide
  simp only [hs, neg_mod, neg_div]
  split
  · rfl
  · split
    · rfl
    · split <;> rfl
theorem FI.neg {x : Nat} {a : Int} (h : FI x a) : FI (Op.negFloat .f64 x) (-a) := by
  unfold FI
  rw [read_neg]
  exact FV.opposite h
theorem FI.zero : FI 0 0 := read_zero false
theorem FI.eq {x y : Nat} {a b : Int} (ha : FI x a) (hb : FI y b) : ((FloatKind.format .f64).order x y == some .eq) = decide (a = b) := by
  obtain ⟨o, ho, hi⟩ := FV.cmp ha hb
  show ((double.read x).order (double.read y) == some .eq) = _
  rw [ho]
  by_cases h : a = b
  · rw [hi.2 h]; simp [h]
  · have : o ≠ .eq := fun h2 => h (hi.1 h2)
    cases o <;> simp_all
theorem FI.toInt {x : Nat} {a : Int} (ha : FI x a) : (FloatKind.f64.decode x).toInt .zero = some a := by
  obtain ⟨s, m, p, hd, hp, hv⟩ := ha
  show (double.read x).toInt .zero = _
  rw [hd]
  obtain ⟨k, hk⟩ : ∃ k, (-p).toNat = k := ⟨_, rfl⟩
  rw [hk] at hv
  unfold Datum.toInt Datum.integral
  have e1 : p.toNat = 0 := by omega
  simp only [e1, Nat.shiftLeft_zero, hk]
  rw [signed_eq]
  simp only [Int.pow_zero, Int.mul_one]
  obtain ⟨N, hN⟩ : ∃ N, a.natAbs = N := ⟨_, rfl⟩
  have hmN : m = N * 2 ^ k := by
    have h1 : (m : Int).natAbs = (a * 2 ^ k).natAbs := by rw [← hv]; cases s <;> simp
    rw [Int.natAbs_mul, Int.natAbs_pow, hN] at h1
    simpa using h1
  have hc : Toward.zero.cut s m k = N := by
    by_cases h0 : N = 0
    · subst h0
      rw [hmN]
      unfold Toward.cut
      simp
    · rw [hmN]; exact cut_pow _ _ _ _ h0
  rw [hc]
  have hpp : (0 : Int) < 2 ^ k := Int.pow_pos (by decide)
  have h2 : (if s then -(N : Int) else (N : Int)) * 2 ^ k = a * 2 ^ k := by
    rw [← hv, hmN]
    cases s <;> simp [Int.neg_mul]
  rw [Int.eq_of_mul_eq_mul_right (Int.ne_of_gt hpp) h2]
theorem and3 (q : Int) : bits .and .i64 q 3 = q % 4 := by
  rw [bits_and_i64]
  have e : ((3 : Int) % 18446744073709551616).toNat = 2 ^ 2 - 1 := by decide
  rw [e, Nat.and_two_pow_sub_one_eq_mod]
  have h1 : ((q % 18446744073709551616).toNat : Int) = q % 18446744073709551616 := Int.toNat_of_nonneg (Int.emod_nonneg _ (by decide))
  have h2 : (((q % 18446744073709551616).toNat % 2 ^ 2 : Nat) : Int) = q % 4 := by
    rw [Int.natCast_emod, h1]
    show (q % 18446744073709551616) % 4 = q % 4
    omega
  rw [h2]
  exact IntWalk.i64_in _ (by omega)

end Go.Proofs.Ytedbadkfbkecbaa

/- Numbers of two parts, turned. -/
namespace Go.Proofs.Ytedbadkfbkecbaa
open Go.RowKit

/-- A number of two whole parts, turned by so many quarters. -/
def turnI (r a b : Int) : Int × Int := if r = 1 then (-b, a) else if r = 2 then (-a, -b) else if r = 3 then (b, -a) else (a, b)

set_option maxHeartbeats 1000000 in
set_option maxRecDepth 100000 in
theorem tal_turn (x y : Nat) (a b : Int) (hx : FI x a) (hy : FI y b) (q r : Int) (hr : q % 4 = r) {W0 w : World} {K : Know} {L : List Res} (h : St W0 w K L) :
    Calls Try.prog 12 #[.complex .f64 x y, .int .i64 q] w fun en w' => ∃ x' y', en = .returned (.complex .f64 x' y') ∧ FI x' (turnI r a b).1 ∧ FI y' (turnI r a b).2 ∧ St W0 w' K L := by
  have H := Lib.hid h
  have HX := Lib.hid hx
  have HY := Lib.hid hy
  clear h hx hy
  rcases (by omega : r = 0 ∨ r = 1 ∨ r = 2 ∨ r = 3) with rfl | rfl | rfl | rfl
  · as_aux_lemma =>
    have ha : bits BinOp.and IntKind.i64 q 3 = 0 := by rw [and3, hr]
    have hn1 : ∀ (x : Nat) (w : World), (Op.unary .neg (.float .f64 x)).run Try.prog w = .ok (.float .f64 (Op.negFloat .f64 x)) w := fun _ _ => rfl
    have hn2 : ∀ (x y : Nat) (w : World), (Op.unary .neg (.complex .f64 x y)).run Try.prog w = .ok (.complex .f64 (Op.negFloat .f64 x) (Op.negFloat .f64 y)) w := fun _ _ _ => rfl
    clear hr
    go_enter Try.func12, Try.ntmps12
    go_wp2
    go_ret
    exact ⟨x, y, rfl, HX.out, HY.out, H.out⟩
  · as_aux_lemma =>
    have ha : bits BinOp.and IntKind.i64 q 3 = 1 := by rw [and3, hr]
    have hn1 : ∀ (x : Nat) (w : World), (Op.unary .neg (.float .f64 x)).run Try.prog w = .ok (.float .f64 (Op.negFloat .f64 x)) w := fun _ _ => rfl
    have hn2 : ∀ (x y : Nat) (w : World), (Op.unary .neg (.complex .f64 x y)).run Try.prog w = .ok (.complex .f64 (Op.negFloat .f64 x) (Op.negFloat .f64 y)) w := fun _ _ _ => rfl
    clear hr
    go_enter Try.func12, Try.ntmps12
    go_wp2
    go_ret
    exact ⟨_, _, rfl, HY.out.neg, HX.out, H.out⟩
  · as_aux_lemma =>
    have ha : bits BinOp.and IntKind.i64 q 3 = 2 := by rw [and3, hr]
    have hn1 : ∀ (x : Nat) (w : World), (Op.unary .neg (.float .f64 x)).run Try.prog w = .ok (.float .f64 (Op.negFloat .f64 x)) w := fun _ _ => rfl
    have hn2 : ∀ (x y : Nat) (w : World), (Op.unary .neg (.complex .f64 x y)).run Try.prog w = .ok (.complex .f64 (Op.negFloat .f64 x) (Op.negFloat .f64 y)) w := fun _ _ _ => rfl
    clear hr
    go_enter Try.func12, Try.ntmps12
    go_wp2
    go_ret
    exact ⟨_, _, rfl, HX.out.neg, HY.out.neg, H.out⟩
  · as_aux_lemma =>
    have ha : bits BinOp.and IntKind.i64 q 3 = 3 := by rw [and3, hr]
    have hn1 : ∀ (x : Nat) (w : World), (Op.unary .neg (.float .f64 x)).run Try.prog w = .ok (.float .f64 (Op.negFloat .f64 x)) w := fun _ _ => rfl
    have hn2 : ∀ (x y : Nat) (w : World), (Op.unary .neg (.complex .f64 x y)).run Try.prog w = .ok (.complex .f64 (Op.negFloat .f64 x) (Op.negFloat .f64 y)) w := fun _ _ _ => rfl
    clear hr
    go_enter Try.func12, Try.ntmps12
    go_wp2
    go_ret
    exact ⟨_, _, rfl, HY.out, HX.out.neg, H.out⟩

end Go.Proofs.Ytedbadkfbkecbaa

/- Sums of sizes, turned (pure). -/
namespace Go.Proofs.Ytedbadkfbkecbaa
open Go.RowKit

/-- The sum of the first sizes, each turned by so many quarters more. -/
def qa (k : Int) (l : List Int) : Nat → Int × Int
  | 0 => (0, 0)
  | i + 1 => ((qa k l i).1 + (turnI ((k * i) % 4) (l.getD i 0) 0).1, (qa k l i).2 + (turnI ((k * i) % 4) (l.getD i 0) 0).2)
def Lim (M : Int) (l : List Int) : Prop := ∀ x ∈ l, -M ≤ x ∧ x ≤ M
theorem turnI_lim (r a M : Int) (h : -M ≤ a ∧ a ≤ M) (hM : 0 ≤ M) : (-M ≤ (turnI r a 0).1 ∧ (turnI r a 0).1 ≤ M) ∧ (-M ≤ (turnI r a 0).2 ∧ (turnI r a 0).2 ≤ M) := by
  unfold turnI
  split
  · simp only; omega
  · split
    · simp only; omega
    · split
      · simp only; omega
      · simp only; omega
theorem getD_lim {M : Int} {l : List Int} (hl : Lim M l) (hM : 0 ≤ M) (i : Nat) : -M ≤ l.getD i 0 ∧ l.getD i 0 ≤ M := by
  by_cases h : i < l.length
  · rw [List.getD_eq_getElem?_getD, List.getElem?_eq_getElem h]
    exact hl _ (List.getElem_mem h)
  · rw [List.getD_eq_getElem?_getD, List.getElem?_eq_none (by omega)]
    simp only [Option.getD_none]
    omega
theorem qa_lim (k M : Int) (l : List Int) (hl : Lim M l) (hM : 0 ≤ M) (i : Nat) : (-(M * i) ≤ (qa k l i).1 ∧ (qa k l i).1 ≤ M * i) ∧ (-(M * i) ≤ (qa k l i).2 ∧ (qa k l i).2 ≤ M * i) := by
  induction i with
  | zero => simp [qa]
  | succ i ih =>
    have ht := turnI_lim ((k * i) % 4) (l.getD i 0) M (getD_lim hl hM i) hM
    have e : M * ((i + 1 : Nat) : Int) = M * i + M := by rw [Int.natCast_succ, Int.mul_add, Int.mul_one]
    rw [e]
    show (-(M * i + M) ≤ (qa k l i).1 + _ ∧ (qa k l i).1 + _ ≤ M * i + M) ∧ (-(M * i + M) ≤ (qa k l i).2 + _ ∧ (qa k l i).2 + _ ≤ M * i + M)
    omega
theorem qa_wh (k : Int) (l : List Int) (hl : Lim 2147483648 l) (i : Nat) (hi : i ≤ 1000000) : Wh (qa k l i).1 ∧ Wh (qa k l i).2 := by
  have h := qa_lim k 2147483648 l hl (by decide) i
  have e : (2147483648 : Int) * (i : Int) ≤ 2147483648000000 := by omega
  unfold Wh
  omega
theorem cadd {a b c d re im : Nat} (h1 : Ieee.double.add a c = some re) (h2 : Ieee.double.add b d = some im) : cSumBits .add .f64 a b c d = some (re, im) := by
  unfold cSumBits floatBits
  show (Ieee.double.add a c).bind _ = _
  rw [h1]
  show (Ieee.double.add b d).bind _ = _
  rw [h2]
  rfl
theorem run_cadd {a b c d re im : Nat} (T : TypeId) (h1 : Ieee.double.add a c = some re) (h2 : Ieee.double.add b d = some im) (w : World) : (binOp .add T (.complex .f64 a b) (.complex .f64 c d)).run Try.prog w = .ok (.complex .f64 re im) w :=
  run_complex_sum w .add (.inl rfl) T .f64 a b c d re im (cadd h1 h2)
theorem FI.conv (n : Int) (h : Wh n) : FI (floatOfInt .f64 n) n := FI.ofInt n h
theorem mod4_wrap (k : Int) (i : Nat) (q : Int) (hq : IntKind.i64.wrap (k * i) = q) : q % 4 = (k * i) % 4 := by
  rw [← hq, IntKind.wrap_i64]
  generalize k * (i : Int) = z
  omega

end Go.Proofs.Ytedbadkfbkecbaa

/- Sums of sizes, turned. -/
namespace Go.Proofs.Ytedbadkfbkecbaa
open Go.RowKit

def RIt (cs : List Value) (x : Int) : Prop := cs = [.int .i64 x]
theorem fi_at {α : Type} {R : List Value → α → Prop} {sz n cap : Nat} {q : Option Addr} {l : List α} {W0 w : World} {K : Know} {L : List Res} (hk : K.has (Know.flat R (.slice q n cap) sz l)) (h : St W0 w K L) (h0 : 0 < l.length) : ∃ b off, q = some ⟨b, off, none⟩ := by
  obtain ⟨F, hF, _⟩ := h.get
  obtain ⟨q2, cap2, hv, hr⟩ := (hk _ _ hF).at
  obtain ⟨b, off, hq, _⟩ := hr h0
  simp at hv
  exact ⟨b, off, hv.1.trans hq⟩
theorem fi_cell {α : Type} {R : List Value → α → Prop} {sz n cap b off : Nat} {l : List α} {W0 w : World} {K : Know} {L : List Res} (hk : K.has (Know.flat R (.slice (some ⟨b, off, none⟩) n cap) sz l)) (h : St W0 w K L) (i : Nat) (hi : i < l.length) : ∃ cs, R cs l[i] ∧ ∀ f u, cs[f]? = some u → w.cell? ⟨b, off + (i * sz + f), none⟩ = some u := by
  obtain ⟨F, hF, _⟩ := h.get
  obtain ⟨q2, cap2, hv, hr⟩ := (hk _ _ hF).at
  obtain ⟨b2, off2, hq, hc⟩ := hr (by omega)
  rw [hq] at hv
  simp at hv
  obtain ⟨⟨rfl, rfl⟩, _, _⟩ := hv
  obtain ⟨cs, _, h1, h2⟩ := hc i hi
  exact ⟨cs, h1, h2⟩

set_option maxHeartbeats 1000000 in
set_option maxRecDepth 100000 in
theorem tal_quarter (k : Int) (l : List Int) (q0 : Option Addr) (cap : Nat) (hl : Lim 2147483648 l) (hn : l.length ≤ 1000) {W0 w : World} {K : Know} {L : List Res} (hk : K.has (Know.flat RIt (.slice q0 l.length cap) 1 l)) (h : St W0 w K L) :
    Calls Try.prog 11 #[.int .i64 k, .slice q0 l.length cap] w fun en w' => ∃ x y, en = .returned (.complex .f64 x y) ∧ FI x (qa k l l.length).1 ∧ FI y (qa k l l.length).2 ∧ St W0 w' K L := by
  have H := Lib.hid h
  have HK := Lib.hid hk
  have HL := Lib.hid hl
  have hni : (l.length : Int) ≤ 1000 := by omega
  clear h hk hl
  go_enter Try.func11, Try.ntmps11
  go_wp2
  go_loopw [5, 6, 7, 10] (fun sv _ _ iv wr => ∃ (i : Nat) (x y : Nat), i ≤ l.length ∧ iv = .int .i64 i ∧ sv = .complex .f64 x y ∧ Hid (FI x (qa k l i).1) ∧ Hid (FI y (qa k l i).2) ∧ St W0 wr K L) (fun _ _ _ iv _ => l.length - (intOf iv).toNat)
  case atStart => exact ⟨0, 0, 0, Nat.zero_le _, rfl, rfl, Lib.hid FI.zero, Lib.hid FI.zero, H.out⟩
  case round =>
    obtain ⟨i, x, y, hi, rfl, rfl, FX, FY, hst⟩ := hrel
    clear H
    have H := Lib.hid hst
    clear hst
    by_cases hlt : i < l.length
    · obtain ⟨b, off, hqq⟩ := fi_at HK.out H.out (by omega)
      subst hqq
      obtain ⟨cs, hR, hc⟩ := fi_cell HK.out H.out i hlt
      obtain ⟨s, hs⟩ : ∃ s, l[i] = s := ⟨_, rfl⟩
      rw [hs] at hR
      unfold RIt at hR
      subst hR
      have c0 := hc 0 _ rfl
      rw [Nat.mul_one, Nat.add_zero] at c0
      have hsM := HL.out s (hs ▸ List.getElem_mem hlt)
      have hgd : l.getD i 0 = s := by rw [List.getD_eq_getElem?_getD, List.getElem?_eq_getElem hlt, hs]; rfl
      obtain ⟨r, hr⟩ : ∃ r, (k * (i : Int)) % 4 = r := ⟨_, rfl⟩
      obtain ⟨q, hq⟩ : ∃ q, IntKind.i64.wrap (k * (i : Int)) = q := ⟨_, rfl⟩
      have HQ := Lib.hid (show q % 4 = r by rw [mod4_wrap k i q hq, hr])
      have FS := Lib.hid (FI.conv s (by unfold Wh; omega))
      have hst1 : (qa k l (i + 1)).1 = (qa k l i).1 + (turnI r s 0).1 := by rw [← hr, ← hgd]; rfl
      have hst2 : (qa k l (i + 1)).2 = (qa k l i).2 + (turnI r s 0).2 := by rw [← hr, ← hgd]; rfl
      have hw := qa_wh k l HL.out (i + 1) (by omega)
      have WX := Lib.hid (show Wh ((qa k l i).1 + (turnI r s 0).1) by rw [← hst1]; exact hw.1)
      have WY := Lib.hid (show Wh ((qa k l i).2 + (turnI r s 0).2) by rw [← hst2]; exact hw.2)
      have S1 := Lib.hid hst1
      have S2 := Lib.hid hst2
      have hii : (i : Int) < (l.length : Int) := by omega
      clear hc hs hsM hgd hr hst1 hst2 hw
      go_wp2_with (go_at_call 12; (with_reducible refine (tal_turn (floatOfInt .f64 s) 0 s 0 FS.out FI.zero q r HQ.out H.out).mono ?_); rintro e_ wn ⟨x2, y2, rfl, hx2, hy2, h⟩; obtain ⟨x3, ex, fx⟩ := FI.add FX.out hx2 WX.out; obtain ⟨y3, ey, fy⟩ := FI.add FY.out hy2 WY.out; have hadd := run_cadd 29 ex ey; have FX3 := Lib.hid fx; have FY3 := Lib.hid fy; clear ex ey fx fy hx2 hy2; replace H := Lib.hid h; clear h)
      go_roundw
      case rel => exact ⟨i + 1, x3, y3, hlt, by go_num, rfl, Lib.hid (by rw [S1.out]; exact FX3.out), Lib.hid (by rw [S2.out]; exact FY3.out), H.out⟩
      case measure => first | (simp [intOf]; done) | (simp [intOf]; omega)
    · obtain rfl : i = l.length := by omega
      go_wp2
      go_ret
      exact ⟨x, y, rfl, FX.out, FY.out, H.out⟩

end Go.Proofs.Ytedbadkfbkecbaa
