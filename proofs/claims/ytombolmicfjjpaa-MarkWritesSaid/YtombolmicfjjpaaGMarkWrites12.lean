/- MarkWrites: what may not be. -/
import Derived.Test.YtombolmicfjjpaaGMarkWrites6
import Derived.Test.YtombolmicfjjpaaGMarkWrites9
import Derived.Test.YtombolmicfjjpaaGMarkWrites10
import Derived.Test.YtombolmicfjjpaaGMarkWrites11
import Derived.Test.YtombolmicfjjpaaGMarkWrites5
import Derived.Deep.RegionHeld3
import Derived.Deep.DeepCutAuto
/- MarkWrites: what may not be. -/
namespace Go.Proofs.Ytombolmicfjjpaa
open Go.RowKit

set_option maxHeartbeats 8000000 in
set_option maxRecDepth 100000 in
theorem mw_bad (l : List MarkR) (q : Option Addr) (cap : Nat) (m : Int) (v : Int) (hv : m.tmod 2 = v) (hv01 : v = 0 ∨ v = 1) (hf : ∀ x ∈ l, x.Fit) (hn : l.length ≤ 20) (hcap : l.length ≤ cap) (hw : fewMs (l.map MarkR.m) = 1) (hb : ∀ x ∈ l, x.l.map (·.1) = x.m.tops ∧ x.l.length ≤ 140737488351232 ∧ ∀ y ∈ x.l, y.1.name.length ≤ 140737488351232 ∧ y.1.parts.length ≤ 17592186043904) (r : Int) (hE : marksErr v (l.map MarkR.m) = r) (h0 : r ≠ 0) {W0 w : World} {K : Know} (hk : K.has (Know.marks (.slice q l.length cap) l)) (h : St W0 w K []) :
    Calls Try.prog 10 #[.slice q l.length cap, .int .u8 m] w fun en w' => en = .returned (.bool true) ∧ Below W0.heap.size W0 w' := by
  have H := Lib.hid h
  have HK := Lib.hid hk
  have HF := Lib.hid hf
  have HFB := Lib.hid hb
  have HFW := Lib.hid hw
  have HE := Lib.hid hE
  have HN := Lib.hid (show l.length ≤ 1000000 by omega)
  have HN20 := Lib.hid hn
  have HNL := Lib.hid (show l.length ≤ 140737488351232 by omega)
  have hv1 : IntKind.u8.wrap v = v := by rcases hv01 with rfl | rfl <;> decide
  have hv2 : IntKind.i64.wrap v = v := by rcases hv01 with rfl | rfl <;> decide
  have hni : (l.length : Int) ≤ 20 := by omega
  have H0 := Lib.hid h0
  have gr0 : (r == 0) = false := by rw [beq_eq_false_iff_ne]; exact h0
  have gr1 : (r != 0) = true := by simp [bne, gr0]
  have gr2 : (r != r) = false := by simp [bne]
  clear h0
  clear h hk hf hb hw hE hn hv01
  go_enter Try.func10, Try.ntmps10
  go_wp2_with (first
    | (go_at_call 50; (with_reducible refine (speaks19 H.out).mono ?_); rintro e_ wn ⟨rfl, h⟩; replace H := Lib.hid h; clear h)
    | (go_at_call 51; (with_reducible refine (law19_few l q cap HNL.out HFB.out _ HFW.out HK.out H.out).mono ?_); rintro e_ wn ⟨rfl, h⟩; obtain ⟨po, hpo⟩ : ∃ b, wn.heap.size = b := ⟨_, rfl⟩; have h := h.allocOut; rw [hpo] at h; replace H := Lib.hid h; clear h)
    | (go_at_call 52; (with_reducible refine (mark_write_bad po [] r v l q cap HE.out H0.out HF.out HN.out HK.out H.out).mono ?_); rintro e_ wn ⟨rfl, h⟩; replace H := Lib.hid h; clear h)
    | (go_at_call 32; (with_reducible refine (so_textE po [] r H0.out H.out).mono ?_); rintro e_ wn ⟨rfl, h⟩; replace H := Lib.hid h; clear h)
    | (go_at_call 54; (with_reducible refine (law19_of l q cap HN.out HF.out HK.out H.out).mono ?_); rintro e_ wn ⟨v1, rfl, h⟩; obtain ⟨q1, cap1, rfl⟩ := marks_form (Know.has_right (Know.has_refl _)) h; replace H := Lib.hid h; clear h)
    | (go_at_call 53; (with_reducible refine (ref19_check v l q1 cap1 _ HE.out HF.out HN.out (Know.has_right (Know.has_refl _)) H.out).mono ?_); rintro e_ wn ⟨rfl, h⟩; have h := h.know (Know.has_left (Know.has_refl _)); replace H := Lib.hid h; clear h)
    | (go_at_call 55; (with_reducible refine (marks_check v l q cap _ HE.out HF.out HN.out HK.out H.out).mono ?_); rintro e_ wn ⟨rfl, h⟩; replace H := Lib.hid h; clear h))
  go_loopw [44] (fun iv wr => ∃ k : Nat, k ≤ l.length ∧ iv = .int .i64 k ∧ St W0 wr K (.out po ⟨[], r⟩ :: [])) (fun iv _ => l.length - (intOf iv).toNat)
  case atStart => exact ⟨0, Nat.zero_le _, rfl, H.out⟩
  case round =>
    obtain ⟨k, hkl, rfl, hst⟩ := hrel
    clear H
    have H := Lib.hid hst
    clear hst
    by_cases hlt : k < l.length
    · obtain ⟨x0, t0, hl0⟩ : ∃ x0 t0, l = x0 :: t0 := by
        cases hl : l with
        | nil => rw [hl] at hlt; simp at hlt
        | cons x t => exact ⟨x, t, rfl⟩
      have h00 : 0 < l.length := by omega
      have hx0 : l[0] = x0 := by simp [hl0]
      have hmem0 : x0 ∈ l := by rw [hl0]; simp
      have hfx0 := HF.out x0 hmem0
      have hkf0 : K.has (Know.marks (.slice q 1 cap) [x0]) := marks_first (by have := HK.out; rw [hl0] at this; exact this)
      have hxk0 := marks_tops HK.out hmem0
      obtain ⟨b0, off, hqq⟩ := marks_at HK.out H.out (by omega)
      subst hqq
      obtain ⟨x, hx⟩ : ∃ x, l[k] = x := ⟨_, rfl⟩
      have hmem : x ∈ l := hx ▸ List.getElem_mem hlt
      have hxk := marks_tops HK.out hmem
      have hcell := marks_cell HK.out H.out k hlt x hx
      have hmk : k < (l.map MarkR.m).length := by rw [List.length_map]; exact hlt
      have hmg : (l.map MarkR.m)[k] = x.m := by rw [List.getElem_map, hx]
      obtain ⟨hxl, hxf, hxr⟩ := HF.out x hmem
      obtain ⟨⟨p, e, c, tl, co⟩, xl, xq, xcap⟩ := x
      obtain ⟨c0, c1, c2, c3, c4⟩ : wr.cell? ⟨b0, off + k * 5, none⟩ = some (.int .i64 p) ∧ wr.cell? ⟨b0, off + k * 5 + 1, none⟩ = some (.int .i64 e) ∧ wr.cell? ⟨b0, off + k * 5 + 2, none⟩ = some (.bool c) ∧ wr.cell? ⟨b0, off + k * 5 + 3, none⟩ = some (.slice xq xl.length xcap) ∧ wr.cell? ⟨b0, off + k * 5 + 4, none⟩ = some (.int .i64 co) := hcell
      have HXK := Lib.hid (show K.has (Know.tops (.slice xq xl.length xcap) xl) from hxk)
      have HXL := Lib.hid (show xl.map (·.1) = tl from hxl)
      have HXF := Lib.hid (show FewT xl from hxf)
      have hkn : (k : Int) < (l.length : Int) := by omega
      have hcell0 := fun (w' : World) (K' : Know) (R' : List Res) (hK' : K'.has K) (hs : St W0 w' K' R') => marks_cell (Know.has_trans hK' HK.out) hs 0 h00 x0 hx0
      obtain ⟨⟨p0, e0, c0, tl0, co0⟩, xl0, xq0, xcap0⟩ := x0
      have HFX := Lib.hid (show (⟨⟨p, e, c, tl, co⟩, xl, xq, xcap⟩ : MarkR).Fit from ⟨hxl, hxf, hxr⟩)
      have HFX0 := Lib.hid hfx0
      have HKF := Lib.hid hkf0
      have HXK0 := Lib.hid (show K.has (Know.tops (.slice xq0 xl0.length xcap0) xl0) from hxk0)
      have HXL0 := Lib.hid (show xl0.map (·.1) = tl0 from hfx0.1)
      have HLT := Lib.hid (FewT_LenT HXF.out)
      have HLT0 := Lib.hid (FewT_LenT (show FewT xl0 from hfx0.2.1))
      obtain ⟨r1, hr1⟩ : ∃ r1, mErr v p e tl co = r1 := ⟨_, rfl⟩
      have HR1 := Lib.hid (show mErr v p e (xl.map fun y => y.1) co = r1 by rw [show (xl.map fun y => y.1) = tl from hxl]; exact hr1)
      have HR2 := Lib.hid hr1
      obtain ⟨sm, hsm⟩ : ∃ b, decide ((⟨p, e, c, tl, co⟩ : MarkS) = ⟨p0, e0, c0, tl0, co0⟩) = b := ⟨_, rfl⟩
      have HSM := Lib.hid hsm
      have gq1 : (r1 != r1) = false := by simp [bne]
      have gq2 : (sm != sm) = false := by cases sm <;> rfl
      have hk0 : (0 : Int) < (l.length : Int) := by omega
      have hk1 : (1 : Int) ≤ (l.length : Int) := by omega
      have hk2 : (1 : Int) ≤ (cap : Int) := by omega
      have hk3 : 0 < l.length := h00
      obtain ⟨tb, htb⟩ : ∃ b, wr.heap.size = b := ⟨_, rfl⟩
      have h := H.out.allocRaw #[.int .i64 p, .int .i64 e, .bool c, .slice xq xl.length xcap, .int .i64 co] 92
      rw [htb] at h
      have HKP := Lib.hid (show ∀ w' K' R', K'.has K → St W0 w' K' (.raw tb #[.int .i64 p, .int .i64 e, .bool c, .slice xq xl.length xcap, .int .i64 co] 92 :: R') → (w'.cell? ⟨tb, 0, none⟩ = some (.int .i64 p) ∧ w'.cell? ⟨tb, 1, none⟩ = some (.int .i64 e) ∧ w'.cell? ⟨tb, 2, none⟩ = some (.bool c) ∧ w'.cell? ⟨tb, 3, none⟩ = some (.slice xq xl.length xcap) ∧ w'.cell? ⟨tb, 4, none⟩ = some (.int .i64 co) ∧ w'.cell? ⟨b0, off, none⟩ = some (.int .i64 p0) ∧ w'.cell? ⟨b0, off + 1, none⟩ = some (.int .i64 e0) ∧ w'.cell? ⟨b0, off + 2, none⟩ = some (.bool c0) ∧ w'.cell? ⟨b0, off + 3, none⟩ = some (.slice xq0 xl0.length xcap0) ∧ w'.cell? ⟨b0, off + 4, none⟩ = some (.int .i64 co0)) from fun w' K' R' hK' hs => by
        obtain ⟨a0, a1, a2, a3, a4⟩ := hcell0 w' K' _ hK' hs
        simp only [Nat.zero_mul, Nat.add_zero] at a0 a1 a2 a3 a4
        exact ⟨by simpa using hs.rawCell 0, by simpa using hs.rawCell 1, by simpa using hs.rawCell 2, by simpa using hs.rawCell 3, by simpa using hs.rawCell 4, a0, a1, a2, a3, a4⟩)
      clear H
      have H := Lib.hid h
      clear h hx hmem hxk hmk hmg hxl hxf hxr hcell0 hmem0 hfx0 hkf0 hxk0 hl0 hr1 hsm hx0 h00
      go_wp2_with (fail)
      have hs := H.out.drew
      refine wp_region_held_drew (S := fun w' => w'.cell? ⟨tb, 0, none⟩ = some (.int .i64 p) ∧ w'.cell? ⟨tb, 1, none⟩ = some (.int .i64 e) ∧ w'.cell? ⟨tb, 2, none⟩ = some (.bool c) ∧ w'.cell? ⟨tb, 3, none⟩ = some (.slice xq xl.length xcap) ∧ w'.cell? ⟨tb, 4, none⟩ = some (.int .i64 co) ∧ w'.cell? ⟨b0, off, none⟩ = some (.int .i64 p0) ∧ w'.cell? ⟨b0, off + 1, none⟩ = some (.int .i64 e0) ∧ w'.cell? ⟨b0, off + 2, none⟩ = some (.bool c0) ∧ w'.cell? ⟨b0, off + 3, none⟩ = some (.slice xq0 xl0.length xcap0) ∧ w'.cell? ⟨b0, off + 4, none⟩ = some (.int .i64 co0)) (by kernel_rfl) (HKP.out _ _ _ (Know.has_refl _) hs) (fun hHeld => ?_)
      refine wpAnyH_take (i := 0) (oi := { dst := some 48, op := Op.load 92 (Operand.tmp 11), type := 92, pos := "law.go:58", after := #[], guard := none }) (v := ?_) rfl (by kernel_rfl) (by kernel_rfl) (by kernel_rfl) (fun _ _ _ h => h) (Or.inl ⟨by rfl, ?_⟩) (by assumption) ?_
      rotate_left
      · intro w hSw; (try dsimp only at hSw); go_simp; try with_reducible rfl
      simp only [Act.put, List.setIfInBounds_toArray, List.set_cons_zero, List.set_cons_succ]
      refine wpAnyH_take (i := 1) (oi := { dst := some 49, op := Op.move (Operand.tmp 5), type := 3, pos := "law.go:58", after := #[], guard := none }) (v := ?_) rfl (by kernel_rfl) (by kernel_rfl) (by kernel_rfl) (fun _ _ _ h => h) (Or.inl ⟨by rfl, ?_⟩) (by assumption) ?_
      rotate_left
      · intro w hSw; (try dsimp only at hSw); go_simp; try with_reducible rfl
      simp only [Act.put, List.setIfInBounds_toArray, List.set_cons_zero, List.set_cons_succ]
      refine wpAnyH_take (i := 3) (oi := { dst := some 51, op := Op.load 92 (Operand.tmp 11), type := 92, pos := "law.go:58", after := #[], guard := none }) (v := ?_) rfl (by kernel_rfl) (by kernel_rfl) (by kernel_rfl) (fun _ _ _ h => h) (Or.inl ⟨by rfl, ?_⟩) (by assumption) ?_
      rotate_left
      · intro w hSw; (try dsimp only at hSw); go_simp; try with_reducible rfl
      simp only [Act.put, List.setIfInBounds_toArray, List.set_cons_zero, List.set_cons_succ]
      refine wpAnyH_take (i := 6) (oi := { dst := some 54, op := Op.move (Operand.tmp 5), type := 3, pos := "law.go:58", after := #[], guard := none }) (v := ?_) rfl (by kernel_rfl) (by kernel_rfl) (by kernel_rfl) (fun _ _ _ h => h) (Or.inl ⟨by rfl, ?_⟩) (by assumption) ?_
      rotate_left
      · intro w hSw; (try dsimp only at hSw); go_simp; try with_reducible rfl
      simp only [Act.put, List.setIfInBounds_toArray, List.set_cons_zero, List.set_cons_succ]
      refine wpAnyH_ready (rs := [2, 4]) (by kernel_rfl) (by simp) (AllReadyH.cons (o := { dst := some 50, op := Op.call { callee := Callee.value (Operand.func 56), args := #[Operand.tmp 48, Operand.tmp 49], argTypes := #[92, 3] }, type := 27, pos := "law.go:58", after := #[{ on := 0, ground := Ground.data }, { on := 1, ground := Ground.data }], guard := none }) rfl (fun KK hK => ?_) (AllReadyH.cons (o := { dst := some 52, op := Op.buildSlice 84 1 #[(0, Operand.tmp 51)], type := 84, pos := "law.go:58", after := #[{ on := 3, ground := Ground.data }], guard := none }) rfl (fun KK hK => ?_) AllReadyH.nil))
      · go_simp
        go_at_call 56
        with_reducible refine (mark_check1 v p e c xl xq xcap co _ HR1.out HXF.out HXK.out hs).mono ?_
        rintro e wq ⟨rfl, hs⟩
        refine hK.out _ _ (HKP.out _ _ _ (Know.has_refl _) hs) (fun hHeld => ?_)
        clear hK KK
        try simp only [Act.put, List.setIfInBounds_toArray, List.set_cons_zero, List.set_cons_succ]
        refine wpAnyH_ready (rs := [4]) (by kernel_rfl) (by simp) (AllReadyH.cons (o := { dst := some 52, op := Op.buildSlice 84 1 #[(0, Operand.tmp 51)], type := 84, pos := "law.go:58", after := #[{ on := 3, ground := Ground.data }], guard := none }) rfl (fun KK hK => ?_) AllReadyH.nil)
        · rw [if_pos (by rfl)]
          refine wp_op_valueM (exec_buildM _ _ _ _ (by kernel_rfl) (buildM p e c (.slice xq xl.length xcap) co rfl _)) ?_
          obtain ⟨wy, bS, ey, eb, hs⟩ := hs.allocEx #[.int .i64 p, .int .i64 e, .bool c, .slice xq xl.length xcap, .int .i64 co] 92
          rw [ey, eb]
          clear ey eb
          refine hK.out _ _ (HKP.out _ _ _ (Know.has_refl _) hs.p1) (fun hHeld => ?_)
          clear hK KK
          try simp only [Act.put, List.setIfInBounds_toArray, List.set_cons_zero, List.set_cons_succ]
          refine wpAnyH_ready (rs := [5]) (by kernel_rfl) (by simp) (AllReadyH.cons (o := { dst := some 53, op := Op.call { callee := Callee.value (Operand.func 54), args := #[Operand.tmp 52], argTypes := #[84] }, type := 88, pos := "law.go:58", after := #[{ on := 4, ground := Ground.data }, { on := 2, ground := Ground.chain }], guard := none }) rfl (fun KK hK => ?_) AllReadyH.nil)
          · go_simp
            go_at_call 54
            with_reducible refine (law19_ofB p e c tl co xl xq xcap bS HFX.out HXK.out hs).mono ?_
            rintro e wq ⟨q1, cap1, rfl, hs⟩
            refine hK.out _ _ (HKP.out _ _ _ (Know.has_left (Know.has_refl _)) hs) (fun hHeld => ?_)
            clear hK KK
            try simp only [Act.put, List.setIfInBounds_toArray, List.set_cons_zero, List.set_cons_succ]
            refine wpAnyH_ready (rs := [7]) (by kernel_rfl) (by simp) (AllReadyH.cons (o := { dst := some 55, op := Op.call { callee := Callee.value (Operand.func 53), args := #[Operand.tmp 53, Operand.tmp 54], argTypes := #[88, 3] }, type := 3, pos := "law.go:58", after := #[{ on := 5, ground := Ground.data }, { on := 6, ground := Ground.data }, { on := 5, ground := Ground.chain }], guard := none }) rfl (fun KK hK => ?_) AllReadyH.nil)
            · go_simp
              go_at_call 53
              with_reducible refine (ref19_check1 v p e c tl co xl xq xcap q1 cap1 _ HR2.out HFX.out (Know.has_right (Know.has_refl _)) hs).mono ?_
              rintro e wq ⟨rfl, hs⟩
              refine hK.out _ _ (HKP.out _ _ _ (Know.has_left (Know.has_refl _)) hs) (fun hHeld => ?_)
              clear hK KK
              try simp only [Act.put, List.setIfInBounds_toArray, List.set_cons_zero, List.set_cons_succ]
              have hs := hs.know (Know.has_left (Know.has_refl _))
              refine wpAnyH_take (i := 8) (oi := { dst := some 56, op := Op.binOp BinOp.neq 3 (Operand.tmp 50) (Operand.tmp 55) 3, type := 4, pos := "law.go:58", after := #[{ on := 2, ground := Ground.data }, { on := 7, ground := Ground.data }], guard := none }) (v := ?_) rfl (by kernel_rfl) (by kernel_rfl) (by kernel_rfl) (fun _ _ _ h => h) (Or.inl ⟨by rfl, ?_⟩) (by assumption) ?_
              rotate_left
              · intro w hSw; (try dsimp only at hSw); go_simp; try with_reducible rfl
              simp only [Act.put, List.setIfInBounds_toArray, List.set_cons_zero, List.set_cons_succ]
              refine wpAnyH_take (i := 9) (oi := { dst := some 57, op := Op.move (Operand.tmp 56), type := 4, pos := "law.go:58", after := #[{ on := 8, ground := Ground.data }, { on := 7, ground := Ground.chain }], guard := none }) (v := ?_) rfl (by kernel_rfl) (by kernel_rfl) (by kernel_rfl) (fun _ _ _ h => h) (Or.inl ⟨by rfl, ?_⟩) (by assumption) ?_
              rotate_left
              · intro w hSw; (try dsimp only at hSw); go_simp; try with_reducible rfl
              simp only [Act.put, List.setIfInBounds_toArray, List.set_cons_zero, List.set_cons_succ]
              refine wpAnyH_take (i := 10) (oi := { dst := some 58, op := Op.load 92 (Operand.tmp 11), type := 92, pos := "law.go:58", after := #[{ on := 9, ground := Ground.guard }], guard := some (9, false) }) (v := ?_) rfl (by kernel_rfl) (by kernel_rfl) (by kernel_rfl) (fun _ _ _ h => h) (Or.inl ⟨by rfl, ?_⟩) (by assumption) ?_
              rotate_left
              · intro w hSw; (try dsimp only at hSw); go_simp; try with_reducible rfl
              simp only [Act.put, List.setIfInBounds_toArray, List.set_cons_zero, List.set_cons_succ]
              refine wpAnyH_take (i := 11) (oi := { dst := some 59, op := Op.move (Operand.tmp 0), type := 84, pos := "law.go:58", after := #[{ on := 9, ground := Ground.guard }], guard := some (9, false) }) (v := ?_) rfl (by kernel_rfl) (by kernel_rfl) (by kernel_rfl) (fun _ _ _ h => h) (Or.inl ⟨by rfl, ?_⟩) (by assumption) ?_
              rotate_left
              · intro w hSw; (try dsimp only at hSw); go_simp; try with_reducible rfl
              simp only [Act.put, List.setIfInBounds_toArray, List.set_cons_zero, List.set_cons_succ]
              refine wpAnyH_take (i := 12) (oi := { dst := some 60, op := Op.indexAddr 84 (Operand.tmp 59) (Operand.const (Value.int IntKind.i64 0)), type := 0, pos := "law.go:58", after := #[{ on := 11, ground := Ground.data }, { on := 9, ground := Ground.guard }], guard := some (9, false) }) (v := ?_) rfl (by kernel_rfl) (by kernel_rfl) (by kernel_rfl) (fun _ _ _ h => h) (Or.inl ⟨by rfl, ?_⟩) (by assumption) ?_
              rotate_left
              · intro w hSw; (try dsimp only at hSw); go_simp; try with_reducible rfl
              simp only [Act.put, List.setIfInBounds_toArray, List.set_cons_zero, List.set_cons_succ]
              refine wpAnyH_take (i := 13) (oi := { dst := some 61, op := Op.load 92 (Operand.tmp 60), type := 92, pos := "law.go:58", after := #[{ on := 12, ground := Ground.data }, { on := 9, ground := Ground.guard }], guard := some (9, false) }) (v := ?_) rfl (by kernel_rfl) (by kernel_rfl) (by kernel_rfl) (fun _ _ _ h => h) (Or.inl ⟨by rfl, ?_⟩) (by assumption) ?_
              rotate_left
              · intro w hSw; (try dsimp only at hSw); go_simp; try with_reducible rfl
              simp only [Act.put, List.setIfInBounds_toArray, List.set_cons_zero, List.set_cons_succ]
              refine wpAnyH_take (i := 15) (oi := { dst := some 63, op := Op.load 92 (Operand.tmp 11), type := 92, pos := "law.go:58", after := #[{ on := 9, ground := Ground.guard }], guard := some (9, false) }) (v := ?_) rfl (by kernel_rfl) (by kernel_rfl) (by kernel_rfl) (fun _ _ _ h => h) (Or.inl ⟨by rfl, ?_⟩) (by assumption) ?_
              rotate_left
              · intro w hSw; (try dsimp only at hSw); go_simp; try with_reducible rfl
              simp only [Act.put, List.setIfInBounds_toArray, List.set_cons_zero, List.set_cons_succ]
              refine wpAnyH_take (i := 18) (oi := { dst := some 66, op := Op.move (Operand.tmp 0), type := 84, pos := "law.go:58", after := #[{ on := 9, ground := Ground.guard }], guard := some (9, false) }) (v := ?_) rfl (by kernel_rfl) (by kernel_rfl) (by kernel_rfl) (fun _ _ _ h => h) (Or.inl ⟨by rfl, ?_⟩) (by assumption) ?_
              rotate_left
              · intro w hSw; (try dsimp only at hSw); go_simp; try with_reducible rfl
              simp only [Act.put, List.setIfInBounds_toArray, List.set_cons_zero, List.set_cons_succ]
              refine wpAnyH_take (i := 19) (oi := { dst := some 67, op := Op.slice 84 (Operand.tmp 66) none (some (Operand.const (Value.int IntKind.i64 1))) none, type := 84, pos := "law.go:58", after := #[{ on := 18, ground := Ground.data }, { on := 9, ground := Ground.guard }], guard := some (9, false) }) (v := ?_) rfl (by kernel_rfl) (by kernel_rfl) (by kernel_rfl) (fun _ _ _ h => h) (Or.inl ⟨by rfl, ?_⟩) (by assumption) ?_
              rotate_left
              · intro w hSw; (try dsimp only at hSw); go_simp; try with_reducible rfl
              simp only [Act.put, List.setIfInBounds_toArray, List.set_cons_zero, List.set_cons_succ]
              refine wpAnyH_ready (rs := [14, 16]) (by kernel_rfl) (by simp) (AllReadyH.cons (o := { dst := some 62, op := Op.call { callee := Callee.value (Operand.func 57), args := #[Operand.tmp 58, Operand.tmp 61], argTypes := #[92, 92] }, type := 4, pos := "law.go:58", after := #[{ on := 10, ground := Ground.data }, { on := 13, ground := Ground.data }, { on := 9, ground := Ground.chain }, { on := 9, ground := Ground.guard }], guard := some (9, false) }) rfl (fun KK hK => ?_) (AllReadyH.cons (o := { dst := some 64, op := Op.buildSlice 84 1 #[(0, Operand.tmp 63)], type := 84, pos := "law.go:58", after := #[{ on := 15, ground := Ground.data }, { on := 9, ground := Ground.guard }], guard := some (9, false) }) rfl (fun KK hK => ?_) AllReadyH.nil))
              · go_simp
                go_at_call 57
                with_reducible refine (mark_same p e c xl xq xcap co tl HXL.out p0 e0 c0 xl0 xq0 xcap0 co0 tl0 HXL0.out _ HSM.out HLT.out HLT0.out HXK.out HXK0.out hs).mono ?_
                rintro e wq ⟨rfl, hs⟩
                refine hK.out _ _ (HKP.out _ _ _ (Know.has_refl _) hs) (fun hHeld => ?_)
                clear hK KK
                try simp only [Act.put, List.setIfInBounds_toArray, List.set_cons_zero, List.set_cons_succ]
                refine wpAnyH_ready (rs := [16]) (by kernel_rfl) (by simp) (AllReadyH.cons (o := { dst := some 64, op := Op.buildSlice 84 1 #[(0, Operand.tmp 63)], type := 84, pos := "law.go:58", after := #[{ on := 15, ground := Ground.data }, { on := 9, ground := Ground.guard }], guard := some (9, false) }) rfl (fun KK hK => ?_) AllReadyH.nil)
                · rw [if_pos (by rfl)]
                  refine wp_op_valueM (exec_buildM _ _ _ _ (by kernel_rfl) (buildM p e c (.slice xq xl.length xcap) co rfl _)) ?_
                  obtain ⟨wy, bS, ey, eb, hs⟩ := hs.allocEx #[.int .i64 p, .int .i64 e, .bool c, .slice xq xl.length xcap, .int .i64 co] 92
                  rw [ey, eb]
                  clear ey eb
                  refine hK.out _ _ (HKP.out _ _ _ (Know.has_refl _) hs.p1) (fun hHeld => ?_)
                  clear hK KK
                  try simp only [Act.put, List.setIfInBounds_toArray, List.set_cons_zero, List.set_cons_succ]
                  refine wpAnyH_ready (rs := [17]) (by kernel_rfl) (by simp) (AllReadyH.cons (o := { dst := some 65, op := Op.call { callee := Callee.value (Operand.func 54), args := #[Operand.tmp 64], argTypes := #[84] }, type := 88, pos := "law.go:58", after := #[{ on := 16, ground := Ground.data }, { on := 14, ground := Ground.chain }, { on := 9, ground := Ground.guard }], guard := some (9, false) }) rfl (fun KK hK => ?_) AllReadyH.nil)
                  · go_simp
                    go_at_call 54
                    with_reducible refine (law19_ofB p e c tl co xl xq xcap bS HFX.out HXK.out hs).mono ?_
                    rintro e wq ⟨q1, cap1, rfl, hs⟩
                    refine hK.out _ _ (HKP.out _ _ _ (Know.has_left (Know.has_refl _)) hs) (fun hHeld => ?_)
                    clear hK KK
                    try simp only [Act.put, List.setIfInBounds_toArray, List.set_cons_zero, List.set_cons_succ]
                    refine wpAnyH_ready (rs := [20]) (by kernel_rfl) (by simp) (AllReadyH.cons (o := { dst := some 68, op := Op.call { callee := Callee.value (Operand.func 54), args := #[Operand.tmp 67], argTypes := #[84] }, type := 88, pos := "law.go:58", after := #[{ on := 19, ground := Ground.data }, { on := 17, ground := Ground.chain }, { on := 9, ground := Ground.guard }], guard := some (9, false) }) rfl (fun KK hK => ?_) AllReadyH.nil)
                    · go_simp
                      go_at_call 54
                      with_reducible refine (law19_of1 p0 e0 c0 tl0 co0 xl0 xq0 xcap0 (some ⟨b0, off, none⟩) cap HFX0.out (Know.has_left HKF.out) hs).mono ?_
                      rintro e wq ⟨q2, cap2, rfl, hs⟩
                      refine hK.out _ _ (HKP.out _ _ _ (Know.has_left (Know.has_left (Know.has_refl _))) hs) (fun hHeld => ?_)
                      clear hK KK
                      try simp only [Act.put, List.setIfInBounds_toArray, List.set_cons_zero, List.set_cons_succ]
                      refine wpAnyH_ready (rs := [21]) (by kernel_rfl) (by simp) (AllReadyH.cons (o := { dst := some 69, op := Op.call { callee := Callee.value (Operand.func 58), args := #[Operand.tmp 65, Operand.tmp 68], argTypes := #[88, 88] }, type := 4, pos := "law.go:58", after := #[{ on := 17, ground := Ground.data }, { on := 20, ground := Ground.data }, { on := 20, ground := Ground.chain }, { on := 9, ground := Ground.guard }], guard := some (9, false) }) rfl (fun KK hK => ?_) AllReadyH.nil)
                      · go_simp
                        go_at_call 58
                        with_reducible refine (ref19_same1 p e c tl co xl xq xcap p0 e0 c0 tl0 co0 xl0 xq0 xcap0 q1 q2 cap1 cap2 _ HSM.out HFX.out HFX0.out (Know.has_left (Know.has_right (Know.has_refl _))) (Know.has_right (Know.has_refl _)) hs).mono ?_
                        rintro e wq ⟨rfl, hs⟩
                        refine hK.out _ _ (HKP.out _ _ _ (Know.has_left (Know.has_left (Know.has_refl _))) hs) (fun hHeld => ?_)
                        clear hK KK
                        try simp only [Act.put, List.setIfInBounds_toArray, List.set_cons_zero, List.set_cons_succ]
                        have hs := hs.know (Know.has_left (Know.has_left (Know.has_refl _)))
                        refine wpAnyH_take (i := 22) (oi := { dst := some 70, op := Op.binOp BinOp.neq 4 (Operand.tmp 62) (Operand.tmp 69) 4, type := 4, pos := "law.go:58", after := #[{ on := 14, ground := Ground.data }, { on := 21, ground := Ground.data }, { on := 9, ground := Ground.guard }], guard := some (9, false) }) (v := ?_) rfl (by kernel_rfl) (by kernel_rfl) (by kernel_rfl) (fun _ _ _ h => h) (Or.inl ⟨by rfl, ?_⟩) (by assumption) ?_
                        rotate_left
                        · intro w hSw; (try dsimp only at hSw); go_simp; try with_reducible rfl
                        simp only [Act.put, List.setIfInBounds_toArray, List.set_cons_zero, List.set_cons_succ]
                        refine wpAnyH_take (i := 23) (oi := { dst := some 71, op := Op.pick (Operand.tmp 57) (Operand.const (Value.bool true)) (Operand.tmp 70), type := 4, pos := "law.go:58", after := #[{ on := 9, ground := Ground.data }, { on := 22, ground := Ground.data }], guard := none }) (v := ?_) rfl (by kernel_rfl) (by kernel_rfl) (by kernel_rfl) (fun _ _ _ h => h) (Or.inl ⟨by rfl, ?_⟩) (by assumption) ?_
                        rotate_left
                        · intro w hSw; (try dsimp only at hSw); go_simp; try with_reducible rfl
                        simp only [Act.put, List.setIfInBounds_toArray, List.set_cons_zero, List.set_cons_succ]
                        refine wpAnyH_done (by kernel_rfl) ?_ _
                        go_wp2_with fail
                        go_roundw
                        case rel => exact ⟨k + 1, hlt, by go_num, hs.drop⟩
                        case measure => first | (simp [intOf]; done) | (simp [intOf]; omega)
              · rw [if_pos (by rfl)]
                refine wp_op_valueM (exec_buildM _ _ _ _ (by kernel_rfl) (buildM p e c (.slice xq xl.length xcap) co rfl _)) ?_
                obtain ⟨wy, bS, ey, eb, hs⟩ := hs.allocEx #[.int .i64 p, .int .i64 e, .bool c, .slice xq xl.length xcap, .int .i64 co] 92
                rw [ey, eb]
                clear ey eb
                refine hK.out _ _ (HKP.out _ _ _ (Know.has_refl _) hs.p1) (fun hHeld => ?_)
                clear hK KK
                try simp only [Act.put, List.setIfInBounds_toArray, List.set_cons_zero, List.set_cons_succ]
                refine wpAnyH_ready (rs := [14]) (by kernel_rfl) (by simp) (AllReadyH.cons (o := { dst := some 62, op := Op.call { callee := Callee.value (Operand.func 57), args := #[Operand.tmp 58, Operand.tmp 61], argTypes := #[92, 92] }, type := 4, pos := "law.go:58", after := #[{ on := 10, ground := Ground.data }, { on := 13, ground := Ground.data }, { on := 9, ground := Ground.chain }, { on := 9, ground := Ground.guard }], guard := some (9, false) }) rfl (fun KK hK => ?_) AllReadyH.nil)
                · go_simp
                  go_at_call 57
                  with_reducible refine (mark_same p e c xl xq xcap co tl HXL.out p0 e0 c0 xl0 xq0 xcap0 co0 tl0 HXL0.out _ HSM.out HLT.out HLT0.out HXK.out HXK0.out hs).mono ?_
                  rintro e wq ⟨rfl, hs⟩
                  refine hK.out _ _ (HKP.out _ _ _ (Know.has_refl _) hs.p1) (fun hHeld => ?_)
                  clear hK KK
                  try simp only [Act.put, List.setIfInBounds_toArray, List.set_cons_zero, List.set_cons_succ]
                  refine wpAnyH_ready (rs := [17]) (by kernel_rfl) (by simp) (AllReadyH.cons (o := { dst := some 65, op := Op.call { callee := Callee.value (Operand.func 54), args := #[Operand.tmp 64], argTypes := #[84] }, type := 88, pos := "law.go:58", after := #[{ on := 16, ground := Ground.data }, { on := 14, ground := Ground.chain }, { on := 9, ground := Ground.guard }], guard := some (9, false) }) rfl (fun KK hK => ?_) AllReadyH.nil)
                  · go_simp
                    go_at_call 54
                    with_reducible refine (law19_ofB p e c tl co xl xq xcap bS HFX.out HXK.out hs).mono ?_
                    rintro e wq ⟨q1, cap1, rfl, hs⟩
                    refine hK.out _ _ (HKP.out _ _ _ (Know.has_left (Know.has_refl _)) hs) (fun hHeld => ?_)
                    clear hK KK
                    try simp only [Act.put, List.setIfInBounds_toArray, List.set_cons_zero, List.set_cons_succ]
                    refine wpAnyH_ready (rs := [20]) (by kernel_rfl) (by simp) (AllReadyH.cons (o := { dst := some 68, op := Op.call { callee := Callee.value (Operand.func 54), args := #[Operand.tmp 67], argTypes := #[84] }, type := 88, pos := "law.go:58", after := #[{ on := 19, ground := Ground.data }, { on := 17, ground := Ground.chain }, { on := 9, ground := Ground.guard }], guard := some (9, false) }) rfl (fun KK hK => ?_) AllReadyH.nil)
                    · go_simp
                      go_at_call 54
                      with_reducible refine (law19_of1 p0 e0 c0 tl0 co0 xl0 xq0 xcap0 (some ⟨b0, off, none⟩) cap HFX0.out (Know.has_left HKF.out) hs).mono ?_
                      rintro e wq ⟨q2, cap2, rfl, hs⟩
                      refine hK.out _ _ (HKP.out _ _ _ (Know.has_left (Know.has_left (Know.has_refl _))) hs) (fun hHeld => ?_)
                      clear hK KK
                      try simp only [Act.put, List.setIfInBounds_toArray, List.set_cons_zero, List.set_cons_succ]
                      refine wpAnyH_ready (rs := [21]) (by kernel_rfl) (by simp) (AllReadyH.cons (o := { dst := some 69, op := Op.call { callee := Callee.value (Operand.func 58), args := #[Operand.tmp 65, Operand.tmp 68], argTypes := #[88, 88] }, type := 4, pos := "law.go:58", after := #[{ on := 17, ground := Ground.data }, { on := 20, ground := Ground.data }, { on := 20, ground := Ground.chain }, { on := 9, ground := Ground.guard }], guard := some (9, false) }) rfl (fun KK hK => ?_) AllReadyH.nil)
                      · go_simp
                        go_at_call 58
                        with_reducible refine (ref19_same1 p e c tl co xl xq xcap p0 e0 c0 tl0 co0 xl0 xq0 xcap0 q1 q2 cap1 cap2 _ HSM.out HFX.out HFX0.out (Know.has_left (Know.has_right (Know.has_refl _))) (Know.has_right (Know.has_refl _)) hs).mono ?_
                        rintro e wq ⟨rfl, hs⟩
                        refine hK.out _ _ (HKP.out _ _ _ (Know.has_left (Know.has_left (Know.has_refl _))) hs) (fun hHeld => ?_)
                        clear hK KK
                        try simp only [Act.put, List.setIfInBounds_toArray, List.set_cons_zero, List.set_cons_succ]
                        have hs := hs.know (Know.has_left (Know.has_left (Know.has_refl _)))
                        refine wpAnyH_take (i := 22) (oi := { dst := some 70, op := Op.binOp BinOp.neq 4 (Operand.tmp 62) (Operand.tmp 69) 4, type := 4, pos := "law.go:58", after := #[{ on := 14, ground := Ground.data }, { on := 21, ground := Ground.data }, { on := 9, ground := Ground.guard }], guard := some (9, false) }) (v := ?_) rfl (by kernel_rfl) (by kernel_rfl) (by kernel_rfl) (fun _ _ _ h => h) (Or.inl ⟨by rfl, ?_⟩) (by assumption) ?_
                        rotate_left
                        · intro w hSw; (try dsimp only at hSw); go_simp; try with_reducible rfl
                        simp only [Act.put, List.setIfInBounds_toArray, List.set_cons_zero, List.set_cons_succ]
                        refine wpAnyH_take (i := 23) (oi := { dst := some 71, op := Op.pick (Operand.tmp 57) (Operand.const (Value.bool true)) (Operand.tmp 70), type := 4, pos := "law.go:58", after := #[{ on := 9, ground := Ground.data }, { on := 22, ground := Ground.data }], guard := none }) (v := ?_) rfl (by kernel_rfl) (by kernel_rfl) (by kernel_rfl) (fun _ _ _ h => h) (Or.inl ⟨by rfl, ?_⟩) (by assumption) ?_
                        rotate_left
                        · intro w hSw; (try dsimp only at hSw); go_simp; try with_reducible rfl
                        simp only [Act.put, List.setIfInBounds_toArray, List.set_cons_zero, List.set_cons_succ]
                        refine wpAnyH_done (by kernel_rfl) ?_ _
                        go_wp2_with fail
                        go_roundw
                        case rel => exact ⟨k + 1, hlt, by go_num, hs.drop⟩
                        case measure => first | (simp [intOf]; done) | (simp [intOf]; omega)
      · rw [if_pos (by rfl)]
        refine wp_op_valueM (exec_buildM _ _ _ _ (by kernel_rfl) (buildM p e c (.slice xq xl.length xcap) co rfl _)) ?_
        obtain ⟨wy, bS, ey, eb, hs⟩ := hs.allocEx #[.int .i64 p, .int .i64 e, .bool c, .slice xq xl.length xcap, .int .i64 co] 92
        rw [ey, eb]
        clear ey eb
        refine hK.out _ _ (HKP.out _ _ _ (Know.has_refl _) hs.p1) (fun hHeld => ?_)
        clear hK KK
        try simp only [Act.put, List.setIfInBounds_toArray, List.set_cons_zero, List.set_cons_succ]
        refine wpAnyH_ready (rs := [2]) (by kernel_rfl) (by simp) (AllReadyH.cons (o := { dst := some 50, op := Op.call { callee := Callee.value (Operand.func 56), args := #[Operand.tmp 48, Operand.tmp 49], argTypes := #[92, 3] }, type := 27, pos := "law.go:58", after := #[{ on := 0, ground := Ground.data }, { on := 1, ground := Ground.data }], guard := none }) rfl (fun KK hK => ?_) AllReadyH.nil)
        · go_simp
          go_at_call 56
          with_reducible refine (mark_check1 v p e c xl xq xcap co _ HR1.out HXF.out HXK.out hs).mono ?_
          rintro e wq ⟨rfl, hs⟩
          refine hK.out _ _ (HKP.out _ _ _ (Know.has_refl _) hs.p1) (fun hHeld => ?_)
          clear hK KK
          try simp only [Act.put, List.setIfInBounds_toArray, List.set_cons_zero, List.set_cons_succ]
          refine wpAnyH_ready (rs := [5]) (by kernel_rfl) (by simp) (AllReadyH.cons (o := { dst := some 53, op := Op.call { callee := Callee.value (Operand.func 54), args := #[Operand.tmp 52], argTypes := #[84] }, type := 88, pos := "law.go:58", after := #[{ on := 4, ground := Ground.data }, { on := 2, ground := Ground.chain }], guard := none }) rfl (fun KK hK => ?_) AllReadyH.nil)
          · go_simp
            go_at_call 54
            with_reducible refine (law19_ofB p e c tl co xl xq xcap bS HFX.out HXK.out hs).mono ?_
            rintro e wq ⟨q1, cap1, rfl, hs⟩
            refine hK.out _ _ (HKP.out _ _ _ (Know.has_left (Know.has_refl _)) hs) (fun hHeld => ?_)
            clear hK KK
            try simp only [Act.put, List.setIfInBounds_toArray, List.set_cons_zero, List.set_cons_succ]
            refine wpAnyH_ready (rs := [7]) (by kernel_rfl) (by simp) (AllReadyH.cons (o := { dst := some 55, op := Op.call { callee := Callee.value (Operand.func 53), args := #[Operand.tmp 53, Operand.tmp 54], argTypes := #[88, 3] }, type := 3, pos := "law.go:58", after := #[{ on := 5, ground := Ground.data }, { on := 6, ground := Ground.data }, { on := 5, ground := Ground.chain }], guard := none }) rfl (fun KK hK => ?_) AllReadyH.nil)
            · go_simp
              go_at_call 53
              with_reducible refine (ref19_check1 v p e c tl co xl xq xcap q1 cap1 _ HR2.out HFX.out (Know.has_right (Know.has_refl _)) hs).mono ?_
              rintro e wq ⟨rfl, hs⟩
              refine hK.out _ _ (HKP.out _ _ _ (Know.has_left (Know.has_refl _)) hs) (fun hHeld => ?_)
              clear hK KK
              try simp only [Act.put, List.setIfInBounds_toArray, List.set_cons_zero, List.set_cons_succ]
              have hs := hs.know (Know.has_left (Know.has_refl _))
              refine wpAnyH_take (i := 8) (oi := { dst := some 56, op := Op.binOp BinOp.neq 3 (Operand.tmp 50) (Operand.tmp 55) 3, type := 4, pos := "law.go:58", after := #[{ on := 2, ground := Ground.data }, { on := 7, ground := Ground.data }], guard := none }) (v := ?_) rfl (by kernel_rfl) (by kernel_rfl) (by kernel_rfl) (fun _ _ _ h => h) (Or.inl ⟨by rfl, ?_⟩) (by assumption) ?_
              rotate_left
              · intro w hSw; (try dsimp only at hSw); go_simp; try with_reducible rfl
              simp only [Act.put, List.setIfInBounds_toArray, List.set_cons_zero, List.set_cons_succ]
              refine wpAnyH_take (i := 9) (oi := { dst := some 57, op := Op.move (Operand.tmp 56), type := 4, pos := "law.go:58", after := #[{ on := 8, ground := Ground.data }, { on := 7, ground := Ground.chain }], guard := none }) (v := ?_) rfl (by kernel_rfl) (by kernel_rfl) (by kernel_rfl) (fun _ _ _ h => h) (Or.inl ⟨by rfl, ?_⟩) (by assumption) ?_
              rotate_left
              · intro w hSw; (try dsimp only at hSw); go_simp; try with_reducible rfl
              simp only [Act.put, List.setIfInBounds_toArray, List.set_cons_zero, List.set_cons_succ]
              refine wpAnyH_take (i := 10) (oi := { dst := some 58, op := Op.load 92 (Operand.tmp 11), type := 92, pos := "law.go:58", after := #[{ on := 9, ground := Ground.guard }], guard := some (9, false) }) (v := ?_) rfl (by kernel_rfl) (by kernel_rfl) (by kernel_rfl) (fun _ _ _ h => h) (Or.inl ⟨by rfl, ?_⟩) (by assumption) ?_
              rotate_left
              · intro w hSw; (try dsimp only at hSw); go_simp; try with_reducible rfl
              simp only [Act.put, List.setIfInBounds_toArray, List.set_cons_zero, List.set_cons_succ]
              refine wpAnyH_take (i := 11) (oi := { dst := some 59, op := Op.move (Operand.tmp 0), type := 84, pos := "law.go:58", after := #[{ on := 9, ground := Ground.guard }], guard := some (9, false) }) (v := ?_) rfl (by kernel_rfl) (by kernel_rfl) (by kernel_rfl) (fun _ _ _ h => h) (Or.inl ⟨by rfl, ?_⟩) (by assumption) ?_
              rotate_left
              · intro w hSw; (try dsimp only at hSw); go_simp; try with_reducible rfl
              simp only [Act.put, List.setIfInBounds_toArray, List.set_cons_zero, List.set_cons_succ]
              refine wpAnyH_take (i := 12) (oi := { dst := some 60, op := Op.indexAddr 84 (Operand.tmp 59) (Operand.const (Value.int IntKind.i64 0)), type := 0, pos := "law.go:58", after := #[{ on := 11, ground := Ground.data }, { on := 9, ground := Ground.guard }], guard := some (9, false) }) (v := ?_) rfl (by kernel_rfl) (by kernel_rfl) (by kernel_rfl) (fun _ _ _ h => h) (Or.inl ⟨by rfl, ?_⟩) (by assumption) ?_
              rotate_left
              · intro w hSw; (try dsimp only at hSw); go_simp; try with_reducible rfl
              simp only [Act.put, List.setIfInBounds_toArray, List.set_cons_zero, List.set_cons_succ]
              refine wpAnyH_take (i := 13) (oi := { dst := some 61, op := Op.load 92 (Operand.tmp 60), type := 92, pos := "law.go:58", after := #[{ on := 12, ground := Ground.data }, { on := 9, ground := Ground.guard }], guard := some (9, false) }) (v := ?_) rfl (by kernel_rfl) (by kernel_rfl) (by kernel_rfl) (fun _ _ _ h => h) (Or.inl ⟨by rfl, ?_⟩) (by assumption) ?_
              rotate_left
              · intro w hSw; (try dsimp only at hSw); go_simp; try with_reducible rfl
              simp only [Act.put, List.setIfInBounds_toArray, List.set_cons_zero, List.set_cons_succ]
              refine wpAnyH_take (i := 15) (oi := { dst := some 63, op := Op.load 92 (Operand.tmp 11), type := 92, pos := "law.go:58", after := #[{ on := 9, ground := Ground.guard }], guard := some (9, false) }) (v := ?_) rfl (by kernel_rfl) (by kernel_rfl) (by kernel_rfl) (fun _ _ _ h => h) (Or.inl ⟨by rfl, ?_⟩) (by assumption) ?_
              rotate_left
              · intro w hSw; (try dsimp only at hSw); go_simp; try with_reducible rfl
              simp only [Act.put, List.setIfInBounds_toArray, List.set_cons_zero, List.set_cons_succ]
              refine wpAnyH_take (i := 18) (oi := { dst := some 66, op := Op.move (Operand.tmp 0), type := 84, pos := "law.go:58", after := #[{ on := 9, ground := Ground.guard }], guard := some (9, false) }) (v := ?_) rfl (by kernel_rfl) (by kernel_rfl) (by kernel_rfl) (fun _ _ _ h => h) (Or.inl ⟨by rfl, ?_⟩) (by assumption) ?_
              rotate_left
              · intro w hSw; (try dsimp only at hSw); go_simp; try with_reducible rfl
              simp only [Act.put, List.setIfInBounds_toArray, List.set_cons_zero, List.set_cons_succ]
              refine wpAnyH_take (i := 19) (oi := { dst := some 67, op := Op.slice 84 (Operand.tmp 66) none (some (Operand.const (Value.int IntKind.i64 1))) none, type := 84, pos := "law.go:58", after := #[{ on := 18, ground := Ground.data }, { on := 9, ground := Ground.guard }], guard := some (9, false) }) (v := ?_) rfl (by kernel_rfl) (by kernel_rfl) (by kernel_rfl) (fun _ _ _ h => h) (Or.inl ⟨by rfl, ?_⟩) (by assumption) ?_
              rotate_left
              · intro w hSw; (try dsimp only at hSw); go_simp; try with_reducible rfl
              simp only [Act.put, List.setIfInBounds_toArray, List.set_cons_zero, List.set_cons_succ]
              refine wpAnyH_ready (rs := [14, 16]) (by kernel_rfl) (by simp) (AllReadyH.cons (o := { dst := some 62, op := Op.call { callee := Callee.value (Operand.func 57), args := #[Operand.tmp 58, Operand.tmp 61], argTypes := #[92, 92] }, type := 4, pos := "law.go:58", after := #[{ on := 10, ground := Ground.data }, { on := 13, ground := Ground.data }, { on := 9, ground := Ground.chain }, { on := 9, ground := Ground.guard }], guard := some (9, false) }) rfl (fun KK hK => ?_) (AllReadyH.cons (o := { dst := some 64, op := Op.buildSlice 84 1 #[(0, Operand.tmp 63)], type := 84, pos := "law.go:58", after := #[{ on := 15, ground := Ground.data }, { on := 9, ground := Ground.guard }], guard := some (9, false) }) rfl (fun KK hK => ?_) AllReadyH.nil))
              · go_simp
                go_at_call 57
                with_reducible refine (mark_same p e c xl xq xcap co tl HXL.out p0 e0 c0 xl0 xq0 xcap0 co0 tl0 HXL0.out _ HSM.out HLT.out HLT0.out HXK.out HXK0.out hs).mono ?_
                rintro e wq ⟨rfl, hs⟩
                refine hK.out _ _ (HKP.out _ _ _ (Know.has_refl _) hs) (fun hHeld => ?_)
                clear hK KK
                try simp only [Act.put, List.setIfInBounds_toArray, List.set_cons_zero, List.set_cons_succ]
                refine wpAnyH_ready (rs := [16]) (by kernel_rfl) (by simp) (AllReadyH.cons (o := { dst := some 64, op := Op.buildSlice 84 1 #[(0, Operand.tmp 63)], type := 84, pos := "law.go:58", after := #[{ on := 15, ground := Ground.data }, { on := 9, ground := Ground.guard }], guard := some (9, false) }) rfl (fun KK hK => ?_) AllReadyH.nil)
                · rw [if_pos (by rfl)]
                  refine wp_op_valueM (exec_buildM _ _ _ _ (by kernel_rfl) (buildM p e c (.slice xq xl.length xcap) co rfl _)) ?_
                  obtain ⟨wy, bS, ey, eb, hs⟩ := hs.allocEx #[.int .i64 p, .int .i64 e, .bool c, .slice xq xl.length xcap, .int .i64 co] 92
                  rw [ey, eb]
                  clear ey eb
                  refine hK.out _ _ (HKP.out _ _ _ (Know.has_refl _) hs.p1) (fun hHeld => ?_)
                  clear hK KK
                  try simp only [Act.put, List.setIfInBounds_toArray, List.set_cons_zero, List.set_cons_succ]
                  refine wpAnyH_ready (rs := [17]) (by kernel_rfl) (by simp) (AllReadyH.cons (o := { dst := some 65, op := Op.call { callee := Callee.value (Operand.func 54), args := #[Operand.tmp 64], argTypes := #[84] }, type := 88, pos := "law.go:58", after := #[{ on := 16, ground := Ground.data }, { on := 14, ground := Ground.chain }, { on := 9, ground := Ground.guard }], guard := some (9, false) }) rfl (fun KK hK => ?_) AllReadyH.nil)
                  · go_simp
                    go_at_call 54
                    with_reducible refine (law19_ofB p e c tl co xl xq xcap bS HFX.out HXK.out hs).mono ?_
                    rintro e wq ⟨q1, cap1, rfl, hs⟩
                    refine hK.out _ _ (HKP.out _ _ _ (Know.has_left (Know.has_refl _)) hs) (fun hHeld => ?_)
                    clear hK KK
                    try simp only [Act.put, List.setIfInBounds_toArray, List.set_cons_zero, List.set_cons_succ]
                    refine wpAnyH_ready (rs := [20]) (by kernel_rfl) (by simp) (AllReadyH.cons (o := { dst := some 68, op := Op.call { callee := Callee.value (Operand.func 54), args := #[Operand.tmp 67], argTypes := #[84] }, type := 88, pos := "law.go:58", after := #[{ on := 19, ground := Ground.data }, { on := 17, ground := Ground.chain }, { on := 9, ground := Ground.guard }], guard := some (9, false) }) rfl (fun KK hK => ?_) AllReadyH.nil)
                    · go_simp
                      go_at_call 54
                      with_reducible refine (law19_of1 p0 e0 c0 tl0 co0 xl0 xq0 xcap0 (some ⟨b0, off, none⟩) cap HFX0.out (Know.has_left HKF.out) hs).mono ?_
                      rintro e wq ⟨q2, cap2, rfl, hs⟩
                      refine hK.out _ _ (HKP.out _ _ _ (Know.has_left (Know.has_left (Know.has_refl _))) hs) (fun hHeld => ?_)
                      clear hK KK
                      try simp only [Act.put, List.setIfInBounds_toArray, List.set_cons_zero, List.set_cons_succ]
                      refine wpAnyH_ready (rs := [21]) (by kernel_rfl) (by simp) (AllReadyH.cons (o := { dst := some 69, op := Op.call { callee := Callee.value (Operand.func 58), args := #[Operand.tmp 65, Operand.tmp 68], argTypes := #[88, 88] }, type := 4, pos := "law.go:58", after := #[{ on := 17, ground := Ground.data }, { on := 20, ground := Ground.data }, { on := 20, ground := Ground.chain }, { on := 9, ground := Ground.guard }], guard := some (9, false) }) rfl (fun KK hK => ?_) AllReadyH.nil)
                      · go_simp
                        go_at_call 58
                        with_reducible refine (ref19_same1 p e c tl co xl xq xcap p0 e0 c0 tl0 co0 xl0 xq0 xcap0 q1 q2 cap1 cap2 _ HSM.out HFX.out HFX0.out (Know.has_left (Know.has_right (Know.has_refl _))) (Know.has_right (Know.has_refl _)) hs).mono ?_
                        rintro e wq ⟨rfl, hs⟩
                        refine hK.out _ _ (HKP.out _ _ _ (Know.has_left (Know.has_left (Know.has_refl _))) hs) (fun hHeld => ?_)
                        clear hK KK
                        try simp only [Act.put, List.setIfInBounds_toArray, List.set_cons_zero, List.set_cons_succ]
                        have hs := hs.know (Know.has_left (Know.has_left (Know.has_refl _)))
                        refine wpAnyH_take (i := 22) (oi := { dst := some 70, op := Op.binOp BinOp.neq 4 (Operand.tmp 62) (Operand.tmp 69) 4, type := 4, pos := "law.go:58", after := #[{ on := 14, ground := Ground.data }, { on := 21, ground := Ground.data }, { on := 9, ground := Ground.guard }], guard := some (9, false) }) (v := ?_) rfl (by kernel_rfl) (by kernel_rfl) (by kernel_rfl) (fun _ _ _ h => h) (Or.inl ⟨by rfl, ?_⟩) (by assumption) ?_
                        rotate_left
                        · intro w hSw; (try dsimp only at hSw); go_simp; try with_reducible rfl
                        simp only [Act.put, List.setIfInBounds_toArray, List.set_cons_zero, List.set_cons_succ]
                        refine wpAnyH_take (i := 23) (oi := { dst := some 71, op := Op.pick (Operand.tmp 57) (Operand.const (Value.bool true)) (Operand.tmp 70), type := 4, pos := "law.go:58", after := #[{ on := 9, ground := Ground.data }, { on := 22, ground := Ground.data }], guard := none }) (v := ?_) rfl (by kernel_rfl) (by kernel_rfl) (by kernel_rfl) (fun _ _ _ h => h) (Or.inl ⟨by rfl, ?_⟩) (by assumption) ?_
                        rotate_left
                        · intro w hSw; (try dsimp only at hSw); go_simp; try with_reducible rfl
                        simp only [Act.put, List.setIfInBounds_toArray, List.set_cons_zero, List.set_cons_succ]
                        refine wpAnyH_done (by kernel_rfl) ?_ _
                        go_wp2_with fail
                        go_roundw
                        case rel => exact ⟨k + 1, hlt, by go_num, hs.drop⟩
                        case measure => first | (simp [intOf]; done) | (simp [intOf]; omega)
              · rw [if_pos (by rfl)]
                refine wp_op_valueM (exec_buildM _ _ _ _ (by kernel_rfl) (buildM p e c (.slice xq xl.length xcap) co rfl _)) ?_
                obtain ⟨wy, bS, ey, eb, hs⟩ := hs.allocEx #[.int .i64 p, .int .i64 e, .bool c, .slice xq xl.length xcap, .int .i64 co] 92
                rw [ey, eb]
                clear ey eb
                refine hK.out _ _ (HKP.out _ _ _ (Know.has_refl _) hs.p1) (fun hHeld => ?_)
                clear hK KK
                try simp only [Act.put, List.setIfInBounds_toArray, List.set_cons_zero, List.set_cons_succ]
                refine wpAnyH_ready (rs := [14]) (by kernel_rfl) (by simp) (AllReadyH.cons (o := { dst := some 62, op := Op.call { callee := Callee.value (Operand.func 57), args := #[Operand.tmp 58, Operand.tmp 61], argTypes := #[92, 92] }, type := 4, pos := "law.go:58", after := #[{ on := 10, ground := Ground.data }, { on := 13, ground := Ground.data }, { on := 9, ground := Ground.chain }, { on := 9, ground := Ground.guard }], guard := some (9, false) }) rfl (fun KK hK => ?_) AllReadyH.nil)
                · go_simp
                  go_at_call 57
                  with_reducible refine (mark_same p e c xl xq xcap co tl HXL.out p0 e0 c0 xl0 xq0 xcap0 co0 tl0 HXL0.out _ HSM.out HLT.out HLT0.out HXK.out HXK0.out hs).mono ?_
                  rintro e wq ⟨rfl, hs⟩
                  refine hK.out _ _ (HKP.out _ _ _ (Know.has_refl _) hs.p1) (fun hHeld => ?_)
                  clear hK KK
                  try simp only [Act.put, List.setIfInBounds_toArray, List.set_cons_zero, List.set_cons_succ]
                  refine wpAnyH_ready (rs := [17]) (by kernel_rfl) (by simp) (AllReadyH.cons (o := { dst := some 65, op := Op.call { callee := Callee.value (Operand.func 54), args := #[Operand.tmp 64], argTypes := #[84] }, type := 88, pos := "law.go:58", after := #[{ on := 16, ground := Ground.data }, { on := 14, ground := Ground.chain }, { on := 9, ground := Ground.guard }], guard := some (9, false) }) rfl (fun KK hK => ?_) AllReadyH.nil)
                  · go_simp
                    go_at_call 54
                    with_reducible refine (law19_ofB p e c tl co xl xq xcap bS HFX.out HXK.out hs).mono ?_
                    rintro e wq ⟨q1, cap1, rfl, hs⟩
                    refine hK.out _ _ (HKP.out _ _ _ (Know.has_left (Know.has_refl _)) hs) (fun hHeld => ?_)
                    clear hK KK
                    try simp only [Act.put, List.setIfInBounds_toArray, List.set_cons_zero, List.set_cons_succ]
                    refine wpAnyH_ready (rs := [20]) (by kernel_rfl) (by simp) (AllReadyH.cons (o := { dst := some 68, op := Op.call { callee := Callee.value (Operand.func 54), args := #[Operand.tmp 67], argTypes := #[84] }, type := 88, pos := "law.go:58", after := #[{ on := 19, ground := Ground.data }, { on := 17, ground := Ground.chain }, { on := 9, ground := Ground.guard }], guard := some (9, false) }) rfl (fun KK hK => ?_) AllReadyH.nil)
                    · go_simp
                      go_at_call 54
                      with_reducible refine (law19_of1 p0 e0 c0 tl0 co0 xl0 xq0 xcap0 (some ⟨b0, off, none⟩) cap HFX0.out (Know.has_left HKF.out) hs).mono ?_
                      rintro e wq ⟨q2, cap2, rfl, hs⟩
                      refine hK.out _ _ (HKP.out _ _ _ (Know.has_left (Know.has_left (Know.has_refl _))) hs) (fun hHeld => ?_)
                      clear hK KK
                      try simp only [Act.put, List.setIfInBounds_toArray, List.set_cons_zero, List.set_cons_succ]
                      refine wpAnyH_ready (rs := [21]) (by kernel_rfl) (by simp) (AllReadyH.cons (o := { dst := some 69, op := Op.call { callee := Callee.value (Operand.func 58), args := #[Operand.tmp 65, Operand.tmp 68], argTypes := #[88, 88] }, type := 4, pos := "law.go:58", after := #[{ on := 17, ground := Ground.data }, { on := 20, ground := Ground.data }, { on := 20, ground := Ground.chain }, { on := 9, ground := Ground.guard }], guard := some (9, false) }) rfl (fun KK hK => ?_) AllReadyH.nil)
                      · go_simp
                        go_at_call 58
                        with_reducible refine (ref19_same1 p e c tl co xl xq xcap p0 e0 c0 tl0 co0 xl0 xq0 xcap0 q1 q2 cap1 cap2 _ HSM.out HFX.out HFX0.out (Know.has_left (Know.has_right (Know.has_refl _))) (Know.has_right (Know.has_refl _)) hs).mono ?_
                        rintro e wq ⟨rfl, hs⟩
                        refine hK.out _ _ (HKP.out _ _ _ (Know.has_left (Know.has_left (Know.has_refl _))) hs) (fun hHeld => ?_)
                        clear hK KK
                        try simp only [Act.put, List.setIfInBounds_toArray, List.set_cons_zero, List.set_cons_succ]
                        have hs := hs.know (Know.has_left (Know.has_left (Know.has_refl _)))
                        refine wpAnyH_take (i := 22) (oi := { dst := some 70, op := Op.binOp BinOp.neq 4 (Operand.tmp 62) (Operand.tmp 69) 4, type := 4, pos := "law.go:58", after := #[{ on := 14, ground := Ground.data }, { on := 21, ground := Ground.data }, { on := 9, ground := Ground.guard }], guard := some (9, false) }) (v := ?_) rfl (by kernel_rfl) (by kernel_rfl) (by kernel_rfl) (fun _ _ _ h => h) (Or.inl ⟨by rfl, ?_⟩) (by assumption) ?_
                        rotate_left
                        · intro w hSw; (try dsimp only at hSw); go_simp; try with_reducible rfl
                        simp only [Act.put, List.setIfInBounds_toArray, List.set_cons_zero, List.set_cons_succ]
                        refine wpAnyH_take (i := 23) (oi := { dst := some 71, op := Op.pick (Operand.tmp 57) (Operand.const (Value.bool true)) (Operand.tmp 70), type := 4, pos := "law.go:58", after := #[{ on := 9, ground := Ground.data }, { on := 22, ground := Ground.data }], guard := none }) (v := ?_) rfl (by kernel_rfl) (by kernel_rfl) (by kernel_rfl) (fun _ _ _ h => h) (Or.inl ⟨by rfl, ?_⟩) (by assumption) ?_
                        rotate_left
                        · intro w hSw; (try dsimp only at hSw); go_simp; try with_reducible rfl
                        simp only [Act.put, List.setIfInBounds_toArray, List.set_cons_zero, List.set_cons_succ]
                        refine wpAnyH_done (by kernel_rfl) ?_ _
                        go_wp2_with fail
                        go_roundw
                        case rel => exact ⟨k + 1, hlt, by go_num, hs.drop⟩
                        case measure => first | (simp [intOf]; done) | (simp [intOf]; omega)
    · obtain rfl : k = l.length := by omega
      go_wp2_with (fail)
      go_ret
      exact ⟨rfl, H.out.below⟩

end Go.Proofs.Ytombolmicfjjpaa
