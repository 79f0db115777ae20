/- Any marks, in any version, their bytes are the document's, or why they may not be, and they are read as them: proved of all rows of marks. -/
import Derived.Test.YtombolmicfjjpaaGMarkWrites6
import Derived.Test.YtombolmicfjjpaaGMarkWrites9
import Derived.Test.YtombolmicfjjpaaGMarkWrites10
import Derived.Test.YtombolmicfjjpaaGMarkWrites11
import Derived.Test.YtombolmicfjjpaaGMarkWrites5
import Derived.Deep.RegionHeld3
import Derived.Deep.DeepCutAuto
import Derived.Test.YtombolmicfjjpaaArgs
import Derived.SizedLaws
import Derived.Deep.Slices
import Derived.Test.YtombolmicfjjpaaGMarkWrites1
import Derived.Test.YtombolmicfjjpaaGMarkWrites4
import Derived.Test.YtombolmicfjjpaaGMarkWrites12
/- MarkWrites: what may be. -/
namespace Go.Proofs.Ytombolmicfjjpaa
open Go.RowKit

set_option maxHeartbeats 8000000 in
set_option maxRecDepth 100000 in
theorem mw_ok (l : List MarkR) (q : Option Addr) (cap : Nat) (m : Int) (v : Int) (hv : m.tmod 2 = v) (hv01 : v = 0 ∨ v = 1) (hf : ∀ x ∈ l, x.Fit) (hn : l.length ≤ 20) (hcap : l.length ≤ cap) (hw : fewMs (l.map MarkR.m) = 1) (hb : ∀ x ∈ l, x.l.map (·.1) = x.m.tops ∧ x.l.length ≤ 140737488351232 ∧ ∀ y ∈ x.l, y.1.name.length ≤ 140737488351232 ∧ y.1.parts.length ≤ 17592186043904) (S : Bs) (hS : encMs v (l.map MarkR.m) = S) (hE : marksErr v (l.map MarkR.m) = 0) (hfit : ∀ x ∈ l, FitTs x.m.tops ∧ (encM v x.m).length ≤ 2000) {W0 w : World} {K : Know} (hk : K.has (Know.marks (.slice q l.length cap) l)) (h : St W0 w K []) :
    Calls Try.prog 10 #[.slice q l.length cap, .int .u8 m] w fun en w' => en = .returned (.bool true) ∧ Below W0.heap.size W0 w' := by
  have H := Lib.hid h
  have HK := Lib.hid hk
  have HF := Lib.hid hf
  have HFB := Lib.hid hb
  have HFW := Lib.hid hw
  have HE := Lib.hid hE
  have HN := Lib.hid (show l.length ≤ 1000000 by omega)
  have HN20 := Lib.hid hn
  have HNL := Lib.hid (show l.length ≤ 140737488351232 by omega)
  have hv1 : IntKind.u8.wrap v = v := by rcases hv01 with rfl | rfl <;> decide
  have hv2 : IntKind.i64.wrap v = v := by rcases hv01 with rfl | rfl <;> decide
  have hni : (l.length : Int) ≤ 20 := by omega
  have HS := Lib.hid (show [] ++ encMs v (l.map MarkR.m) = S from hS)
  have HS2 := Lib.hid hS
  have HFIT := Lib.hid hfit
  have gS : (S == S) = true := beq_self_eq_true _
  have hbk := marks_back S v (l.map MarkR.m) hv01 hE (fun m hm => by obtain ⟨x, hx, rfl⟩ := List.mem_map.1 hm; exact ⟨(hf x hx).2.2, (hfit x hx).1⟩) (by rw [List.length_map]; omega) hS
  have HBK := Lib.hid hbk.2.2
  have HML := Lib.hid (show ∀ m ∈ (InS.marksN v ((⟨S, 0, 0⟩ : InS).cnt 15).1 [] ((⟨S, 0, 0⟩ : InS).cnt 15).2).1, m.R ∧ FewL m.tops by
    rw [hbk.1]
    simp only
    rw [hbk.2.1]
    intro m hm
    obtain ⟨x, hx, rfl⟩ := List.mem_map.1 hm
    exact ⟨(hf x hx).2.2, by
      have h1 := (hf x hx).2.1
      rw [← (hf x hx).1]
      exact ⟨by rw [List.length_map]; exact h1.1, fun t ht => by obtain ⟨y, hy, rfl⟩ := List.mem_map.1 ht; exact h1.2 y hy⟩⟩)
  have HMN := Lib.hid (show (InS.marksN v ((⟨S, 0, 0⟩ : InS).cnt 15).1 [] ((⟨S, 0, 0⟩ : InS).cnt 15).2).1.length ≤ 1000000 by
    rw [hbk.1]
    simp only
    rw [hbk.2.1, List.length_map]
    omega)
  have HSL := Lib.hid (show S.length ≤ 140737488355328 by
    rw [← hS, ← preM_all]
    have := preM_le v (l.map MarkR.m) (l.map MarkR.m).length (Nat.le_refl _) (by rw [List.length_map]; exact hn) (fun m hm => by obtain ⟨x, hx, rfl⟩ := List.mem_map.1 hm; exact (hfit x hx).2)
    omega)
  have HCL := Lib.hid (show (⟨S, S.length, 0⟩ : InS).close.err = 0 by simp [InS.close, InS.left])
  clear hbk hS hfit
  clear h hk hf hb hw hE hn hv01
  go_enter Try.func10, Try.ntmps10
  go_wp2_with (first
    | (go_at_call 50; (with_reducible refine (speaks19 H.out).mono ?_); rintro e_ wn ⟨rfl, h⟩; replace H := Lib.hid h; clear h)
    | (go_at_call 51; (with_reducible refine (law19_few l q cap HNL.out HFB.out _ HFW.out HK.out H.out).mono ?_); rintro e_ wn ⟨rfl, h⟩; obtain ⟨po, hpo⟩ : ∃ b, wn.heap.size = b := ⟨_, rfl⟩; have h := h.allocOut; rw [hpo] at h; replace H := Lib.hid h; clear h)
    | (go_at_call 52; (with_reducible refine (mark_write_ok po [] S v l q cap HS.out HE.out HF.out HFIT.out HN20.out (by decide) HK.out H.out).mono ?_); rintro e_ wn ⟨rfl, h⟩; replace H := Lib.hid h; clear h)
    | (go_at_call 32; (with_reducible refine (so_textV po S H.out).mono ?_); rintro e_ wn ⟨rfl, h⟩; replace H := Lib.hid h; clear h)
    | (go_at_call 54; (with_reducible refine (law19_of l q cap HN.out HF.out HK.out H.out).mono ?_); rintro e_ wn ⟨v1, rfl, h⟩; obtain ⟨q1, cap1, rfl⟩ := marks_form (Know.has_right (Know.has_refl _)) h; replace H := Lib.hid h; clear h)
    | (go_at_call 53; (with_reducible refine (ref19_check v l q1 cap1 _ HE.out HF.out HN.out (Know.has_right (Know.has_refl _)) H.out).mono ?_); rintro e_ wn ⟨rfl, h⟩; have h := h.know (Know.has_left (Know.has_refl _)); replace H := Lib.hid h; clear h)
    | (go_at_call 55; (with_reducible refine (marks_check v l q cap _ HE.out HF.out HN.out HK.out H.out).mono ?_); rintro e_ wn ⟨rfl, h⟩; replace H := Lib.hid h; clear h))
  go_loopw [44] (fun iv wr => ∃ k : Nat, k ≤ l.length ∧ iv = .int .i64 k ∧ St W0 wr K (.out po ⟨S, 0⟩ :: [])) (fun iv _ => l.length - (intOf iv).toNat)
  case atStart => exact ⟨0, Nat.zero_le _, rfl, H.out⟩
  case round =>
    obtain ⟨k, hkl, rfl, hst⟩ := hrel
    clear H
    have H := Lib.hid hst
    clear hst
    by_cases hlt : k < l.length
    · obtain ⟨x0, t0, hl0⟩ : ∃ x0 t0, l = x0 :: t0 := by
        cases hl : l with
        | nil => rw [hl] at hlt; simp at hlt
        | cons x t => exact ⟨x, t, rfl⟩
      have h00 : 0 < l.length := by omega
      have hx0 : l[0] = x0 := by simp [hl0]
      have hmem0 : x0 ∈ l := by rw [hl0]; simp
      have hfx0 := HF.out x0 hmem0
      have hkf0 : K.has (Know.marks (.slice q 1 cap) [x0]) := marks_first (by have := HK.out; rw [hl0] at this; exact this)
      have hxk0 := marks_tops HK.out hmem0
      obtain ⟨b0, off, hqq⟩ := marks_at HK.out H.out (by omega)
      subst hqq
      obtain ⟨x, hx⟩ : ∃ x, l[k] = x := ⟨_, rfl⟩
      have hmem : x ∈ l := hx ▸ List.getElem_mem hlt
      have hxk := marks_tops HK.out hmem
      have hcell := marks_cell HK.out H.out k hlt x hx
      have hmk : k < (l.map MarkR.m).length := by rw [List.length_map]; exact hlt
      have hmg : (l.map MarkR.m)[k] = x.m := by rw [List.getElem_map, hx]
      obtain ⟨hxl, hxf, hxr⟩ := HF.out x hmem
      obtain ⟨⟨p, e, c, tl, co⟩, xl, xq, xcap⟩ := x
      obtain ⟨c0, c1, c2, c3, c4⟩ : wr.cell? ⟨b0, off + k * 5, none⟩ = some (.int .i64 p) ∧ wr.cell? ⟨b0, off + k * 5 + 1, none⟩ = some (.int .i64 e) ∧ wr.cell? ⟨b0, off + k * 5 + 2, none⟩ = some (.bool c) ∧ wr.cell? ⟨b0, off + k * 5 + 3, none⟩ = some (.slice xq xl.length xcap) ∧ wr.cell? ⟨b0, off + k * 5 + 4, none⟩ = some (.int .i64 co) := hcell
      have HXK := Lib.hid (show K.has (Know.tops (.slice xq xl.length xcap) xl) from hxk)
      have HXL := Lib.hid (show xl.map (·.1) = tl from hxl)
      have HXF := Lib.hid (show FewT xl from hxf)
      have hkn : (k : Int) < (l.length : Int) := by omega
      have hcell0 := fun (w' : World) (K' : Know) (R' : List Res) (hK' : K'.has K) (hs : St W0 w' K' R') => marks_cell (Know.has_trans hK' HK.out) hs 0 h00 x0 hx0
      obtain ⟨⟨p0, e0, c0, tl0, co0⟩, xl0, xq0, xcap0⟩ := x0
      have HFX := Lib.hid (show (⟨⟨p, e, c, tl, co⟩, xl, xq, xcap⟩ : MarkR).Fit from ⟨hxl, hxf, hxr⟩)
      have HFX0 := Lib.hid hfx0
      have HKF := Lib.hid hkf0
      have HXK0 := Lib.hid (show K.has (Know.tops (.slice xq0 xl0.length xcap0) xl0) from hxk0)
      have HXL0 := Lib.hid (show xl0.map (·.1) = tl0 from hfx0.1)
      have HLT := Lib.hid (FewT_LenT HXF.out)
      have HLT0 := Lib.hid (FewT_LenT (show FewT xl0 from hfx0.2.1))
      obtain ⟨r1, hr1⟩ : ∃ r1, mErr v p e tl co = r1 := ⟨_, rfl⟩
      have HR1 := Lib.hid (show mErr v p e (xl.map fun y => y.1) co = r1 by rw [show (xl.map fun y => y.1) = tl from hxl]; exact hr1)
      have HR2 := Lib.hid hr1
      obtain ⟨sm, hsm⟩ : ∃ b, decide ((⟨p, e, c, tl, co⟩ : MarkS) = ⟨p0, e0, c0, tl0, co0⟩) = b := ⟨_, rfl⟩
      have HSM := Lib.hid hsm
      have gq1 : (r1 != r1) = false := by simp [bne]
      have gq2 : (sm != sm) = false := by cases sm <;> rfl
      have hk0 : (0 : Int) < (l.length : Int) := by omega
      have hk1 : (1 : Int) ≤ (l.length : Int) := by omega
      have hk2 : (1 : Int) ≤ (cap : Int) := by omega
      have hk3 : 0 < l.length := h00
      obtain ⟨tb, htb⟩ : ∃ b, wr.heap.size = b := ⟨_, rfl⟩
      have h := H.out.allocRaw #[.int .i64 p, .int .i64 e, .bool c, .slice xq xl.length xcap, .int .i64 co] 92
      rw [htb] at h
      have HKP := Lib.hid (show ∀ w' K' R', K'.has K → St W0 w' K' (.raw tb #[.int .i64 p, .int .i64 e, .bool c, .slice xq xl.length xcap, .int .i64 co] 92 :: R') → (w'.cell? ⟨tb, 0, none⟩ = some (.int .i64 p) ∧ w'.cell? ⟨tb, 1, none⟩ = some (.int .i64 e) ∧ w'.cell? ⟨tb, 2, none⟩ = some (.bool c) ∧ w'.cell? ⟨tb, 3, none⟩ = some (.slice xq xl.length xcap) ∧ w'.cell? ⟨tb, 4, none⟩ = some (.int .i64 co) ∧ w'.cell? ⟨b0, off, none⟩ = some (.int .i64 p0) ∧ w'.cell? ⟨b0, off + 1, none⟩ = some (.int .i64 e0) ∧ w'.cell? ⟨b0, off + 2, none⟩ = some (.bool c0) ∧ w'.cell? ⟨b0, off + 3, none⟩ = some (.slice xq0 xl0.length xcap0) ∧ w'.cell? ⟨b0, off + 4, none⟩ = some (.int .i64 co0)) from fun w' K' R' hK' hs => by
        obtain ⟨a0, a1, a2, a3, a4⟩ := hcell0 w' K' _ hK' hs
        simp only [Nat.zero_mul, Nat.add_zero] at a0 a1 a2 a3 a4
        exact ⟨by simpa using hs.rawCell 0, by simpa using hs.rawCell 1, by simpa using hs.rawCell 2, by simpa using hs.rawCell 3, by simpa using hs.rawCell 4, a0, a1, a2, a3, a4⟩)
      clear H
      have H := Lib.hid h
      clear h hx hmem hxk hmk hmg hxl hxf hxr hcell0 hmem0 hfx0 hkf0 hxk0 hl0 hr1 hsm hx0 h00
      go_wp2_with (fail)
      have hs := H.out.drew
      refine wp_region_held_drew (S := fun w' => w'.cell? ⟨tb, 0, none⟩ = some (.int .i64 p) ∧ w'.cell? ⟨tb, 1, none⟩ = some (.int .i64 e) ∧ w'.cell? ⟨tb, 2, none⟩ = some (.bool c) ∧ w'.cell? ⟨tb, 3, none⟩ = some (.slice xq xl.length xcap) ∧ w'.cell? ⟨tb, 4, none⟩ = some (.int .i64 co) ∧ w'.cell? ⟨b0, off, none⟩ = some (.int .i64 p0) ∧ w'.cell? ⟨b0, off + 1, none⟩ = some (.int .i64 e0) ∧ w'.cell? ⟨b0, off + 2, none⟩ = some (.bool c0) ∧ w'.cell? ⟨b0, off + 3, none⟩ = some (.slice xq0 xl0.length xcap0) ∧ w'.cell? ⟨b0, off + 4, none⟩ = some (.int .i64 co0)) (by kernel_rfl) (HKP.out _ _ _ (Know.has_refl _) hs) (fun hHeld => ?_)
      refine wpAnyH_take (i := 0) (oi := { dst := some 48, op := Op.load 92 (Operand.tmp 11), type := 92, pos := "law.go:58", after := #[], guard := none }) (v := ?_) rfl (by kernel_rfl) (by kernel_rfl) (by kernel_rfl) (fun _ _ _ h => h) (Or.inl ⟨by rfl, ?_⟩) (by assumption) ?_
      rotate_left
      · intro w hSw; (try dsimp only at hSw); go_simp; try with_reducible rfl
      simp only [Act.put, List.setIfInBounds_toArray, List.set_cons_zero, List.set_cons_succ]
      refine wpAnyH_take (i := 1) (oi := { dst := some 49, op := Op.move (Operand.tmp 5), type := 3, pos := "law.go:58", after := #[], guard := none }) (v := ?_) rfl (by kernel_rfl) (by kernel_rfl) (by kernel_rfl) (fun _ _ _ h => h) (Or.inl ⟨by rfl, ?_⟩) (by assumption) ?_
      rotate_left
      · intro w hSw; (try dsimp only at hSw); go_simp; try with_reducible rfl
      simp only [Act.put, List.setIfInBounds_toArray, List.set_cons_zero, List.set_cons_succ]
      refine wpAnyH_take (i := 3) (oi := { dst := some 51, op := Op.load 92 (Operand.tmp 11), type := 92, pos := "law.go:58", after := #[], guard := none }) (v := ?_) rfl (by kernel_rfl) (by kernel_rfl) (by kernel_rfl) (fun _ _ _ h => h) (Or.inl ⟨by rfl, ?_⟩) (by assumption) ?_
      rotate_left
      · intro w hSw; (try dsimp only at hSw); go_simp; try with_reducible rfl
      simp only [Act.put, List.setIfInBounds_toArray, List.set_cons_zero, List.set_cons_succ]
      refine wpAnyH_take (i := 6) (oi := { dst := some 54, op := Op.move (Operand.tmp 5), type := 3, pos := "law.go:58", after := #[], guard := none }) (v := ?_) rfl (by kernel_rfl) (by kernel_rfl) (by kernel_rfl) (fun _ _ _ h => h) (Or.inl ⟨by rfl, ?_⟩) (by assumption) ?_
      rotate_left
      · intro w hSw; (try dsimp only at hSw); go_simp; try with_reducible rfl
      simp only [Act.put, List.setIfInBounds_toArray, List.set_cons_zero, List.set_cons_succ]
      refine wpAnyH_ready (rs := [2, 4]) (by kernel_rfl) (by simp) (AllReadyH.cons (o := { dst := some 50, op := Op.call { callee := Callee.value (Operand.func 56), args := #[Operand.tmp 48, Operand.tmp 49], argTypes := #[92, 3] }, type := 27, pos := "law.go:58", after := #[{ on := 0, ground := Ground.data }, { on := 1, ground := Ground.data }], guard := none }) rfl (fun KK hK => ?_) (AllReadyH.cons (o := { dst := some 52, op := Op.buildSlice 84 1 #[(0, Operand.tmp 51)], type := 84, pos := "law.go:58", after := #[{ on := 3, ground := Ground.data }], guard := none }) rfl (fun KK hK => ?_) AllReadyH.nil))
      · go_simp
        go_at_call 56
        with_reducible refine (mark_check1 v p e c xl xq xcap co _ HR1.out HXF.out HXK.out hs).mono ?_
        rintro e wq ⟨rfl, hs⟩
        refine hK.out _ _ (HKP.out _ _ _ (Know.has_refl _) hs) (fun hHeld => ?_)
        clear hK KK
        try simp only [Act.put, List.setIfInBounds_toArray, List.set_cons_zero, List.set_cons_succ]
        refine wpAnyH_ready (rs := [4]) (by kernel_rfl) (by simp) (AllReadyH.cons (o := { dst := some 52, op := Op.buildSlice 84 1 #[(0, Operand.tmp 51)], type := 84, pos := "law.go:58", after := #[{ on := 3, ground := Ground.data }], guard := none }) rfl (fun KK hK => ?_) AllReadyH.nil)
        · rw [if_pos (by rfl)]
          refine wp_op_valueM (exec_buildM _ _ _ _ (by kernel_rfl) (buildM p e c (.slice xq xl.length xcap) co rfl _)) ?_
          obtain ⟨wy, bS, ey, eb, hs⟩ := hs.allocEx #[.int .i64 p, .int .i64 e, .bool c, .slice xq xl.length xcap, .int .i64 co] 92
          rw [ey, eb]
          clear ey eb
          refine hK.out _ _ (HKP.out _ _ _ (Know.has_refl _) hs.p1) (fun hHeld => ?_)
          clear hK KK
          try simp only [Act.put, List.setIfInBounds_toArray, List.set_cons_zero, List.set_cons_succ]
          refine wpAnyH_ready (rs := [5]) (by kernel_rfl) (by simp) (AllReadyH.cons (o := { dst := some 53, op := Op.call { callee := Callee.value (Operand.func 54), args := #[Operand.tmp 52], argTypes := #[84] }, type := 88, pos := "law.go:58", after := #[{ on := 4, ground := Ground.data }, { on := 2, ground := Ground.chain }], guard := none }) rfl (fun KK hK => ?_) AllReadyH.nil)
          · go_simp
            go_at_call 54
            with_reducible refine (law19_ofB p e c tl co xl xq xcap bS HFX.out HXK.out hs).mono ?_
            rintro e wq ⟨q1, cap1, rfl, hs⟩
            refine hK.out _ _ (HKP.out _ _ _ (Know.has_left (Know.has_refl _)) hs) (fun hHeld => ?_)
            clear hK KK
            try simp only [Act.put, List.setIfInBounds_toArray, List.set_cons_zero, List.set_cons_succ]
            refine wpAnyH_ready (rs := [7]) (by kernel_rfl) (by simp) (AllReadyH.cons (o := { dst := some 55, op := Op.call { callee := Callee.value (Operand.func 53), args := #[Operand.tmp 53, Operand.tmp 54], argTypes := #[88, 3] }, type := 3, pos := "law.go:58", after := #[{ on := 5, ground := Ground.data }, { on := 6, ground := Ground.data }, { on := 5, ground := Ground.chain }], guard := none }) rfl (fun KK hK => ?_) AllReadyH.nil)
            · go_simp
              go_at_call 53
              with_reducible refine (ref19_check1 v p e c tl co xl xq xcap q1 cap1 _ HR2.out HFX.out (Know.has_right (Know.has_refl _)) hs).mono ?_
              rintro e wq ⟨rfl, hs⟩
              refine hK.out _ _ (HKP.out _ _ _ (Know.has_left (Know.has_refl _)) hs) (fun hHeld => ?_)
              clear hK KK
              try simp only [Act.put, List.setIfInBounds_toArray, List.set_cons_zero, List.set_cons_succ]
              have hs := hs.know (Know.has_left (Know.has_refl _))
              refine wpAnyH_take (i := 8) (oi := { dst := some 56, op := Op.binOp BinOp.neq 3 (Operand.tmp 50) (Operand.tmp 55) 3, type := 4, pos := "law.go:58", after := #[{ on := 2, ground := Ground.data }, { on := 7, ground := Ground.data }], guard := none }) (v := ?_) rfl (by kernel_rfl) (by kernel_rfl) (by kernel_rfl) (fun _ _ _ h => h) (Or.inl ⟨by rfl, ?_⟩) (by assumption) ?_
              rotate_left
              · intro w hSw; (try dsimp only at hSw); go_simp; try with_reducible rfl
              simp only [Act.put, List.setIfInBounds_toArray, List.set_cons_zero, List.set_cons_succ]
              refine wpAnyH_take (i := 9) (oi := { dst := some 57, op := Op.move (Operand.tmp 56), type := 4, pos := "law.go:58", after := #[{ on := 8, ground := Ground.data }, { on := 7, ground := Ground.chain }], guard := none }) (v := ?_) rfl (by kernel_rfl) (by kernel_rfl) (by kernel_rfl) (fun _ _ _ h => h) (Or.inl ⟨by rfl, ?_⟩) (by assumption) ?_
              rotate_left
              · intro w hSw; (try dsimp only at hSw); go_simp; try with_reducible rfl
              simp only [Act.put, List.setIfInBounds_toArray, List.set_cons_zero, List.set_cons_succ]
              refine wpAnyH_take (i := 10) (oi := { dst := some 58, op := Op.load 92 (Operand.tmp 11), type := 92, pos := "law.go:58", after := #[{ on := 9, ground := Ground.guard }], guard := some (9, false) }) (v := ?_) rfl (by kernel_rfl) (by kernel_rfl) (by kernel_rfl) (fun _ _ _ h => h) (Or.inl ⟨by rfl, ?_⟩) (by assumption) ?_
              rotate_left
              · intro w hSw; (try dsimp only at hSw); go_simp; try with_reducible rfl
              simp only [Act.put, List.setIfInBounds_toArray, List.set_cons_zero, List.set_cons_succ]
              refine wpAnyH_take (i := 11) (oi := { dst := some 59, op := Op.move (Operand.tmp 0), type := 84, pos := "law.go:58", after := #[{ on := 9, ground := Ground.guard }], guard := some (9, false) }) (v := ?_) rfl (by kernel_rfl) (by kernel_rfl) (by kernel_rfl) (fun _ _ _ h => h) (Or.inl ⟨by rfl, ?_⟩) (by assumption) ?_
              rotate_left
              · intro w hSw; (try dsimp only at hSw); go_simp; try with_reducible rfl
              simp only [Act.put, List.setIfInBounds_toArray, List.set_cons_zero, List.set_cons_succ]
              refine wpAnyH_take (i := 12) (oi := { dst := some 60, op := Op.indexAddr 84 (Operand.tmp 59) (Operand.const (Value.int IntKind.i64 0)), type := 0, pos := "law.go:58", after := #[{ on := 11, ground := Ground.data }, { on := 9, ground := Ground.guard }], guard := some (9, false) }) (v := ?_) rfl (by kernel_rfl) (by kernel_rfl) (by kernel_rfl) (fun _ _ _ h => h) (Or.inl ⟨by rfl, ?_⟩) (by assumption) ?_
              rotate_left
              · intro w hSw; (try dsimp only at hSw); go_simp; try with_reducible rfl
              simp only [Act.put, List.setIfInBounds_toArray, List.set_cons_zero, List.set_cons_succ]
              refine wpAnyH_take (i := 13) (oi := { dst := some 61, op := Op.load 92 (Operand.tmp 60), type := 92, pos := "law.go:58", after := #[{ on := 12, ground := Ground.data }, { on := 9, ground := Ground.guard }], guard := some (9, false) }) (v := ?_) rfl (by kernel_rfl) (by kernel_rfl) (by kernel_rfl) (fun _ _ _ h => h) (Or.inl ⟨by rfl, ?_⟩) (by assumption) ?_
              rotate_left
              · intro w hSw; (try dsimp only at hSw); go_simp; try with_reducible rfl
              simp only [Act.put, List.setIfInBounds_toArray, List.set_cons_zero, List.set_cons_succ]
              refine wpAnyH_take (i := 15) (oi := { dst := some 63, op := Op.load 92 (Operand.tmp 11), type := 92, pos := "law.go:58", after := #[{ on := 9, ground := Ground.guard }], guard := some (9, false) }) (v := ?_) rfl (by kernel_rfl) (by kernel_rfl) (by kernel_rfl) (fun _ _ _ h => h) (Or.inl ⟨by rfl, ?_⟩) (by assumption) ?_
              rotate_left
              · intro w hSw; (try dsimp only at hSw); go_simp; try with_reducible rfl
              simp only [Act.put, List.setIfInBounds_toArray, List.set_cons_zero, List.set_cons_succ]
              refine wpAnyH_take (i := 18) (oi := { dst := some 66, op := Op.move (Operand.tmp 0), type := 84, pos := "law.go:58", after := #[{ on := 9, ground := Ground.guard }], guard := some (9, false) }) (v := ?_) rfl (by kernel_rfl) (by kernel_rfl) (by kernel_rfl) (fun _ _ _ h => h) (Or.inl ⟨by rfl, ?_⟩) (by assumption) ?_
              rotate_left
              · intro w hSw; (try dsimp only at hSw); go_simp; try with_reducible rfl
              simp only [Act.put, List.setIfInBounds_toArray, List.set_cons_zero, List.set_cons_succ]
              refine wpAnyH_take (i := 19) (oi := { dst := some 67, op := Op.slice 84 (Operand.tmp 66) none (some (Operand.const (Value.int IntKind.i64 1))) none, type := 84, pos := "law.go:58", after := #[{ on := 18, ground := Ground.data }, { on := 9, ground := Ground.guard }], guard := some (9, false) }) (v := ?_) rfl (by kernel_rfl) (by kernel_rfl) (by kernel_rfl) (fun _ _ _ h => h) (Or.inl ⟨by rfl, ?_⟩) (by assumption) ?_
              rotate_left
              · intro w hSw; (try dsimp only at hSw); go_simp; try with_reducible rfl
              simp only [Act.put, List.setIfInBounds_toArray, List.set_cons_zero, List.set_cons_succ]
              refine wpAnyH_ready (rs := [14, 16]) (by kernel_rfl) (by simp) (AllReadyH.cons (o := { dst := some 62, op := Op.call { callee := Callee.value (Operand.func 57), args := #[Operand.tmp 58, Operand.tmp 61], argTypes := #[92, 92] }, type := 4, pos := "law.go:58", after := #[{ on := 10, ground := Ground.data }, { on := 13, ground := Ground.data }, { on := 9, ground := Ground.chain }, { on := 9, ground := Ground.guard }], guard := some (9, false) }) rfl (fun KK hK => ?_) (AllReadyH.cons (o := { dst := some 64, op := Op.buildSlice 84 1 #[(0, Operand.tmp 63)], type := 84, pos := "law.go:58", after := #[{ on := 15, ground := Ground.data }, { on := 9, ground := Ground.guard }], guard := some (9, false) }) rfl (fun KK hK => ?_) AllReadyH.nil))
              · go_simp
                go_at_call 57
                with_reducible refine (mark_same p e c xl xq xcap co tl HXL.out p0 e0 c0 xl0 xq0 xcap0 co0 tl0 HXL0.out _ HSM.out HLT.out HLT0.out HXK.out HXK0.out hs).mono ?_
                rintro e wq ⟨rfl, hs⟩
                refine hK.out _ _ (HKP.out _ _ _ (Know.has_refl _) hs) (fun hHeld => ?_)
                clear hK KK
                try simp only [Act.put, List.setIfInBounds_toArray, List.set_cons_zero, List.set_cons_succ]
                refine wpAnyH_ready (rs := [16]) (by kernel_rfl) (by simp) (AllReadyH.cons (o := { dst := some 64, op := Op.buildSlice 84 1 #[(0, Operand.tmp 63)], type := 84, pos := "law.go:58", after := #[{ on := 15, ground := Ground.data }, { on := 9, ground := Ground.guard }], guard := some (9, false) }) rfl (fun KK hK => ?_) AllReadyH.nil)
                · rw [if_pos (by rfl)]
                  refine wp_op_valueM (exec_buildM _ _ _ _ (by kernel_rfl) (buildM p e c (.slice xq xl.length xcap) co rfl _)) ?_
                  obtain ⟨wy, bS, ey, eb, hs⟩ := hs.allocEx #[.int .i64 p, .int .i64 e, .bool c, .slice xq xl.length xcap, .int .i64 co] 92
                  rw [ey, eb]
                  clear ey eb
                  refine hK.out _ _ (HKP.out _ _ _ (Know.has_refl _) hs.p1) (fun hHeld => ?_)
                  clear hK KK
                  try simp only [Act.put, List.setIfInBounds_toArray, List.set_cons_zero, List.set_cons_succ]
                  refine wpAnyH_ready (rs := [17]) (by kernel_rfl) (by simp) (AllReadyH.cons (o := { dst := some 65, op := Op.call { callee := Callee.value (Operand.func 54), args := #[Operand.tmp 64], argTypes := #[84] }, type := 88, pos := "law.go:58", after := #[{ on := 16, ground := Ground.data }, { on := 14, ground := Ground.chain }, { on := 9, ground := Ground.guard }], guard := some (9, false) }) rfl (fun KK hK => ?_) AllReadyH.nil)
                  · go_simp
                    go_at_call 54
                    with_reducible refine (law19_ofB p e c tl co xl xq xcap bS HFX.out HXK.out hs).mono ?_
                    rintro e wq ⟨q1, cap1, rfl, hs⟩
                    refine hK.out _ _ (HKP.out _ _ _ (Know.has_left (Know.has_refl _)) hs) (fun hHeld => ?_)
                    clear hK KK
                    try simp only [Act.put, List.setIfInBounds_toArray, List.set_cons_zero, List.set_cons_succ]
                    refine wpAnyH_ready (rs := [20]) (by kernel_rfl) (by simp) (AllReadyH.cons (o := { dst := some 68, op := Op.call { callee := Callee.value (Operand.func 54), args := #[Operand.tmp 67], argTypes := #[84] }, type := 88, pos := "law.go:58", after := #[{ on := 19, ground := Ground.data }, { on := 17, ground := Ground.chain }, { on := 9, ground := Ground.guard }], guard := some (9, false) }) rfl (fun KK hK => ?_) AllReadyH.nil)
                    · go_simp
                      go_at_call 54
                      with_reducible refine (law19_of1 p0 e0 c0 tl0 co0 xl0 xq0 xcap0 (some ⟨b0, off, none⟩) cap HFX0.out (Know.has_left HKF.out) hs).mono ?_
                      rintro e wq ⟨q2, cap2, rfl, hs⟩
                      refine hK.out _ _ (HKP.out _ _ _ (Know.has_left (Know.has_left (Know.has_refl _))) hs) (fun hHeld => ?_)
                      clear hK KK
                      try simp only [Act.put, List.setIfInBounds_toArray, List.set_cons_zero, List.set_cons_succ]
                      refine wpAnyH_ready (rs := [21]) (by kernel_rfl) (by simp) (AllReadyH.cons (o := { dst := some 69, op := Op.call { callee := Callee.value (Operand.func 58), args := #[Operand.tmp 65, Operand.tmp 68], argTypes := #[88, 88] }, type := 4, pos := "law.go:58", after := #[{ on := 17, ground := Ground.data }, { on := 20, ground := Ground.data }, { on := 20, ground := Ground.chain }, { on := 9, ground := Ground.guard }], guard := some (9, false) }) rfl (fun KK hK => ?_) AllReadyH.nil)
                      · go_simp
                        go_at_call 58
                        with_reducible refine (ref19_same1 p e c tl co xl xq xcap p0 e0 c0 tl0 co0 xl0 xq0 xcap0 q1 q2 cap1 cap2 _ HSM.out HFX.out HFX0.out (Know.has_left (Know.has_right (Know.has_refl _))) (Know.has_right (Know.has_refl _)) hs).mono ?_
                        rintro e wq ⟨rfl, hs⟩
                        refine hK.out _ _ (HKP.out _ _ _ (Know.has_left (Know.has_left (Know.has_refl _))) hs) (fun hHeld => ?_)
                        clear hK KK
                        try simp only [Act.put, List.setIfInBounds_toArray, List.set_cons_zero, List.set_cons_succ]
                        have hs := hs.know (Know.has_left (Know.has_left (Know.has_refl _)))
                        refine wpAnyH_take (i := 22) (oi := { dst := some 70, op := Op.binOp BinOp.neq 4 (Operand.tmp 62) (Operand.tmp 69) 4, type := 4, pos := "law.go:58", after := #[{ on := 14, ground := Ground.data }, { on := 21, ground := Ground.data }, { on := 9, ground := Ground.guard }], guard := some (9, false) }) (v := ?_) rfl (by kernel_rfl) (by kernel_rfl) (by kernel_rfl) (fun _ _ _ h => h) (Or.inl ⟨by rfl, ?_⟩) (by assumption) ?_
                        rotate_left
                        · intro w hSw; (try dsimp only at hSw); go_simp; try with_reducible rfl
                        simp only [Act.put, List.setIfInBounds_toArray, List.set_cons_zero, List.set_cons_succ]
                        refine wpAnyH_take (i := 23) (oi := { dst := some 71, op := Op.pick (Operand.tmp 57) (Operand.const (Value.bool true)) (Operand.tmp 70), type := 4, pos := "law.go:58", after := #[{ on := 9, ground := Ground.data }, { on := 22, ground := Ground.data }], guard := none }) (v := ?_) rfl (by kernel_rfl) (by kernel_rfl) (by kernel_rfl) (fun _ _ _ h => h) (Or.inl ⟨by rfl, ?_⟩) (by assumption) ?_
                        rotate_left
                        · intro w hSw; (try dsimp only at hSw); go_simp; try with_reducible rfl
                        simp only [Act.put, List.setIfInBounds_toArray, List.set_cons_zero, List.set_cons_succ]
                        refine wpAnyH_done (by kernel_rfl) ?_ _
                        go_wp2_with fail
                        go_roundw
                        case rel => exact ⟨k + 1, hlt, by go_num, hs.drop⟩
                        case measure => first | (simp [intOf]; done) | (simp [intOf]; omega)
              · rw [if_pos (by rfl)]
                refine wp_op_valueM (exec_buildM _ _ _ _ (by kernel_rfl) (buildM p e c (.slice xq xl.length xcap) co rfl _)) ?_
                obtain ⟨wy, bS, ey, eb, hs⟩ := hs.allocEx #[.int .i64 p, .int .i64 e, .bool c, .slice xq xl.length xcap, .int .i64 co] 92
                rw [ey, eb]
                clear ey eb
                refine hK.out _ _ (HKP.out _ _ _ (Know.has_refl _) hs.p1) (fun hHeld => ?_)
                clear hK KK
                try simp only [Act.put, List.setIfInBounds_toArray, List.set_cons_zero, List.set_cons_succ]
                refine wpAnyH_ready (rs := [14]) (by kernel_rfl) (by simp) (AllReadyH.cons (o := { dst := some 62, op := Op.call { callee := Callee.value (Operand.func 57), args := #[Operand.tmp 58, Operand.tmp 61], argTypes := #[92, 92] }, type := 4, pos := "law.go:58", after := #[{ on := 10, ground := Ground.data }, { on := 13, ground := Ground.data }, { on := 9, ground := Ground.chain }, { on := 9, ground := Ground.guard }], guard := some (9, false) }) rfl (fun KK hK => ?_) AllReadyH.nil)
                · go_simp
                  go_at_call 57
                  with_reducible refine (mark_same p e c xl xq xcap co tl HXL.out p0 e0 c0 xl0 xq0 xcap0 co0 tl0 HXL0.out _ HSM.out HLT.out HLT0.out HXK.out HXK0.out hs).mono ?_
                  rintro e wq ⟨rfl, hs⟩
                  refine hK.out _ _ (HKP.out _ _ _ (Know.has_refl _) hs.p1) (fun hHeld => ?_)
                  clear hK KK
                  try simp only [Act.put, List.setIfInBounds_toArray, List.set_cons_zero, List.set_cons_succ]
                  refine wpAnyH_ready (rs := [17]) (by kernel_rfl) (by simp) (AllReadyH.cons (o := { dst := some 65, op := Op.call { callee := Callee.value (Operand.func 54), args := #[Operand.tmp 64], argTypes := #[84] }, type := 88, pos := "law.go:58", after := #[{ on := 16, ground := Ground.data }, { on := 14, ground := Ground.chain }, { on := 9, ground := Ground.guard }], guard := some (9, false) }) rfl (fun KK hK => ?_) AllReadyH.nil)
                  · go_simp
                    go_at_call 54
                    with_reducible refine (law19_ofB p e c tl co xl xq xcap bS HFX.out HXK.out hs).mono ?_
                    rintro e wq ⟨q1, cap1, rfl, hs⟩
                    refine hK.out _ _ (HKP.out _ _ _ (Know.has_left (Know.has_refl _)) hs) (fun hHeld => ?_)
                    clear hK KK
                    try simp only [Act.put, List.setIfInBounds_toArray, List.set_cons_zero, List.set_cons_succ]
                    refine wpAnyH_ready (rs := [20]) (by kernel_rfl) (by simp) (AllReadyH.cons (o := { dst := some 68, op := Op.call { callee := Callee.value (Operand.func 54), args := #[Operand.tmp 67], argTypes := #[84] }, type := 88, pos := "law.go:58", after := #[{ on := 19, ground := Ground.data }, { on := 17, ground := Ground.chain }, { on := 9, ground := Ground.guard }], guard := some (9, false) }) rfl (fun KK hK => ?_) AllReadyH.nil)
                    · go_simp
                      go_at_call 54
                      with_reducible refine (law19_of1 p0 e0 c0 tl0 co0 xl0 xq0 xcap0 (some ⟨b0, off, none⟩) cap HFX0.out (Know.has_left HKF.out) hs).mono ?_
                      rintro e wq ⟨q2, cap2, rfl, hs⟩
                      refine hK.out _ _ (HKP.out _ _ _ (Know.has_left (Know.has_left (Know.has_refl _))) hs) (fun hHeld => ?_)
                      clear hK KK
                      try simp only [Act.put, List.setIfInBounds_toArray, List.set_cons_zero, List.set_cons_succ]
                      refine wpAnyH_ready (rs := [21]) (by kernel_rfl) (by simp) (AllReadyH.cons (o := { dst := some 69, op := Op.call { callee := Callee.value (Operand.func 58), args := #[Operand.tmp 65, Operand.tmp 68], argTypes := #[88, 88] }, type := 4, pos := "law.go:58", after := #[{ on := 17, ground := Ground.data }, { on := 20, ground := Ground.data }, { on := 20, ground := Ground.chain }, { on := 9, ground := Ground.guard }], guard := some (9, false) }) rfl (fun KK hK => ?_) AllReadyH.nil)
                      · go_simp
                        go_at_call 58
                        with_reducible refine (ref19_same1 p e c tl co xl xq xcap p0 e0 c0 tl0 co0 xl0 xq0 xcap0 q1 q2 cap1 cap2 _ HSM.out HFX.out HFX0.out (Know.has_left (Know.has_right (Know.has_refl _))) (Know.has_right (Know.has_refl _)) hs).mono ?_
                        rintro e wq ⟨rfl, hs⟩
                        refine hK.out _ _ (HKP.out _ _ _ (Know.has_left (Know.has_left (Know.has_refl _))) hs) (fun hHeld => ?_)
                        clear hK KK
                        try simp only [Act.put, List.setIfInBounds_toArray, List.set_cons_zero, List.set_cons_succ]
                        have hs := hs.know (Know.has_left (Know.has_left (Know.has_refl _)))
                        refine wpAnyH_take (i := 22) (oi := { dst := some 70, op := Op.binOp BinOp.neq 4 (Operand.tmp 62) (Operand.tmp 69) 4, type := 4, pos := "law.go:58", after := #[{ on := 14, ground := Ground.data }, { on := 21, ground := Ground.data }, { on := 9, ground := Ground.guard }], guard := some (9, false) }) (v := ?_) rfl (by kernel_rfl) (by kernel_rfl) (by kernel_rfl) (fun _ _ _ h => h) (Or.inl ⟨by rfl, ?_⟩) (by assumption) ?_
                        rotate_left
                        · intro w hSw; (try dsimp only at hSw); go_simp; try with_reducible rfl
                        simp only [Act.put, List.setIfInBounds_toArray, List.set_cons_zero, List.set_cons_succ]
                        refine wpAnyH_take (i := 23) (oi := { dst := some 71, op := Op.pick (Operand.tmp 57) (Operand.const (Value.bool true)) (Operand.tmp 70), type := 4, pos := "law.go:58", after := #[{ on := 9, ground := Ground.data }, { on := 22, ground := Ground.data }], guard := none }) (v := ?_) rfl (by kernel_rfl) (by kernel_rfl) (by kernel_rfl) (fun _ _ _ h => h) (Or.inl ⟨by rfl, ?_⟩) (by assumption) ?_
                        rotate_left
                        · intro w hSw; (try dsimp only at hSw); go_simp; try with_reducible rfl
                        simp only [Act.put, List.setIfInBounds_toArray, List.set_cons_zero, List.set_cons_succ]
                        refine wpAnyH_done (by kernel_rfl) ?_ _
                        go_wp2_with fail
                        go_roundw
                        case rel => exact ⟨k + 1, hlt, by go_num, hs.drop⟩
                        case measure => first | (simp [intOf]; done) | (simp [intOf]; omega)
      · rw [if_pos (by rfl)]
        refine wp_op_valueM (exec_buildM _ _ _ _ (by kernel_rfl) (buildM p e c (.slice xq xl.length xcap) co rfl _)) ?_
        obtain ⟨wy, bS, ey, eb, hs⟩ := hs.allocEx #[.int .i64 p, .int .i64 e, .bool c, .slice xq xl.length xcap, .int .i64 co] 92
        rw [ey, eb]
        clear ey eb
        refine hK.out _ _ (HKP.out _ _ _ (Know.has_refl _) hs.p1) (fun hHeld => ?_)
        clear hK KK
        try simp only [Act.put, List.setIfInBounds_toArray, List.set_cons_zero, List.set_cons_succ]
        refine wpAnyH_ready (rs := [2]) (by kernel_rfl) (by simp) (AllReadyH.cons (o := { dst := some 50, op := Op.call { callee := Callee.value (Operand.func 56), args := #[Operand.tmp 48, Operand.tmp 49], argTypes := #[92, 3] }, type := 27, pos := "law.go:58", after := #[{ on := 0, ground := Ground.data }, { on := 1, ground := Ground.data }], guard := none }) rfl (fun KK hK => ?_) AllReadyH.nil)
        · go_simp
          go_at_call 56
          with_reducible refine (mark_check1 v p e c xl xq xcap co _ HR1.out HXF.out HXK.out hs).mono ?_
          rintro e wq ⟨rfl, hs⟩
          refine hK.out _ _ (HKP.out _ _ _ (Know.has_refl _) hs.p1) (fun hHeld => ?_)
          clear hK KK
          try simp only [Act.put, List.setIfInBounds_toArray, List.set_cons_zero, List.set_cons_succ]
          refine wpAnyH_ready (rs := [5]) (by kernel_rfl) (by simp) (AllReadyH.cons (o := { dst := some 53, op := Op.call { callee := Callee.value (Operand.func 54), args := #[Operand.tmp 52], argTypes := #[84] }, type := 88, pos := "law.go:58", after := #[{ on := 4, ground := Ground.data }, { on := 2, ground := Ground.chain }], guard := none }) rfl (fun KK hK => ?_) AllReadyH.nil)
          · go_simp
            go_at_call 54
            with_reducible refine (law19_ofB p e c tl co xl xq xcap bS HFX.out HXK.out hs).mono ?_
            rintro e wq ⟨q1, cap1, rfl, hs⟩
            refine hK.out _ _ (HKP.out _ _ _ (Know.has_left (Know.has_refl _)) hs) (fun hHeld => ?_)
            clear hK KK
            try simp only [Act.put, List.setIfInBounds_toArray, List.set_cons_zero, List.set_cons_succ]
            refine wpAnyH_ready (rs := [7]) (by kernel_rfl) (by simp) (AllReadyH.cons (o := { dst := some 55, op := Op.call { callee := Callee.value (Operand.func 53), args := #[Operand.tmp 53, Operand.tmp 54], argTypes := #[88, 3] }, type := 3, pos := "law.go:58", after := #[{ on := 5, ground := Ground.data }, { on := 6, ground := Ground.data }, { on := 5, ground := Ground.chain }], guard := none }) rfl (fun KK hK => ?_) AllReadyH.nil)
            · go_simp
              go_at_call 53
              with_reducible refine (ref19_check1 v p e c tl co xl xq xcap q1 cap1 _ HR2.out HFX.out (Know.has_right (Know.has_refl _)) hs).mono ?_
              rintro e wq ⟨rfl, hs⟩
              refine hK.out _ _ (HKP.out _ _ _ (Know.has_left (Know.has_refl _)) hs) (fun hHeld => ?_)
              clear hK KK
              try simp only [Act.put, List.setIfInBounds_toArray, List.set_cons_zero, List.set_cons_succ]
              have hs := hs.know (Know.has_left (Know.has_refl _))
              refine wpAnyH_take (i := 8) (oi := { dst := some 56, op := Op.binOp BinOp.neq 3 (Operand.tmp 50) (Operand.tmp 55) 3, type := 4, pos := "law.go:58", after := #[{ on := 2, ground := Ground.data }, { on := 7, ground := Ground.data }], guard := none }) (v := ?_) rfl (by kernel_rfl) (by kernel_rfl) (by kernel_rfl) (fun _ _ _ h => h) (Or.inl ⟨by rfl, ?_⟩) (by assumption) ?_
              rotate_left
              · intro w hSw; (try dsimp only at hSw); go_simp; try with_reducible rfl
              simp only [Act.put, List.setIfInBounds_toArray, List.set_cons_zero, List.set_cons_succ]
              refine wpAnyH_take (i := 9) (oi := { dst := some 57, op := Op.move (Operand.tmp 56), type := 4, pos := "law.go:58", after := #[{ on := 8, ground := Ground.data }, { on := 7, ground := Ground.chain }], guard := none }) (v := ?_) rfl (by kernel_rfl) (by kernel_rfl) (by kernel_rfl) (fun _ _ _ h => h) (Or.inl ⟨by rfl, ?_⟩) (by assumption) ?_
              rotate_left
              · intro w hSw; (try dsimp only at hSw); go_simp; try with_reducible rfl
              simp only [Act.put, List.setIfInBounds_toArray, List.set_cons_zero, List.set_cons_succ]
              refine wpAnyH_take (i := 10) (oi := { dst := some 58, op := Op.load 92 (Operand.tmp 11), type := 92, pos := "law.go:58", after := #[{ on := 9, ground := Ground.guard }], guard := some (9, false) }) (v := ?_) rfl (by kernel_rfl) (by kernel_rfl) (by kernel_rfl) (fun _ _ _ h => h) (Or.inl ⟨by rfl, ?_⟩) (by assumption) ?_
              rotate_left
              · intro w hSw; (try dsimp only at hSw); go_simp; try with_reducible rfl
              simp only [Act.put, List.setIfInBounds_toArray, List.set_cons_zero, List.set_cons_succ]
              refine wpAnyH_take (i := 11) (oi := { dst := some 59, op := Op.move (Operand.tmp 0), type := 84, pos := "law.go:58", after := #[{ on := 9, ground := Ground.guard }], guard := some (9, false) }) (v := ?_) rfl (by kernel_rfl) (by kernel_rfl) (by kernel_rfl) (fun _ _ _ h => h) (Or.inl ⟨by rfl, ?_⟩) (by assumption) ?_
              rotate_left
              · intro w hSw; (try dsimp only at hSw); go_simp; try with_reducible rfl
              simp only [Act.put, List.setIfInBounds_toArray, List.set_cons_zero, List.set_cons_succ]
              refine wpAnyH_take (i := 12) (oi := { dst := some 60, op := Op.indexAddr 84 (Operand.tmp 59) (Operand.const (Value.int IntKind.i64 0)), type := 0, pos := "law.go:58", after := #[{ on := 11, ground := Ground.data }, { on := 9, ground := Ground.guard }], guard := some (9, false) }) (v := ?_) rfl (by kernel_rfl) (by kernel_rfl) (by kernel_rfl) (fun _ _ _ h => h) (Or.inl ⟨by rfl, ?_⟩) (by assumption) ?_
              rotate_left
              · intro w hSw; (try dsimp only at hSw); go_simp; try with_reducible rfl
              simp only [Act.put, List.setIfInBounds_toArray, List.set_cons_zero, List.set_cons_succ]
              refine wpAnyH_take (i := 13) (oi := { dst := some 61, op := Op.load 92 (Operand.tmp 60), type := 92, pos := "law.go:58", after := #[{ on := 12, ground := Ground.data }, { on := 9, ground := Ground.guard }], guard := some (9, false) }) (v := ?_) rfl (by kernel_rfl) (by kernel_rfl) (by kernel_rfl) (fun _ _ _ h => h) (Or.inl ⟨by rfl, ?_⟩) (by assumption) ?_
              rotate_left
              · intro w hSw; (try dsimp only at hSw); go_simp; try with_reducible rfl
              simp only [Act.put, List.setIfInBounds_toArray, List.set_cons_zero, List.set_cons_succ]
              refine wpAnyH_take (i := 15) (oi := { dst := some 63, op := Op.load 92 (Operand.tmp 11), type := 92, pos := "law.go:58", after := #[{ on := 9, ground := Ground.guard }], guard := some (9, false) }) (v := ?_) rfl (by kernel_rfl) (by kernel_rfl) (by kernel_rfl) (fun _ _ _ h => h) (Or.inl ⟨by rfl, ?_⟩) (by assumption) ?_
              rotate_left
              · intro w hSw; (try dsimp only at hSw); go_simp; try with_reducible rfl
              simp only [Act.put, List.setIfInBounds_toArray, List.set_cons_zero, List.set_cons_succ]
              refine wpAnyH_take (i := 18) (oi := { dst := some 66, op := Op.move (Operand.tmp 0), type := 84, pos := "law.go:58", after := #[{ on := 9, ground := Ground.guard }], guard := some (9, false) }) (v := ?_) rfl (by kernel_rfl) (by kernel_rfl) (by kernel_rfl) (fun _ _ _ h => h) (Or.inl ⟨by rfl, ?_⟩) (by assumption) ?_
              rotate_left
              · intro w hSw; (try dsimp only at hSw); go_simp; try with_reducible rfl
              simp only [Act.put, List.setIfInBounds_toArray, List.set_cons_zero, List.set_cons_succ]
              refine wpAnyH_take (i := 19) (oi := { dst := some 67, op := Op.slice 84 (Operand.tmp 66) none (some (Operand.const (Value.int IntKind.i64 1))) none, type := 84, pos := "law.go:58", after := #[{ on := 18, ground := Ground.data }, { on := 9, ground := Ground.guard }], guard := some (9, false) }) (v := ?_) rfl (by kernel_rfl) (by kernel_rfl) (by kernel_rfl) (fun _ _ _ h => h) (Or.inl ⟨by rfl, ?_⟩) (by assumption) ?_
              rotate_left
              · intro w hSw; (try dsimp only at hSw); go_simp; try with_reducible rfl
              simp only [Act.put, List.setIfInBounds_toArray, List.set_cons_zero, List.set_cons_succ]
              refine wpAnyH_ready (rs := [14, 16]) (by kernel_rfl) (by simp) (AllReadyH.cons (o := { dst := some 62, op := Op.call { callee := Callee.value (Operand.func 57), args := #[Operand.tmp 58, Operand.tmp 61], argTypes := #[92, 92] }, type := 4, pos := "law.go:58", after := #[{ on := 10, ground := Ground.data }, { on := 13, ground := Ground.data }, { on := 9, ground := Ground.chain }, { on := 9, ground := Ground.guard }], guard := some (9, false) }) rfl (fun KK hK => ?_) (AllReadyH.cons (o := { dst := some 64, op := Op.buildSlice 84 1 #[(0, Operand.tmp 63)], type := 84, pos := "law.go:58", after := #[{ on := 15, ground := Ground.data }, { on := 9, ground := Ground.guard }], guard := some (9, false) }) rfl (fun KK hK => ?_) AllReadyH.nil))
              · go_simp
                go_at_call 57
                with_reducible refine (mark_same p e c xl xq xcap co tl HXL.out p0 e0 c0 xl0 xq0 xcap0 co0 tl0 HXL0.out _ HSM.out HLT.out HLT0.out HXK.out HXK0.out hs).mono ?_
                rintro e wq ⟨rfl, hs⟩
                refine hK.out _ _ (HKP.out _ _ _ (Know.has_refl _) hs) (fun hHeld => ?_)
                clear hK KK
                try simp only [Act.put, List.setIfInBounds_toArray, List.set_cons_zero, List.set_cons_succ]
                refine wpAnyH_ready (rs := [16]) (by kernel_rfl) (by simp) (AllReadyH.cons (o := { dst := some 64, op := Op.buildSlice 84 1 #[(0, Operand.tmp 63)], type := 84, pos := "law.go:58", after := #[{ on := 15, ground := Ground.data }, { on := 9, ground := Ground.guard }], guard := some (9, false) }) rfl (fun KK hK => ?_) AllReadyH.nil)
                · rw [if_pos (by rfl)]
                  refine wp_op_valueM (exec_buildM _ _ _ _ (by kernel_rfl) (buildM p e c (.slice xq xl.length xcap) co rfl _)) ?_
                  obtain ⟨wy, bS, ey, eb, hs⟩ := hs.allocEx #[.int .i64 p, .int .i64 e, .bool c, .slice xq xl.length xcap, .int .i64 co] 92
                  rw [ey, eb]
                  clear ey eb
                  refine hK.out _ _ (HKP.out _ _ _ (Know.has_refl _) hs.p1) (fun hHeld => ?_)
                  clear hK KK
                  try simp only [Act.put, List.setIfInBounds_toArray, List.set_cons_zero, List.set_cons_succ]
                  refine wpAnyH_ready (rs := [17]) (by kernel_rfl) (by simp) (AllReadyH.cons (o := { dst := some 65, op := Op.call { callee := Callee.value (Operand.func 54), args := #[Operand.tmp 64], argTypes := #[84] }, type := 88, pos := "law.go:58", after := #[{ on := 16, ground := Ground.data }, { on := 14, ground := Ground.chain }, { on := 9, ground := Ground.guard }], guard := some (9, false) }) rfl (fun KK hK => ?_) AllReadyH.nil)
                  · go_simp
                    go_at_call 54
                    with_reducible refine (law19_ofB p e c tl co xl xq xcap bS HFX.out HXK.out hs).mono ?_
                    rintro e wq ⟨q1, cap1, rfl, hs⟩
                    refine hK.out _ _ (HKP.out _ _ _ (Know.has_left (Know.has_refl _)) hs) (fun hHeld => ?_)
                    clear hK KK
                    try simp only [Act.put, List.setIfInBounds_toArray, List.set_cons_zero, List.set_cons_succ]
                    refine wpAnyH_ready (rs := [20]) (by kernel_rfl) (by simp) (AllReadyH.cons (o := { dst := some 68, op := Op.call { callee := Callee.value (Operand.func 54), args := #[Operand.tmp 67], argTypes := #[84] }, type := 88, pos := "law.go:58", after := #[{ on := 19, ground := Ground.data }, { on := 17, ground := Ground.chain }, { on := 9, ground := Ground.guard }], guard := some (9, false) }) rfl (fun KK hK => ?_) AllReadyH.nil)
                    · go_simp
                      go_at_call 54
                      with_reducible refine (law19_of1 p0 e0 c0 tl0 co0 xl0 xq0 xcap0 (some ⟨b0, off, none⟩) cap HFX0.out (Know.has_left HKF.out) hs).mono ?_
                      rintro e wq ⟨q2, cap2, rfl, hs⟩
                      refine hK.out _ _ (HKP.out _ _ _ (Know.has_left (Know.has_left (Know.has_refl _))) hs) (fun hHeld => ?_)
                      clear hK KK
                      try simp only [Act.put, List.setIfInBounds_toArray, List.set_cons_zero, List.set_cons_succ]
                      refine wpAnyH_ready (rs := [21]) (by kernel_rfl) (by simp) (AllReadyH.cons (o := { dst := some 69, op := Op.call { callee := Callee.value (Operand.func 58), args := #[Operand.tmp 65, Operand.tmp 68], argTypes := #[88, 88] }, type := 4, pos := "law.go:58", after := #[{ on := 17, ground := Ground.data }, { on := 20, ground := Ground.data }, { on := 20, ground := Ground.chain }, { on := 9, ground := Ground.guard }], guard := some (9, false) }) rfl (fun KK hK => ?_) AllReadyH.nil)
                      · go_simp
                        go_at_call 58
                        with_reducible refine (ref19_same1 p e c tl co xl xq xcap p0 e0 c0 tl0 co0 xl0 xq0 xcap0 q1 q2 cap1 cap2 _ HSM.out HFX.out HFX0.out (Know.has_left (Know.has_right (Know.has_refl _))) (Know.has_right (Know.has_refl _)) hs).mono ?_
                        rintro e wq ⟨rfl, hs⟩
                        refine hK.out _ _ (HKP.out _ _ _ (Know.has_left (Know.has_left (Know.has_refl _))) hs) (fun hHeld => ?_)
                        clear hK KK
                        try simp only [Act.put, List.setIfInBounds_toArray, List.set_cons_zero, List.set_cons_succ]
                        have hs := hs.know (Know.has_left (Know.has_left (Know.has_refl _)))
                        refine wpAnyH_take (i := 22) (oi := { dst := some 70, op := Op.binOp BinOp.neq 4 (Operand.tmp 62) (Operand.tmp 69) 4, type := 4, pos := "law.go:58", after := #[{ on := 14, ground := Ground.data }, { on := 21, ground := Ground.data }, { on := 9, ground := Ground.guard }], guard := some (9, false) }) (v := ?_) rfl (by kernel_rfl) (by kernel_rfl) (by kernel_rfl) (fun _ _ _ h => h) (Or.inl ⟨by rfl, ?_⟩) (by assumption) ?_
                        rotate_left
                        · intro w hSw; (try dsimp only at hSw); go_simp; try with_reducible rfl
                        simp only [Act.put, List.setIfInBounds_toArray, List.set_cons_zero, List.set_cons_succ]
                        refine wpAnyH_take (i := 23) (oi := { dst := some 71, op := Op.pick (Operand.tmp 57) (Operand.const (Value.bool true)) (Operand.tmp 70), type := 4, pos := "law.go:58", after := #[{ on := 9, ground := Ground.data }, { on := 22, ground := Ground.data }], guard := none }) (v := ?_) rfl (by kernel_rfl) (by kernel_rfl) (by kernel_rfl) (fun _ _ _ h => h) (Or.inl ⟨by rfl, ?_⟩) (by assumption) ?_
                        rotate_left
                        · intro w hSw; (try dsimp only at hSw); go_simp; try with_reducible rfl
                        simp only [Act.put, List.setIfInBounds_toArray, List.set_cons_zero, List.set_cons_succ]
                        refine wpAnyH_done (by kernel_rfl) ?_ _
                        go_wp2_with fail
                        go_roundw
                        case rel => exact ⟨k + 1, hlt, by go_num, hs.drop⟩
                        case measure => first | (simp [intOf]; done) | (simp [intOf]; omega)
              · rw [if_pos (by rfl)]
                refine wp_op_valueM (exec_buildM _ _ _ _ (by kernel_rfl) (buildM p e c (.slice xq xl.length xcap) co rfl _)) ?_
                obtain ⟨wy, bS, ey, eb, hs⟩ := hs.allocEx #[.int .i64 p, .int .i64 e, .bool c, .slice xq xl.length xcap, .int .i64 co] 92
                rw [ey, eb]
                clear ey eb
                refine hK.out _ _ (HKP.out _ _ _ (Know.has_refl _) hs.p1) (fun hHeld => ?_)
                clear hK KK
                try simp only [Act.put, List.setIfInBounds_toArray, List.set_cons_zero, List.set_cons_succ]
                refine wpAnyH_ready (rs := [14]) (by kernel_rfl) (by simp) (AllReadyH.cons (o := { dst := some 62, op := Op.call { callee := Callee.value (Operand.func 57), args := #[Operand.tmp 58, Operand.tmp 61], argTypes := #[92, 92] }, type := 4, pos := "law.go:58", after := #[{ on := 10, ground := Ground.data }, { on := 13, ground := Ground.data }, { on := 9, ground := Ground.chain }, { on := 9, ground := Ground.guard }], guard := some (9, false) }) rfl (fun KK hK => ?_) AllReadyH.nil)
                · go_simp
                  go_at_call 57
                  with_reducible refine (mark_same p e c xl xq xcap co tl HXL.out p0 e0 c0 xl0 xq0 xcap0 co0 tl0 HXL0.out _ HSM.out HLT.out HLT0.out HXK.out HXK0.out hs).mono ?_
                  rintro e wq ⟨rfl, hs⟩
                  refine hK.out _ _ (HKP.out _ _ _ (Know.has_refl _) hs.p1) (fun hHeld => ?_)
                  clear hK KK
                  try simp only [Act.put, List.setIfInBounds_toArray, List.set_cons_zero, List.set_cons_succ]
                  refine wpAnyH_ready (rs := [17]) (by kernel_rfl) (by simp) (AllReadyH.cons (o := { dst := some 65, op := Op.call { callee := Callee.value (Operand.func 54), args := #[Operand.tmp 64], argTypes := #[84] }, type := 88, pos := "law.go:58", after := #[{ on := 16, ground := Ground.data }, { on := 14, ground := Ground.chain }, { on := 9, ground := Ground.guard }], guard := some (9, false) }) rfl (fun KK hK => ?_) AllReadyH.nil)
                  · go_simp
                    go_at_call 54
                    with_reducible refine (law19_ofB p e c tl co xl xq xcap bS HFX.out HXK.out hs).mono ?_
                    rintro e wq ⟨q1, cap1, rfl, hs⟩
                    refine hK.out _ _ (HKP.out _ _ _ (Know.has_left (Know.has_refl _)) hs) (fun hHeld => ?_)
                    clear hK KK
                    try simp only [Act.put, List.setIfInBounds_toArray, List.set_cons_zero, List.set_cons_succ]
                    refine wpAnyH_ready (rs := [20]) (by kernel_rfl) (by simp) (AllReadyH.cons (o := { dst := some 68, op := Op.call { callee := Callee.value (Operand.func 54), args := #[Operand.tmp 67], argTypes := #[84] }, type := 88, pos := "law.go:58", after := #[{ on := 19, ground := Ground.data }, { on := 17, ground := Ground.chain }, { on := 9, ground := Ground.guard }], guard := some (9, false) }) rfl (fun KK hK => ?_) AllReadyH.nil)
                    · go_simp
                      go_at_call 54
                      with_reducible refine (law19_of1 p0 e0 c0 tl0 co0 xl0 xq0 xcap0 (some ⟨b0, off, none⟩) cap HFX0.out (Know.has_left HKF.out) hs).mono ?_
                      rintro e wq ⟨q2, cap2, rfl, hs⟩
                      refine hK.out _ _ (HKP.out _ _ _ (Know.has_left (Know.has_left (Know.has_refl _))) hs) (fun hHeld => ?_)
                      clear hK KK
                      try simp only [Act.put, List.setIfInBounds_toArray, List.set_cons_zero, List.set_cons_succ]
                      refine wpAnyH_ready (rs := [21]) (by kernel_rfl) (by simp) (AllReadyH.cons (o := { dst := some 69, op := Op.call { callee := Callee.value (Operand.func 58), args := #[Operand.tmp 65, Operand.tmp 68], argTypes := #[88, 88] }, type := 4, pos := "law.go:58", after := #[{ on := 17, ground := Ground.data }, { on := 20, ground := Ground.data }, { on := 20, ground := Ground.chain }, { on := 9, ground := Ground.guard }], guard := some (9, false) }) rfl (fun KK hK => ?_) AllReadyH.nil)
                      · go_simp
                        go_at_call 58
                        with_reducible refine (ref19_same1 p e c tl co xl xq xcap p0 e0 c0 tl0 co0 xl0 xq0 xcap0 q1 q2 cap1 cap2 _ HSM.out HFX.out HFX0.out (Know.has_left (Know.has_right (Know.has_refl _))) (Know.has_right (Know.has_refl _)) hs).mono ?_
                        rintro e wq ⟨rfl, hs⟩
                        refine hK.out _ _ (HKP.out _ _ _ (Know.has_left (Know.has_left (Know.has_refl _))) hs) (fun hHeld => ?_)
                        clear hK KK
                        try simp only [Act.put, List.setIfInBounds_toArray, List.set_cons_zero, List.set_cons_succ]
                        have hs := hs.know (Know.has_left (Know.has_left (Know.has_refl _)))
                        refine wpAnyH_take (i := 22) (oi := { dst := some 70, op := Op.binOp BinOp.neq 4 (Operand.tmp 62) (Operand.tmp 69) 4, type := 4, pos := "law.go:58", after := #[{ on := 14, ground := Ground.data }, { on := 21, ground := Ground.data }, { on := 9, ground := Ground.guard }], guard := some (9, false) }) (v := ?_) rfl (by kernel_rfl) (by kernel_rfl) (by kernel_rfl) (fun _ _ _ h => h) (Or.inl ⟨by rfl, ?_⟩) (by assumption) ?_
                        rotate_left
                        · intro w hSw; (try dsimp only at hSw); go_simp; try with_reducible rfl
                        simp only [Act.put, List.setIfInBounds_toArray, List.set_cons_zero, List.set_cons_succ]
                        refine wpAnyH_take (i := 23) (oi := { dst := some 71, op := Op.pick (Operand.tmp 57) (Operand.const (Value.bool true)) (Operand.tmp 70), type := 4, pos := "law.go:58", after := #[{ on := 9, ground := Ground.data }, { on := 22, ground := Ground.data }], guard := none }) (v := ?_) rfl (by kernel_rfl) (by kernel_rfl) (by kernel_rfl) (fun _ _ _ h => h) (Or.inl ⟨by rfl, ?_⟩) (by assumption) ?_
                        rotate_left
                        · intro w hSw; (try dsimp only at hSw); go_simp; try with_reducible rfl
                        simp only [Act.put, List.setIfInBounds_toArray, List.set_cons_zero, List.set_cons_succ]
                        refine wpAnyH_done (by kernel_rfl) ?_ _
                        go_wp2_with fail
                        go_roundw
                        case rel => exact ⟨k + 1, hlt, by go_num, hs.drop⟩
                        case measure => first | (simp [intOf]; done) | (simp [intOf]; omega)
    · obtain rfl : k = l.length := by omega
      go_wp2_with (first
    | (go_at_call 24; (with_reducible refine (s_new S HSL.out H.out).mono ?_); rintro e_ wn ⟨bi, rfl, h⟩; replace H := Lib.hid h; clear h)
    | (go_at_call 60; (with_reducible refine (mark_readAll bi v _ _ _ HBK.out HML.out HMN.out H.out).mono ?_); rintro e_ wn ⟨q3, cap3, lr, rfl, hlr, hlf, h⟩; have HLR := Lib.hid hlr; have HLF := Lib.hid hlf; have HLRN := Lib.hid (show lr.length ≤ 1000000 by have h9 := congrArg List.length hlr; rw [List.length_map, List.length_map] at h9; have := HN.out; omega); clear hlr hlf; replace H := Lib.hid h; clear h)
    | (go_at_call 59; (with_reducible refine (ref19_write v l q1 cap1 S HS2.out HF.out HFIT.out HN20.out (Know.has_right (Know.has_refl _)) H.out).mono ?_); rintro e_ wn ⟨rfl, h⟩; have h := h.know (Know.has_left (Know.has_refl _)); replace H := Lib.hid h; clear h)
    | (go_at_call 58; (with_reducible refine (ref19_same lr l q4 q5 cap4 cap5 true (decide_eq_true HLR.out) HLF.out HF.out HLRN.out (Know.has_left (Know.has_right (Know.has_refl _))) (Know.has_right (Know.has_refl _)) H.out).mono ?_); rintro e_ wn ⟨rfl, h⟩; have h := h.know (Know.has_left (Know.has_left (Know.has_refl _))); replace H := Lib.hid h; clear h)
    | (go_at_call 34; (with_reducible refine (s_closeV bi _ 0 HCL.out H.out).mono ?_); rintro e_ wn ⟨rfl, h⟩; replace H := Lib.hid h; clear h)
    | (go_at_call 54; (with_reducible refine (law19_of l q cap HN.out HF.out HK.out H.out).mono ?_); rintro e_ wn ⟨v1, rfl, h⟩; obtain ⟨q1, cap1, rfl⟩ := marks_form (Know.has_right (Know.has_refl _)) h; replace H := Lib.hid h; clear h)
    | (go_at_call 54; (with_reducible refine (law19_of lr q3 cap3 HLRN.out HLF.out (Know.has_right (Know.has_refl _)) H.out).mono ?_); rintro e_ wn ⟨v1, rfl, h⟩; obtain ⟨q4, cap4, rfl⟩ := marks_form (Know.has_right (Know.has_refl _)) h; have h := h.know (K' := K.and (Know.marks (.slice q4 lr.length cap4) lr)) (Know.has_and (Know.has_left (Know.has_left (Know.has_refl _))) (Know.has_right (Know.has_refl _))); replace H := Lib.hid h; clear h)
    | (go_at_call 54; (with_reducible refine (law19_of l q cap HN.out HF.out (Know.has_left HK.out) H.out).mono ?_); rintro e_ wn ⟨v1, rfl, h⟩; obtain ⟨q5, cap5, rfl⟩ := marks_form (Know.has_right (Know.has_refl _)) h; replace H := Lib.hid h; clear h))
      go_ret
      exact ⟨rfl, H.out.below⟩

end Go.Proofs.Ytombolmicfjjpaa

/- Lists of cells. -/
namespace Go.Proofs.Ytombolmicfjjpaa
open Go.RowKit

theorem cells_u8 : Try.prog.cellsOf 5 = 1 := by kernel_rfl
theorem cells_int : Try.prog.cellsOf 3 = 1 := by kernel_rfl
theorem cells_str : Try.prog.cellsOf 9 = 1 := by kernel_rfl
theorem len2 {α : Type} {l : List α} (h : l.length = 2) : ∃ a b, l = [a, b] := by
  match l, h with
  | [a, b], _ => exact ⟨a, b, rfl⟩
theorem len3 {α : Type} {l : List α} (h : l.length = 3) : ∃ a b c, l = [a, b, c] := by
  match l, h with
  | [a, b, c], _ => exact ⟨a, b, c, rfl⟩
theorem len4 {α : Type} {l : List α} (h : l.length = 4) : ∃ a b c d, l = [a, b, c, d] := by
  match l, h with
  | [a, b, c, d], _ => exact ⟨a, b, c, d, rfl⟩

end Go.Proofs.Ytombolmicfjjpaa

/- What arguments are made of, with the reach of each part. -/
namespace Go.Proofs.Ytombolmicfjjpaa
open Go.RowKit
open Go.ChangeShapes Go.WideShapes Go.ChangeAt Go.Deep

/-- No part is beyond all reach. -/
def Light {H : Type} (t : TypeId) (d : DataW H) : Prop := ∀ k ∈ d.weights Try.prog t, k ≤ reachBytes
theorem reach_eq : reachBytes = 140737488351232 := rfl

section
variable {H : Type} {enc : TypeId × Value → H} {w : World} {spare : Nat → Bool} {held : Bool}

theorem light_arg {ts : List TypeId} {ds : List (DataW H)} (h : (DataW.weightsEach Try.prog ts ds).all (· ≤ reachBytes) = true) {j : Nat} {t : TypeId} {d : DataW H} (ht : ts[j]? = some t) (hd : ds[j]? = some d) : Light t d := by
  intro k hk
  have := List.all_eq_true.1 h k (DataW.weights_mem_each ht hd k hk)
  simpa using this

theorem opens_field {t : TypeId} {fs : Array Field} {n N : Nat} {cs : List Value} {y : DataW H × List MemPlace} (ht : Try.prog.underlying t = some (.struct fs)) (h : DataW.trod enc Try.prog w 0 spare held n t cs = some y) (hl : Light t y.1) (hN : ∀ x ∈ y.2, x.block < N) :
    cs.length = Try.prog.cellsOf t ∧ ∃ m, ∀ (i : Nat) (f : Field), fs[i]? = some f → ∃ z, DataW.trod enc Try.prog w 0 spare held m f.type ((cs.drop f.offset).take (Try.prog.cellsOf f.type)) = some z ∧ Light f.type z.1 ∧ ∀ x ∈ z.2, x.block < N := by
  obtain ⟨xs, m, _, rfl, hc, hxl, hg⟩ := DataW.trod_struct ht h
  refine ⟨hc, m, fun i f hf => ?_⟩
  have hi : i < fs.size := (Array.getElem?_eq_some_iff.1 hf).1
  have hx : xs[i]? = some (xs[i]'(by omega)) := List.getElem?_eq_getElem (by omega)
  refine ⟨_, (hg i f hf).trans hx, ?_, fun x hxx => hN x (List.mem_flatMap.2 ⟨_, List.getElem_mem _, hxx⟩)⟩
  intro k hk
  refine hl k ?_
  simp only [DataW.weights, ht]
  exact DataW.weights_mem_each (j := i) (by rw [List.getElem?_map, Array.getElem?_toList, hf]; rfl) (by rw [List.getElem?_map, hx]; rfl) k hk

theorem opens_str {t : TypeId} {n : Nat} {cs : List Value} {y : DataW H × List MemPlace} (ht : Try.prog.underlying t = some .string) (h : DataW.trod enc Try.prog w 0 spare held n t cs = some y) (hl : Light t y.1) : ∃ s : Bs, cs = [.string (bb s)] ∧ s.length ≤ 140737488351232 := by
  obtain ⟨s, e, e2, q⟩ := DataW.trod_string ht h
  refine ⟨s.data.toList, e, ?_⟩
  subst e2
  have := hl s.data.toList.length (by simp [DataW.weights])
  rw [reach_eq] at this
  exact this
theorem opens_i64 {t : TypeId} {n : Nat} {cs : List Value} {y : DataW H × List MemPlace} (ht : Try.prog.underlying t = some (.int .i64)) (h : DataW.trod enc Try.prog w 0 spare held n t cs = some y) : ∃ x : Int, cs = [.int .i64 x] ∧ -9223372036854775808 ≤ x ∧ x < 9223372036854775808 := by
  obtain ⟨x, e, _, q⟩ := DataW.trod_int ht h
  exact ⟨x, e, wf_i64 q⟩
theorem opens_bool {t : TypeId} {n : Nat} {cs : List Value} {y : DataW H × List MemPlace} (ht : Try.prog.underlying t = some .bool) (h : DataW.trod enc Try.prog w 0 spare held n t cs = some y) : ∃ x : Bool, cs = [.bool x] := by
  obtain ⟨x, e, _⟩ := DataW.trod_bool ht h
  exact ⟨x, e⟩

theorem weightsAll_mem' {P : Program} {e : TypeId} : ∀ {l : List (DataW H)} {d : DataW H}, d ∈ l → ∀ k ∈ d.weights P e, k ∈ DataW.weightsAll P e l
  | a :: l, d, hd, k, hk => by
    simp only [DataW.weightsAll, List.mem_append]
    rcases List.mem_cons.1 hd with rfl | hd
    · exact .inl hk
    · exact .inr (weightsAll_mem' hd k hk)

theorem opens_rows {α : Type} {R : World → List Value → α → Prop} {t e : TypeId} {sz N : Nat} (ht : Try.prog.underlying t = some (.slice e)) (hC : Try.prog.cellsOf e = sz) (hsz : 0 < sz)
    (hR : ∀ n cs y, DataW.trod enc Try.prog w 0 spare held n e cs = some y → Light e y.1 → (∀ x ∈ y.2, x.block < N) → ∃ x, R w cs x)
    {fuel : Nat} {cs : List Value} {x : DataW H × List MemPlace} (h : DataW.trod enc Try.prog w 0 spare held fuel t cs = some x) (hl : Light t x.1) (hlt : ∀ y ∈ x.2, y.block < N) (hN : N ≤ w.heap.size) :
    ∃ v l, cs = [v] ∧ RowsOf R (· < N) w v sz l ∧ l.length * Try.prog.bytesOf e ≤ 140737488351232 ∧ l.length ≤ maxLen := by
  rcases open_slice ht h with ⟨rfl, rfl⟩ | ⟨a, len, cap, m, n, D, Pl, rfl, hb, hlc, hm, hmm, hx, hi⟩
  · exact ⟨_, [], rfl, ⟨none, 0, rfl, fun h => absurd h (by simp)⟩, by simp, by simp⟩
  · have hlm : len ≤ m := by rw [hmm]; split <;> omega
    have hp2 : x.2 = MemPlace.row a (m * Try.prog.cellsOf e) ++ (List.range m).flatMap Pl := by rw [hx]
    have hx1 : x.1 = .slice ((List.range len).map D) ((List.range (m - len)).map fun j => D (len + j)) := by rw [hx]
    have hsum : len * Try.prog.bytesOf e ≤ 140737488351232 := by
      have := hl (((List.range len).map D).length * Try.prog.bytesOf e + ((List.range (m - len)).map fun j => D (len + j)).length * Try.prog.bytesOf e) (by rw [hx1]; simp [DataW.weights, ht, Nat.add_mul])
      rw [reach_eq] at this
      simp only [List.length_map, List.length_range] at this
      omega
    have hle : ∀ i, i < len → Light e (D i) := by
      intro i hil k hk
      refine hl k ?_
      rw [hx1]
      simp only [DataW.weights, ht, List.mem_cons, List.mem_append]
      exact .inr (.inl (weightsAll_mem' (List.mem_map.2 ⟨i, List.mem_range.2 hil, rfl⟩) k hk))
    have key : ∀ i, i < len → ∃ y : α, ∃ cs', cs'.length = sz ∧ R w cs' y ∧ (∀ f u, cs'[f]? = some u → w.cell? ((a.add (i * sz)).add f) = some u) := by
      intro i hil
      obtain ⟨cs', hc, htr⟩ := hi i (by omega)
      obtain ⟨_, hcl, hat⟩ := World.cells?_some hc
      obtain ⟨y, hy⟩ := hR n cs' _ htr (hle i hil) (fun z hz => hlt z (by rw [hp2, List.mem_append]; exact .inr (List.mem_flatMap.2 ⟨i, by simp; omega, hz⟩)))
      rw [hC] at hcl hat
      refine ⟨y, cs', hcl, hy, fun f u hu => ?_⟩
      have hf : f < sz := by rw [← hcl]; exact (List.getElem?_eq_some_iff.1 hu).1
      rw [hat f hf, hu]
    obtain ⟨l, hll, hq⟩ := list_of len _ key
    refine ⟨_, l, rfl, ⟨some a, cap, by rw [hll], fun h0 => ?_⟩, by rw [hll]; exact hsum, by omega⟩
    obtain ⟨cs0, h1, h2, h3⟩ := hq 0 h0
    have hc0 : w.cell? a = some (cs0[0]'(by omega)) := by
      have := h3 0 _ (List.getElem?_eq_getElem (by omega))
      simpa [Addr.add] using this
    have hsp : a.spot = none := by
      cases hs : a.spot with
      | none => rfl
      | some s =>
        unfold World.cell? at hc0
        split at hc0 <;> simp_all
    obtain ⟨ab, ao, asp⟩ := a
    simp only at hsp
    subst hsp
    have hlt0 : ab < N := hlt (.cell ab ao) (by
      rw [hp2, List.mem_append]
      left
      simp only [MemPlace.row, List.mem_map, List.mem_range]
      exact ⟨0, by rw [hC]; exact Nat.mul_pos (by omega) hsz, by simp⟩)
    refine ⟨ab, ao, rfl, hlt0, Nat.lt_of_lt_of_le hlt0 hN, fun i hi => ?_⟩
    obtain ⟨cs', g1, g2, g3⟩ := hq i hi
    refine ⟨cs', g1, g2, fun f u hu => ?_⟩
    have := g3 f u hu
    have e1 : ∀ (o q : Nat), (⟨ab, o, none⟩ : Addr).add q = ⟨ab, o + q, none⟩ := by intro o q; unfold Addr.add; split <;> simp_all
    rw [e1, e1, Nat.add_assoc] at this
    exact this
end

/-- Of a row's things, what is said of each, apart. -/
theorem RowsOf.part {α : Type} {R : World → List Value → α → Prop} {Q : α → Prop} {D : Nat → Prop} {w : World} {v : Value} {sz : Nat} {l : List α} (h : RowsOf (fun w cs x => R w cs x ∧ Q x) D w v sz l) : RowsOf R D w v sz l ∧ ∀ x ∈ l, Q x := by
  refine ⟨h.mono (fun _ _ h => h) (fun _ _ h => h.1), fun x hx => ?_⟩
  obtain ⟨i, hi, rfl⟩ := List.mem_iff_getElem.1 hx
  obtain ⟨p, cap, rfl, h⟩ := h
  obtain ⟨b, off, rfl, _, _, hc⟩ := h (by omega)
  obtain ⟨cs, _, h2, _⟩ := hc i hi
  exact h2.2

end Go.Proofs.Ytombolmicfjjpaa

/- The elements of arguments, opened, with their reach: numbers, and Blobs. -/
namespace Go.Proofs.Ytombolmicfjjpaa
open Go.RowKit
open Go.ChangeShapes Go.WideShapes Go.ChangeAt Go.Deep

theorem cells_blob : Try.prog.cellsOf 64 = 2 := by kernel_rfl
theorem cells_bool : Try.prog.cellsOf 4 = 1 := by kernel_rfl
section
variable {H : Type} {enc : TypeId × Value → H} {w : World} {spare : Nat → Bool} {held : Bool}
set_option maxRecDepth 100000 in
theorem blob_opens {N : Nat} : ∀ n cs y, DataW.trod enc Try.prog w 0 spare held n 64 cs = some y → Light 64 y.1 → (∀ x ∈ y.2, x.block < N) → ∃ x : BlobS, cs = [.bool x.null, .string (bb x.data)] ∧ x.data.length ≤ 140737488351232 := by
  intro n cs y h hl hN
  obtain ⟨hc, m, hf⟩ := opens_field Try.underlying64 h hl hN
  rw [cells_blob] at hc
  obtain ⟨a, b, rfl⟩ := len2 hc
  obtain ⟨z0, g0, l0, _⟩ := hf 0 _ rfl
  obtain ⟨z1, g1, l1, _⟩ := hf 1 _ rfl
  have g0 : DataW.trod enc Try.prog w 0 spare held m 4 (List.take (Try.prog.cellsOf 4) (List.drop 0 [a, b])) = some z0 := g0
  have g1 : DataW.trod enc Try.prog w 0 spare held m 9 (List.take (Try.prog.cellsOf 9) (List.drop 1 [a, b])) = some z1 := g1
  rw [cells_bool] at g0
  rw [cells_str] at g1
  obtain ⟨x, e0⟩ := opens_bool Try.underlying4 g0
  obtain ⟨s, e1, hs⟩ := opens_str Try.underlying9 g1 l1
  simp at e0 e1
  subst e0 e1
  exact ⟨⟨x, s⟩, rfl, hs⟩
theorem rb_opens {N : Nat} : ∀ n cs y, DataW.trod enc Try.prog w 0 spare held n 64 cs = some y → Light 64 y.1 → (∀ x ∈ y.2, x.block < N) → ∃ x : BlobS, RB cs x ∧ x.data.length ≤ 140737488351232 := blob_opens
theorem ri_opens {N : Nat} : ∀ n cs y, DataW.trod enc Try.prog w 0 spare held n 3 cs = some y → Light 3 y.1 → (∀ x ∈ y.2, x.block < N) → ∃ x : Int, RI cs x ∧ (-9223372036854775808 ≤ x ∧ x < 9223372036854775808) := fun n cs y h _ _ => opens_i64 Try.underlying3 h
end
end Go.Proofs.Ytombolmicfjjpaa

/- The elements of arguments, opened, with their reach: topics, and values. -/
namespace Go.Proofs.Ytombolmicfjjpaa
open Go.RowKit

open Go.ChangeShapes Go.WideShapes Go.ChangeAt Go.Deep

theorem cells_tops : Try.prog.cellsOf 22 = 1 := by kernel_rfl
theorem cells_top : Try.prog.cellsOf 51 = 2 := by kernel_rfl
theorem cells_ints : Try.prog.cellsOf 49 = 1 := by kernel_rfl
theorem cells_val : Try.prog.cellsOf 24 = 7 := by kernel_rfl
theorem bytes_int : Try.prog.bytesOf 3 = 8 := by kernel_rfl
/-- What is known of a topic that came in. -/
def QTop (W : World) (x : TopS × Value) : Prop := RowsOf (fun _ cs x => RI cs x) (· < W.heap.size) W x.2 1 x.1.parts ∧ x.1.name.length ≤ 140737488351232 ∧ x.1.parts.length ≤ 17592186043904 ∧ ∀ n ∈ x.1.parts, -9223372036854775808 ≤ n ∧ n < 9223372036854775808
/-- Topics that came in. -/
def FewI (l : List (TopS × Value)) : Prop := l.length ≤ 140737488351232 ∧ ∀ x ∈ l, x.1.name.length ≤ 140737488351232 ∧ x.1.parts.length ≤ 17592186043904 ∧ ∀ n ∈ x.1.parts, -9223372036854775808 ≤ n ∧ n < 9223372036854775808
theorem bytes_top : Try.prog.bytesOf 51 = 40 := by kernel_rfl
theorem QTop.few {W : World} {l : List (TopS × Value)} (hn : l.length * Try.prog.bytesOf 51 ≤ 140737488351232) (h : ∀ x ∈ l, QTop W x) : FewI l := ⟨by rw [bytes_top] at hn; omega, fun x hx => (h x hx).2⟩
theorem QTop.start {W : World} {v : Value} {l : List (TopS × Value)} (hr : RowsOf (fun _ cs x => RTop cs x) (· < W.heap.size) W v 2 l) (h : ∀ x ∈ l, QTop W x) : St W W (Know.tops v l) [] := St.start ⟨hr, fun x hx => (h x hx).1⟩
section
variable {H : Type} {enc : TypeId × Value → H} {w : World} {spare : Nat → Bool} {held : Bool}
set_option maxHeartbeats 1000000 in
set_option maxRecDepth 100000 in
theorem rtop_opens : ∀ n cs y, DataW.trod enc Try.prog w 0 spare held n 51 cs = some y → Light 51 y.1 → (∀ x ∈ y.2, x.block < w.heap.size) → ∃ x : TopS × Value, RTop cs x ∧ QTop w x := by
  intro n cs y hf hl hN
  have hNw : w.heap.size ≤ w.heap.size := Nat.le_refl _
  obtain ⟨hc, m, hg⟩ := opens_field Try.underlying51 hf hl hN
  rw [cells_top] at hc
  match cs, hc with
  | [c0, c1], _ =>
    obtain ⟨z0, g0, l0, n0⟩ := hg 0 _ rfl
    have g0 : DataW.trod enc Try.prog w 0 spare held m 9 (List.take (Try.prog.cellsOf 9) (List.drop 0 [c0, c1])) = some z0 := g0
    rw [cells_str] at g0
    obtain ⟨z1, g1, l1, n1⟩ := hg 1 _ rfl
    have g1 : DataW.trod enc Try.prog w 0 spare held m 49 (List.take (Try.prog.cellsOf 49) (List.drop 1 [c0, c1])) = some z1 := g1
    rw [cells_ints] at g1
    obtain ⟨x0, e0, s0⟩ := opens_str Try.underlying9 g0 l0
    obtain ⟨v1, x1, e1, hr, hm, _⟩ := opens_rows (R := fun w cs x => (fun _ cs x => RI cs x) w cs x ∧ (fun x : Int => -9223372036854775808 ≤ x ∧ x < 9223372036854775808) x) (N := w.heap.size) Try.underlying49 cells_int (by decide) ri_opens g1 l1 n1 hNw
    obtain ⟨hr1, hq⟩ := hr.part
    simp at e0 e1
    subst e0 e1
    rw [bytes_int] at hm
    have hm2 : x1.length ≤ 17592186043904 := by omega
    exact ⟨(⟨x0, x1⟩, _), rfl, hr1, s0, hm2, hq⟩
set_option maxHeartbeats 2000000 in
set_option maxRecDepth 100000 in
theorem val_opens : ∀ n cs y, DataW.trod enc Try.prog w 0 spare held n 24 cs = some y → Light 24 y.1 → (∀ x ∈ y.2, x.block < w.heap.size) →
    ∃ (p e t s u st : Int) (l : List (TopS × Value)) (rv : Value), cs = [.int .i64 p, .int .i64 e, .int .i64 t, .int .i64 s, rv, .int .i64 u, .int .i64 st] ∧
      ValS.R ⟨p, e, t, s, l.map (·.1), u, st⟩ ∧ RowsOf (fun _ cs x => RTop cs x) (· < w.heap.size) w rv 2 l ∧ l.length * Try.prog.bytesOf 51 ≤ 140737488351232 ∧ (∀ x ∈ l, QTop w x) := by
  intro n cs y hf hl hN
  obtain ⟨hc, m, hg⟩ := opens_field Try.underlying24 hf hl hN
  rw [cells_val] at hc
  match cs, hc with
  | [c0, c1, c2, c3, c4, c5, c6], _ =>
    obtain ⟨z0, g0, l0, n0⟩ := hg 0 _ rfl
    have g0 : DataW.trod enc Try.prog w 0 spare held m 3 (List.take (Try.prog.cellsOf 3) (List.drop 0 [c0, c1, c2, c3, c4, c5, c6])) = some z0 := g0
    rw [cells_int] at g0
    obtain ⟨z1, g1, l1, n1⟩ := hg 1 _ rfl
    have g1 : DataW.trod enc Try.prog w 0 spare held m 3 (List.take (Try.prog.cellsOf 3) (List.drop 1 [c0, c1, c2, c3, c4, c5, c6])) = some z1 := g1
    rw [cells_int] at g1
    obtain ⟨z2, g2, l2, n2⟩ := hg 2 _ rfl
    have g2 : DataW.trod enc Try.prog w 0 spare held m 3 (List.take (Try.prog.cellsOf 3) (List.drop 2 [c0, c1, c2, c3, c4, c5, c6])) = some z2 := g2
    rw [cells_int] at g2
    obtain ⟨z3, g3, l3, n3⟩ := hg 3 _ rfl
    have g3 : DataW.trod enc Try.prog w 0 spare held m 3 (List.take (Try.prog.cellsOf 3) (List.drop 3 [c0, c1, c2, c3, c4, c5, c6])) = some z3 := g3
    rw [cells_int] at g3
    obtain ⟨z4, g4, l4, n4⟩ := hg 4 _ rfl
    have g4 : DataW.trod enc Try.prog w 0 spare held m 22 (List.take (Try.prog.cellsOf 22) (List.drop 4 [c0, c1, c2, c3, c4, c5, c6])) = some z4 := g4
    rw [cells_tops] at g4
    obtain ⟨z5, g5, l5, n5⟩ := hg 5 _ rfl
    have g5 : DataW.trod enc Try.prog w 0 spare held m 3 (List.take (Try.prog.cellsOf 3) (List.drop 5 [c0, c1, c2, c3, c4, c5, c6])) = some z5 := g5
    rw [cells_int] at g5
    obtain ⟨z6, g6, l6, n6⟩ := hg 6 _ rfl
    have g6 : DataW.trod enc Try.prog w 0 spare held m 3 (List.take (Try.prog.cellsOf 3) (List.drop 6 [c0, c1, c2, c3, c4, c5, c6])) = some z6 := g6
    rw [cells_int] at g6
    obtain ⟨x0, e0, r0⟩ := opens_i64 Try.underlying3 g0
    obtain ⟨x1, e1, r1⟩ := opens_i64 Try.underlying3 g1
    obtain ⟨x2, e2, r2⟩ := opens_i64 Try.underlying3 g2
    obtain ⟨x3, e3, r3⟩ := opens_i64 Try.underlying3 g3
    obtain ⟨x5, e5, r5⟩ := opens_i64 Try.underlying3 g5
    obtain ⟨x6, e6, r6⟩ := opens_i64 Try.underlying3 g6
    obtain ⟨v4, x4, e4, hrq, hm4, _⟩ := opens_rows (R := fun w' cs x => (fun _ cs x => RTop cs x) w' cs x ∧ QTop w x) (N := w.heap.size) Try.underlying22 cells_top (by decide) rtop_opens g4 l4 n4 (Nat.le_refl _)
    obtain ⟨hr, hq⟩ := hrq.part
    simp at e0 e1 e2 e3 e4 e5 e6
    subst e0 e1 e2 e3 e4 e5 e6
    exact ⟨x0, x1, x2, x3, x5, x6, x4, _, rfl, ⟨r0, r1, r2, r3, r5, r6⟩, hr, hm4, hq⟩
set_option maxHeartbeats 2000000 in
set_option maxRecDepth 100000 in
theorem val_open {r : Reach} {b0 : Nat} {v : Value} {d : DataW H} {p : List MemPlace} (hv : Value.okWide Try.prog w r b0 24 v) (h : DataW.Trod enc Try.prog w 0 spare held 24 v d p) (hl : Light 24 d) (hN : ∀ x ∈ p, x.block < w.heap.size) :
    ∃ (p e t s u st : Int) (l : List (TopS × Value)) (q : Option Addr) (cap : Nat), v = .agg #[.int .i64 p, .int .i64 e, .int .i64 t, .int .i64 s, .slice q l.length cap, .int .i64 u, .int .i64 st] ∧
      ValS.R ⟨p, e, t, s, l.map (·.1), u, st⟩ ∧ FewI l ∧ St w w (Know.tops (.slice q l.length cap) l) [] := by
  obtain ⟨cs, rfl, hsz⟩ := okWide_struct Try.underlying24 hv
  obtain ⟨fuel, hf⟩ := h
  obtain ⟨p, e, t, s, u, st, l, rv, ec, hR, hr, hm, hq⟩ := val_opens _ _ _ hf hl hN
  obtain ⟨c⟩ := cs
  have ec : c = _ := ec
  subst ec
  obtain ⟨q, cap, hrv⟩ : ∃ q cap, rv = .slice q l.length cap := by obtain ⟨p, cap, hv, _⟩ := hr; exact ⟨p, cap, hv⟩
  subst hrv
  exact ⟨_, _, _, _, _, _, l, q, cap, rfl, hR, QTop.few hm hq, QTop.start hr hq⟩
end

end Go.Proofs.Ytombolmicfjjpaa

/- The elements of arguments, opened: marks. -/
namespace Go.Proofs.Ytombolmicfjjpaa
open Go.RowKit

open Go.ChangeShapes Go.WideShapes Go.ChangeAt Go.Deep

theorem cells_mark : Try.prog.cellsOf 92 = 5 := by kernel_rfl
theorem cells_boolM : Try.prog.cellsOf 4 = 1 := by kernel_rfl
theorem bytes_mark : Try.prog.bytesOf 92 = 56 := by kernel_rfl
/-- What is known of a mark that came in. -/
def QMark (W : World) (x : MarkR) : Prop := (RowsOf (fun _ cs x => RTop cs x) (· < W.heap.size) W (.slice x.q x.l.length x.cap) 2 x.l ∧ ∀ y ∈ x.l, QTop W y) ∧ x.l.map (·.1) = x.m.tops ∧ FewI x.l ∧ x.m.R
theorem QMark.start {W : World} {v : Value} {l : List MarkR} (hr : RowsOf (fun _ cs x => RMark cs x) (· < W.heap.size) W v 5 l) (h : ∀ x ∈ l, QMark W x) : St W W (Know.marks v l) [] := St.start ⟨hr, fun x hx => ⟨(h x hx).1.1, fun y hy => ((h x hx).1.2 y hy).1⟩⟩
section
variable {H : Type} {enc : TypeId × Value → H} {w : World} {spare : Nat → Bool} {held : Bool}
set_option maxHeartbeats 2000000 in
set_option maxRecDepth 100000 in
theorem rmark_opens : ∀ n cs y, DataW.trod enc Try.prog w 0 spare held n 92 cs = some y → Light 92 y.1 → (∀ x ∈ y.2, x.block < w.heap.size) → ∃ x : MarkR, RMark cs x ∧ QMark w x := by
  intro n cs y hf hl hN
  obtain ⟨hc, m, hg⟩ := opens_field Try.underlying92 hf hl hN
  rw [cells_mark] at hc
  match cs, hc with
  | [c0, c1, c2, c3, c4], _ =>
    obtain ⟨z0, g0, l0, n0⟩ := hg 0 _ rfl
    have g0 : DataW.trod enc Try.prog w 0 spare held m 3 (List.take (Try.prog.cellsOf 3) (List.drop 0 [c0, c1, c2, c3, c4])) = some z0 := g0
    rw [cells_int] at g0
    obtain ⟨z1, g1, l1, n1⟩ := hg 1 _ rfl
    have g1 : DataW.trod enc Try.prog w 0 spare held m 3 (List.take (Try.prog.cellsOf 3) (List.drop 1 [c0, c1, c2, c3, c4])) = some z1 := g1
    rw [cells_int] at g1
    obtain ⟨z2, g2, l2, n2⟩ := hg 2 _ rfl
    have g2 : DataW.trod enc Try.prog w 0 spare held m 4 (List.take (Try.prog.cellsOf 4) (List.drop 2 [c0, c1, c2, c3, c4])) = some z2 := g2
    rw [cells_boolM] at g2
    obtain ⟨z3, g3, l3, n3⟩ := hg 3 _ rfl
    have g3 : DataW.trod enc Try.prog w 0 spare held m 22 (List.take (Try.prog.cellsOf 22) (List.drop 3 [c0, c1, c2, c3, c4])) = some z3 := g3
    rw [cells_tops] at g3
    obtain ⟨z4, g4, l4, n4⟩ := hg 4 _ rfl
    have g4 : DataW.trod enc Try.prog w 0 spare held m 3 (List.take (Try.prog.cellsOf 3) (List.drop 4 [c0, c1, c2, c3, c4])) = some z4 := g4
    rw [cells_int] at g4
    obtain ⟨x0, e0, r0⟩ := opens_i64 Try.underlying3 g0
    obtain ⟨x1, e1, r1⟩ := opens_i64 Try.underlying3 g1
    obtain ⟨x2, e2⟩ := opens_bool Try.underlying4 g2
    obtain ⟨v3, x3, e3, hrq, hm3, _⟩ := opens_rows (R := fun w' cs x => (fun _ cs x => RTop cs x) w' cs x ∧ QTop w x) (N := w.heap.size) Try.underlying22 cells_top (by decide) rtop_opens g3 l3 n3 (Nat.le_refl _)
    obtain ⟨hr, hq⟩ := hrq.part
    obtain ⟨x4, e4, r4⟩ := opens_i64 Try.underlying3 g4
    simp at e0 e1 e2 e3 e4
    subst e0 e1 e2 e3 e4
    obtain ⟨q, cap, hrv⟩ : ∃ q cap, _ = Value.slice q x3.length cap := by obtain ⟨p, cap, hv, _⟩ := hr; exact ⟨p, cap, hv⟩
    subst hrv
    exact ⟨⟨⟨x0, x1, x2, x3.map (·.1), x4⟩, x3, q, cap⟩, rfl, ⟨hr, hq⟩, rfl, QTop.few hm3 hq, r0, r1, r4⟩
end

end Go.Proofs.Ytombolmicfjjpaa

/- MarkWrites. -/
namespace Go.Proofs.Ytombolmicfjjpaa
open Go.RowKit

theorem okWide_slice_cap {P : Program} {w : World} {r : Reach} {base : Nat} {t e : TypeId} {a : Option Addr} {len cap : Nat} (ht : P.underlying t = some (.slice e)) (h : Value.okWide P w r base t (.slice a len cap)) : len ≤ cap := by
  simp only [Value.okWide, ht, Cell.okWide] at h
  unfold Cell.ok at h
  simp only [ht] at h
  cases a with
  | none =>
    cases len with
    | zero => exact Nat.zero_le _
    | succ n => simp at h
  | some a => exact h.1
theorem encTs_len (l : List TopS) : (encTs l).length = 4 + topWs l := by
  have : ∀ m : List TopS, (m.flatMap encT).length = topWs m := by
    intro m
    induction m with
    | nil => rfl
    | cons x t ih => rw [List.flatMap_cons, List.length_append, ih, encT_len]; unfold topWs topW; rw [List.map_cons, List.sum_cons]; omega
  unfold encTs
  rw [List.length_append, beBytes_length, this]
theorem encM_short (v : Int) (m : MarkS) (h : topWs m.tops ≤ 1000) : (encM v m).length ≤ 2000 := by
  have h8 := beBytes_length m.prod (8 : Int).toNat
  have h2 := beBytes_length m.epoch (2 : Int).toNat
  have h4 := encTs_len m.tops
  have h1 := encO_len m.commit
  have h9 : (if v = 1 then beBytes m.coord (4 : Int).toNat else []).length ≤ 4 := by
    by_cases hv : v = 1
    · rw [if_pos hv, beBytes_length]; decide
    · rw [if_neg hv]; exact Nat.zero_le _
  unfold encM
  rw [List.length_append, List.length_append, List.length_append, List.length_append, h8, h2, h4, h1]
  show 8 + 2 + 1 + (4 + _) + _ ≤ 2000
  omega
set_option maxHeartbeats 2000000 in
set_option maxRecDepth 100000 in
theorem mw_few (l : List MarkR) (q : Option Addr) (cap : Nat) (m : Int) (hnl : l.length ≤ 140737488351232) (hw : fewMs (l.map MarkR.m) = 0) (hb : ∀ x ∈ l, x.l.map (·.1) = x.m.tops ∧ x.l.length ≤ 140737488351232 ∧ ∀ y ∈ x.l, y.1.name.length ≤ 140737488351232 ∧ y.1.parts.length ≤ 17592186043904) {W0 w : World} {K : Know} (hk : K.has (Know.marks (.slice q l.length cap) l)) (h : St W0 w K []) :
    Calls Try.prog 10 #[.slice q l.length cap, .int .u8 m] w fun en w' => en = .returned (.bool true) ∧ Below W0.heap.size W0 w' := by
  have H := Lib.hid h
  have HK := Lib.hid hk
  have HFB := Lib.hid hb
  have HFW := Lib.hid hw
  have HNL := Lib.hid hnl
  clear h hk hb hw hnl
  go_enter Try.func10, Try.ntmps10
  go_wp2_with (first
    | (go_at_call 50; (with_reducible refine (speaks19 H.out).mono ?_); rintro e_ wn ⟨rfl, h⟩; replace H := Lib.hid h; clear h)
    | (go_at_call 51; (with_reducible refine (law19_few l q cap HNL.out HFB.out _ HFW.out HK.out H.out).mono ?_); rintro e_ wn ⟨rfl, h⟩; replace H := Lib.hid h; clear h))
  go_ret
  exact ⟨rfl, H.out.below⟩
theorem fewMs_01 (l : List MarkS) : fewMs l = 0 ∨ fewMs l = 1 := by
  unfold fewMs
  by_cases h : 20 < l.length
  · exact .inl (if_pos h)
  · rw [if_neg h]
    induction l with
    | nil => exact .inr rfl
    | cons x t ih =>
      rw [fewG_cons]
      by_cases hx : few x.tops = 0
      · exact .inl (if_pos hx)
      · rw [if_neg hx]
        exact ih (by rw [List.length_cons] at h; omega)
theorem markWrites_any (l : List MarkR) (a : Option Addr) (e k : Nat) (m : Int) (W : World) (hm : 0 ≤ m ∧ m < 256) (hcap : e ≤ k) (hbl : l.length * Try.prog.bytesOf 92 ≤ 140737488351232) (hr : RowsOf (fun _ cs x => RMark cs x) (· < W.heap.size) W (.slice a e k) 5 l) (hq : ∀ x ∈ l, QMark W x) :
    Calls Try.prog 10 #[.slice a e k, .int .u8 m] W fun en w' => en = .returned (.bool true) ∧ Below W.heap.size W w' := by
  have h := QMark.start hr hq
  obtain ⟨q, cap, hv, _⟩ := hr
  simp at hv
  obtain ⟨rfl, rfl, rfl⟩ := hv
  have hk : (Know.marks (.slice a l.length k) l).has (Know.marks (.slice a l.length k) l) := Know.has_refl _
  obtain ⟨v, hv⟩ : ∃ v, m.tmod 2 = v := ⟨_, rfl⟩
  have hv01 : v = 0 ∨ v = 1 := by
    rw [← hv, Int.tmod_eq_emod_of_nonneg hm.1]
    omega
  rw [bytes_mark] at hbl
  have hb : ∀ x ∈ l, x.l.map (·.1) = x.m.tops ∧ x.l.length ≤ 140737488351232 ∧ ∀ y ∈ x.l, y.1.name.length ≤ 140737488351232 ∧ y.1.parts.length ≤ 17592186043904 := fun x hx => by
    obtain ⟨_, h1, h2, _⟩ := hq x hx
    exact ⟨h1, h2.1, fun y hy => ⟨(h2.2 y hy).1, (h2.2 y hy).2.1⟩⟩
  rcases fewMs_01 (l.map MarkR.m) with hw | hw
  · exact mw_few l a k m (by omega) hw hb hk h
  have hn : l.length ≤ 20 := by
    by_cases h20 : 20 < (l.map MarkR.m).length
    · unfold fewMs at hw
      rw [if_pos h20] at hw
      cases hw
    · rw [List.length_map] at h20; omega
  have hg : ∀ x ∈ l, topWs x.m.tops ≤ 1000 := by
    unfold fewMs at hw
    rw [if_neg (by rw [List.length_map]; omega)] at hw
    exact fun x hx => fewG_mem hw x.m (List.mem_map_of_mem hx)
  have hf : ∀ x ∈ l, x.Fit := fun x hx => by
    obtain ⟨_, h1, _, h3⟩ := hq x hx
    exact ⟨h1, few_T (by rw [h1]; exact hg x hx), h3⟩
  by_cases hE : marksErr v (l.map MarkR.m) = 0
  · refine mw_ok l a k m v hv hv01 hf hn hcap hw hb _ rfl hE (fun x hx => ?_) hk h
    have he := (marksErr_ok hE).2 x.m (List.mem_map_of_mem hx)
    have hri := riseE_ok (mErr_ok (show mErr v x.m.prod x.m.epoch x.m.tops x.m.coord = 0 from he)).2.2.2
    have h1 := fit_of_rise x.l (hf x hx).2.1 (by rw [(hf x hx).1]; exact hri)
    rw [(hf x hx).1] at h1
    exact ⟨h1, encM_short v x.m (hg x hx)⟩
  · exact mw_bad l a k m v hv hv01 hf hn hcap hw hb _ rfl hE hk h

end Go.Proofs.Ytombolmicfjjpaa

/- Any marks, in any version, their bytes are the document's, or why they may not be, and they are read as them: proved of all rows of marks. -/
namespace Go.Proofs.Ytombolmicfjjpaa
open Go.ChangeShapes Go.WideShapes Go.ChangeAt Go.ChangeMaps Go.RowKit

set_option maxRecDepth 100000 in
theorem markWrites_lifted (os : Os) (started : os.Started) (H : Type) (enc : TypeId × Value → H) :
    ReturnsInHanded {} Try.checked os 10 .any (Rows.markWritesSpec.pre6 enc Try.prog Try.f10 Rows.markWritesRow.domain false) (Rows.markWritesSpec.post enc Try.prog Try.f10 false true false false) := by
  refine returnsInHanded_of_change_sized (C := Try.checked) Try.own started (by as_aux_lemma => kernel_rfl) Try.func10
    (ChangeSpec.witness6 (enc := enc) (C := Try.checked) false ⟨#[], #[.slice none 0 0, .int .u8 0], []⟩ 8 (by as_aux_lemma => kernel_rfl) (by as_aux_lemma => kernel_rfl) (by as_aux_lemma => kernel_rfl) (by as_aux_lemma => kernel_rfl)) ?_
  intro W base args ds gs before hval0 hW hcnd hsz0 _
  have hval : ∀ (j : Nat) t v, Try.f10.params[j]? = some t → args[j]? = some v → Value.okWide Try.prog W .any base t v := hval0
  clear hval0
  refine law_contract (n := 2) (tb := 4) rfl rfl rfl Try.underlying4 (by intro ds h; match ds, h with | [d0, d1], _ => rfl) (by as_aux_lemma => kernel_rfl) hW ?_
  intro p hA0 hlt
  have hA : DataW.TrodAll enc Try.prog W 0 (fun _ => true) true Try.f10.params.toList args.toList ds p := hA0
  clear hA0
  rw [Try.params10] at hA hval
  obtain ⟨v0, v1, d0, d1, p0, p1, rfl, rfl, rfl, h0, h1⟩ := trodAll_two hA
  have hsz : (DataW.weightsEach Try.prog (Try.f10.params.toList ++ Rows.markWritesSpec.plain.varTypes Try.prog) ([d0, d1] ++ gs)).all (· ≤ reachBytes) = true := hsz0
  rw [Try.params10] at hsz
  obtain ⟨c0, e0, k0, rfl⟩ := okWide_slice Try.underlying84 (hval 0 84 v0 rfl rfl)
  have lg0 : Light 84 d0 := light_arg hsz (j := 0) rfl rfl
  obtain ⟨fuel0, hf0⟩ := h0
  obtain ⟨w0, l0, hw0, hrq0, hbl0, hl0⟩ := opens_rows (R := fun w cs x => (fun _ cs x => RMark cs x) w cs x ∧ QMark W x) (N := W.heap.size) Try.underlying84 cells_mark (by decide) rmark_opens hf0 lg0 (fun y hy => hlt y (by simp [hy])) (Nat.le_refl _)
  obtain ⟨hr0, hq0⟩ := hrq0.part
  obtain rfl : w0 = Value.slice c0 e0 k0 := by simpa [Value.cells] using hw0.symm
  have hcap0 := okWide_slice_cap Try.underlying84 (hval 0 84 _ rfl rfl)
  obtain ⟨a1, rfl, rfl, rfl, wa1⟩ := open_int Try.underlying5 (hval 1 5 v1 rfl rfl) h1
  have r1 := wf_u8 wa1
  exact markWrites_any l0 _ _ _ a1 W r1 hcap0 hbl0 hr0 hq0

theorem markWrites_holds : Rows.MarkWritesSaid :=
  OpenClaim.holds_of_wide 10 Try.f10 rfl rfl rfl rfl rfl rfl rfl ⟨rfl, rfl, rfl, rfl, rfl⟩ rfl rfl rfl rfl rfl (by as_aux_lemma => kernel_rfl) Try.func10 (by as_aux_lemma => kernel_rfl)
    (of_decide_eq_true (by as_aux_lemma => kernel_rfl)) (by as_aux_lemma => (unfold Func.isWrapper; rw [if_neg (by as_aux_lemma => decide +kernel)]; exact ⟨rfl, rfl⟩))
    (fun os started H enc _ => markWrites_lifted os started H enc)

end Go.Proofs.Ytombolmicfjjpaa
