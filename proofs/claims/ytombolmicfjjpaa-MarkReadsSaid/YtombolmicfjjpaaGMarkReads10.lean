/- Which request any bytes begin with, or why with none, is the document's, and they are its bytes: proved of every text, in both versions. -/
import Derived.Test.YtombolmicfjjpaaGMarkReads9
import Derived.Deep.RegionHeld3
import Derived.Deep.DeepCutAuto
import Derived.Test.YtombolmicfjjpaaArgs
/- MarkReads: bytes that are a request. -/
namespace Go.Proofs.Ytombolmicfjjpaa
open Go.RowKit

set_option maxHeartbeats 8000000 in
set_option maxRecDepth 100000 in
theorem mr_good (s : Bs) (m v : Int) (hl : s.length ≤ 2000) (hv : m.tmod 2 = v) (hv01 : v = 0 ∨ v = 1) (l : List MarkS) (j : InS) (hx : (⟨s, 0, 0⟩ : InS).marks v = (l, j)) (hml : ∀ m ∈ (InS.marksN v ((⟨s, 0, 0⟩ : InS).cnt 15).1 [] ((⟨s, 0, 0⟩ : InS).cnt 15).2).1, m.R ∧ FewL m.tops) (hmn : (InS.marksN v ((⟨s, 0, 0⟩ : InS).cnt 15).1 [] ((⟨s, 0, 0⟩ : InS).cnt 15).2).1.length ≤ 1000000) (many : Nat) (hr : marksR v s = (l, many, 0)) (hje : j.err = 0) (hln : l.length ≤ 200) (hjj : j = ⟨s, many, 0⟩) (hmany : many ≤ s.length) (hw : encMs v l = s.take many) (hfit : ∀ x ∈ l, FitTs x.tops ∧ (encM v x).length ≤ 2000) {W0 w : World} {K : Know} {L : List Res} (h : St W0 w K L) :
    Calls Try.prog 11 #[.string (bb s), .int .u8 m] w fun en w' => en = .returned (.bool true) ∧ Below W0.heap.size W0 w' := by
  have H := Lib.hid h
  have hli : ¬ 2000 < (s.length : Int) := by omega
  have HSL := Lib.hid (show s.length ≤ 140737488355328 by omega)
  have HSN := Lib.hid hl
  have hv1 : IntKind.u8.wrap v = v := by rcases hv01 with rfl | rfl <;> decide
  have hv2 : IntKind.i64.wrap v = v := by rcases hv01 with rfl | rfl <;> decide
  have HX := Lib.hid hx
  have HML := Lib.hid hml
  have HMN := Lib.hid hmn
  have HR := Lib.hid hr
  have HJE := Lib.hid hje
  have HLN := Lib.hid hln
  subst hjj
  have hmi : (many : Int) ≤ (s.length : Int) := by omega
  have gm : ((many : Int) == (many : Int)) = true := beq_self_eq_true _
  have gt : (s.take many == s.take many) = true := beq_self_eq_true _
  have HWW := Lib.hid hw
  have HFW := Lib.hid hfit
  clear h hl hv01 hx hml hmn hr hje hln hw hfit hmany
  go_enter Try.func11, Try.ntmps11
  go_upto_region 11 with (first
    | (go_at_call 50; (with_reducible refine (speaks19 H.out).mono ?_); rintro e_ wn ⟨rfl, h⟩; replace H := Lib.hid h; clear h)
    | (go_at_call 24; (with_reducible refine (s_new s HSL.out H.out).mono ?_); rintro e_ wn ⟨bi, rfl, h⟩; replace H := Lib.hid h; clear h)
    | (go_at_call 60; (with_reducible refine (mark_readAll bi v _ _ l HX.out HML.out HMN.out H.out).mono ?_); rintro e_ wn ⟨q, cap, lr, rfl, hlr, hlf, h⟩; have HLR := Lib.hid hlr; have HLF := Lib.hid hlf; have HLRN := Lib.hid (show lr.length ≤ 1000000 by have h9 := congrArg List.length hlr; rw [List.length_map] at h9; have := HLN.out; omega); clear hlr hlf; replace H := Lib.hid h; clear h)
    | (go_at_call 61; (with_reducible refine (ref19_read v s HSN.out l many _ HR.out H.out).mono ?_); rintro e_ wn ⟨q2, cap2, lr2, rfl, hlr2, hlf2, h⟩; have HLR2 := Lib.hid hlr2; have HLF2 := Lib.hid hlf2; have HLRN2 := Lib.hid (show lr2.length ≤ 1000000 by have h9 := congrArg List.length hlr2; rw [List.length_map] at h9; have := HLN.out; omega); clear hlr2 hlf2; replace H := Lib.hid h; clear h)
    | (go_at_call 27; (with_reducible refine (s_errQ bi s many H.out).mono ?_); rintro e_ wn ⟨rfl, h⟩; replace H := Lib.hid h; clear h)
    | (go_at_call 54; (with_reducible refine (law19_of lr q cap HLRN.out HLF.out (Know.has_left (Know.has_right (Know.has_refl _))) H.out).mono ?_); rintro e_ wn ⟨v1, rfl, h⟩; obtain ⟨q4, cap4, rfl⟩ := marks_form (Know.has_right (Know.has_refl _)) h; replace H := Lib.hid h; clear h)
    | (go_at_call 58; (with_reducible refine (ref19_same lr lr2 q4 q2 cap4 cap2 true (decide_eq_true (HLR.out.trans HLR2.out.symm)) HLF.out HLF2.out HLRN.out (Know.has_right (Know.has_refl _)) (Know.has_left (Know.has_right (Know.has_refl _))) H.out).mono ?_); rintro e_ wn ⟨rfl, h⟩; have h := h.know (Know.has_left (Know.has_refl _)); replace H := Lib.hid h; clear h))
  have HW := Lib.hid (show encMs v (lr.map MarkR.m) = s.take many by rw [HLR.out]; exact HWW.out)
  have HFIT := Lib.hid (show ∀ x ∈ lr, FitTs x.m.tops ∧ (encM v x.m).length ≤ 2000 from fun x hx => HFW.out x.m (by rw [← HLR.out]; exact List.mem_map_of_mem hx))
  have HLR20 := Lib.hid (show lr.length ≤ 200 by have h9 := congrArg List.length HLR.out; rw [List.length_map] at h9; have := HLN.out; omega)
  have hs := H.out.drew
  refine wp_region_held_drew (S := fun _ => True) (by kernel_rfl) trivial (fun hHeld => ?_)
  refine wpAnyH_take (i := 0) (oi := { dst := some 42, op := Op.move (Operand.tmp 10), type := 3, pos := "law.go:84", after := #[], guard := none }) (v := ?_) rfl (by kernel_rfl) (by kernel_rfl) (by kernel_rfl) (fun _ _ _ h => h) (Or.inl ⟨by rfl, ?_⟩) (by assumption) ?_
  rotate_left
  · intro w hSw; (try dsimp only at hSw); go_simp; try with_reducible rfl
  simp only [Act.put, List.setIfInBounds_toArray, List.set_cons_zero, List.set_cons_succ]
  refine wpAnyH_take (i := 1) (oi := { dst := some 43, op := Op.binOp BinOp.neq 3 (Operand.tmp 42) (Operand.const (Value.int IntKind.i64 0)) 3, type := 4, pos := "law.go:84", after := #[{ on := 0, ground := Ground.data }], guard := none }) (v := ?_) rfl (by kernel_rfl) (by kernel_rfl) (by kernel_rfl) (fun _ _ _ h => h) (Or.inl ⟨by rfl, ?_⟩) (by assumption) ?_
  rotate_left
  · intro w hSw; (try dsimp only at hSw); go_simp; try with_reducible rfl
  simp only [Act.put, List.setIfInBounds_toArray, List.set_cons_zero, List.set_cons_succ]
  refine wpAnyH_take (i := 2) (oi := { dst := some 44, op := Op.move (Operand.tmp 43), type := 4, pos := "law.go:84", after := #[{ on := 1, ground := Ground.data }], guard := none }) (v := ?_) rfl (by kernel_rfl) (by kernel_rfl) (by kernel_rfl) (fun _ _ _ h => h) (Or.inl ⟨by rfl, ?_⟩) (by assumption) ?_
  rotate_left
  · intro w hSw; (try dsimp only at hSw); go_simp; try with_reducible rfl
  simp only [Act.put, List.setIfInBounds_toArray, List.set_cons_zero, List.set_cons_succ]
  refine wpAnyH_take (i := 3) (oi := { dst := some 45, op := Op.move (Operand.tmp 6), type := 41, pos := "law.go:84", after := #[{ on := 2, ground := Ground.guard }], guard := some (2, false) }) (v := ?_) rfl (by kernel_rfl) (by kernel_rfl) (by kernel_rfl) (fun _ _ _ h => h) (Or.inl ⟨by rfl, ?_⟩) (by assumption) ?_
  rotate_left
  · intro w hSw; (try dsimp only at hSw); go_simp; try with_reducible rfl
  simp only [Act.put, List.setIfInBounds_toArray, List.set_cons_zero, List.set_cons_succ]
  refine wpAnyH_take (i := 5) (oi := { dst := some 47, op := Op.move (Operand.tmp 9), type := 3, pos := "law.go:84", after := #[{ on := 2, ground := Ground.guard }], guard := some (2, false) }) (v := ?_) rfl (by kernel_rfl) (by kernel_rfl) (by kernel_rfl) (fun _ _ _ h => h) (Or.inl ⟨by rfl, ?_⟩) (by assumption) ?_
  rotate_left
  · intro w hSw; (try dsimp only at hSw); go_simp; try with_reducible rfl
  simp only [Act.put, List.setIfInBounds_toArray, List.set_cons_zero, List.set_cons_succ]
  refine wpAnyH_ready (rs := [4]) (by kernel_rfl) (by simp) (AllReadyH.cons (o := { dst := some 46, op := Op.call { callee := Callee.value (Operand.func 29), args := #[Operand.tmp 45], argTypes := #[41] }, type := 3, pos := "law.go:84", after := #[{ on := 3, ground := Ground.data }, { on := 2, ground := Ground.chain }, { on := 2, ground := Ground.guard }], guard := some (2, false) }) rfl (fun KK hK => ?_) AllReadyH.nil)
  · go_simp
    go_at_call 29
    with_reducible refine (s_atQ bi s many hs).mono ?_
    rintro e wq ⟨rfl, hs⟩
    refine hK.out _ _ (trivial) (fun hHeld => ?_)
    clear hK KK
    try simp only [Act.put, List.setIfInBounds_toArray, List.set_cons_zero, List.set_cons_succ]
    refine wpAnyH_take (i := 6) (oi := { dst := some 48, op := Op.binOp BinOp.eql 3 (Operand.tmp 46) (Operand.tmp 47) 3, type := 4, pos := "law.go:84", after := #[{ on := 4, ground := Ground.data }, { on := 5, ground := Ground.data }, { on := 2, ground := Ground.guard }], guard := some (2, false) }) (v := ?_) rfl (by kernel_rfl) (by kernel_rfl) (by kernel_rfl) (fun _ _ _ h => h) (Or.inl ⟨by rfl, ?_⟩) (by assumption) ?_
    rotate_left
    · intro w hSw; (try dsimp only at hSw); go_simp; try with_reducible rfl
    simp only [Act.put, List.setIfInBounds_toArray, List.set_cons_zero, List.set_cons_succ]
    refine wpAnyH_take (i := 7) (oi := { dst := some 49, op := Op.move (Operand.tmp 48), type := 4, pos := "law.go:84", after := #[{ on := 6, ground := Ground.data }, { on := 4, ground := Ground.chain }, { on := 2, ground := Ground.guard }], guard := some (2, false) }) (v := ?_) rfl (by kernel_rfl) (by kernel_rfl) (by kernel_rfl) (fun _ _ _ h => h) (Or.inl ⟨by rfl, ?_⟩) (by assumption) ?_
    rotate_left
    · intro w hSw; (try dsimp only at hSw); go_simp; try with_reducible rfl
    simp only [Act.put, List.setIfInBounds_toArray, List.set_cons_zero, List.set_cons_succ]
    refine wpAnyH_take (i := 8) (oi := { dst := some 50, op := Op.move (Operand.tmp 7), type := 84, pos := "law.go:84", after := #[{ on := 7, ground := Ground.guard }], guard := some (7, true) }) (v := ?_) rfl (by kernel_rfl) (by kernel_rfl) (by kernel_rfl) (fun _ _ _ h => h) (Or.inl ⟨by rfl, ?_⟩) (by assumption) ?_
    rotate_left
    · intro w hSw; (try dsimp only at hSw); go_simp; try with_reducible rfl
    simp only [Act.put, List.setIfInBounds_toArray, List.set_cons_zero, List.set_cons_succ]
    refine wpAnyH_take (i := 10) (oi := { dst := some 52, op := Op.move (Operand.tmp 5), type := 3, pos := "law.go:84", after := #[{ on := 7, ground := Ground.guard }], guard := some (7, true) }) (v := ?_) rfl (by kernel_rfl) (by kernel_rfl) (by kernel_rfl) (fun _ _ _ h => h) (Or.inl ⟨by rfl, ?_⟩) (by assumption) ?_
    rotate_left
    · intro w hSw; (try dsimp only at hSw); go_simp; try with_reducible rfl
    simp only [Act.put, List.setIfInBounds_toArray, List.set_cons_zero, List.set_cons_succ]
    refine wpAnyH_take (i := 12) (oi := { dst := some 54, op := Op.move (Operand.tmp 0), type := 9, pos := "law.go:84", after := #[{ on := 7, ground := Ground.guard }], guard := some (7, true) }) (v := ?_) rfl (by kernel_rfl) (by kernel_rfl) (by kernel_rfl) (fun _ _ _ h => h) (Or.inl ⟨by rfl, ?_⟩) (by assumption) ?_
    rotate_left
    · intro w hSw; (try dsimp only at hSw); go_simp; try with_reducible rfl
    simp only [Act.put, List.setIfInBounds_toArray, List.set_cons_zero, List.set_cons_succ]
    refine wpAnyH_take (i := 13) (oi := { dst := some 55, op := Op.move (Operand.tmp 9), type := 3, pos := "law.go:84", after := #[{ on := 7, ground := Ground.guard }], guard := some (7, true) }) (v := ?_) rfl (by kernel_rfl) (by kernel_rfl) (by kernel_rfl) (fun _ _ _ h => h) (Or.inl ⟨by rfl, ?_⟩) (by assumption) ?_
    rotate_left
    · intro w hSw; (try dsimp only at hSw); go_simp; try with_reducible rfl
    simp only [Act.put, List.setIfInBounds_toArray, List.set_cons_zero, List.set_cons_succ]
    refine wpAnyH_take (i := 14) (oi := { dst := some 56, op := Op.slice 9 (Operand.tmp 54) none (some (Operand.tmp 55)) none, type := 9, pos := "law.go:84", after := #[{ on := 12, ground := Ground.data }, { on := 13, ground := Ground.data }, { on := 7, ground := Ground.guard }], guard := some (7, true) }) (v := ?_) rfl (by kernel_rfl) (by kernel_rfl) (by kernel_rfl) (fun _ _ _ h => h) (Or.inl ⟨by rfl, ?_⟩) (by assumption) ?_
    rotate_left
    · intro w hSw; (try dsimp only at hSw); go_simp; try with_reducible rfl
    simp only [Act.put, List.setIfInBounds_toArray, List.set_cons_zero, List.set_cons_succ]
    refine wpAnyH_ready (rs := [9]) (by kernel_rfl) (by simp) (AllReadyH.cons (o := { dst := some 51, op := Op.call { callee := Callee.value (Operand.func 54), args := #[Operand.tmp 50], argTypes := #[84] }, type := 88, pos := "law.go:84", after := #[{ on := 8, ground := Ground.data }, { on := 7, ground := Ground.chain }, { on := 7, ground := Ground.guard }], guard := some (7, true) }) rfl (fun KK hK => ?_) AllReadyH.nil)
    · go_simp
      go_at_call 54
      with_reducible refine (law19_of lr q cap HLRN.out HLF.out (Know.has_left (Know.has_right (Know.has_refl _))) hs).mono ?_
      rintro e wq ⟨v1, rfl, hs⟩
      obtain ⟨q5, cap5, rfl⟩ := marks_form (Know.has_right (Know.has_refl _)) hs
      refine hK.out _ _ (trivial) (fun hHeld => ?_)
      clear hK KK
      try simp only [Act.put, List.setIfInBounds_toArray, List.set_cons_zero, List.set_cons_succ]
      refine wpAnyH_ready (rs := [11]) (by kernel_rfl) (by simp) (AllReadyH.cons (o := { dst := some 53, op := Op.call { callee := Callee.value (Operand.func 59), args := #[Operand.tmp 51, Operand.tmp 52], argTypes := #[88, 3] }, type := 9, pos := "law.go:84", after := #[{ on := 9, ground := Ground.data }, { on := 10, ground := Ground.data }, { on := 9, ground := Ground.chain }, { on := 7, ground := Ground.guard }], guard := some (7, true) }) rfl (fun KK hK => ?_) AllReadyH.nil)
      · go_simp
        go_at_call 59
        with_reducible refine (ref19_writeL v lr q5 cap5 _ HW.out HLF.out HFIT.out HLR20.out (Know.has_right (Know.has_refl _)) hs).mono ?_
        rintro e wq ⟨rfl, hs⟩
        refine hK.out _ _ (trivial) (fun hHeld => ?_)
        clear hK KK
        try simp only [Act.put, List.setIfInBounds_toArray, List.set_cons_zero, List.set_cons_succ]
        refine wpAnyH_take (i := 15) (oi := { dst := some 57, op := Op.binOp BinOp.eql 9 (Operand.tmp 53) (Operand.tmp 56) 9, type := 4, pos := "law.go:84", after := #[{ on := 11, ground := Ground.data }, { on := 14, ground := Ground.data }, { on := 7, ground := Ground.guard }], guard := some (7, true) }) (v := ?_) rfl (by kernel_rfl) (by kernel_rfl) (by kernel_rfl) (fun _ _ _ h => h) (Or.inl ⟨by rfl, ?_⟩) (by assumption) ?_
        rotate_left
        · intro w hSw; (try dsimp only at hSw); go_simp; try with_reducible rfl
        simp only [Act.put, List.setIfInBounds_toArray, List.set_cons_zero, List.set_cons_succ]
        refine wpAnyH_take (i := 16) (oi := { dst := some 58, op := Op.pick (Operand.tmp 49) (Operand.tmp 57) (Operand.const (Value.bool false)), type := 4, pos := "law.go:84", after := #[{ on := 7, ground := Ground.data }, { on := 15, ground := Ground.data }, { on := 2, ground := Ground.guard }], guard := some (2, false) }) (v := ?_) rfl (by kernel_rfl) (by kernel_rfl) (by kernel_rfl) (fun _ _ _ h => h) (Or.inl ⟨by rfl, ?_⟩) (by assumption) ?_
        rotate_left
        · intro w hSw; (try dsimp only at hSw); go_simp; try with_reducible rfl
        simp only [Act.put, List.setIfInBounds_toArray, List.set_cons_zero, List.set_cons_succ]
        refine wpAnyH_take (i := 17) (oi := { dst := some 59, op := Op.pick (Operand.tmp 44) (Operand.const (Value.bool true)) (Operand.tmp 58), type := 4, pos := "law.go:84", after := #[{ on := 2, ground := Ground.data }, { on := 16, ground := Ground.data }], guard := none }) (v := ?_) rfl (by kernel_rfl) (by kernel_rfl) (by kernel_rfl) (fun _ _ _ h => h) (Or.inl ⟨by rfl, ?_⟩) (by assumption) ?_
        rotate_left
        · intro w hSw; (try dsimp only at hSw); go_simp; try with_reducible rfl
        simp only [Act.put, List.setIfInBounds_toArray, List.set_cons_zero, List.set_cons_succ]
        refine wpAnyH_take (i := 18) (oi := { dst := some 4, op := Op.assign (Operand.tmp 59), type := 4, pos := "law.go:84", after := #[{ on := 17, ground := Ground.data }, { on := 11, ground := Ground.chain }, { on := 0, ground := Ground.phase }, { on := 1, ground := Ground.phase }, { on := 2, ground := Ground.phase }, { on := 3, ground := Ground.phase }, { on := 4, ground := Ground.phase }, { on := 5, ground := Ground.phase }, { on := 6, ground := Ground.phase }, { on := 7, ground := Ground.phase }, { on := 8, ground := Ground.phase }, { on := 9, ground := Ground.phase }, { on := 10, ground := Ground.phase }, { on := 11, ground := Ground.phase }, { on := 12, ground := Ground.phase }, { on := 13, ground := Ground.phase }, { on := 14, ground := Ground.phase }, { on := 15, ground := Ground.phase }, { on := 16, ground := Ground.phase }, { on := 17, ground := Ground.phase }], guard := none }) (v := ?_) rfl (by kernel_rfl) (by kernel_rfl) (by kernel_rfl) (fun _ _ _ h => h) (Or.inl ⟨by rfl, ?_⟩) (by assumption) ?_
        rotate_left
        · intro w hSw; (try dsimp only at hSw); go_simp; try with_reducible rfl
        simp only [Act.put, List.setIfInBounds_toArray, List.set_cons_zero, List.set_cons_succ]
        refine wpAnyH_done (by kernel_rfl) ?_ _
        clear hHeld
        go_wp2_with fail
        go_ret
        exact ⟨rfl, hs.below⟩

end Go.Proofs.Ytombolmicfjjpaa

/- MarkReads. -/
namespace Go.Proofs.Ytombolmicfjjpaa
open Go.RowKit

theorem fitL_of_rise (l : List TopS) (hf : FewL l) (h : tRise l = true) : FitTs l := by
  have e : (l.map fun t => (t, undef)).map (fun x => x.1) = l := by
    rw [List.map_map]
    exact List.map_id' l
  have := fit_of_rise (l.map fun t => (t, undef)) (fewT_of (by rw [e]; exact hf)) (by rw [e]; exact h)
  rwa [e] at this
theorem markReads_any (s : Bs) (m : Int) (W : World) (hm : 0 ≤ m ∧ m < 256) (hs : s.length ≤ 9223372036854775807) :
    Calls Try.prog 11 #[.string (bb s), .int .u8 m] W fun en w' => en = .returned (.bool true) ∧ Below W.heap.size W w' := by
  have h : St W W Know.none [] := St.start trivial
  by_cases hl : s.length ≤ 2000
  rotate_left
  · exact mr_long s m 0 (by omega) h
  obtain ⟨v, hv⟩ : ∃ v, m.tmod 2 = v := ⟨_, rfl⟩
  have hv01 : v = 0 ∨ v = 1 := by
    rw [← hv, Int.tmod_eq_emod_of_nonneg hm.1]
    omega
  obtain ⟨l, j, many, e, h1, h2, h3, h4, h5, h6, h7⟩ := marks_both v s hl
  by_cases h0 : e = 0
  · subst h0
    obtain ⟨a1, a2, a3, a4, a5, a6⟩ := h7 rfl
    refine mr_good s m v hl hv hv01 l j h1 h4 h5 many h2 h3 a4 a1 a2 a3 (fun x hx => ⟨?_, ?_⟩) h
    · have he := (marksErr_ok a5).2 x hx
      have hri := riseE_ok (mErr_ok (show mErr v x.prod x.epoch x.tops x.coord = 0 from he)).2.2.2
      exact fitL_of_rise x.tops (a6 x hx).2 hri
    · have := encM_in v l x hx
      rw [a3, List.length_take] at this
      omega
  · obtain ⟨rfl, rfl⟩ := h6 h0
    exact mr_bad s m v hl hv hv01 [] j h1 h4 h5 0 e h2 h3 (Nat.zero_le _) h0 h

end Go.Proofs.Ytombolmicfjjpaa

/- Which request any bytes begin with, or why with none, is the document's, and they are its bytes: proved of every text, in both versions. -/
namespace Go.Proofs.Ytombolmicfjjpaa
open Go.ChangeShapes Go.WideShapes Go.ChangeAt Go.ChangeMaps Go.RowKit

set_option maxRecDepth 100000 in
theorem markReads_lifted (os : Os) (started : os.Started) (H : Type) (enc : TypeId × Value → H) :
    ReturnsInHanded {} Try.checked os 11 .any (Rows.markReadsSpec.pre6 enc Try.prog Try.f11 Rows.markReadsRow.domain false) (Rows.markReadsSpec.post enc Try.prog Try.f11 false true false false) := by
  refine returnsInHanded_of_change (C := Try.checked) Try.own started (by as_aux_lemma => kernel_rfl) Try.func11
    (ChangeSpec.witness6 (enc := enc) (C := Try.checked) false ⟨#[], #[.string ⟨#[]⟩, .int .u8 0], []⟩ 8 (by as_aux_lemma => kernel_rfl) (by as_aux_lemma => kernel_rfl) (by as_aux_lemma => kernel_rfl) (by as_aux_lemma => kernel_rfl)) ?_
  intro W base args ds gs before hval0 hW hcnd _
  have hval : ∀ (j : Nat) t v, Try.f11.params[j]? = some t → args[j]? = some v → Value.okWide Try.prog W .any base t v := hval0
  clear hval0
  refine law_contract (n := 2) (tb := 4) rfl rfl rfl Try.underlying4 (by intro ds h; match ds, h with | [d0, d1], _ => rfl) (by as_aux_lemma => kernel_rfl) hW ?_
  intro p hA0 hlt
  have hA : DataW.TrodAll enc Try.prog W 0 (fun _ => true) true Try.f11.params.toList args.toList ds p := hA0
  clear hA0
  rw [Try.params11] at hA hval
  obtain ⟨v0, v1, d0, d1, p0, p1, rfl, rfl, rfl, h0, h1⟩ := trodAll_two hA
  obtain ⟨s0, rfl, rfl, rfl, ws0⟩ := open_string Try.underlying9 (hval 0 9 v0 rfl rfl) h0
  obtain ⟨a1, rfl, rfl, rfl, wa1⟩ := open_int Try.underlying5 (hval 1 5 v1 rfl rfl) h1
  have r1 := wf_u8 wa1
  exact markReads_any s0.data.toList a1 W r1 ws0

theorem markReads_holds : Rows.MarkReadsSaid :=
  OpenClaim.holds_of_wide 11 Try.f11 rfl rfl rfl rfl rfl rfl rfl ⟨rfl, rfl, rfl, rfl, rfl⟩ rfl rfl rfl rfl rfl (by as_aux_lemma => kernel_rfl) Try.func11 (by as_aux_lemma => kernel_rfl)
    (of_decide_eq_true (by as_aux_lemma => kernel_rfl)) (by as_aux_lemma => (unfold Func.isWrapper; rw [if_neg (by as_aux_lemma => decide +kernel)]; exact ⟨rfl, rfl⟩))
    (fun os started H enc _ => markReads_lifted os started H enc)

end Go.Proofs.Ytombolmicfjjpaa
