/- Values, checked: the ways. -/
import Derived.Test.YtombolmicfjjpaaGMarkReads1
import Derived.Deep.RegionHeld3
import Derived.Deep.DeepCutAuto
/- Topics that rise, by definition. -/
namespace Go.Proofs.Ytombolmicfjjpaa
open Go.RowKit

set_option maxHeartbeats 2000000 in
set_option maxRecDepth 100000 in
theorem ref14_rise (l : List (TopS × Value)) (q : Option Addr) (cap : Nat) (r : Bool) (hr : tRise (l.map (·.1)) = r) (hf : FewT l) {W0 w : World} {K : Know} {L : List Res} (hk : K.has (Know.tops (.slice q l.length cap) l)) (h : St W0 w K L) :
    Calls Try.prog 45 #[.slice q l.length cap] w fun en w' => en = .returned (.bool r) ∧ St W0 w' K L := by
  have H := Lib.hid h
  have HK := Lib.hid hk
  have HR := Lib.hid (show allN l.length (tRef (l.map (·.1))) = r by rw [← hr, tRise_allN, List.length_map])
  have HF := Lib.hid hf
  have hni : (l.length : Int) ≤ 1000000 := by have := hf.1; omega
  clear h hk hr hf
  go_enter Try.func45, Try.ntmps45
  go_wp2
  go_loopw [3, 4, 5] (fun iv _ _ wr => ∃ i : Nat, i ≤ l.length ∧ iv = .int .i64 i ∧ Hid (∀ j, j < i → tRef (l.map (·.1)) j = true) ∧ St W0 wr K L) (fun iv _ _ _ => l.length - (intOf iv).toNat)
  case atStart => exact ⟨0, Nat.zero_le _, rfl, Lib.hid (fun j hj => by omega), H.out⟩
  case round =>
    obtain ⟨i, hil, rfl, HP, hst⟩ := hrel
    clear H
    have H := Lib.hid hst
    clear hst
    by_cases hlt : i < l.length
    · obtain ⟨b, off, hqq⟩ := tops_at HK.out H.out (by omega)
      subst hqq
      obtain ⟨⟨⟨nm, ps⟩, vx⟩, hx⟩ : ∃ x, l[i] = x := ⟨_, rfl⟩
      have hmem : ((⟨nm, ps⟩ : TopS), vx) ∈ l := hx ▸ List.getElem_mem hlt
      have hxk : K.has (Know.flat RI vx 1 ps) := tops_parts HK.out hmem
      obtain ⟨qx, capx, hvx⟩ := flat_form hxk H.out
      subst hvx
      have HCL := Lib.hid (show ∀ w', St W0 w' K L → w'.cell? ⟨b, off + i * 2, none⟩ = some (.string (bb nm)) ∧ w'.cell? ⟨b, off + i * 2 + 1, none⟩ = some (.slice qx ps.length capx) from fun w' hs => tops_cell HK.out hs i hlt _ hx)
      obtain ⟨c0, c1⟩ := HCL.out _ H.out
      have hfx : nm.length ≤ 140737488355328 ∧ ps.length ≤ 1000000 := HF.out.2 _ hmem
      have HNML := Lib.hid hfx.1
      have HPN := Lib.hid hfx.2
      have hkn : (i : Int) < (l.length : Int) := by omega
      have hi0 : (0 : Int) ≤ (i : Int) := by omega
      have hnl : (nm.length : Int) ≤ 140737488355328 := by omega
      have hgl : (l.map (·.1)).getD i ⟨[], []⟩ = ⟨nm, ps⟩ := by rw [List.getD_eq_getElem?_getD, List.getElem?_eq_getElem (by rw [List.length_map]; exact hlt), List.getElem_map, hx]; rfl
      have hbad : tRef (l.map (·.1)) i = false → r = false := fun h => by rw [← HR.out]; exact allN_false i hlt h
      have HBAD := Lib.hid (show tOk ⟨nm, ps⟩ = false → r = false from fun h => hbad (by unfold tRef; rw [hgl, h, Bool.false_and]))
      have HXK0 := Lib.hid hxk
      have hgln : ((l.map (·.1)).map (·.name)).getD i [] = nm := by rw [List.map_map, List.getD_eq_getElem?_getD, List.getElem?_eq_getElem (by rw [List.length_map]; exact hlt), List.getElem_map]; show (l[i]).1.name = nm; rw [hx]
      by_cases hn1 : nm.length < 1
      · as_aux_lemma =>
        obtain rfl : nm = [] := List.length_eq_zero_iff.1 (by omega)
        have hr2 : r = false := HBAD.out rfl
        subst hr2
        clear hx hmem hxk hfx hgl hbad hgln
        go_wp2
        go_ret
        exact ⟨rfl, H.out⟩
      · have hn2 : ¬ (nm.length : Int) < 1 := by omega
        have HIE := Lib.hid (show nm.isEmpty = false by cases nm with
          | nil => exact absurd (by decide) hn1
          | cons _ _ => rfl)
        by_cases hln : nm.length ≤ 32767
        · have HLN := Lib.hid hln
          have hl2 : (nm.length : Int) ≤ 32767 := by omega
          have hl3 : decide ((32767 : Int) < (nm.length : Int)) = false := decide_eq_false (by omega)
          by_cases hp0 : ps = []
          · as_aux_lemma =>
            subst hp0
            have hr2 : r = false := HBAD.out (by unfold tOk; rw [pRise_nil, Bool.and_false])
            subst hr2
            clear hx hmem hxk hfx hgl hbad hgln
            go_wp2
            go_ret
            exact ⟨rfl, H.out⟩
          · have hpl : 0 < ps.length := List.length_pos_iff.2 hp0
            have HPNE := Lib.hid hp0
            obtain ⟨pb, poff, hpq⟩ := flat_at HXK0.out H.out hpl
            subst hpq
            have HXK := Lib.hid HXK0.out
            have hpl1 : ¬ (ps.length : Int) < 1 := by omega
            obtain ⟨j0, hj0⟩ : ∃ j, i - 1 = j := ⟨_, rfl⟩
            by_cases hz : i = 0
            · as_aux_lemma =>
              have hiz : ¬ 0 < i := by omega
              have hiz2 : decide (0 < i) = false := decide_eq_false hiz
              have HGOOD := Lib.hid (show tOk ⟨nm, ps⟩ = true → tRef (l.map (·.1)) i = true from fun h => by unfold tRef upS; rw [hgl, h, hz]; rfl)
              clear hx hmem hxk hfx hgl hbad hgln hp0 hz hj0
              go_wp2
              have hs := H.out.drew
              refine wp_region_held_drew (S := fun w' => w'.cell? ⟨b, off + i * 2, none⟩ = some (.string (bb nm))) (by kernel_rfl) ((HCL.out _ hs).1) (fun hHeld => ?_)
              refine wpAnyH_take (i := 0) (oi := { dst := some 37, op := Op.move (Operand.tmp 3), type := 3, pos := "ref.go:26", after := #[], guard := none }) (v := ?_) rfl (by kernel_rfl) (by kernel_rfl) (by kernel_rfl) (fun _ _ _ h => h) (Or.inl ⟨by rfl, ?_⟩) (by assumption) ?_
              rotate_left
              · intro w hSw; (try dsimp only at hSw); go_simp; try with_reducible rfl
              simp only [Act.put, List.setIfInBounds_toArray, List.set_cons_zero, List.set_cons_succ]
              refine wpAnyH_take (i := 1) (oi := { dst := some 38, op := Op.binOp BinOp.gtr 3 (Operand.tmp 37) (Operand.const (Value.int IntKind.i64 0)) 3, type := 4, pos := "ref.go:26", after := #[{ on := 0, ground := Ground.data }], guard := none }) (v := ?_) rfl (by kernel_rfl) (by kernel_rfl) (by kernel_rfl) (fun _ _ _ h => h) (Or.inl ⟨by rfl, ?_⟩) (by assumption) ?_
              rotate_left
              · intro w hSw; (try dsimp only at hSw); go_simp; try with_reducible rfl
              simp only [Act.put, List.setIfInBounds_toArray, List.set_cons_zero, List.set_cons_succ]
              refine wpAnyH_take (i := 2) (oi := { dst := some 39, op := Op.move (Operand.tmp 38), type := 4, pos := "ref.go:26", after := #[{ on := 1, ground := Ground.data }], guard := none }) (v := ?_) rfl (by kernel_rfl) (by kernel_rfl) (by kernel_rfl) (fun _ _ _ h => h) (Or.inl ⟨by rfl, ?_⟩) (by assumption) ?_
              rotate_left
              · intro w hSw; (try dsimp only at hSw); go_simp; try with_reducible rfl
              simp only [Act.put, List.setIfInBounds_toArray, List.set_cons_zero, List.set_cons_succ]
              refine wpAnyH_take (i := 3) (oi := { dst := some 40, op := Op.move (Operand.tmp 0), type := 22, pos := "ref.go:26", after := #[{ on := 2, ground := Ground.guard }], guard := some (2, true) }) (v := undef) rfl (by kernel_rfl) (by kernel_rfl) (by kernel_rfl) (fun _ _ _ h => h) (Or.inr ⟨by rfl, rfl⟩) (by assumption) ?_
              simp only [Act.put, List.setIfInBounds_toArray, List.set_cons_zero, List.set_cons_succ]
              refine wpAnyH_take (i := 4) (oi := { dst := some 41, op := Op.move (Operand.tmp 3), type := 3, pos := "ref.go:26", after := #[{ on := 2, ground := Ground.guard }], guard := some (2, true) }) (v := undef) rfl (by kernel_rfl) (by kernel_rfl) (by kernel_rfl) (fun _ _ _ h => h) (Or.inr ⟨by rfl, rfl⟩) (by assumption) ?_
              simp only [Act.put, List.setIfInBounds_toArray, List.set_cons_zero, List.set_cons_succ]
              refine wpAnyH_take (i := 5) (oi := { dst := some 42, op := Op.binOp BinOp.sub 3 (Operand.tmp 41) (Operand.const (Value.int IntKind.i64 1)) 3, type := 3, pos := "ref.go:26", after := #[{ on := 4, ground := Ground.data }, { on := 2, ground := Ground.guard }], guard := some (2, true) }) (v := undef) rfl (by kernel_rfl) (by kernel_rfl) (by kernel_rfl) (fun _ _ _ h => h) (Or.inr ⟨by rfl, rfl⟩) (by assumption) ?_
              simp only [Act.put, List.setIfInBounds_toArray, List.set_cons_zero, List.set_cons_succ]
              refine wpAnyH_take (i := 6) (oi := { dst := some 43, op := Op.indexAddr 22 (Operand.tmp 40) (Operand.tmp 42), type := 0, pos := "ref.go:26", after := #[{ on := 3, ground := Ground.data }, { on := 5, ground := Ground.data }, { on := 2, ground := Ground.guard }], guard := some (2, true) }) (v := undef) rfl (by kernel_rfl) (by kernel_rfl) (by kernel_rfl) (fun _ _ _ h => h) (Or.inr ⟨by rfl, rfl⟩) (by assumption) ?_
              simp only [Act.put, List.setIfInBounds_toArray, List.set_cons_zero, List.set_cons_succ]
              refine wpAnyH_take (i := 7) (oi := { dst := some 44, op := Op.fieldAddr 51 (Operand.tmp 43) 0, type := 0, pos := "ref.go:26", after := #[{ on := 6, ground := Ground.data }, { on := 2, ground := Ground.guard }], guard := some (2, true) }) (v := undef) rfl (by kernel_rfl) (by kernel_rfl) (by kernel_rfl) (fun _ _ _ h => h) (Or.inr ⟨by rfl, rfl⟩) (by assumption) ?_
              simp only [Act.put, List.setIfInBounds_toArray, List.set_cons_zero, List.set_cons_succ]
              refine wpAnyH_take (i := 8) (oi := { dst := some 45, op := Op.load 9 (Operand.tmp 44), type := 9, pos := "ref.go:26", after := #[{ on := 7, ground := Ground.data }, { on := 2, ground := Ground.guard }], guard := some (2, true) }) (v := undef) rfl (by kernel_rfl) (by kernel_rfl) (by kernel_rfl) (fun _ _ _ h => h) (Or.inr ⟨by rfl, rfl⟩) (by assumption) ?_
              simp only [Act.put, List.setIfInBounds_toArray, List.set_cons_zero, List.set_cons_succ]
              refine wpAnyH_take (i := 9) (oi := { dst := some 46, op := Op.move (Operand.tmp 0), type := 22, pos := "ref.go:26", after := #[{ on := 2, ground := Ground.guard }], guard := some (2, true) }) (v := undef) rfl (by kernel_rfl) (by kernel_rfl) (by kernel_rfl) (fun _ _ _ h => h) (Or.inr ⟨by rfl, rfl⟩) (by assumption) ?_
              simp only [Act.put, List.setIfInBounds_toArray, List.set_cons_zero, List.set_cons_succ]
              refine wpAnyH_take (i := 10) (oi := { dst := some 47, op := Op.move (Operand.tmp 3), type := 3, pos := "ref.go:26", after := #[{ on := 2, ground := Ground.guard }], guard := some (2, true) }) (v := undef) rfl (by kernel_rfl) (by kernel_rfl) (by kernel_rfl) (fun _ _ _ h => h) (Or.inr ⟨by rfl, rfl⟩) (by assumption) ?_
              simp only [Act.put, List.setIfInBounds_toArray, List.set_cons_zero, List.set_cons_succ]
              refine wpAnyH_take (i := 11) (oi := { dst := some 48, op := Op.indexAddr 22 (Operand.tmp 46) (Operand.tmp 47), type := 0, pos := "ref.go:26", after := #[{ on := 9, ground := Ground.data }, { on := 10, ground := Ground.data }, { on := 2, ground := Ground.guard }], guard := some (2, true) }) (v := undef) rfl (by kernel_rfl) (by kernel_rfl) (by kernel_rfl) (fun _ _ _ h => h) (Or.inr ⟨by rfl, rfl⟩) (by assumption) ?_
              simp only [Act.put, List.setIfInBounds_toArray, List.set_cons_zero, List.set_cons_succ]
              refine wpAnyH_take (i := 12) (oi := { dst := some 49, op := Op.fieldAddr 51 (Operand.tmp 48) 0, type := 0, pos := "ref.go:26", after := #[{ on := 11, ground := Ground.data }, { on := 2, ground := Ground.guard }], guard := some (2, true) }) (v := undef) rfl (by kernel_rfl) (by kernel_rfl) (by kernel_rfl) (fun _ _ _ h => h) (Or.inr ⟨by rfl, rfl⟩) (by assumption) ?_
              simp only [Act.put, List.setIfInBounds_toArray, List.set_cons_zero, List.set_cons_succ]
              refine wpAnyH_take (i := 13) (oi := { dst := some 50, op := Op.load 9 (Operand.tmp 49), type := 9, pos := "ref.go:26", after := #[{ on := 12, ground := Ground.data }, { on := 2, ground := Ground.guard }], guard := some (2, true) }) (v := undef) rfl (by kernel_rfl) (by kernel_rfl) (by kernel_rfl) (fun _ _ _ h => h) (Or.inr ⟨by rfl, rfl⟩) (by assumption) ?_
              simp only [Act.put, List.setIfInBounds_toArray, List.set_cons_zero, List.set_cons_succ]
              refine wpAnyH_take (i := 14) (oi := { dst := some 51, op := Op.call { callee := Callee.value (Operand.func 101), args := #[Operand.tmp 45, Operand.tmp 50], argTypes := #[9, 9] }, type := 4, pos := "ref.go:26", after := #[{ on := 8, ground := Ground.data }, { on := 13, ground := Ground.data }, { on := 2, ground := Ground.chain }, { on := 2, ground := Ground.guard }], guard := some (2, true) }) (v := undef) rfl (by kernel_rfl) (by kernel_rfl) (by kernel_rfl) (fun _ _ _ h => h) (Or.inr ⟨by rfl, rfl⟩) (by assumption) ?_
              simp only [Act.put, List.setIfInBounds_toArray, List.set_cons_zero, List.set_cons_succ]
              refine wpAnyH_take (i := 15) (oi := { dst := some 52, op := Op.unOp UnOp.not 4 (Operand.tmp 51), type := 4, pos := "ref.go:26", after := #[{ on := 14, ground := Ground.data }, { on := 2, ground := Ground.guard }], guard := some (2, true) }) (v := undef) rfl (by kernel_rfl) (by kernel_rfl) (by kernel_rfl) (fun _ _ _ h => h) (Or.inr ⟨by rfl, rfl⟩) (by assumption) ?_
              simp only [Act.put, List.setIfInBounds_toArray, List.set_cons_zero, List.set_cons_succ]
              refine wpAnyH_take (i := 16) (oi := { dst := some 53, op := Op.pick (Operand.tmp 39) (Operand.tmp 52) (Operand.const (Value.bool false)), type := 4, pos := "ref.go:26", after := #[{ on := 2, ground := Ground.data }, { on := 15, ground := Ground.data }], guard := none }) (v := ?_) rfl (by kernel_rfl) (by kernel_rfl) (by kernel_rfl) (fun _ _ _ h => h) (Or.inl ⟨by rfl, ?_⟩) (by assumption) ?_
              rotate_left
              · intro w hSw; (try dsimp only at hSw); go_simp; try with_reducible rfl
              simp only [Act.put, List.setIfInBounds_toArray, List.set_cons_zero, List.set_cons_succ]
              refine wpAnyH_done (by kernel_rfl) ?_ _
              go_wp2_with fail
              clear H
              have H := Lib.hid hs
              clear hs
              go_loopw [4, 5] (fun kv _ wr => ∃ k : Nat, k ≤ ps.length ∧ kv = .int .i64 k ∧ Hid (∀ j, j < k → pk ps j = true) ∧ St W0 wr K L) (fun kv _ _ => ps.length - (intOf kv).toNat)
              case atStart => exact ⟨0, Nat.zero_le _, rfl, Lib.hid (fun j hj => by omega), H.out⟩
              case round =>
                obtain ⟨k, hkl, rfl, HQ, hst⟩ := hrel
                clear H
                have H := Lib.hid hst
                clear hst
                obtain ⟨c0, c1⟩ : _ ∧ _ := HCL.out _ H.out
                by_cases hlk : k < ps.length
                · obtain ⟨j, hj⟩ : ∃ j, k - 1 = j := ⟨_, rfl⟩
                  have d0 := int_cell HXK.out H.out k hlk
                  have d1 := int_cell HXK.out H.out j (by omega)
                  obtain ⟨x, hx⟩ : ∃ x, ps.getD k 0 = x := ⟨_, rfl⟩
                  obtain ⟨y, hy⟩ : ∃ y, ps.getD j 0 = y := ⟨_, rfl⟩
                  have hpk : pk ps k = (decide (0 ≤ x ∧ x ≤ 2147483647) && (k == 0 || decide (y < x))) := by
                    unfold pk upI
                    rw [hj, hx, hy]
                  rw [hx] at d0
                  rw [hy] at d1
                  have hkp : (k : Int) < (ps.length : Int) := by omega
                  have hk0 : (0 : Int) ≤ (k : Int) := by omega
                  have HPK := Lib.hid hpk
                  have hfalse : pk ps k = false → r = false := fun h => HBAD.out (by
                    unfold tOk
                    rw [pRise_pk ps HPNE.out, allN_false k hlk h, Bool.and_false])
                  have HF2 := Lib.hid hfalse
                  clear hx hy hpk hfalse
                  have hpl2 : (ps.length : Int) ≤ 1000000 := by have := HPN.out; omega
                  by_cases b1 : x < 0
                  · have hr2 : r = false := HF2.out (by rw [HPK.out, decide_eq_false (by omega), Bool.false_and])
                    subst hr2
                    go_wp2
                    go_ret
                    exact ⟨rfl, H.out⟩
                  · by_cases b2 : 2147483647 < x
                    · have hr2 : r = false := HF2.out (by rw [HPK.out, decide_eq_false (by omega), Bool.false_and])
                      subst hr2
                      go_wp2
                      go_ret
                      exact ⟨rfl, H.out⟩
                    · by_cases b3 : k = 0
                      · have b4 : ¬ 0 < k := by omega
                        have b4d : decide (0 < k) = false := decide_eq_false b4
                        have HN := Lib.hid (show pk ps k = true by rw [HPK.out, decide_eq_true ⟨by omega, by omega⟩, b3]; rfl)
                        clear d1 b3 hj
                        go_wp2
                        go_roundw
                        case rel => exact ⟨k + 1, hlk, by go_num, Lib.hid (fun i hi => by
                          by_cases hik : i = k
                          · rw [hik]; exact HN.out
                          · exact HQ.out i (by omega)), H.out⟩
                        case measure => first | (simp [intOf]; done) | (simp [intOf]; omega)
                      · have b4 : 0 < k := by omega
                        have b4d : decide (0 < k) = true := decide_eq_true b4
                        have e1 : wrap64 ((k : Int) - 1) = (j : Int) := by unfold wrap64; omega
                        have e2 : IntKind.i64.wrap ((k : Int) - 1) = (j : Int) := by rw [show (k : Int) - 1 = (j : Int) by omega]; exact IntWalk.i64_in _ (by omega)
                        have hjl : (j : Int) < (ps.length : Int) := by omega
                        have hk1 : (k == 0) = false := by rw [beq_eq_false_iff_ne]; exact b3
                        by_cases b5 : x ≤ y
                        · have hr2 : r = false := HF2.out (by rw [HPK.out, hk1, decide_eq_false (show ¬ y < x by omega)]; simp)
                          subst hr2
                          clear hk1 hj
                          go_wp2
                          go_ret
                          exact ⟨rfl, H.out⟩
                        · have HN := Lib.hid (show pk ps k = true by rw [HPK.out, hk1, decide_eq_true (show y < x by omega), decide_eq_true ⟨by omega, by omega⟩]; rfl)
                          clear hk1 hj
                          go_wp2
                          go_roundw
                          case rel => exact ⟨k + 1, hlk, by go_num, Lib.hid (fun i hi => by
                            by_cases hik : i = k
                            · rw [hik]; exact HN.out
                            · exact HQ.out i (by omega)), H.out⟩
                          case measure => first | (simp [intOf]; done) | (simp [intOf]; omega)
                · obtain rfl : k = ps.length := by omega
                  have HOK := Lib.hid (show tRef (l.map (·.1)) i = true from HGOOD.out (by
                    unfold tOk
                    rw [pRise_pk ps HPNE.out, allN_true HQ.out, HIE.out, decide_eq_true HLN.out]
                    rfl))
                  go_wp2
                  go_roundw
                  case rel => exact ⟨i + 1, hlt, by go_num, Lib.hid (fun j hj => by
                    by_cases hji : j = i
                    · rw [hji]; exact HOK.out
                    · exact HP.out j (by omega)), H.out⟩
                  case measure => first | (simp [intOf]; done) | (simp [intOf]; omega)
            · obtain ⟨pm, hpm⟩ : ∃ pm, ((l.map (·.1)).map (·.name)).getD j0 [] = pm := ⟨_, rfl⟩
              have hjl : j0 < l.length := by omega
              have hjx : l[j0].1.name = pm := by rw [← hpm, List.map_map, List.getD_eq_getElem?_getD, List.getElem?_eq_getElem (by rw [List.length_map]; exact hjl), List.getElem_map]; rfl
              have HPML := Lib.hid (show pm.length ≤ 140737488355328 by rw [← hjx]; exact (HF.out.2 _ (List.getElem_mem hjl)).1)
              have HPC := Lib.hid (show ∀ w', St W0 w' K L → w'.cell? ⟨b, off + j0 * 2, none⟩ = some (.string (bb pm)) from fun w' hs => by
                have := (tops_cell HK.out hs j0 hjl _ rfl).1
                rw [hjx] at this
                exact this)
              have hiz : 0 < i := by omega
              have hiz2 : decide (0 < i) = true := decide_eq_true hiz
              have e1 : wrap64 ((i : Int) - 1) = (j0 : Int) := by unfold wrap64; omega
              have e2 : IntKind.i64.wrap ((i : Int) - 1) = (j0 : Int) := by rw [show (i : Int) - 1 = (j0 : Int) by omega]; exact IntWalk.i64_in _ (by omega)
              have hj0l : (j0 : Int) < (l.length : Int) := by omega
              have hj00 : (0 : Int) ≤ (j0 : Int) := by omega
              obtain ⟨lb, hlb⟩ : ∃ lb, Op.bytesLess pm nm = lb := ⟨_, rfl⟩
              have HLB := Lib.hid hlb
              have hups : upS ((l.map (·.1)).map (·.name)) i = lb := by
                unfold upS
                have : (i == 0) = false := by rw [beq_eq_false_iff_ne]; exact hz
                rw [this, hj0, hpm, hgln, hlb, Bool.false_or]
              have hkeep : ∀ w', St W0 w' K L → w'.cell? ⟨b, off + i * 2, none⟩ = some (.string (bb nm)) ∧ w'.cell? ⟨b, off + j0 * 2, none⟩ = some (.string (bb pm)) := fun w' hs => ⟨(HCL.out _ hs).1, HPC.out _ hs⟩
              have HKP := Lib.hid hkeep
              cases lb with
              | false =>
                as_aux_lemma =>
                have hr2 : r = false := hbad (by unfold tRef; rw [hups, Bool.and_false])
                subst hr2
                clear hx hmem hxk hfx hgl hbad hgln hp0 hpm hjx hlb hups hkeep hj0
                go_wp2
                have hs := H.out.drew
                refine wp_region_held_drew (S := fun w' => w'.cell? ⟨b, off + i * 2, none⟩ = some (.string (bb nm)) ∧ w'.cell? ⟨b, off + j0 * 2, none⟩ = some (.string (bb pm))) (by kernel_rfl) (HKP.out _ hs) (fun hHeld => ?_)
                refine wpAnyH_take (i := 0) (oi := { dst := some 37, op := Op.move (Operand.tmp 3), type := 3, pos := "ref.go:26", after := #[], guard := none }) (v := ?_) rfl (by kernel_rfl) (by kernel_rfl) (by kernel_rfl) (fun _ _ _ h => h) (Or.inl ⟨by rfl, ?_⟩) (by assumption) ?_
                rotate_left
                · intro w hSw; (try dsimp only at hSw); go_simp; try with_reducible rfl
                simp only [Act.put, List.setIfInBounds_toArray, List.set_cons_zero, List.set_cons_succ]
                refine wpAnyH_take (i := 1) (oi := { dst := some 38, op := Op.binOp BinOp.gtr 3 (Operand.tmp 37) (Operand.const (Value.int IntKind.i64 0)) 3, type := 4, pos := "ref.go:26", after := #[{ on := 0, ground := Ground.data }], guard := none }) (v := ?_) rfl (by kernel_rfl) (by kernel_rfl) (by kernel_rfl) (fun _ _ _ h => h) (Or.inl ⟨by rfl, ?_⟩) (by assumption) ?_
                rotate_left
                · intro w hSw; (try dsimp only at hSw); go_simp; try with_reducible rfl
                simp only [Act.put, List.setIfInBounds_toArray, List.set_cons_zero, List.set_cons_succ]
                refine wpAnyH_take (i := 2) (oi := { dst := some 39, op := Op.move (Operand.tmp 38), type := 4, pos := "ref.go:26", after := #[{ on := 1, ground := Ground.data }], guard := none }) (v := ?_) rfl (by kernel_rfl) (by kernel_rfl) (by kernel_rfl) (fun _ _ _ h => h) (Or.inl ⟨by rfl, ?_⟩) (by assumption) ?_
                rotate_left
                · intro w hSw; (try dsimp only at hSw); go_simp; try with_reducible rfl
                simp only [Act.put, List.setIfInBounds_toArray, List.set_cons_zero, List.set_cons_succ]
                refine wpAnyH_take (i := 3) (oi := { dst := some 40, op := Op.move (Operand.tmp 0), type := 22, pos := "ref.go:26", after := #[{ on := 2, ground := Ground.guard }], guard := some (2, true) }) (v := ?_) rfl (by kernel_rfl) (by kernel_rfl) (by kernel_rfl) (fun _ _ _ h => h) (Or.inl ⟨by rfl, ?_⟩) (by assumption) ?_
                rotate_left
                · intro w hSw; (try dsimp only at hSw); go_simp; try with_reducible rfl
                simp only [Act.put, List.setIfInBounds_toArray, List.set_cons_zero, List.set_cons_succ]
                refine wpAnyH_take (i := 4) (oi := { dst := some 41, op := Op.move (Operand.tmp 3), type := 3, pos := "ref.go:26", after := #[{ on := 2, ground := Ground.guard }], guard := some (2, true) }) (v := ?_) rfl (by kernel_rfl) (by kernel_rfl) (by kernel_rfl) (fun _ _ _ h => h) (Or.inl ⟨by rfl, ?_⟩) (by assumption) ?_
                rotate_left
                · intro w hSw; (try dsimp only at hSw); go_simp; try with_reducible rfl
                simp only [Act.put, List.setIfInBounds_toArray, List.set_cons_zero, List.set_cons_succ]
                refine wpAnyH_take (i := 5) (oi := { dst := some 42, op := Op.binOp BinOp.sub 3 (Operand.tmp 41) (Operand.const (Value.int IntKind.i64 1)) 3, type := 3, pos := "ref.go:26", after := #[{ on := 4, ground := Ground.data }, { on := 2, ground := Ground.guard }], guard := some (2, true) }) (v := ?_) rfl (by kernel_rfl) (by kernel_rfl) (by kernel_rfl) (fun _ _ _ h => h) (Or.inl ⟨by rfl, ?_⟩) (by assumption) ?_
                rotate_left
                · intro w hSw; (try dsimp only at hSw); go_simp; try with_reducible rfl
                simp only [Act.put, List.setIfInBounds_toArray, List.set_cons_zero, List.set_cons_succ]
                refine wpAnyH_take (i := 6) (oi := { dst := some 43, op := Op.indexAddr 22 (Operand.tmp 40) (Operand.tmp 42), type := 0, pos := "ref.go:26", after := #[{ on := 3, ground := Ground.data }, { on := 5, ground := Ground.data }, { on := 2, ground := Ground.guard }], guard := some (2, true) }) (v := ?_) rfl (by kernel_rfl) (by kernel_rfl) (by kernel_rfl) (fun _ _ _ h => h) (Or.inl ⟨by rfl, ?_⟩) (by assumption) ?_
                rotate_left
                · intro w hSw; (try dsimp only at hSw); go_simp; try with_reducible rfl
                simp only [Act.put, List.setIfInBounds_toArray, List.set_cons_zero, List.set_cons_succ]
                refine wpAnyH_take (i := 7) (oi := { dst := some 44, op := Op.fieldAddr 51 (Operand.tmp 43) 0, type := 0, pos := "ref.go:26", after := #[{ on := 6, ground := Ground.data }, { on := 2, ground := Ground.guard }], guard := some (2, true) }) (v := ?_) rfl (by kernel_rfl) (by kernel_rfl) (by kernel_rfl) (fun _ _ _ h => h) (Or.inl ⟨by rfl, ?_⟩) (by assumption) ?_
                rotate_left
                · intro w hSw; (try dsimp only at hSw); go_simp; try with_reducible rfl
                simp only [Act.put, List.setIfInBounds_toArray, List.set_cons_zero, List.set_cons_succ]
                refine wpAnyH_take (i := 8) (oi := { dst := some 45, op := Op.load 9 (Operand.tmp 44), type := 9, pos := "ref.go:26", after := #[{ on := 7, ground := Ground.data }, { on := 2, ground := Ground.guard }], guard := some (2, true) }) (v := ?_) rfl (by kernel_rfl) (by kernel_rfl) (by kernel_rfl) (fun _ _ _ h => h) (Or.inl ⟨by rfl, ?_⟩) (by assumption) ?_
                rotate_left
                · intro w hSw; (try dsimp only at hSw); go_simp; try with_reducible rfl
                simp only [Act.put, List.setIfInBounds_toArray, List.set_cons_zero, List.set_cons_succ]
                refine wpAnyH_take (i := 9) (oi := { dst := some 46, op := Op.move (Operand.tmp 0), type := 22, pos := "ref.go:26", after := #[{ on := 2, ground := Ground.guard }], guard := some (2, true) }) (v := ?_) rfl (by kernel_rfl) (by kernel_rfl) (by kernel_rfl) (fun _ _ _ h => h) (Or.inl ⟨by rfl, ?_⟩) (by assumption) ?_
                rotate_left
                · intro w hSw; (try dsimp only at hSw); go_simp; try with_reducible rfl
                simp only [Act.put, List.setIfInBounds_toArray, List.set_cons_zero, List.set_cons_succ]
                refine wpAnyH_take (i := 10) (oi := { dst := some 47, op := Op.move (Operand.tmp 3), type := 3, pos := "ref.go:26", after := #[{ on := 2, ground := Ground.guard }], guard := some (2, true) }) (v := ?_) rfl (by kernel_rfl) (by kernel_rfl) (by kernel_rfl) (fun _ _ _ h => h) (Or.inl ⟨by rfl, ?_⟩) (by assumption) ?_
                rotate_left
                · intro w hSw; (try dsimp only at hSw); go_simp; try with_reducible rfl
                simp only [Act.put, List.setIfInBounds_toArray, List.set_cons_zero, List.set_cons_succ]
                refine wpAnyH_take (i := 11) (oi := { dst := some 48, op := Op.indexAddr 22 (Operand.tmp 46) (Operand.tmp 47), type := 0, pos := "ref.go:26", after := #[{ on := 9, ground := Ground.data }, { on := 10, ground := Ground.data }, { on := 2, ground := Ground.guard }], guard := some (2, true) }) (v := ?_) rfl (by kernel_rfl) (by kernel_rfl) (by kernel_rfl) (fun _ _ _ h => h) (Or.inl ⟨by rfl, ?_⟩) (by assumption) ?_
                rotate_left
                · intro w hSw; (try dsimp only at hSw); go_simp; try with_reducible rfl
                simp only [Act.put, List.setIfInBounds_toArray, List.set_cons_zero, List.set_cons_succ]
                refine wpAnyH_take (i := 12) (oi := { dst := some 49, op := Op.fieldAddr 51 (Operand.tmp 48) 0, type := 0, pos := "ref.go:26", after := #[{ on := 11, ground := Ground.data }, { on := 2, ground := Ground.guard }], guard := some (2, true) }) (v := ?_) rfl (by kernel_rfl) (by kernel_rfl) (by kernel_rfl) (fun _ _ _ h => h) (Or.inl ⟨by rfl, ?_⟩) (by assumption) ?_
                rotate_left
                · intro w hSw; (try dsimp only at hSw); go_simp; try with_reducible rfl
                simp only [Act.put, List.setIfInBounds_toArray, List.set_cons_zero, List.set_cons_succ]
                refine wpAnyH_take (i := 13) (oi := { dst := some 50, op := Op.load 9 (Operand.tmp 49), type := 9, pos := "ref.go:26", after := #[{ on := 12, ground := Ground.data }, { on := 2, ground := Ground.guard }], guard := some (2, true) }) (v := ?_) rfl (by kernel_rfl) (by kernel_rfl) (by kernel_rfl) (fun _ _ _ h => h) (Or.inl ⟨by rfl, ?_⟩) (by assumption) ?_
                rotate_left
                · intro w hSw; (try dsimp only at hSw); go_simp; try with_reducible rfl
                simp only [Act.put, List.setIfInBounds_toArray, List.set_cons_zero, List.set_cons_succ]
                refine wpAnyH_ready (rs := [14]) (by kernel_rfl) (by simp) (AllReadyH.cons (o := { dst := some 51, op := Op.call { callee := Callee.value (Operand.func 101), args := #[Operand.tmp 45, Operand.tmp 50], argTypes := #[9, 9] }, type := 4, pos := "ref.go:26", after := #[{ on := 8, ground := Ground.data }, { on := 13, ground := Ground.data }, { on := 2, ground := Ground.chain }, { on := 2, ground := Ground.guard }], guard := some (2, true) }) rfl (fun KK hK => ?_) AllReadyH.nil)
                · go_simp
                  go_at_call 101
                  with_reducible refine (ref14_less pm nm _ HLB.out HPML.out HNML.out hs).mono ?_
                  rintro e wq ⟨rfl, hs⟩
                  refine hK.out _ _ (HKP.out _ hs) (fun hHeld => ?_)
                  clear hK KK
                  try simp only [Act.put, List.setIfInBounds_toArray, List.set_cons_zero, List.set_cons_succ]
                  refine wpAnyH_take (i := 15) (oi := { dst := some 52, op := Op.unOp UnOp.not 4 (Operand.tmp 51), type := 4, pos := "ref.go:26", after := #[{ on := 14, ground := Ground.data }, { on := 2, ground := Ground.guard }], guard := some (2, true) }) (v := ?_) rfl (by kernel_rfl) (by kernel_rfl) (by kernel_rfl) (fun _ _ _ h => h) (Or.inl ⟨by rfl, ?_⟩) (by assumption) ?_
                  rotate_left
                  · intro w hSw; (try dsimp only at hSw); go_simp; try with_reducible rfl
                  simp only [Act.put, List.setIfInBounds_toArray, List.set_cons_zero, List.set_cons_succ]
                  refine wpAnyH_take (i := 16) (oi := { dst := some 53, op := Op.pick (Operand.tmp 39) (Operand.tmp 52) (Operand.const (Value.bool false)), type := 4, pos := "ref.go:26", after := #[{ on := 2, ground := Ground.data }, { on := 15, ground := Ground.data }], guard := none }) (v := ?_) rfl (by kernel_rfl) (by kernel_rfl) (by kernel_rfl) (fun _ _ _ h => h) (Or.inl ⟨by rfl, ?_⟩) (by assumption) ?_
                  rotate_left
                  · intro w hSw; (try dsimp only at hSw); go_simp; try with_reducible rfl
                  simp only [Act.put, List.setIfInBounds_toArray, List.set_cons_zero, List.set_cons_succ]
                  refine wpAnyH_done (by kernel_rfl) ?_ _
                  go_wp2_with fail
                  go_ret
                  exact ⟨rfl, hs⟩
              | true =>
                as_aux_lemma =>
                have HGOOD := Lib.hid (show tOk ⟨nm, ps⟩ = true → tRef (l.map (·.1)) i = true from fun h => by unfold tRef; rw [hgl, h, hups]; rfl)
                clear hx hmem hxk hfx hgl hbad hgln hp0 hpm hjx hlb hups hkeep hj0
                go_wp2
                have hs := H.out.drew
                refine wp_region_held_drew (S := fun w' => w'.cell? ⟨b, off + i * 2, none⟩ = some (.string (bb nm)) ∧ w'.cell? ⟨b, off + j0 * 2, none⟩ = some (.string (bb pm))) (by kernel_rfl) (HKP.out _ hs) (fun hHeld => ?_)
                refine wpAnyH_take (i := 0) (oi := { dst := some 37, op := Op.move (Operand.tmp 3), type := 3, pos := "ref.go:26", after := #[], guard := none }) (v := ?_) rfl (by kernel_rfl) (by kernel_rfl) (by kernel_rfl) (fun _ _ _ h => h) (Or.inl ⟨by rfl, ?_⟩) (by assumption) ?_
                rotate_left
                · intro w hSw; (try dsimp only at hSw); go_simp; try with_reducible rfl
                simp only [Act.put, List.setIfInBounds_toArray, List.set_cons_zero, List.set_cons_succ]
                refine wpAnyH_take (i := 1) (oi := { dst := some 38, op := Op.binOp BinOp.gtr 3 (Operand.tmp 37) (Operand.const (Value.int IntKind.i64 0)) 3, type := 4, pos := "ref.go:26", after := #[{ on := 0, ground := Ground.data }], guard := none }) (v := ?_) rfl (by kernel_rfl) (by kernel_rfl) (by kernel_rfl) (fun _ _ _ h => h) (Or.inl ⟨by rfl, ?_⟩) (by assumption) ?_
                rotate_left
                · intro w hSw; (try dsimp only at hSw); go_simp; try with_reducible rfl
                simp only [Act.put, List.setIfInBounds_toArray, List.set_cons_zero, List.set_cons_succ]
                refine wpAnyH_take (i := 2) (oi := { dst := some 39, op := Op.move (Operand.tmp 38), type := 4, pos := "ref.go:26", after := #[{ on := 1, ground := Ground.data }], guard := none }) (v := ?_) rfl (by kernel_rfl) (by kernel_rfl) (by kernel_rfl) (fun _ _ _ h => h) (Or.inl ⟨by rfl, ?_⟩) (by assumption) ?_
                rotate_left
                · intro w hSw; (try dsimp only at hSw); go_simp; try with_reducible rfl
                simp only [Act.put, List.setIfInBounds_toArray, List.set_cons_zero, List.set_cons_succ]
                refine wpAnyH_take (i := 3) (oi := { dst := some 40, op := Op.move (Operand.tmp 0), type := 22, pos := "ref.go:26", after := #[{ on := 2, ground := Ground.guard }], guard := some (2, true) }) (v := ?_) rfl (by kernel_rfl) (by kernel_rfl) (by kernel_rfl) (fun _ _ _ h => h) (Or.inl ⟨by rfl, ?_⟩) (by assumption) ?_
                rotate_left
                · intro w hSw; (try dsimp only at hSw); go_simp; try with_reducible rfl
                simp only [Act.put, List.setIfInBounds_toArray, List.set_cons_zero, List.set_cons_succ]
                refine wpAnyH_take (i := 4) (oi := { dst := some 41, op := Op.move (Operand.tmp 3), type := 3, pos := "ref.go:26", after := #[{ on := 2, ground := Ground.guard }], guard := some (2, true) }) (v := ?_) rfl (by kernel_rfl) (by kernel_rfl) (by kernel_rfl) (fun _ _ _ h => h) (Or.inl ⟨by rfl, ?_⟩) (by assumption) ?_
                rotate_left
                · intro w hSw; (try dsimp only at hSw); go_simp; try with_reducible rfl
                simp only [Act.put, List.setIfInBounds_toArray, List.set_cons_zero, List.set_cons_succ]
                refine wpAnyH_take (i := 5) (oi := { dst := some 42, op := Op.binOp BinOp.sub 3 (Operand.tmp 41) (Operand.const (Value.int IntKind.i64 1)) 3, type := 3, pos := "ref.go:26", after := #[{ on := 4, ground := Ground.data }, { on := 2, ground := Ground.guard }], guard := some (2, true) }) (v := ?_) rfl (by kernel_rfl) (by kernel_rfl) (by kernel_rfl) (fun _ _ _ h => h) (Or.inl ⟨by rfl, ?_⟩) (by assumption) ?_
                rotate_left
                · intro w hSw; (try dsimp only at hSw); go_simp; try with_reducible rfl
                simp only [Act.put, List.setIfInBounds_toArray, List.set_cons_zero, List.set_cons_succ]
                refine wpAnyH_take (i := 6) (oi := { dst := some 43, op := Op.indexAddr 22 (Operand.tmp 40) (Operand.tmp 42), type := 0, pos := "ref.go:26", after := #[{ on := 3, ground := Ground.data }, { on := 5, ground := Ground.data }, { on := 2, ground := Ground.guard }], guard := some (2, true) }) (v := ?_) rfl (by kernel_rfl) (by kernel_rfl) (by kernel_rfl) (fun _ _ _ h => h) (Or.inl ⟨by rfl, ?_⟩) (by assumption) ?_
                rotate_left
                · intro w hSw; (try dsimp only at hSw); go_simp; try with_reducible rfl
                simp only [Act.put, List.setIfInBounds_toArray, List.set_cons_zero, List.set_cons_succ]
                refine wpAnyH_take (i := 7) (oi := { dst := some 44, op := Op.fieldAddr 51 (Operand.tmp 43) 0, type := 0, pos := "ref.go:26", after := #[{ on := 6, ground := Ground.data }, { on := 2, ground := Ground.guard }], guard := some (2, true) }) (v := ?_) rfl (by kernel_rfl) (by kernel_rfl) (by kernel_rfl) (fun _ _ _ h => h) (Or.inl ⟨by rfl, ?_⟩) (by assumption) ?_
                rotate_left
                · intro w hSw; (try dsimp only at hSw); go_simp; try with_reducible rfl
                simp only [Act.put, List.setIfInBounds_toArray, List.set_cons_zero, List.set_cons_succ]
                refine wpAnyH_take (i := 8) (oi := { dst := some 45, op := Op.load 9 (Operand.tmp 44), type := 9, pos := "ref.go:26", after := #[{ on := 7, ground := Ground.data }, { on := 2, ground := Ground.guard }], guard := some (2, true) }) (v := ?_) rfl (by kernel_rfl) (by kernel_rfl) (by kernel_rfl) (fun _ _ _ h => h) (Or.inl ⟨by rfl, ?_⟩) (by assumption) ?_
                rotate_left
                · intro w hSw; (try dsimp only at hSw); go_simp; try with_reducible rfl
                simp only [Act.put, List.setIfInBounds_toArray, List.set_cons_zero, List.set_cons_succ]
                refine wpAnyH_take (i := 9) (oi := { dst := some 46, op := Op.move (Operand.tmp 0), type := 22, pos := "ref.go:26", after := #[{ on := 2, ground := Ground.guard }], guard := some (2, true) }) (v := ?_) rfl (by kernel_rfl) (by kernel_rfl) (by kernel_rfl) (fun _ _ _ h => h) (Or.inl ⟨by rfl, ?_⟩) (by assumption) ?_
                rotate_left
                · intro w hSw; (try dsimp only at hSw); go_simp; try with_reducible rfl
                simp only [Act.put, List.setIfInBounds_toArray, List.set_cons_zero, List.set_cons_succ]
                refine wpAnyH_take (i := 10) (oi := { dst := some 47, op := Op.move (Operand.tmp 3), type := 3, pos := "ref.go:26", after := #[{ on := 2, ground := Ground.guard }], guard := some (2, true) }) (v := ?_) rfl (by kernel_rfl) (by kernel_rfl) (by kernel_rfl) (fun _ _ _ h => h) (Or.inl ⟨by rfl, ?_⟩) (by assumption) ?_
                rotate_left
                · intro w hSw; (try dsimp only at hSw); go_simp; try with_reducible rfl
                simp only [Act.put, List.setIfInBounds_toArray, List.set_cons_zero, List.set_cons_succ]
                refine wpAnyH_take (i := 11) (oi := { dst := some 48, op := Op.indexAddr 22 (Operand.tmp 46) (Operand.tmp 47), type := 0, pos := "ref.go:26", after := #[{ on := 9, ground := Ground.data }, { on := 10, ground := Ground.data }, { on := 2, ground := Ground.guard }], guard := some (2, true) }) (v := ?_) rfl (by kernel_rfl) (by kernel_rfl) (by kernel_rfl) (fun _ _ _ h => h) (Or.inl ⟨by rfl, ?_⟩) (by assumption) ?_
                rotate_left
                · intro w hSw; (try dsimp only at hSw); go_simp; try with_reducible rfl
                simp only [Act.put, List.setIfInBounds_toArray, List.set_cons_zero, List.set_cons_succ]
                refine wpAnyH_take (i := 12) (oi := { dst := some 49, op := Op.fieldAddr 51 (Operand.tmp 48) 0, type := 0, pos := "ref.go:26", after := #[{ on := 11, ground := Ground.data }, { on := 2, ground := Ground.guard }], guard := some (2, true) }) (v := ?_) rfl (by kernel_rfl) (by kernel_rfl) (by kernel_rfl) (fun _ _ _ h => h) (Or.inl ⟨by rfl, ?_⟩) (by assumption) ?_
                rotate_left
                · intro w hSw; (try dsimp only at hSw); go_simp; try with_reducible rfl
                simp only [Act.put, List.setIfInBounds_toArray, List.set_cons_zero, List.set_cons_succ]
                refine wpAnyH_take (i := 13) (oi := { dst := some 50, op := Op.load 9 (Operand.tmp 49), type := 9, pos := "ref.go:26", after := #[{ on := 12, ground := Ground.data }, { on := 2, ground := Ground.guard }], guard := some (2, true) }) (v := ?_) rfl (by kernel_rfl) (by kernel_rfl) (by kernel_rfl) (fun _ _ _ h => h) (Or.inl ⟨by rfl, ?_⟩) (by assumption) ?_
                rotate_left
                · intro w hSw; (try dsimp only at hSw); go_simp; try with_reducible rfl
                simp only [Act.put, List.setIfInBounds_toArray, List.set_cons_zero, List.set_cons_succ]
                refine wpAnyH_ready (rs := [14]) (by kernel_rfl) (by simp) (AllReadyH.cons (o := { dst := some 51, op := Op.call { callee := Callee.value (Operand.func 101), args := #[Operand.tmp 45, Operand.tmp 50], argTypes := #[9, 9] }, type := 4, pos := "ref.go:26", after := #[{ on := 8, ground := Ground.data }, { on := 13, ground := Ground.data }, { on := 2, ground := Ground.chain }, { on := 2, ground := Ground.guard }], guard := some (2, true) }) rfl (fun KK hK => ?_) AllReadyH.nil)
                · go_simp
                  go_at_call 101
                  with_reducible refine (ref14_less pm nm _ HLB.out HPML.out HNML.out hs).mono ?_
                  rintro e wq ⟨rfl, hs⟩
                  refine hK.out _ _ (HKP.out _ hs) (fun hHeld => ?_)
                  clear hK KK
                  try simp only [Act.put, List.setIfInBounds_toArray, List.set_cons_zero, List.set_cons_succ]
                  refine wpAnyH_take (i := 15) (oi := { dst := some 52, op := Op.unOp UnOp.not 4 (Operand.tmp 51), type := 4, pos := "ref.go:26", after := #[{ on := 14, ground := Ground.data }, { on := 2, ground := Ground.guard }], guard := some (2, true) }) (v := ?_) rfl (by kernel_rfl) (by kernel_rfl) (by kernel_rfl) (fun _ _ _ h => h) (Or.inl ⟨by rfl, ?_⟩) (by assumption) ?_
                  rotate_left
                  · intro w hSw; (try dsimp only at hSw); go_simp; try with_reducible rfl
                  simp only [Act.put, List.setIfInBounds_toArray, List.set_cons_zero, List.set_cons_succ]
                  refine wpAnyH_take (i := 16) (oi := { dst := some 53, op := Op.pick (Operand.tmp 39) (Operand.tmp 52) (Operand.const (Value.bool false)), type := 4, pos := "ref.go:26", after := #[{ on := 2, ground := Ground.data }, { on := 15, ground := Ground.data }], guard := none }) (v := ?_) rfl (by kernel_rfl) (by kernel_rfl) (by kernel_rfl) (fun _ _ _ h => h) (Or.inl ⟨by rfl, ?_⟩) (by assumption) ?_
                  rotate_left
                  · intro w hSw; (try dsimp only at hSw); go_simp; try with_reducible rfl
                  simp only [Act.put, List.setIfInBounds_toArray, List.set_cons_zero, List.set_cons_succ]
                  refine wpAnyH_done (by kernel_rfl) ?_ _
                  go_wp2_with fail
                  clear H
                  have H := Lib.hid hs
                  clear hs
                  go_loopw [4, 5] (fun kv _ wr => ∃ k : Nat, k ≤ ps.length ∧ kv = .int .i64 k ∧ Hid (∀ j, j < k → pk ps j = true) ∧ St W0 wr K L) (fun kv _ _ => ps.length - (intOf kv).toNat)
                  case atStart => exact ⟨0, Nat.zero_le _, rfl, Lib.hid (fun j hj => by omega), H.out⟩
                  case round =>
                    obtain ⟨k, hkl, rfl, HQ, hst⟩ := hrel
                    clear H
                    have H := Lib.hid hst
                    clear hst
                    obtain ⟨c0, c1⟩ : _ ∧ _ := HCL.out _ H.out
                    by_cases hlk : k < ps.length
                    · obtain ⟨j, hj⟩ : ∃ j, k - 1 = j := ⟨_, rfl⟩
                      have d0 := int_cell HXK.out H.out k hlk
                      have d1 := int_cell HXK.out H.out j (by omega)
                      obtain ⟨x, hx⟩ : ∃ x, ps.getD k 0 = x := ⟨_, rfl⟩
                      obtain ⟨y, hy⟩ : ∃ y, ps.getD j 0 = y := ⟨_, rfl⟩
                      have hpk : pk ps k = (decide (0 ≤ x ∧ x ≤ 2147483647) && (k == 0 || decide (y < x))) := by
                        unfold pk upI
                        rw [hj, hx, hy]
                      rw [hx] at d0
                      rw [hy] at d1
                      have hkp : (k : Int) < (ps.length : Int) := by omega
                      have hk0 : (0 : Int) ≤ (k : Int) := by omega
                      have HPK := Lib.hid hpk
                      have hfalse : pk ps k = false → r = false := fun h => HBAD.out (by
                        unfold tOk
                        rw [pRise_pk ps HPNE.out, allN_false k hlk h, Bool.and_false])
                      have HF2 := Lib.hid hfalse
                      clear hx hy hpk hfalse
                      have hpl2 : (ps.length : Int) ≤ 1000000 := by have := HPN.out; omega
                      by_cases b1 : x < 0
                      · have hr2 : r = false := HF2.out (by rw [HPK.out, decide_eq_false (by omega), Bool.false_and])
                        subst hr2
                        go_wp2
                        go_ret
                        exact ⟨rfl, H.out⟩
                      · by_cases b2 : 2147483647 < x
                        · have hr2 : r = false := HF2.out (by rw [HPK.out, decide_eq_false (by omega), Bool.false_and])
                          subst hr2
                          go_wp2
                          go_ret
                          exact ⟨rfl, H.out⟩
                        · by_cases b3 : k = 0
                          · have b4 : ¬ 0 < k := by omega
                            have b4d : decide (0 < k) = false := decide_eq_false b4
                            have HN := Lib.hid (show pk ps k = true by rw [HPK.out, decide_eq_true ⟨by omega, by omega⟩, b3]; rfl)
                            clear d1 b3 hj
                            go_wp2
                            go_roundw
                            case rel => exact ⟨k + 1, hlk, by go_num, Lib.hid (fun i hi => by
                              by_cases hik : i = k
                              · rw [hik]; exact HN.out
                              · exact HQ.out i (by omega)), H.out⟩
                            case measure => first | (simp [intOf]; done) | (simp [intOf]; omega)
                          · have b4 : 0 < k := by omega
                            have b4d : decide (0 < k) = true := decide_eq_true b4
                            have e1 : wrap64 ((k : Int) - 1) = (j : Int) := by unfold wrap64; omega
                            have e2 : IntKind.i64.wrap ((k : Int) - 1) = (j : Int) := by rw [show (k : Int) - 1 = (j : Int) by omega]; exact IntWalk.i64_in _ (by omega)
                            have hjl : (j : Int) < (ps.length : Int) := by omega
                            have hk1 : (k == 0) = false := by rw [beq_eq_false_iff_ne]; exact b3
                            by_cases b5 : x ≤ y
                            · have hr2 : r = false := HF2.out (by rw [HPK.out, hk1, decide_eq_false (show ¬ y < x by omega)]; simp)
                              subst hr2
                              clear hk1 hj
                              go_wp2
                              go_ret
                              exact ⟨rfl, H.out⟩
                            · have HN := Lib.hid (show pk ps k = true by rw [HPK.out, hk1, decide_eq_true (show y < x by omega), decide_eq_true ⟨by omega, by omega⟩]; rfl)
                              clear hk1 hj
                              go_wp2
                              go_roundw
                              case rel => exact ⟨k + 1, hlk, by go_num, Lib.hid (fun i hi => by
                                by_cases hik : i = k
                                · rw [hik]; exact HN.out
                                · exact HQ.out i (by omega)), H.out⟩
                              case measure => first | (simp [intOf]; done) | (simp [intOf]; omega)
                    · obtain rfl : k = ps.length := by omega
                      have HOK := Lib.hid (show tRef (l.map (·.1)) i = true from HGOOD.out (by
                        unfold tOk
                        rw [pRise_pk ps HPNE.out, allN_true HQ.out, HIE.out, decide_eq_true HLN.out]
                        rfl))
                      go_wp2
                      go_roundw
                      case rel => exact ⟨i + 1, hlt, by go_num, Lib.hid (fun j hj => by
                        by_cases hji : j = i
                        · rw [hji]; exact HOK.out
                        · exact HP.out j (by omega)), H.out⟩
                      case measure => first | (simp [intOf]; done) | (simp [intOf]; omega)
        · as_aux_lemma =>
          have hl2 : (32767 : Int) < (nm.length : Int) := by omega
          have hl3 : decide ((32767 : Int) < (nm.length : Int)) = true := decide_eq_true hl2
          have hr2 : r = false := HBAD.out (by unfold tOk; rw [decide_eq_false hln]; simp)
          subst hr2
          clear hx hmem hxk hfx hgl hbad hgln
          go_wp2
          go_ret
          exact ⟨rfl, H.out⟩
    · obtain rfl : i = l.length := by omega
      have hr2 : r = true := by rw [← HR.out]; exact allN_true HP.out
      subst hr2
      go_wp2
      go_ret
      exact ⟨rfl, H.out⟩

end Go.Proofs.Ytombolmicfjjpaa

/- What a value has. -/
namespace Go.Proofs.Ytombolmicfjjpaa
open Go.RowKit

set_option maxHeartbeats 1000000 in
set_option maxRecDepth 100000 in
theorem val_ranged (p e t s u st : Int) (tv : Value) (r : Bool) (hr : (decide (0 ≤ p) && (decide (0 ≤ e) && (decide (e ≤ 32767) && (decide (0 ≤ t) && (decide (t ≤ 2147483647) && (decide (0 ≤ u) && decide (-1 ≤ st))))))) = r) {W0 w : World} {K : Know} {L : List Res} (h : St W0 w K L) :
    Calls Try.prog 70 #[.agg #[.int .i64 p, .int .i64 e, .int .i64 t, .int .i64 s, tv, .int .i64 u, .int .i64 st]] w fun en w' => en = .returned (.bool r) ∧ St W0 w' K L := by
  obtain ⟨vb, hvb⟩ : ∃ b, w.heap.size = b := ⟨_, rfl⟩
  have h1 := h.allocRaw #[.int .i64 p, .int .i64 e, .int .i64 t, .int .i64 s, tv, .int .i64 u, .int .i64 st] 24
  rw [hvb] at h1
  have c0 := (h1).rawCell 0
  have c1 := (h1).rawCell 1
  have c2 := (h1).rawCell 2
  have c3 := (h1).rawCell 3
  have c4 := (h1).rawCell 4
  have c5 := (h1).rawCell 5
  have c6 := (h1).rawCell 6
  simp at c0 c1 c2 c3 c4 c5 c6
  have H := Lib.hid h1
  clear h h1
  by_cases h0 : 0 ≤ p
  · rw [decide_eq_true h0, Bool.true_and] at hr
    by_cases h1 : 0 ≤ e
    · rw [decide_eq_true h1, Bool.true_and] at hr
      by_cases h2 : e ≤ 32767
      · rw [decide_eq_true h2, Bool.true_and] at hr
        by_cases h3 : 0 ≤ t
        · rw [decide_eq_true h3, Bool.true_and] at hr
          by_cases h4 : t ≤ 2147483647
          · rw [decide_eq_true h4, Bool.true_and] at hr
            by_cases h5 : 0 ≤ u
            · rw [decide_eq_true h5, Bool.true_and] at hr
              by_cases h6 : -1 ≤ st
              · rw [decide_eq_true h6] at hr
                subst hr
                go_enter Try.func70, Try.ntmps70
                go_wp2
                go_ret
                exact ⟨rfl, H.out.drop⟩
              · rw [decide_eq_false h6] at hr
                subst hr
                go_enter Try.func70, Try.ntmps70
                go_wp2
                go_ret
                exact ⟨rfl, H.out.drop⟩
            · rw [decide_eq_false h5, Bool.false_and] at hr
              subst hr
              go_enter Try.func70, Try.ntmps70
              go_wp2
              go_ret
              exact ⟨rfl, H.out.drop⟩
          · rw [decide_eq_false h4, Bool.false_and] at hr
            subst hr
            go_enter Try.func70, Try.ntmps70
            go_wp2
            go_ret
            exact ⟨rfl, H.out.drop⟩
        · rw [decide_eq_false h3, Bool.false_and] at hr
          subst hr
          go_enter Try.func70, Try.ntmps70
          go_wp2
          go_ret
          exact ⟨rfl, H.out.drop⟩
      · rw [decide_eq_false h2, Bool.false_and] at hr
        subst hr
        go_enter Try.func70, Try.ntmps70
        go_wp2
        go_ret
        exact ⟨rfl, H.out.drop⟩
    · rw [decide_eq_false h1, Bool.false_and] at hr
      subst hr
      go_enter Try.func70, Try.ntmps70
      go_wp2
      go_ret
      exact ⟨rfl, H.out.drop⟩
  · rw [decide_eq_false h0, Bool.false_and] at hr
    subst hr
    go_enter Try.func70, Try.ntmps70
    go_wp2
    go_ret
    exact ⟨rfl, H.out.drop⟩

set_option maxHeartbeats 1000000 in
set_option maxRecDepth 100000 in
theorem val_idle (s : Int) (r : Bool) (hr : idle s = r) {W0 w : World} {K : Know} {L : List Res} (h : St W0 w K L) :
    Calls Try.prog 22 #[.int .i64 s] w fun en w' => en = .returned (.bool r) ∧ St W0 w' K L := by
  have H := Lib.hid h
  clear h
  unfold idle at hr
  by_cases h1 : s = 1
  · subst h1
    simp at hr
    subst hr
    go_enter Try.func22, Try.ntmps22
    go_wp2
    go_ret
    exact ⟨rfl, H.out⟩
  · have e1 : (s == 1) = false := by rw [beq_eq_false_iff_ne]; exact h1
    have n1 : (s != 1) = true := by simp [bne, e1]
    rw [e1, Bool.not_false, Bool.true_and] at hr
    by_cases h2 : s = 2
    · subst h2
      simp at hr
      subst hr
      clear e1 n1 h1
      go_enter Try.func22, Try.ntmps22
      go_wp2
      go_ret
      exact ⟨rfl, H.out⟩
    · have e2 : (s == 2) = false := by rw [beq_eq_false_iff_ne]; exact h2
      have n2 : (s != 2) = true := by simp [bne, e2]
      rw [e2, Bool.not_false, Bool.true_and] at hr
      by_cases h3 : s = 3
      · subst h3
        simp at hr
        subst hr
        clear e1 n1 h1 e2 n2 h2
        go_enter Try.func22, Try.ntmps22
        go_wp2
        go_ret
        exact ⟨rfl, H.out⟩
      · have e3 : (s == 3) = false := by rw [beq_eq_false_iff_ne]; exact h3
        have n3 : (s != 3) = true := by simp [bne, e3]
        rw [e3, Bool.not_false] at hr
        subst hr
        go_enter Try.func22, Try.ntmps22
        go_wp2
        go_ret
        exact ⟨rfl, H.out⟩

end Go.Proofs.Ytombolmicfjjpaa

/- Values, checked: the ways. -/
namespace Go.Proofs.Ytombolmicfjjpaa
open Go.RowKit

set_option maxHeartbeats 2000000 in
set_option maxRecDepth 100000 in
theorem val_check_11 (p e t s u st : Int) (l : List (TopS × Value)) (q : Option Addr) (cap : Nat) (hrg : (decide (0 ≤ p) && (decide (0 ≤ e) && (decide (e ≤ 32767) && (decide (0 ≤ t) && (decide (t ≤ 2147483647) && (decide (0 ≤ u) && decide (-1 ≤ st))))))) = false) (hf : FewT l) {W0 w : World} {K : Know} {L : List Res} (hk : K.has (Know.tops (.slice q l.length cap) l)) (h : St W0 w K L) :
    Calls Try.prog 17 #[.agg #[.int .i64 p, .int .i64 e, .int .i64 t, .int .i64 s, .slice q l.length cap, .int .i64 u, .int .i64 st]] w fun en w' => en = .returned (.int .i64 11) ∧ St W0 w' K L := by
  have HK := Lib.hid hk
  have HF := Lib.hid hf
  obtain ⟨vb, hvb⟩ : ∃ b, w.heap.size = b := ⟨_, rfl⟩
  have h1 := h.allocRaw #[.int .i64 p, .int .i64 e, .int .i64 t, .int .i64 s, .slice q l.length cap, .int .i64 u, .int .i64 st] 24
  rw [hvb] at h1
  have c0 := (h1).rawCell 0
  have c1 := (h1).rawCell 1
  have c2 := (h1).rawCell 2
  have c3 := (h1).rawCell 3
  have c4 := (h1).rawCell 4
  have c5 := (h1).rawCell 5
  have c6 := (h1).rawCell 6
  simp at c0 c1 c2 c3 c4 c5 c6
  have H := Lib.hid h1
  clear h h1 hk hf
  have HRG := Lib.hid hrg
  clear hrg
  go_enter Try.func17, Try.ntmps17
  go_wp2_with (go_at_call 70; (with_reducible refine (val_ranged _ _ _ _ _ _ _ false HRG.out H.out).mono ?_); rintro e_ wn ⟨rfl, h⟩; have c0 := (h).rawCell 0; have c1 := (h).rawCell 1; have c2 := (h).rawCell 2; have c3 := (h).rawCell 3; have c4 := (h).rawCell 4; have c5 := (h).rawCell 5; have c6 := (h).rawCell 6; simp at c0 c1 c2 c3 c4 c5 c6; replace H := Lib.hid h; clear h)
  go_ret
  exact ⟨rfl, H.out.drop⟩

set_option maxHeartbeats 2000000 in
set_option maxRecDepth 100000 in
theorem val_check_12 (p e t s u st : Int) (l : List (TopS × Value)) (q : Option Addr) (cap : Nat) (hrg : (decide (0 ≤ p) && (decide (0 ≤ e) && (decide (e ≤ 32767) && (decide (0 ≤ t) && (decide (t ≤ 2147483647) && (decide (0 ≤ u) && decide (-1 ≤ st))))))) = true) (hs : s < 0 ∨ 7 ≤ s) (hf : FewT l) {W0 w : World} {K : Know} {L : List Res} (hk : K.has (Know.tops (.slice q l.length cap) l)) (h : St W0 w K L) :
    Calls Try.prog 17 #[.agg #[.int .i64 p, .int .i64 e, .int .i64 t, .int .i64 s, .slice q l.length cap, .int .i64 u, .int .i64 st]] w fun en w' => en = .returned (.int .i64 12) ∧ St W0 w' K L := by
  have HK := Lib.hid hk
  have HF := Lib.hid hf
  obtain ⟨vb, hvb⟩ : ∃ b, w.heap.size = b := ⟨_, rfl⟩
  have h1 := h.allocRaw #[.int .i64 p, .int .i64 e, .int .i64 t, .int .i64 s, .slice q l.length cap, .int .i64 u, .int .i64 st] 24
  rw [hvb] at h1
  have c0 := (h1).rawCell 0
  have c1 := (h1).rawCell 1
  have c2 := (h1).rawCell 2
  have c3 := (h1).rawCell 3
  have c4 := (h1).rawCell 4
  have c5 := (h1).rawCell 5
  have c6 := (h1).rawCell 6
  simp at c0 c1 c2 c3 c4 c5 c6
  have H := Lib.hid h1
  clear h h1 hk hf
  have HRG := Lib.hid hrg
  clear hrg
  rcases hs with hs | hs
  · as_aux_lemma =>
    go_enter Try.func17, Try.ntmps17
    go_wp2_with (go_at_call 70; (with_reducible refine (val_ranged _ _ _ _ _ _ _ true HRG.out H.out).mono ?_); rintro e_ wn ⟨rfl, h⟩; have c0 := (h).rawCell 0; have c1 := (h).rawCell 1; have c2 := (h).rawCell 2; have c3 := (h).rawCell 3; have c4 := (h).rawCell 4; have c5 := (h).rawCell 5; have c6 := (h).rawCell 6; simp at c0 c1 c2 c3 c4 c5 c6; replace H := Lib.hid h; clear h)
    go_ret
    exact ⟨rfl, H.out.drop⟩
  · as_aux_lemma =>
    have hs0 : ¬ s < 0 := by omega
    go_enter Try.func17, Try.ntmps17
    go_wp2_with (go_at_call 70; (with_reducible refine (val_ranged _ _ _ _ _ _ _ true HRG.out H.out).mono ?_); rintro e_ wn ⟨rfl, h⟩; have c0 := (h).rawCell 0; have c1 := (h).rawCell 1; have c2 := (h).rawCell 2; have c3 := (h).rawCell 3; have c4 := (h).rawCell 4; have c5 := (h).rawCell 5; have c6 := (h).rawCell 6; simp at c0 c1 c2 c3 c4 c5 c6; replace H := Lib.hid h; clear h)
    go_ret
    exact ⟨rfl, H.out.drop⟩

end Go.Proofs.Ytombolmicfjjpaa
