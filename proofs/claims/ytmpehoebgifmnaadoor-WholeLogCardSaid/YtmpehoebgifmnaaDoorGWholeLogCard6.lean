/- What is kept of changes (pure). -/
import Derived.Test.YtmpehoebgifmnaaDoorGWholeLogCard4
import Derived.Test.YtmpehoebgifmnaaDoorGWholeLogCard5
import Derived.Deep.RegionHeld3
import Derived.Deep.DeepCutAuto
import Derived.Sort.Walk0
import Derived.Maps.Range
/- Whether two rows of topics are one, by definition. -/
namespace Go.Proofs.YtmpehoebgifmnaaDoor
open Go.RowKit

set_option maxHeartbeats 2000000 in
set_option maxRecDepth 100000 in
theorem ref14_sameTopics (l1 l2 : List (TopS × Value)) (q1 q2 : Option Addr) (cap1 cap2 : Nat) (r : Bool) (hr : decide (l1.map (·.1) = l2.map (·.1)) = r) (hf1 : LenT l1) (hf2 : LenT l2) {W0 w : World} {K : Know} {L : List Res} (hk1 : K.has (Know.tops (.slice q1 l1.length cap1) l1)) (hk2 : K.has (Know.tops (.slice q2 l2.length cap2) l2)) (h : St W0 w K L) :
    Calls Tryd.prog 23 #[.slice q1 l1.length cap1, .slice q2 l2.length cap2] w fun en w' => en = .returned (.bool r) ∧ St W0 w' K L := by
  have H := Lib.hid h
  have HK1 := Lib.hid hk1
  have HK2 := Lib.hid hk2
  have hni : (l1.length : Int) ≤ 140737488355328 := by have := hf1.1; omega
  have HF1 := Lib.hid hf1
  have HF2 := Lib.hid hf2
  clear h hk1 hk2 hf1 hf2
  by_cases hlen : l1.length = l2.length
  rotate_left
  · as_aux_lemma =>
    have hr2 : r = false := by rw [← hr]; exact decide_eq_false (tmap_len_ne _ _ hlen)
    have g1 : ((l1.length : Int) == (l2.length : Int)) = false := by rw [beq_eq_false_iff_ne]; omega
    have g2 : ((l1.length : Int) != (l2.length : Int)) = true := by simp [bne, g1]
    have g3 : ¬ ((l1.length : Int) = (l2.length : Int)) := by omega
    subst hr2
    clear hlen hr
    go_enter Tryd.func23, Tryd.ntmps23
    go_wp2
    go_ret
    exact ⟨rfl, H.out⟩
  have HLEN := Lib.hid hlen
  have HR := Lib.hid hr
  have g1 : ((l1.length : Int) == (l2.length : Int)) = true := by rw [hlen]; exact beq_self_eq_true _
  have g2 : ((l1.length : Int) != (l2.length : Int)) = false := by simp [bne, g1]
  have g3 : (l2.length : Int) = (l1.length : Int) := by omega
  clear hr hlen
  go_enter Tryd.func23, Tryd.ntmps23
  go_wp2
  clear g1 g2 g3
  go_loopw [5] (fun iv wr => ∃ k : Nat, k ≤ l1.length ∧ iv = .int .i64 k ∧ Hid ((l1.map (·.1)).take k = (l2.map (·.1)).take k) ∧ St W0 wr K L) (fun iv _ => l1.length - (intOf iv).toNat)
  case atStart => exact ⟨0, Nat.zero_le _, rfl, Lib.hid (by simp), H.out⟩
  case round =>
    obtain ⟨k, hkl, rfl, heq, hst⟩ := hrel
    clear H
    have H := Lib.hid hst
    clear hst
    by_cases hlt : k < l1.length
    · have hlt2 : k < l2.length := by have := HLEN.out; omega
      obtain ⟨b1', off1, hqq1⟩ := tops_at HK1.out H.out (by omega)
      subst hqq1
      obtain ⟨⟨⟨n1, p1⟩, v1⟩, hx1⟩ : ∃ x, l1[k] = x := ⟨_, rfl⟩
      have hmem1 : ((⟨n1, p1⟩ : TopS), v1) ∈ l1 := hx1 ▸ List.getElem_mem _
      have XF1 := Lib.hid (show p1.length ≤ 9223372036854775807 from HF1.out.2 _ hmem1)
      have xk1 : K.has (Know.flat RI v1 1 p1) := tops_parts HK1.out hmem1
      obtain ⟨qx1, capx1, hv1⟩ := flat_form xk1 H.out
      subst hv1
      have XK1 := Lib.hid xk1
      have HX1 := Lib.hid (show l1[k].1 = ⟨n1, p1⟩ by rw [hx1])
      have HXX1 := Lib.hid hx1
      clear hmem1 hx1 xk1
      obtain ⟨b2', off2, hqq2⟩ := tops_at HK2.out H.out (by omega)
      subst hqq2
      obtain ⟨⟨⟨n2, p2⟩, v2⟩, hx2⟩ : ∃ x, l2[k] = x := ⟨_, rfl⟩
      have hmem2 : ((⟨n2, p2⟩ : TopS), v2) ∈ l2 := hx2 ▸ List.getElem_mem _
      have XF2 := Lib.hid (show p2.length ≤ 9223372036854775807 from HF2.out.2 _ hmem2)
      have xk2 : K.has (Know.flat RI v2 1 p2) := tops_parts HK2.out hmem2
      obtain ⟨qx2, capx2, hv2⟩ := flat_form xk2 H.out
      subst hv2
      have XK2 := Lib.hid xk2
      have HX2 := Lib.hid (show l2[k].1 = ⟨n2, p2⟩ by rw [hx2])
      have HXX2 := Lib.hid hx2
      clear hmem2 hx2 xk2
      have HKP := Lib.hid (show ∀ w', St W0 w' K L → (w'.cell? ⟨b1', off1 + k * 2, none⟩ = some (.string (bb n1)) ∧ w'.cell? ⟨b1', off1 + k * 2 + 1, none⟩ = some (.slice qx1 p1.length capx1) ∧ w'.cell? ⟨b2', off2 + k * 2, none⟩ = some (.string (bb n2)) ∧ w'.cell? ⟨b2', off2 + k * 2 + 1, none⟩ = some (.slice qx2 p2.length capx2)) from fun w' hs => ⟨(tops_cell HK1.out hs k hlt _ HXX1.out).1, (tops_cell HK1.out hs k hlt _ HXX1.out).2, (tops_cell HK2.out hs k hlt2 _ HXX2.out).1, (tops_cell HK2.out hs k hlt2 _ HXX2.out).2⟩)
      have hki : (k : Int) < (l1.length : Int) := by omega
      have hki2 : (k : Int) < (l2.length : Int) := by omega
      have NX := Lib.hid (show (⟨n1, p1⟩ : TopS) ≠ ⟨n2, p2⟩ → l1.map (·.1) ≠ l2.map (·.1) from tmap_ne_of_get l1 l2 k hlt hlt2 _ _ HX1.out HX2.out)
      have NT := Lib.hid (show (⟨n1, p1⟩ : TopS) = ⟨n2, p2⟩ → (l1.map (·.1)).take (k + 1) = (l2.map (·.1)).take (k + 1) from fun e => by rw [tmap_take_succ l1 k hlt _ HX1.out, tmap_take_succ l2 k hlt2 _ HX2.out, heq.out, e])
      clear HX1 HX2 HXX1 HXX2
      clear hlt2
      by_cases hn : n1 = n2
      · by_cases hp : p1 = p2
        · as_aux_lemma =>
          have E1 := Lib.hid (decide_eq_true hp)
          have NT2 := Lib.hid (NT.out (by rw [hn, hp]))
          have gn : (n1 == n2) = true := by rw [hn]; exact beq_self_eq_true _
          have gn2 : (n1 != n2) = false := by simp [bne, gn]
          clear hn hp NX NT
          go_wp2
          have hs := H.out.drew
          refine wp_region_held_drew (S := fun w' => w'.cell? ⟨b1', off1 + k * 2, none⟩ = some (.string (bb n1)) ∧ w'.cell? ⟨b1', off1 + k * 2 + 1, none⟩ = some (.slice qx1 p1.length capx1) ∧ w'.cell? ⟨b2', off2 + k * 2, none⟩ = some (.string (bb n2)) ∧ w'.cell? ⟨b2', off2 + k * 2 + 1, none⟩ = some (.slice qx2 p2.length capx2)) (by kernel_rfl) (HKP.out _ hs) (fun hHeld => ?_)
          refine wpAnyH_take (i := 0) (oi := { dst := some 17, op := Op.move (Operand.tmp 0), type := 27, pos := "ref.go:161", after := #[], guard := none }) (v := ?_) rfl (by kernel_rfl) (by kernel_rfl) (by kernel_rfl) (fun _ _ _ h => h) (Or.inl ⟨by rfl, ?_⟩) (by assumption) ?_
          rotate_left
          · intro w hSw; (try dsimp only at hSw); go_simp; try with_reducible rfl
          simp only [Act.put, List.setIfInBounds_toArray, List.set_cons_zero, List.set_cons_succ]
          refine wpAnyH_take (i := 1) (oi := { dst := some 18, op := Op.move (Operand.tmp 5), type := 3, pos := "ref.go:161", after := #[], guard := none }) (v := ?_) rfl (by kernel_rfl) (by kernel_rfl) (by kernel_rfl) (fun _ _ _ h => h) (Or.inl ⟨by rfl, ?_⟩) (by assumption) ?_
          rotate_left
          · intro w hSw; (try dsimp only at hSw); go_simp; try with_reducible rfl
          simp only [Act.put, List.setIfInBounds_toArray, List.set_cons_zero, List.set_cons_succ]
          refine wpAnyH_take (i := 2) (oi := { dst := some 19, op := Op.indexAddr 27 (Operand.tmp 17) (Operand.tmp 18), type := 0, pos := "ref.go:161", after := #[{ on := 0, ground := Ground.data }, { on := 1, ground := Ground.data }], guard := none }) (v := ?_) rfl (by kernel_rfl) (by kernel_rfl) (by kernel_rfl) (fun _ _ _ h => h) (Or.inl ⟨by rfl, ?_⟩) (by assumption) ?_
          rotate_left
          · intro w hSw; (try dsimp only at hSw); go_simp; try with_reducible rfl
          simp only [Act.put, List.setIfInBounds_toArray, List.set_cons_zero, List.set_cons_succ]
          refine wpAnyH_take (i := 3) (oi := { dst := some 20, op := Op.fieldAddr 60 (Operand.tmp 19) 0, type := 0, pos := "ref.go:161", after := #[{ on := 2, ground := Ground.data }], guard := none }) (v := ?_) rfl (by kernel_rfl) (by kernel_rfl) (by kernel_rfl) (fun _ _ _ h => h) (Or.inl ⟨by rfl, ?_⟩) (by assumption) ?_
          rotate_left
          · intro w hSw; (try dsimp only at hSw); go_simp; try with_reducible rfl
          simp only [Act.put, List.setIfInBounds_toArray, List.set_cons_zero, List.set_cons_succ]
          refine wpAnyH_take (i := 4) (oi := { dst := some 21, op := Op.load 9 (Operand.tmp 20), type := 9, pos := "ref.go:161", after := #[{ on := 3, ground := Ground.data }], guard := none }) (v := ?_) rfl (by kernel_rfl) (by kernel_rfl) (by kernel_rfl) (fun _ _ _ h => h) (Or.inl ⟨by rfl, ?_⟩) (by assumption) ?_
          rotate_left
          · intro w hSw; (try dsimp only at hSw); go_simp; try with_reducible rfl
          simp only [Act.put, List.setIfInBounds_toArray, List.set_cons_zero, List.set_cons_succ]
          refine wpAnyH_take (i := 5) (oi := { dst := some 22, op := Op.move (Operand.tmp 1), type := 27, pos := "ref.go:161", after := #[], guard := none }) (v := ?_) rfl (by kernel_rfl) (by kernel_rfl) (by kernel_rfl) (fun _ _ _ h => h) (Or.inl ⟨by rfl, ?_⟩) (by assumption) ?_
          rotate_left
          · intro w hSw; (try dsimp only at hSw); go_simp; try with_reducible rfl
          simp only [Act.put, List.setIfInBounds_toArray, List.set_cons_zero, List.set_cons_succ]
          refine wpAnyH_take (i := 6) (oi := { dst := some 23, op := Op.move (Operand.tmp 5), type := 3, pos := "ref.go:161", after := #[], guard := none }) (v := ?_) rfl (by kernel_rfl) (by kernel_rfl) (by kernel_rfl) (fun _ _ _ h => h) (Or.inl ⟨by rfl, ?_⟩) (by assumption) ?_
          rotate_left
          · intro w hSw; (try dsimp only at hSw); go_simp; try with_reducible rfl
          simp only [Act.put, List.setIfInBounds_toArray, List.set_cons_zero, List.set_cons_succ]
          refine wpAnyH_take (i := 7) (oi := { dst := some 24, op := Op.indexAddr 27 (Operand.tmp 22) (Operand.tmp 23), type := 0, pos := "ref.go:161", after := #[{ on := 5, ground := Ground.data }, { on := 6, ground := Ground.data }], guard := none }) (v := ?_) rfl (by kernel_rfl) (by kernel_rfl) (by kernel_rfl) (fun _ _ _ h => h) (Or.inl ⟨by rfl, ?_⟩) (by assumption) ?_
          rotate_left
          · intro w hSw; (try dsimp only at hSw); go_simp; try with_reducible rfl
          simp only [Act.put, List.setIfInBounds_toArray, List.set_cons_zero, List.set_cons_succ]
          refine wpAnyH_take (i := 8) (oi := { dst := some 25, op := Op.fieldAddr 60 (Operand.tmp 24) 0, type := 0, pos := "ref.go:161", after := #[{ on := 7, ground := Ground.data }], guard := none }) (v := ?_) rfl (by kernel_rfl) (by kernel_rfl) (by kernel_rfl) (fun _ _ _ h => h) (Or.inl ⟨by rfl, ?_⟩) (by assumption) ?_
          rotate_left
          · intro w hSw; (try dsimp only at hSw); go_simp; try with_reducible rfl
          simp only [Act.put, List.setIfInBounds_toArray, List.set_cons_zero, List.set_cons_succ]
          refine wpAnyH_take (i := 9) (oi := { dst := some 26, op := Op.load 9 (Operand.tmp 25), type := 9, pos := "ref.go:161", after := #[{ on := 8, ground := Ground.data }], guard := none }) (v := ?_) rfl (by kernel_rfl) (by kernel_rfl) (by kernel_rfl) (fun _ _ _ h => h) (Or.inl ⟨by rfl, ?_⟩) (by assumption) ?_
          rotate_left
          · intro w hSw; (try dsimp only at hSw); go_simp; try with_reducible rfl
          simp only [Act.put, List.setIfInBounds_toArray, List.set_cons_zero, List.set_cons_succ]
          refine wpAnyH_take (i := 10) (oi := { dst := some 27, op := Op.binOp BinOp.neq 9 (Operand.tmp 21) (Operand.tmp 26) 9, type := 4, pos := "ref.go:161", after := #[{ on := 4, ground := Ground.data }, { on := 9, ground := Ground.data }], guard := none }) (v := ?_) rfl (by kernel_rfl) (by kernel_rfl) (by kernel_rfl) (fun _ _ _ h => h) (Or.inl ⟨by rfl, ?_⟩) (by assumption) ?_
          rotate_left
          · intro w hSw; (try dsimp only at hSw); go_simp; try with_reducible rfl
          simp only [Act.put, List.setIfInBounds_toArray, List.set_cons_zero, List.set_cons_succ]
          refine wpAnyH_take (i := 11) (oi := { dst := some 28, op := Op.move (Operand.tmp 27), type := 4, pos := "ref.go:161", after := #[{ on := 10, ground := Ground.data }], guard := none }) (v := ?_) rfl (by kernel_rfl) (by kernel_rfl) (by kernel_rfl) (fun _ _ _ h => h) (Or.inl ⟨by rfl, ?_⟩) (by assumption) ?_
          rotate_left
          · intro w hSw; (try dsimp only at hSw); go_simp; try with_reducible rfl
          simp only [Act.put, List.setIfInBounds_toArray, List.set_cons_zero, List.set_cons_succ]
          refine wpAnyH_take (i := 12) (oi := { dst := some 29, op := Op.move (Operand.tmp 0), type := 27, pos := "ref.go:161", after := #[{ on := 11, ground := Ground.guard }], guard := some (11, false) }) (v := ?_) rfl (by kernel_rfl) (by kernel_rfl) (by kernel_rfl) (fun _ _ _ h => h) (Or.inl ⟨by rfl, ?_⟩) (by assumption) ?_
          rotate_left
          · intro w hSw; (try dsimp only at hSw); go_simp; try with_reducible rfl
          simp only [Act.put, List.setIfInBounds_toArray, List.set_cons_zero, List.set_cons_succ]
          refine wpAnyH_take (i := 13) (oi := { dst := some 30, op := Op.move (Operand.tmp 5), type := 3, pos := "ref.go:161", after := #[{ on := 11, ground := Ground.guard }], guard := some (11, false) }) (v := ?_) rfl (by kernel_rfl) (by kernel_rfl) (by kernel_rfl) (fun _ _ _ h => h) (Or.inl ⟨by rfl, ?_⟩) (by assumption) ?_
          rotate_left
          · intro w hSw; (try dsimp only at hSw); go_simp; try with_reducible rfl
          simp only [Act.put, List.setIfInBounds_toArray, List.set_cons_zero, List.set_cons_succ]
          refine wpAnyH_take (i := 14) (oi := { dst := some 31, op := Op.indexAddr 27 (Operand.tmp 29) (Operand.tmp 30), type := 0, pos := "ref.go:161", after := #[{ on := 12, ground := Ground.data }, { on := 13, ground := Ground.data }, { on := 11, ground := Ground.guard }], guard := some (11, false) }) (v := ?_) rfl (by kernel_rfl) (by kernel_rfl) (by kernel_rfl) (fun _ _ _ h => h) (Or.inl ⟨by rfl, ?_⟩) (by assumption) ?_
          rotate_left
          · intro w hSw; (try dsimp only at hSw); go_simp; try with_reducible rfl
          simp only [Act.put, List.setIfInBounds_toArray, List.set_cons_zero, List.set_cons_succ]
          refine wpAnyH_take (i := 15) (oi := { dst := some 32, op := Op.fieldAddr 60 (Operand.tmp 31) 1, type := 0, pos := "ref.go:161", after := #[{ on := 14, ground := Ground.data }, { on := 11, ground := Ground.guard }], guard := some (11, false) }) (v := ?_) rfl (by kernel_rfl) (by kernel_rfl) (by kernel_rfl) (fun _ _ _ h => h) (Or.inl ⟨by rfl, ?_⟩) (by assumption) ?_
          rotate_left
          · intro w hSw; (try dsimp only at hSw); go_simp; try with_reducible rfl
          simp only [Act.put, List.setIfInBounds_toArray, List.set_cons_zero, List.set_cons_succ]
          refine wpAnyH_take (i := 16) (oi := { dst := some 33, op := Op.load 58 (Operand.tmp 32), type := 58, pos := "ref.go:161", after := #[{ on := 15, ground := Ground.data }, { on := 11, ground := Ground.guard }], guard := some (11, false) }) (v := ?_) rfl (by kernel_rfl) (by kernel_rfl) (by kernel_rfl) (fun _ _ _ h => h) (Or.inl ⟨by rfl, ?_⟩) (by assumption) ?_
          rotate_left
          · intro w hSw; (try dsimp only at hSw); go_simp; try with_reducible rfl
          simp only [Act.put, List.setIfInBounds_toArray, List.set_cons_zero, List.set_cons_succ]
          refine wpAnyH_take (i := 17) (oi := { dst := some 34, op := Op.move (Operand.tmp 1), type := 27, pos := "ref.go:161", after := #[{ on := 11, ground := Ground.guard }], guard := some (11, false) }) (v := ?_) rfl (by kernel_rfl) (by kernel_rfl) (by kernel_rfl) (fun _ _ _ h => h) (Or.inl ⟨by rfl, ?_⟩) (by assumption) ?_
          rotate_left
          · intro w hSw; (try dsimp only at hSw); go_simp; try with_reducible rfl
          simp only [Act.put, List.setIfInBounds_toArray, List.set_cons_zero, List.set_cons_succ]
          refine wpAnyH_take (i := 18) (oi := { dst := some 35, op := Op.move (Operand.tmp 5), type := 3, pos := "ref.go:161", after := #[{ on := 11, ground := Ground.guard }], guard := some (11, false) }) (v := ?_) rfl (by kernel_rfl) (by kernel_rfl) (by kernel_rfl) (fun _ _ _ h => h) (Or.inl ⟨by rfl, ?_⟩) (by assumption) ?_
          rotate_left
          · intro w hSw; (try dsimp only at hSw); go_simp; try with_reducible rfl
          simp only [Act.put, List.setIfInBounds_toArray, List.set_cons_zero, List.set_cons_succ]
          refine wpAnyH_take (i := 19) (oi := { dst := some 36, op := Op.indexAddr 27 (Operand.tmp 34) (Operand.tmp 35), type := 0, pos := "ref.go:161", after := #[{ on := 17, ground := Ground.data }, { on := 18, ground := Ground.data }, { on := 11, ground := Ground.guard }], guard := some (11, false) }) (v := ?_) rfl (by kernel_rfl) (by kernel_rfl) (by kernel_rfl) (fun _ _ _ h => h) (Or.inl ⟨by rfl, ?_⟩) (by assumption) ?_
          rotate_left
          · intro w hSw; (try dsimp only at hSw); go_simp; try with_reducible rfl
          simp only [Act.put, List.setIfInBounds_toArray, List.set_cons_zero, List.set_cons_succ]
          refine wpAnyH_take (i := 20) (oi := { dst := some 37, op := Op.fieldAddr 60 (Operand.tmp 36) 1, type := 0, pos := "ref.go:161", after := #[{ on := 19, ground := Ground.data }, { on := 11, ground := Ground.guard }], guard := some (11, false) }) (v := ?_) rfl (by kernel_rfl) (by kernel_rfl) (by kernel_rfl) (fun _ _ _ h => h) (Or.inl ⟨by rfl, ?_⟩) (by assumption) ?_
          rotate_left
          · intro w hSw; (try dsimp only at hSw); go_simp; try with_reducible rfl
          simp only [Act.put, List.setIfInBounds_toArray, List.set_cons_zero, List.set_cons_succ]
          refine wpAnyH_take (i := 21) (oi := { dst := some 38, op := Op.load 58 (Operand.tmp 37), type := 58, pos := "ref.go:161", after := #[{ on := 20, ground := Ground.data }, { on := 11, ground := Ground.guard }], guard := some (11, false) }) (v := ?_) rfl (by kernel_rfl) (by kernel_rfl) (by kernel_rfl) (fun _ _ _ h => h) (Or.inl ⟨by rfl, ?_⟩) (by assumption) ?_
          rotate_left
          · intro w hSw; (try dsimp only at hSw); go_simp; try with_reducible rfl
          simp only [Act.put, List.setIfInBounds_toArray, List.set_cons_zero, List.set_cons_succ]
          refine wpAnyH_ready (rs := [22]) (by kernel_rfl) (by simp) (AllReadyH.cons (o := { dst := some 39, op := Op.call { callee := Callee.value (Operand.func 39), args := #[Operand.tmp 33, Operand.tmp 38], argTypes := #[58, 58] }, type := 4, pos := "ref.go:161", after := #[{ on := 16, ground := Ground.data }, { on := 21, ground := Ground.data }, { on := 11, ground := Ground.chain }, { on := 11, ground := Ground.guard }], guard := some (11, false) }) rfl (fun KK hK => ?_) AllReadyH.nil)
          · go_simp
            go_at_call 39
            with_reducible refine (ints_same01 p1 p2 qx1 qx2 capx1 capx2 XF1.out XF2.out true E1.out XK1.out XK2.out hs).mono ?_
            rintro e wq ⟨rfl, hs⟩
            refine hK.out _ _ (HKP.out _ hs) (fun hHeld => ?_)
            clear hK KK
            try simp only [Act.put, List.setIfInBounds_toArray, List.set_cons_zero, List.set_cons_succ]
            refine wpAnyH_take (i := 23) (oi := { dst := some 40, op := Op.unOp UnOp.not 4 (Operand.tmp 39), type := 4, pos := "ref.go:161", after := #[{ on := 22, ground := Ground.data }, { on := 11, ground := Ground.guard }], guard := some (11, false) }) (v := ?_) rfl (by kernel_rfl) (by kernel_rfl) (by kernel_rfl) (fun _ _ _ h => h) (Or.inl ⟨by rfl, ?_⟩) (by assumption) ?_
            rotate_left
            · intro w hSw; (try dsimp only at hSw); go_simp; try with_reducible rfl
            simp only [Act.put, List.setIfInBounds_toArray, List.set_cons_zero, List.set_cons_succ]
            refine wpAnyH_take (i := 24) (oi := { dst := some 41, op := Op.pick (Operand.tmp 28) (Operand.const (Value.bool true)) (Operand.tmp 40), type := 4, pos := "ref.go:161", after := #[{ on := 11, ground := Ground.data }, { on := 23, ground := Ground.data }], guard := none }) (v := ?_) rfl (by kernel_rfl) (by kernel_rfl) (by kernel_rfl) (fun _ _ _ h => h) (Or.inl ⟨by rfl, ?_⟩) (by assumption) ?_
            rotate_left
            · intro w hSw; (try dsimp only at hSw); go_simp; try with_reducible rfl
            simp only [Act.put, List.setIfInBounds_toArray, List.set_cons_zero, List.set_cons_succ]
            refine wpAnyH_done (by kernel_rfl) ?_ _
            go_wp2_with fail
            go_roundw
            case rel => exact ⟨k + 1, hlt, by go_num, NT2, hs⟩
            case measure => first | (simp [intOf]; done) | (simp [intOf]; omega)
        · as_aux_lemma =>
          have E1 := Lib.hid (decide_eq_false hp)
          have HRF := Lib.hid (show r = false by rw [← HR.out]; exact decide_eq_false (NX.out (by intro h; cases h; exact hp rfl)))
          have gn : (n1 == n2) = true := by rw [hn]; exact beq_self_eq_true _
          have gn2 : (n1 != n2) = false := by simp [bne, gn]
          clear hn hp NX NT
          go_wp2
          have hs := H.out.drew
          refine wp_region_held_drew (S := fun w' => w'.cell? ⟨b1', off1 + k * 2, none⟩ = some (.string (bb n1)) ∧ w'.cell? ⟨b1', off1 + k * 2 + 1, none⟩ = some (.slice qx1 p1.length capx1) ∧ w'.cell? ⟨b2', off2 + k * 2, none⟩ = some (.string (bb n2)) ∧ w'.cell? ⟨b2', off2 + k * 2 + 1, none⟩ = some (.slice qx2 p2.length capx2)) (by kernel_rfl) (HKP.out _ hs) (fun hHeld => ?_)
          refine wpAnyH_take (i := 0) (oi := { dst := some 17, op := Op.move (Operand.tmp 0), type := 27, pos := "ref.go:161", after := #[], guard := none }) (v := ?_) rfl (by kernel_rfl) (by kernel_rfl) (by kernel_rfl) (fun _ _ _ h => h) (Or.inl ⟨by rfl, ?_⟩) (by assumption) ?_
          rotate_left
          · intro w hSw; (try dsimp only at hSw); go_simp; try with_reducible rfl
          simp only [Act.put, List.setIfInBounds_toArray, List.set_cons_zero, List.set_cons_succ]
          refine wpAnyH_take (i := 1) (oi := { dst := some 18, op := Op.move (Operand.tmp 5), type := 3, pos := "ref.go:161", after := #[], guard := none }) (v := ?_) rfl (by kernel_rfl) (by kernel_rfl) (by kernel_rfl) (fun _ _ _ h => h) (Or.inl ⟨by rfl, ?_⟩) (by assumption) ?_
          rotate_left
          · intro w hSw; (try dsimp only at hSw); go_simp; try with_reducible rfl
          simp only [Act.put, List.setIfInBounds_toArray, List.set_cons_zero, List.set_cons_succ]
          refine wpAnyH_take (i := 2) (oi := { dst := some 19, op := Op.indexAddr 27 (Operand.tmp 17) (Operand.tmp 18), type := 0, pos := "ref.go:161", after := #[{ on := 0, ground := Ground.data }, { on := 1, ground := Ground.data }], guard := none }) (v := ?_) rfl (by kernel_rfl) (by kernel_rfl) (by kernel_rfl) (fun _ _ _ h => h) (Or.inl ⟨by rfl, ?_⟩) (by assumption) ?_
          rotate_left
          · intro w hSw; (try dsimp only at hSw); go_simp; try with_reducible rfl
          simp only [Act.put, List.setIfInBounds_toArray, List.set_cons_zero, List.set_cons_succ]
          refine wpAnyH_take (i := 3) (oi := { dst := some 20, op := Op.fieldAddr 60 (Operand.tmp 19) 0, type := 0, pos := "ref.go:161", after := #[{ on := 2, ground := Ground.data }], guard := none }) (v := ?_) rfl (by kernel_rfl) (by kernel_rfl) (by kernel_rfl) (fun _ _ _ h => h) (Or.inl ⟨by rfl, ?_⟩) (by assumption) ?_
          rotate_left
          · intro w hSw; (try dsimp only at hSw); go_simp; try with_reducible rfl
          simp only [Act.put, List.setIfInBounds_toArray, List.set_cons_zero, List.set_cons_succ]
          refine wpAnyH_take (i := 4) (oi := { dst := some 21, op := Op.load 9 (Operand.tmp 20), type := 9, pos := "ref.go:161", after := #[{ on := 3, ground := Ground.data }], guard := none }) (v := ?_) rfl (by kernel_rfl) (by kernel_rfl) (by kernel_rfl) (fun _ _ _ h => h) (Or.inl ⟨by rfl, ?_⟩) (by assumption) ?_
          rotate_left
          · intro w hSw; (try dsimp only at hSw); go_simp; try with_reducible rfl
          simp only [Act.put, List.setIfInBounds_toArray, List.set_cons_zero, List.set_cons_succ]
          refine wpAnyH_take (i := 5) (oi := { dst := some 22, op := Op.move (Operand.tmp 1), type := 27, pos := "ref.go:161", after := #[], guard := none }) (v := ?_) rfl (by kernel_rfl) (by kernel_rfl) (by kernel_rfl) (fun _ _ _ h => h) (Or.inl ⟨by rfl, ?_⟩) (by assumption) ?_
          rotate_left
          · intro w hSw; (try dsimp only at hSw); go_simp; try with_reducible rfl
          simp only [Act.put, List.setIfInBounds_toArray, List.set_cons_zero, List.set_cons_succ]
          refine wpAnyH_take (i := 6) (oi := { dst := some 23, op := Op.move (Operand.tmp 5), type := 3, pos := "ref.go:161", after := #[], guard := none }) (v := ?_) rfl (by kernel_rfl) (by kernel_rfl) (by kernel_rfl) (fun _ _ _ h => h) (Or.inl ⟨by rfl, ?_⟩) (by assumption) ?_
          rotate_left
          · intro w hSw; (try dsimp only at hSw); go_simp; try with_reducible rfl
          simp only [Act.put, List.setIfInBounds_toArray, List.set_cons_zero, List.set_cons_succ]
          refine wpAnyH_take (i := 7) (oi := { dst := some 24, op := Op.indexAddr 27 (Operand.tmp 22) (Operand.tmp 23), type := 0, pos := "ref.go:161", after := #[{ on := 5, ground := Ground.data }, { on := 6, ground := Ground.data }], guard := none }) (v := ?_) rfl (by kernel_rfl) (by kernel_rfl) (by kernel_rfl) (fun _ _ _ h => h) (Or.inl ⟨by rfl, ?_⟩) (by assumption) ?_
          rotate_left
          · intro w hSw; (try dsimp only at hSw); go_simp; try with_reducible rfl
          simp only [Act.put, List.setIfInBounds_toArray, List.set_cons_zero, List.set_cons_succ]
          refine wpAnyH_take (i := 8) (oi := { dst := some 25, op := Op.fieldAddr 60 (Operand.tmp 24) 0, type := 0, pos := "ref.go:161", after := #[{ on := 7, ground := Ground.data }], guard := none }) (v := ?_) rfl (by kernel_rfl) (by kernel_rfl) (by kernel_rfl) (fun _ _ _ h => h) (Or.inl ⟨by rfl, ?_⟩) (by assumption) ?_
          rotate_left
          · intro w hSw; (try dsimp only at hSw); go_simp; try with_reducible rfl
          simp only [Act.put, List.setIfInBounds_toArray, List.set_cons_zero, List.set_cons_succ]
          refine wpAnyH_take (i := 9) (oi := { dst := some 26, op := Op.load 9 (Operand.tmp 25), type := 9, pos := "ref.go:161", after := #[{ on := 8, ground := Ground.data }], guard := none }) (v := ?_) rfl (by kernel_rfl) (by kernel_rfl) (by kernel_rfl) (fun _ _ _ h => h) (Or.inl ⟨by rfl, ?_⟩) (by assumption) ?_
          rotate_left
          · intro w hSw; (try dsimp only at hSw); go_simp; try with_reducible rfl
          simp only [Act.put, List.setIfInBounds_toArray, List.set_cons_zero, List.set_cons_succ]
          refine wpAnyH_take (i := 10) (oi := { dst := some 27, op := Op.binOp BinOp.neq 9 (Operand.tmp 21) (Operand.tmp 26) 9, type := 4, pos := "ref.go:161", after := #[{ on := 4, ground := Ground.data }, { on := 9, ground := Ground.data }], guard := none }) (v := ?_) rfl (by kernel_rfl) (by kernel_rfl) (by kernel_rfl) (fun _ _ _ h => h) (Or.inl ⟨by rfl, ?_⟩) (by assumption) ?_
          rotate_left
          · intro w hSw; (try dsimp only at hSw); go_simp; try with_reducible rfl
          simp only [Act.put, List.setIfInBounds_toArray, List.set_cons_zero, List.set_cons_succ]
          refine wpAnyH_take (i := 11) (oi := { dst := some 28, op := Op.move (Operand.tmp 27), type := 4, pos := "ref.go:161", after := #[{ on := 10, ground := Ground.data }], guard := none }) (v := ?_) rfl (by kernel_rfl) (by kernel_rfl) (by kernel_rfl) (fun _ _ _ h => h) (Or.inl ⟨by rfl, ?_⟩) (by assumption) ?_
          rotate_left
          · intro w hSw; (try dsimp only at hSw); go_simp; try with_reducible rfl
          simp only [Act.put, List.setIfInBounds_toArray, List.set_cons_zero, List.set_cons_succ]
          refine wpAnyH_take (i := 12) (oi := { dst := some 29, op := Op.move (Operand.tmp 0), type := 27, pos := "ref.go:161", after := #[{ on := 11, ground := Ground.guard }], guard := some (11, false) }) (v := ?_) rfl (by kernel_rfl) (by kernel_rfl) (by kernel_rfl) (fun _ _ _ h => h) (Or.inl ⟨by rfl, ?_⟩) (by assumption) ?_
          rotate_left
          · intro w hSw; (try dsimp only at hSw); go_simp; try with_reducible rfl
          simp only [Act.put, List.setIfInBounds_toArray, List.set_cons_zero, List.set_cons_succ]
          refine wpAnyH_take (i := 13) (oi := { dst := some 30, op := Op.move (Operand.tmp 5), type := 3, pos := "ref.go:161", after := #[{ on := 11, ground := Ground.guard }], guard := some (11, false) }) (v := ?_) rfl (by kernel_rfl) (by kernel_rfl) (by kernel_rfl) (fun _ _ _ h => h) (Or.inl ⟨by rfl, ?_⟩) (by assumption) ?_
          rotate_left
          · intro w hSw; (try dsimp only at hSw); go_simp; try with_reducible rfl
          simp only [Act.put, List.setIfInBounds_toArray, List.set_cons_zero, List.set_cons_succ]
          refine wpAnyH_take (i := 14) (oi := { dst := some 31, op := Op.indexAddr 27 (Operand.tmp 29) (Operand.tmp 30), type := 0, pos := "ref.go:161", after := #[{ on := 12, ground := Ground.data }, { on := 13, ground := Ground.data }, { on := 11, ground := Ground.guard }], guard := some (11, false) }) (v := ?_) rfl (by kernel_rfl) (by kernel_rfl) (by kernel_rfl) (fun _ _ _ h => h) (Or.inl ⟨by rfl, ?_⟩) (by assumption) ?_
          rotate_left
          · intro w hSw; (try dsimp only at hSw); go_simp; try with_reducible rfl
          simp only [Act.put, List.setIfInBounds_toArray, List.set_cons_zero, List.set_cons_succ]
          refine wpAnyH_take (i := 15) (oi := { dst := some 32, op := Op.fieldAddr 60 (Operand.tmp 31) 1, type := 0, pos := "ref.go:161", after := #[{ on := 14, ground := Ground.data }, { on := 11, ground := Ground.guard }], guard := some (11, false) }) (v := ?_) rfl (by kernel_rfl) (by kernel_rfl) (by kernel_rfl) (fun _ _ _ h => h) (Or.inl ⟨by rfl, ?_⟩) (by assumption) ?_
          rotate_left
          · intro w hSw; (try dsimp only at hSw); go_simp; try with_reducible rfl
          simp only [Act.put, List.setIfInBounds_toArray, List.set_cons_zero, List.set_cons_succ]
          refine wpAnyH_take (i := 16) (oi := { dst := some 33, op := Op.load 58 (Operand.tmp 32), type := 58, pos := "ref.go:161", after := #[{ on := 15, ground := Ground.data }, { on := 11, ground := Ground.guard }], guard := some (11, false) }) (v := ?_) rfl (by kernel_rfl) (by kernel_rfl) (by kernel_rfl) (fun _ _ _ h => h) (Or.inl ⟨by rfl, ?_⟩) (by assumption) ?_
          rotate_left
          · intro w hSw; (try dsimp only at hSw); go_simp; try with_reducible rfl
          simp only [Act.put, List.setIfInBounds_toArray, List.set_cons_zero, List.set_cons_succ]
          refine wpAnyH_take (i := 17) (oi := { dst := some 34, op := Op.move (Operand.tmp 1), type := 27, pos := "ref.go:161", after := #[{ on := 11, ground := Ground.guard }], guard := some (11, false) }) (v := ?_) rfl (by kernel_rfl) (by kernel_rfl) (by kernel_rfl) (fun _ _ _ h => h) (Or.inl ⟨by rfl, ?_⟩) (by assumption) ?_
          rotate_left
          · intro w hSw; (try dsimp only at hSw); go_simp; try with_reducible rfl
          simp only [Act.put, List.setIfInBounds_toArray, List.set_cons_zero, List.set_cons_succ]
          refine wpAnyH_take (i := 18) (oi := { dst := some 35, op := Op.move (Operand.tmp 5), type := 3, pos := "ref.go:161", after := #[{ on := 11, ground := Ground.guard }], guard := some (11, false) }) (v := ?_) rfl (by kernel_rfl) (by kernel_rfl) (by kernel_rfl) (fun _ _ _ h => h) (Or.inl ⟨by rfl, ?_⟩) (by assumption) ?_
          rotate_left
          · intro w hSw; (try dsimp only at hSw); go_simp; try with_reducible rfl
          simp only [Act.put, List.setIfInBounds_toArray, List.set_cons_zero, List.set_cons_succ]
          refine wpAnyH_take (i := 19) (oi := { dst := some 36, op := Op.indexAddr 27 (Operand.tmp 34) (Operand.tmp 35), type := 0, pos := "ref.go:161", after := #[{ on := 17, ground := Ground.data }, { on := 18, ground := Ground.data }, { on := 11, ground := Ground.guard }], guard := some (11, false) }) (v := ?_) rfl (by kernel_rfl) (by kernel_rfl) (by kernel_rfl) (fun _ _ _ h => h) (Or.inl ⟨by rfl, ?_⟩) (by assumption) ?_
          rotate_left
          · intro w hSw; (try dsimp only at hSw); go_simp; try with_reducible rfl
          simp only [Act.put, List.setIfInBounds_toArray, List.set_cons_zero, List.set_cons_succ]
          refine wpAnyH_take (i := 20) (oi := { dst := some 37, op := Op.fieldAddr 60 (Operand.tmp 36) 1, type := 0, pos := "ref.go:161", after := #[{ on := 19, ground := Ground.data }, { on := 11, ground := Ground.guard }], guard := some (11, false) }) (v := ?_) rfl (by kernel_rfl) (by kernel_rfl) (by kernel_rfl) (fun _ _ _ h => h) (Or.inl ⟨by rfl, ?_⟩) (by assumption) ?_
          rotate_left
          · intro w hSw; (try dsimp only at hSw); go_simp; try with_reducible rfl
          simp only [Act.put, List.setIfInBounds_toArray, List.set_cons_zero, List.set_cons_succ]
          refine wpAnyH_take (i := 21) (oi := { dst := some 38, op := Op.load 58 (Operand.tmp 37), type := 58, pos := "ref.go:161", after := #[{ on := 20, ground := Ground.data }, { on := 11, ground := Ground.guard }], guard := some (11, false) }) (v := ?_) rfl (by kernel_rfl) (by kernel_rfl) (by kernel_rfl) (fun _ _ _ h => h) (Or.inl ⟨by rfl, ?_⟩) (by assumption) ?_
          rotate_left
          · intro w hSw; (try dsimp only at hSw); go_simp; try with_reducible rfl
          simp only [Act.put, List.setIfInBounds_toArray, List.set_cons_zero, List.set_cons_succ]
          refine wpAnyH_ready (rs := [22]) (by kernel_rfl) (by simp) (AllReadyH.cons (o := { dst := some 39, op := Op.call { callee := Callee.value (Operand.func 39), args := #[Operand.tmp 33, Operand.tmp 38], argTypes := #[58, 58] }, type := 4, pos := "ref.go:161", after := #[{ on := 16, ground := Ground.data }, { on := 21, ground := Ground.data }, { on := 11, ground := Ground.chain }, { on := 11, ground := Ground.guard }], guard := some (11, false) }) rfl (fun KK hK => ?_) AllReadyH.nil)
          · go_simp
            go_at_call 39
            with_reducible refine (ints_same01 p1 p2 qx1 qx2 capx1 capx2 XF1.out XF2.out false E1.out XK1.out XK2.out hs).mono ?_
            rintro e wq ⟨rfl, hs⟩
            refine hK.out _ _ (HKP.out _ hs) (fun hHeld => ?_)
            clear hK KK
            try simp only [Act.put, List.setIfInBounds_toArray, List.set_cons_zero, List.set_cons_succ]
            refine wpAnyH_take (i := 23) (oi := { dst := some 40, op := Op.unOp UnOp.not 4 (Operand.tmp 39), type := 4, pos := "ref.go:161", after := #[{ on := 22, ground := Ground.data }, { on := 11, ground := Ground.guard }], guard := some (11, false) }) (v := ?_) rfl (by kernel_rfl) (by kernel_rfl) (by kernel_rfl) (fun _ _ _ h => h) (Or.inl ⟨by rfl, ?_⟩) (by assumption) ?_
            rotate_left
            · intro w hSw; (try dsimp only at hSw); go_simp; try with_reducible rfl
            simp only [Act.put, List.setIfInBounds_toArray, List.set_cons_zero, List.set_cons_succ]
            refine wpAnyH_take (i := 24) (oi := { dst := some 41, op := Op.pick (Operand.tmp 28) (Operand.const (Value.bool true)) (Operand.tmp 40), type := 4, pos := "ref.go:161", after := #[{ on := 11, ground := Ground.data }, { on := 23, ground := Ground.data }], guard := none }) (v := ?_) rfl (by kernel_rfl) (by kernel_rfl) (by kernel_rfl) (fun _ _ _ h => h) (Or.inl ⟨by rfl, ?_⟩) (by assumption) ?_
            rotate_left
            · intro w hSw; (try dsimp only at hSw); go_simp; try with_reducible rfl
            simp only [Act.put, List.setIfInBounds_toArray, List.set_cons_zero, List.set_cons_succ]
            refine wpAnyH_done (by kernel_rfl) ?_ _
            go_wp2_with fail
            go_ret
            exact ⟨ret_bool HRF.out.symm, hs⟩
      · as_aux_lemma =>
          have HRF := Lib.hid (show r = false by rw [← HR.out]; exact decide_eq_false (NX.out (by intro h; cases h; exact hn rfl)))
          have gn : (n1 == n2) = false := by simpa using hn
          have gn2 : (n1 != n2) = true := by simp [bne, gn]
          clear hn NX NT
          go_wp2
          have hs := H.out.drew
          refine wp_region_held_drew (S := fun w' => w'.cell? ⟨b1', off1 + k * 2, none⟩ = some (.string (bb n1)) ∧ w'.cell? ⟨b1', off1 + k * 2 + 1, none⟩ = some (.slice qx1 p1.length capx1) ∧ w'.cell? ⟨b2', off2 + k * 2, none⟩ = some (.string (bb n2)) ∧ w'.cell? ⟨b2', off2 + k * 2 + 1, none⟩ = some (.slice qx2 p2.length capx2)) (by kernel_rfl) (HKP.out _ hs) (fun hHeld => ?_)
          refine wpAnyH_take (i := 0) (oi := { dst := some 17, op := Op.move (Operand.tmp 0), type := 27, pos := "ref.go:161", after := #[], guard := none }) (v := ?_) rfl (by kernel_rfl) (by kernel_rfl) (by kernel_rfl) (fun _ _ _ h => h) (Or.inl ⟨by rfl, ?_⟩) (by assumption) ?_
          rotate_left
          · intro w hSw; (try dsimp only at hSw); go_simp; try with_reducible rfl
          simp only [Act.put, List.setIfInBounds_toArray, List.set_cons_zero, List.set_cons_succ]
          refine wpAnyH_take (i := 1) (oi := { dst := some 18, op := Op.move (Operand.tmp 5), type := 3, pos := "ref.go:161", after := #[], guard := none }) (v := ?_) rfl (by kernel_rfl) (by kernel_rfl) (by kernel_rfl) (fun _ _ _ h => h) (Or.inl ⟨by rfl, ?_⟩) (by assumption) ?_
          rotate_left
          · intro w hSw; (try dsimp only at hSw); go_simp; try with_reducible rfl
          simp only [Act.put, List.setIfInBounds_toArray, List.set_cons_zero, List.set_cons_succ]
          refine wpAnyH_take (i := 2) (oi := { dst := some 19, op := Op.indexAddr 27 (Operand.tmp 17) (Operand.tmp 18), type := 0, pos := "ref.go:161", after := #[{ on := 0, ground := Ground.data }, { on := 1, ground := Ground.data }], guard := none }) (v := ?_) rfl (by kernel_rfl) (by kernel_rfl) (by kernel_rfl) (fun _ _ _ h => h) (Or.inl ⟨by rfl, ?_⟩) (by assumption) ?_
          rotate_left
          · intro w hSw; (try dsimp only at hSw); go_simp; try with_reducible rfl
          simp only [Act.put, List.setIfInBounds_toArray, List.set_cons_zero, List.set_cons_succ]
          refine wpAnyH_take (i := 3) (oi := { dst := some 20, op := Op.fieldAddr 60 (Operand.tmp 19) 0, type := 0, pos := "ref.go:161", after := #[{ on := 2, ground := Ground.data }], guard := none }) (v := ?_) rfl (by kernel_rfl) (by kernel_rfl) (by kernel_rfl) (fun _ _ _ h => h) (Or.inl ⟨by rfl, ?_⟩) (by assumption) ?_
          rotate_left
          · intro w hSw; (try dsimp only at hSw); go_simp; try with_reducible rfl
          simp only [Act.put, List.setIfInBounds_toArray, List.set_cons_zero, List.set_cons_succ]
          refine wpAnyH_take (i := 4) (oi := { dst := some 21, op := Op.load 9 (Operand.tmp 20), type := 9, pos := "ref.go:161", after := #[{ on := 3, ground := Ground.data }], guard := none }) (v := ?_) rfl (by kernel_rfl) (by kernel_rfl) (by kernel_rfl) (fun _ _ _ h => h) (Or.inl ⟨by rfl, ?_⟩) (by assumption) ?_
          rotate_left
          · intro w hSw; (try dsimp only at hSw); go_simp; try with_reducible rfl
          simp only [Act.put, List.setIfInBounds_toArray, List.set_cons_zero, List.set_cons_succ]
          refine wpAnyH_take (i := 5) (oi := { dst := some 22, op := Op.move (Operand.tmp 1), type := 27, pos := "ref.go:161", after := #[], guard := none }) (v := ?_) rfl (by kernel_rfl) (by kernel_rfl) (by kernel_rfl) (fun _ _ _ h => h) (Or.inl ⟨by rfl, ?_⟩) (by assumption) ?_
          rotate_left
          · intro w hSw; (try dsimp only at hSw); go_simp; try with_reducible rfl
          simp only [Act.put, List.setIfInBounds_toArray, List.set_cons_zero, List.set_cons_succ]
          refine wpAnyH_take (i := 6) (oi := { dst := some 23, op := Op.move (Operand.tmp 5), type := 3, pos := "ref.go:161", after := #[], guard := none }) (v := ?_) rfl (by kernel_rfl) (by kernel_rfl) (by kernel_rfl) (fun _ _ _ h => h) (Or.inl ⟨by rfl, ?_⟩) (by assumption) ?_
          rotate_left
          · intro w hSw; (try dsimp only at hSw); go_simp; try with_reducible rfl
          simp only [Act.put, List.setIfInBounds_toArray, List.set_cons_zero, List.set_cons_succ]
          refine wpAnyH_take (i := 7) (oi := { dst := some 24, op := Op.indexAddr 27 (Operand.tmp 22) (Operand.tmp 23), type := 0, pos := "ref.go:161", after := #[{ on := 5, ground := Ground.data }, { on := 6, ground := Ground.data }], guard := none }) (v := ?_) rfl (by kernel_rfl) (by kernel_rfl) (by kernel_rfl) (fun _ _ _ h => h) (Or.inl ⟨by rfl, ?_⟩) (by assumption) ?_
          rotate_left
          · intro w hSw; (try dsimp only at hSw); go_simp; try with_reducible rfl
          simp only [Act.put, List.setIfInBounds_toArray, List.set_cons_zero, List.set_cons_succ]
          refine wpAnyH_take (i := 8) (oi := { dst := some 25, op := Op.fieldAddr 60 (Operand.tmp 24) 0, type := 0, pos := "ref.go:161", after := #[{ on := 7, ground := Ground.data }], guard := none }) (v := ?_) rfl (by kernel_rfl) (by kernel_rfl) (by kernel_rfl) (fun _ _ _ h => h) (Or.inl ⟨by rfl, ?_⟩) (by assumption) ?_
          rotate_left
          · intro w hSw; (try dsimp only at hSw); go_simp; try with_reducible rfl
          simp only [Act.put, List.setIfInBounds_toArray, List.set_cons_zero, List.set_cons_succ]
          refine wpAnyH_take (i := 9) (oi := { dst := some 26, op := Op.load 9 (Operand.tmp 25), type := 9, pos := "ref.go:161", after := #[{ on := 8, ground := Ground.data }], guard := none }) (v := ?_) rfl (by kernel_rfl) (by kernel_rfl) (by kernel_rfl) (fun _ _ _ h => h) (Or.inl ⟨by rfl, ?_⟩) (by assumption) ?_
          rotate_left
          · intro w hSw; (try dsimp only at hSw); go_simp; try with_reducible rfl
          simp only [Act.put, List.setIfInBounds_toArray, List.set_cons_zero, List.set_cons_succ]
          refine wpAnyH_take (i := 10) (oi := { dst := some 27, op := Op.binOp BinOp.neq 9 (Operand.tmp 21) (Operand.tmp 26) 9, type := 4, pos := "ref.go:161", after := #[{ on := 4, ground := Ground.data }, { on := 9, ground := Ground.data }], guard := none }) (v := ?_) rfl (by kernel_rfl) (by kernel_rfl) (by kernel_rfl) (fun _ _ _ h => h) (Or.inl ⟨by rfl, ?_⟩) (by assumption) ?_
          rotate_left
          · intro w hSw; (try dsimp only at hSw); go_simp; try with_reducible rfl
          simp only [Act.put, List.setIfInBounds_toArray, List.set_cons_zero, List.set_cons_succ]
          refine wpAnyH_take (i := 11) (oi := { dst := some 28, op := Op.move (Operand.tmp 27), type := 4, pos := "ref.go:161", after := #[{ on := 10, ground := Ground.data }], guard := none }) (v := ?_) rfl (by kernel_rfl) (by kernel_rfl) (by kernel_rfl) (fun _ _ _ h => h) (Or.inl ⟨by rfl, ?_⟩) (by assumption) ?_
          rotate_left
          · intro w hSw; (try dsimp only at hSw); go_simp; try with_reducible rfl
          simp only [Act.put, List.setIfInBounds_toArray, List.set_cons_zero, List.set_cons_succ]
          refine wpAnyH_take (i := 12) (oi := { dst := some 29, op := Op.move (Operand.tmp 0), type := 27, pos := "ref.go:161", after := #[{ on := 11, ground := Ground.guard }], guard := some (11, false) }) (v := undef) rfl (by kernel_rfl) (by kernel_rfl) (by kernel_rfl) (fun _ _ _ h => h) (Or.inr ⟨by rfl, rfl⟩) (by assumption) ?_
          simp only [Act.put, List.setIfInBounds_toArray, List.set_cons_zero, List.set_cons_succ]
          refine wpAnyH_take (i := 13) (oi := { dst := some 30, op := Op.move (Operand.tmp 5), type := 3, pos := "ref.go:161", after := #[{ on := 11, ground := Ground.guard }], guard := some (11, false) }) (v := undef) rfl (by kernel_rfl) (by kernel_rfl) (by kernel_rfl) (fun _ _ _ h => h) (Or.inr ⟨by rfl, rfl⟩) (by assumption) ?_
          simp only [Act.put, List.setIfInBounds_toArray, List.set_cons_zero, List.set_cons_succ]
          refine wpAnyH_take (i := 14) (oi := { dst := some 31, op := Op.indexAddr 27 (Operand.tmp 29) (Operand.tmp 30), type := 0, pos := "ref.go:161", after := #[{ on := 12, ground := Ground.data }, { on := 13, ground := Ground.data }, { on := 11, ground := Ground.guard }], guard := some (11, false) }) (v := undef) rfl (by kernel_rfl) (by kernel_rfl) (by kernel_rfl) (fun _ _ _ h => h) (Or.inr ⟨by rfl, rfl⟩) (by assumption) ?_
          simp only [Act.put, List.setIfInBounds_toArray, List.set_cons_zero, List.set_cons_succ]
          refine wpAnyH_take (i := 15) (oi := { dst := some 32, op := Op.fieldAddr 60 (Operand.tmp 31) 1, type := 0, pos := "ref.go:161", after := #[{ on := 14, ground := Ground.data }, { on := 11, ground := Ground.guard }], guard := some (11, false) }) (v := undef) rfl (by kernel_rfl) (by kernel_rfl) (by kernel_rfl) (fun _ _ _ h => h) (Or.inr ⟨by rfl, rfl⟩) (by assumption) ?_
          simp only [Act.put, List.setIfInBounds_toArray, List.set_cons_zero, List.set_cons_succ]
          refine wpAnyH_take (i := 16) (oi := { dst := some 33, op := Op.load 58 (Operand.tmp 32), type := 58, pos := "ref.go:161", after := #[{ on := 15, ground := Ground.data }, { on := 11, ground := Ground.guard }], guard := some (11, false) }) (v := undef) rfl (by kernel_rfl) (by kernel_rfl) (by kernel_rfl) (fun _ _ _ h => h) (Or.inr ⟨by rfl, rfl⟩) (by assumption) ?_
          simp only [Act.put, List.setIfInBounds_toArray, List.set_cons_zero, List.set_cons_succ]
          refine wpAnyH_take (i := 17) (oi := { dst := some 34, op := Op.move (Operand.tmp 1), type := 27, pos := "ref.go:161", after := #[{ on := 11, ground := Ground.guard }], guard := some (11, false) }) (v := undef) rfl (by kernel_rfl) (by kernel_rfl) (by kernel_rfl) (fun _ _ _ h => h) (Or.inr ⟨by rfl, rfl⟩) (by assumption) ?_
          simp only [Act.put, List.setIfInBounds_toArray, List.set_cons_zero, List.set_cons_succ]
          refine wpAnyH_take (i := 18) (oi := { dst := some 35, op := Op.move (Operand.tmp 5), type := 3, pos := "ref.go:161", after := #[{ on := 11, ground := Ground.guard }], guard := some (11, false) }) (v := undef) rfl (by kernel_rfl) (by kernel_rfl) (by kernel_rfl) (fun _ _ _ h => h) (Or.inr ⟨by rfl, rfl⟩) (by assumption) ?_
          simp only [Act.put, List.setIfInBounds_toArray, List.set_cons_zero, List.set_cons_succ]
          refine wpAnyH_take (i := 19) (oi := { dst := some 36, op := Op.indexAddr 27 (Operand.tmp 34) (Operand.tmp 35), type := 0, pos := "ref.go:161", after := #[{ on := 17, ground := Ground.data }, { on := 18, ground := Ground.data }, { on := 11, ground := Ground.guard }], guard := some (11, false) }) (v := undef) rfl (by kernel_rfl) (by kernel_rfl) (by kernel_rfl) (fun _ _ _ h => h) (Or.inr ⟨by rfl, rfl⟩) (by assumption) ?_
          simp only [Act.put, List.setIfInBounds_toArray, List.set_cons_zero, List.set_cons_succ]
          refine wpAnyH_take (i := 20) (oi := { dst := some 37, op := Op.fieldAddr 60 (Operand.tmp 36) 1, type := 0, pos := "ref.go:161", after := #[{ on := 19, ground := Ground.data }, { on := 11, ground := Ground.guard }], guard := some (11, false) }) (v := undef) rfl (by kernel_rfl) (by kernel_rfl) (by kernel_rfl) (fun _ _ _ h => h) (Or.inr ⟨by rfl, rfl⟩) (by assumption) ?_
          simp only [Act.put, List.setIfInBounds_toArray, List.set_cons_zero, List.set_cons_succ]
          refine wpAnyH_take (i := 21) (oi := { dst := some 38, op := Op.load 58 (Operand.tmp 37), type := 58, pos := "ref.go:161", after := #[{ on := 20, ground := Ground.data }, { on := 11, ground := Ground.guard }], guard := some (11, false) }) (v := undef) rfl (by kernel_rfl) (by kernel_rfl) (by kernel_rfl) (fun _ _ _ h => h) (Or.inr ⟨by rfl, rfl⟩) (by assumption) ?_
          simp only [Act.put, List.setIfInBounds_toArray, List.set_cons_zero, List.set_cons_succ]
          refine wpAnyH_take (i := 22) (oi := { dst := some 39, op := Op.call { callee := Callee.value (Operand.func 39), args := #[Operand.tmp 33, Operand.tmp 38], argTypes := #[58, 58] }, type := 4, pos := "ref.go:161", after := #[{ on := 16, ground := Ground.data }, { on := 21, ground := Ground.data }, { on := 11, ground := Ground.chain }, { on := 11, ground := Ground.guard }], guard := some (11, false) }) (v := undef) rfl (by kernel_rfl) (by kernel_rfl) (by kernel_rfl) (fun _ _ _ h => h) (Or.inr ⟨by rfl, rfl⟩) (by assumption) ?_
          simp only [Act.put, List.setIfInBounds_toArray, List.set_cons_zero, List.set_cons_succ]
          refine wpAnyH_take (i := 23) (oi := { dst := some 40, op := Op.unOp UnOp.not 4 (Operand.tmp 39), type := 4, pos := "ref.go:161", after := #[{ on := 22, ground := Ground.data }, { on := 11, ground := Ground.guard }], guard := some (11, false) }) (v := undef) rfl (by kernel_rfl) (by kernel_rfl) (by kernel_rfl) (fun _ _ _ h => h) (Or.inr ⟨by rfl, rfl⟩) (by assumption) ?_
          simp only [Act.put, List.setIfInBounds_toArray, List.set_cons_zero, List.set_cons_succ]
          refine wpAnyH_take (i := 24) (oi := { dst := some 41, op := Op.pick (Operand.tmp 28) (Operand.const (Value.bool true)) (Operand.tmp 40), type := 4, pos := "ref.go:161", after := #[{ on := 11, ground := Ground.data }, { on := 23, ground := Ground.data }], guard := none }) (v := ?_) rfl (by kernel_rfl) (by kernel_rfl) (by kernel_rfl) (fun _ _ _ h => h) (Or.inl ⟨by rfl, ?_⟩) (by assumption) ?_
          rotate_left
          · intro w hSw; (try dsimp only at hSw); go_simp; try with_reducible rfl
          simp only [Act.put, List.setIfInBounds_toArray, List.set_cons_zero, List.set_cons_succ]
          refine wpAnyH_done (by kernel_rfl) ?_ _
          go_wp2_with fail
          go_ret
          exact ⟨ret_bool HRF.out.symm, hs⟩
    · obtain rfl : k = l1.length := by omega
      have hall : l1.map (·.1) = l2.map (·.1) := by
        have h := heq.out
        rwa [List.take_of_length_le (by simp), List.take_of_length_le (by have := HLEN.out; simp; omega)] at h
      have HRT := Lib.hid (show r = true by rw [← HR.out, hall]; exact decide_eq_true rfl)
      clear hall
      go_wp2
      go_ret
      exact ⟨ret_bool HRT.out.symm, H.out⟩

end Go.Proofs.YtmpehoebgifmnaaDoor
/- Values that are one. -/
namespace Go.Proofs.YtmpehoebgifmnaaDoor
open Go.RowKit

set_option maxHeartbeats 2000000 in
set_option maxRecDepth 100000 in
theorem ref14_sameT (p e t s u st : Int) (l1 l2 : List (TopS × Value)) (q1 q2 : Option Addr) (cap1 cap2 : Nat) (hr : l1.map (·.1) = l2.map (·.1)) (hf1 : LenT l1) (hf2 : LenT l2) {W0 w : World} {K : Know} {L : List Res} (hk1 : K.has (Know.tops (.slice q1 l1.length cap1) l1)) (hk2 : K.has (Know.tops (.slice q2 l2.length cap2) l2)) (h : St W0 w K L) :
    Calls Tryd.prog 12 #[.agg #[.int .i64 p, .int .i64 e, .int .i64 t, .int .i64 s, .slice q1 l1.length cap1, .int .i64 u, .int .i64 st], .agg #[.int .i64 p, .int .i64 e, .int .i64 t, .int .i64 s, .slice q2 l2.length cap2, .int .i64 u, .int .i64 st]] w fun en w' => en = .returned (.bool true) ∧ St W0 w' K L := by
  have h0 := (h.allocRaw #[.int .i64 p, .int .i64 e, .int .i64 t, .int .i64 s, .slice q1 l1.length cap1, .int .i64 u, .int .i64 st] 29).allocRaw #[.int .i64 p, .int .i64 e, .int .i64 t, .int .i64 s, .slice q2 l2.length cap2, .int .i64 u, .int .i64 st] 29
  rw [World.size_alloc] at h0
  have H := Lib.hid h0
  have HR := Lib.hid (decide_eq_true hr)
  have HF1 := Lib.hid hf1
  have HF2 := Lib.hid hf2
  have HK1 := Lib.hid hk1
  have HK2 := Lib.hid hk2
  clear h h0 hr hf1 hf2 hk1 hk2
  go_enter Tryd.func12, Tryd.ntmps12
  go_wp2_with (go_at_call 23; (with_reducible refine (ref14_sameTopics l1 l2 q1 q2 cap1 cap2 true HR.out HF1.out HF2.out HK1.out HK2.out H.out).mono ?_); rintro e_ wn ⟨rfl, h⟩; have c5 := h.rawCell 5; have c6 := h.rawCell 6; have d5 := h.p1.rawCell 5; have d6 := h.p1.rawCell 6; simp at c5 c6 d5 d6; replace H := Lib.hid h; clear h)
  go_ret
  exact ⟨rfl, H.out.drop.drop⟩

end Go.Proofs.YtmpehoebgifmnaaDoor
/- ValueDecodes, any. -/
namespace Go.Proofs.YtmpehoebgifmnaaDoor
open Go.RowKit

theorem lenT_nil : LenT [] := ⟨by decide, fun x hx => by cases hx⟩
theorem has_nilT (K : Know) : K.has (Know.tops (.slice none 0 0) []) := Know.has_trans (tops_nil K) (Know.has_right (Know.has_refl _))
theorem same_zT {W0 w : World} {K : Know} {L : List Res} (h : St W0 w K L) : Calls Tryd.prog 12 #[.agg #[.int .i64 0, .int .i64 0, .int .i64 0, .int .i64 0, .slice none 0 0, .int .i64 0, .int .i64 0], .agg #[.int .i64 0, .int .i64 0, .int .i64 0, .int .i64 0, .slice none 0 0, .int .i64 0, .int .i64 0]] w fun en w' => en = .returned (.bool true) ∧ St W0 w' K L :=
  ref14_sameT 0 0 0 0 0 0 [] [] none none 0 0 rfl lenT_nil lenT_nil (has_nilT _) (has_nilT _) h
theorem encode_zT {W0 w : World} {K : Know} {L : List Res} (h : St W0 w K L) : Calls Tryd.prog 17 #[.agg #[.int .i64 0, .int .i64 0, .int .i64 0, .int .i64 0, .slice none 0 0, .int .i64 0, .int .i64 0]] w fun en w' => en = .returned (.tuple #[.string ⟨#[]⟩, .int .i64 10]) ∧ St W0 w' K L :=
  val_encode_bad 0 0 0 0 0 0 [] none 0 10 (by kernel_rfl) (by decide) few_nil (has_nilT _) h
theorem valDec_fewL {S : Bs} {v : ValS} (hs : S.length ≤ 1000000) (h : valDec S = (v, 0)) : FewL v.tops := by
  have h1 := valF_few (decI_at S) hs
  have h2 := (valDec_ok h (.inr trivial)).2.1
  rw [h2] at h1
  exact h1
end Go.Proofs.YtmpehoebgifmnaaDoor
/- What a journal knows (pure). -/
namespace Go.Proofs.YtmpehoebgifmnaaDoor
open Go.RowKit

/-- What a journal knows is what the law keeps. -/
structure AllOk (f : JF) (l : List KnR) : Prop where
  nodup : (l.map KnR.id).Nodup
  mem : ∀ x, (f x).isSome = true ↔ x ∈ l.map KnR.id
  val : ∀ x ∈ l, ∃ S, f x.id = some S ∧ S.length ≤ 1000000 ∧ valDec S = (⟨x.p, x.e, x.t, x.s, x.tl.map (·.1), x.u, x.st⟩, 0)
  ids : ∀ x ∈ l, x.id.length ≤ 40000 ∧ ∃ key, keyRd key = (x.id, 0) ∧ key.length ≤ 40100
  few : l.length ≤ 60
theorem AllOk.nil : AllOk (fun _ => none) [] := ⟨List.nodup_nil, fun x => by simp, fun x hx => (by cases hx), fun x hx => (by cases hx), by decide⟩
theorem AllOk.len {f : JF} {l : List KnR} (h : AllOk f l) {ids : List Bs} (hi : IdsOf f ids) : ids.length = l.length := by
  have hp : ids.Perm (l.map KnR.id) := (List.perm_ext_iff_of_nodup hi.nodup h.nodup).2 fun x => (hi.mem x).trans (h.mem x)
  have := hp.length_eq
  rw [List.length_map] at this
  exact this
theorem AllOk.at {f : JF} {l : List KnR} (h : AllOk f l) {ids : List Bs} (hi : IdsOf f ids) (k : Nat) (hk : k < ids.length) :
    ∃ i, ∃ (hl : i < l.length), l[i].id = ids[k] ∧ ∀ j (hj : j < l.length), j < i → (l[j].id == ids[k]) = false := by
  have h1 : ids[k] ∈ l.map KnR.id := (h.mem _).1 ((hi.mem _).1 (List.getElem_mem hk))
  obtain ⟨i, hi2, he⟩ := List.mem_iff_getElem.1 h1
  rw [List.length_map] at hi2
  rw [List.getElem_map] at he
  refine ⟨i, hi2, he, fun j hj hji => ?_⟩
  rw [beq_eq_false_iff_ne]
  intro h2
  have h3 := List.pairwise_iff_getElem.1 h.nodup j i (by rw [List.length_map]; exact hj) (by rw [List.length_map]; exact hi2) hji
  apply h3
  rw [List.getElem_map, List.getElem_map, h2, he]
theorem IdsOf.less {f : JF} {ids : List Bs} (hi : IdsOf f ids) (m : Nat) (hm : m + 1 < ids.length) : Op.bytesLess ids[m] ids[m + 1] = true := by
  have h1 := List.pairwise_iff_getElem.1 hi.rise m (m + 1) (by omega) hm (by omega)
  have h2 : ids[m] ≠ ids[m + 1] := List.pairwise_iff_getElem.1 hi.nodup m (m + 1) (by omega) hm (by omega)
  rw [bytesLess_eq, decide_eq_true_eq]
  exact Decidable.byContradiction fun h => h2 (List.le_antisymm h1 (List.not_lt.1 h))
theorem enc_at (ids : List Bs) (k : Nat) (hk : k < ids.length) (x : Bs) (hx : ids[k] = x) : (ids.map encStr)[k]? = some (.string (bb x)) := by
  rw [List.getElem?_map, List.getElem?_eq_getElem hk, hx]
  rfl
theorem lenT_fewT {l : List (TopS × Value)} (h : FewT l) : LenT l := ⟨by have := h.1; omega, fun x hx => by have := (h.2 x hx).2; omega⟩
theorem lenT_dec {S : Bs} (hs : S.length ≤ 1000000) {p e t s u st : Int} {l : List (TopS × Value)} (h : valDec S = (⟨p, e, t, s, l.map (·.1), u, st⟩, 0)) : LenT l := lenT_fewT (fewT_of (valDec_fewL (by omega) h))

end Go.Proofs.YtmpehoebgifmnaaDoor
/- The entries that say it all (pure). -/
namespace Go.Proofs.YtmpehoebgifmnaaDoor
open Go.RowKit

/-- The entry that says what is known of one. -/
def entOf (f : JF) (id : Bs) : List Value := [.string (bb (keyEnc id).1), .bool false, .string (bb ((f id).getD []))]
theorem ent_take (f : JF) (ids : List Bs) (k : Nat) (h : k < ids.length) (id : Bs) (hx : ids[k] = id) : (ids.take (k + 1)).flatMap (entOf f) = (ids.take k).flatMap (entOf f) ++ entOf f id := by
  rw [List.take_succ_eq_append_getElem h, hx, List.flatMap_append]
  simp
theorem ent_eq {f : JF} {id key S : Bs} (hk : keyEnc id = (key, 0)) (hf : f id = some S) : entOf f id = [.string (bb key), .bool false, .string (bb S)] := by
  unfold entOf
  rw [hk, hf]
  rfl
theorem fewT_mapJ {S : Bs} (hs : S.length ≤ 1000000) {p e t s u st : Int} {tl : List TopS} (h : valDec S = (⟨p, e, t, s, tl, u, st⟩, 0)) {l : List (TopS × Value)} (hl : l.map (·.1) = tl) : FewT l := by
  subst hl
  exact fewT_of (valDec_fewL (by omega) h)
theorem AllOk.get {f : JF} {l : List KnR} (h : AllOk f l) {ids : List Bs} (hi : IdsOf f ids) (k : Nat) (hk : k < ids.length) :
    ∃ key S p e t s u st tl, keyRd key = (ids[k], 0) ∧ key.length ≤ 40100 ∧ ids[k].length ≤ 40000 ∧ f ids[k] = some S ∧ S.length ≤ 1000000 ∧ valDec S = (⟨p, e, t, s, tl, u, st⟩, 0) := by
  obtain ⟨i, hl, he, _⟩ := h.at hi k hk
  obtain ⟨S, h1, h2, h3⟩ := h.val _ (List.getElem_mem hl)
  obtain ⟨h4, key, h5, h6⟩ := h.ids _ (List.getElem_mem hl)
  rw [he] at h1 h4 h5
  exact ⟨key, S, _, _, _, _, _, _, _, h5, h6, h4, h1, h2, h3⟩

end Go.Proofs.YtmpehoebgifmnaaDoor
/- What entries say (pure). -/
namespace Go.Proofs.YtmpehoebgifmnaaDoor
open Go.RowKit

/-- An entry of an argument. -/
structure EntV where
  key : Bs
  nu : Bool
  d : Bs
def ecells (x : EntV) : List Value := [.string (bb x.key), .bool x.nu, .string (bb x.d)]
def RJE (cs : List Value) (x : EntV) : Prop := cs = ecells x
theorem je_at {W0 w : World} {K : Know} {L : List Res} {q : Option Addr} {n cap : Nat} {l : List EntV} (hk : K.has (Know.flat RJE (.slice q n cap) 3 l)) (h : St W0 w K L) (h0 : 0 < l.length) : ∃ b off, q = some ⟨b, off, none⟩ := by
  obtain ⟨F, hF, _⟩ := h.get
  obtain ⟨q2, cap2, hv, hr⟩ := (hk _ _ hF).at
  obtain ⟨b, off, hq, _⟩ := hr h0
  simp at hv
  exact ⟨b, off, hv.1.trans hq⟩
theorem je_cell {W0 w : World} {K : Know} {L : List Res} {b off n cap : Nat} {l : List EntV} (hk : K.has (Know.flat RJE (.slice (some ⟨b, off, none⟩) n cap) 3 l)) (h : St W0 w K L) (i : Nat) (hi : i < l.length) (x : EntV) (hx : l[i] = x) :
    w.cell? ⟨b, off + i * 3, none⟩ = some (.string (bb x.key)) ∧ w.cell? ⟨b, off + i * 3 + 1, none⟩ = some (.bool x.nu) ∧ w.cell? ⟨b, off + i * 3 + 2, none⟩ = some (.string (bb x.d)) := by
  subst hx
  obtain ⟨F, hF, _⟩ := h.get
  obtain ⟨q2, cap2, hv, hr⟩ := (hk _ _ hF).at
  obtain ⟨b2, off2, hq, hc⟩ := hr (by omega)
  rw [hq] at hv
  simp at hv
  obtain ⟨⟨rfl, rfl⟩, _, _⟩ := hv
  obtain ⟨cs, _, hR, hcs⟩ := hc i hi
  unfold RJE at hR
  subst hR
  exact ⟨hcs 0 _ rfl, by rw [Nat.add_assoc]; exact hcs 1 _ rfl, by rw [Nat.add_assoc]; exact hcs 2 _ rfl⟩
theorem kout_mem {l : List KnR} {id : Bs} {x : KnR} : x ∈ kout l id ↔ x ∈ l ∧ x.id ≠ id := by
  unfold kout
  rw [List.mem_filter]
  simp
theorem jset_same (f : JF) (id : Bs) (o : Option Bs) : jset f id o id = o := by unfold jset; rw [if_pos rfl]
theorem jset_other (f : JF) (id : Bs) (o : Option Bs) {x : Bs} (h : x ≠ id) : jset f id o x = f x := by unfold jset; rw [if_neg h]
theorem AllOk.drop {f : JF} {l : List KnR} (h : AllOk f l) (id : Bs) : AllOk (jset f id none) (kout l id) := by
  refine ⟨?_, fun x => ?_, fun x hx => ?_, fun x hx => h.ids x (kout_mem.1 hx).1, Nat.le_trans (kout_le l id) h.few⟩
  · exact h.nodup.sublist (List.Sublist.map KnR.id List.filter_sublist)
  · by_cases hx : x = id
    · subst hx
      rw [jset_same]
      constructor
      · intro h; cases h
      · intro h2
        obtain ⟨y, hy, he⟩ := List.mem_map.1 h2
        exact absurd he (kout_mem.1 hy).2
    · rw [jset_other _ _ _ hx, h.mem]
      constructor
      · intro h2
        obtain ⟨y, hy, he⟩ := List.mem_map.1 h2
        exact List.mem_map.2 ⟨y, kout_mem.2 ⟨hy, by rw [he]; exact hx⟩, he⟩
      · intro h2
        obtain ⟨y, hy, he⟩ := List.mem_map.1 h2
        exact List.mem_map.2 ⟨y, (kout_mem.1 hy).1, he⟩
  · obtain ⟨h1, h2⟩ := kout_mem.1 hx
    rw [jset_other _ _ _ h2]
    exact h.val x h1
theorem AllOk.put {f : JF} {l : List KnR} (h : AllOk f l) (x : KnR) (S key : Bs) (hn : (kout l x.id).length < 60) (hS : S.length ≤ 1000000) (hv : valDec S = (⟨x.p, x.e, x.t, x.s, x.tl.map (·.1), x.u, x.st⟩, 0)) (hi : x.id.length ≤ 40000) (hk : keyRd key = (x.id, 0)) (hkl : key.length ≤ 40100) : AllOk (jset f x.id (some S)) (kout l x.id ++ [x]) := by
  have hd := h.drop x.id
  refine ⟨?_, fun y => ?_, fun y hy => ?_, fun y hy => ?_, by rw [List.length_append, List.length_singleton]; omega⟩
  · rw [List.map_append, List.nodup_append]
    refine ⟨hd.nodup, by simp, fun a ha b hb => ?_⟩
    obtain ⟨z, hz, he⟩ := List.mem_map.1 ha
    simp at hb
    subst hb
    rw [← he]
    exact (kout_mem.1 hz).2
  · by_cases hy : y = x.id
    · subst hy
      rw [jset_same]
      simp
    · rw [jset_other _ _ _ hy, ← jset_other f x.id none hy, hd.mem, List.map_append, List.mem_append]
      simp [hy]
  · rcases List.mem_append.1 hy with hy | hy
    · obtain ⟨S2, h1, h2⟩ := hd.val y hy
      rw [jset_other _ _ _ (kout_mem.1 hy).2] at h1
      exact ⟨S2, by rw [jset_other _ _ _ (kout_mem.1 hy).2]; exact h1, h2⟩
    · rw [List.mem_singleton.1 hy]
      exact ⟨S, jset_same _ _ _, hS, hv⟩
  · rcases List.mem_append.1 hy with hy | hy
    · exact hd.ids y hy
    · rw [List.mem_singleton.1 hy]
      exact ⟨hi, key, hk, hkl⟩
/-- What is known behind some entries that say it all. -/
def fUp (f : JF) (ids : List Bs) (k : Nat) : JF := fun x => if x ∈ ids.take k then f x else none
theorem fUp_zero (f : JF) (ids : List Bs) : fUp f ids 0 = fun _ => none := by funext x; simp [fUp]
theorem fUp_step (f : JF) (ids : List Bs) (k : Nat) (hk : k < ids.length) (id S : Bs) (hid : ids[k] = id) (hS : f id = some S) : jset (fUp f ids k) id (some S) = fUp f ids (k + 1) := by
  funext x
  unfold jset fUp
  rw [List.take_succ_eq_append_getElem hk, hid]
  by_cases hx : x = id
  · subst hx
    rw [if_pos rfl, if_pos (by simp), hS]
  · rw [if_neg hx]
    simp [hx]
theorem fUp_all {f : JF} {ids : List Bs} (hi : IdsOf f ids) : fUp f ids ids.length = f := by
  funext x
  unfold fUp
  rw [List.take_length]
  by_cases hx : x ∈ ids
  · rw [if_pos hx]
  · rw [if_neg hx]
    have h := mt (hi.mem x).2 hx
    cases hf : f x with
    | none => rfl
    | some S => rw [hf] at h; exact absurd rfl h
def entV (f : JF) (id : Bs) : EntV := ⟨(keyEnc id).1, false, (f id).getD []⟩
theorem ent_flat (f : JF) : ∀ ids : List Bs, ids.flatMap (entOf f) = (ids.map (entV f)).flatMap ecells
  | [] => rfl
  | id :: t => by
    rw [List.flatMap_cons, List.map_cons, List.flatMap_cons, ent_flat f t]
    rfl

end Go.Proofs.YtmpehoebgifmnaaDoor
/- What entries say, taken in (pure). -/
namespace Go.Proofs.YtmpehoebgifmnaaDoor
open Go.RowKit

theorem St.freezeEnts {W0 w : World} {K : Know} {L : List Res} {v : Value} {T : TypeId} {f : JF} {ids : List Bs} (h : St W0 w K (.row v T 3 ids.length (ids.flatMap (entOf f)) :: L)) : St W0 w (K.and (Know.flat RJE v 3 (ids.map (entV f)))) L := by
  have h2 : St W0 w K (.row v T 3 (ids.map (entV f)).length ((ids.map (entV f)).flatMap ecells) :: L) := by rw [List.length_map, ← ent_flat]; exact h
  exact h2.freezeRow (R := RJE) (f := ecells) (fun x _ => ⟨rfl, rfl⟩)
theorem ent_at {f : JF} {ids : List Bs} (k : Nat) (hk : k < ids.length) {id key S : Bs} (hid : ids[k] = id) (hke : keyEnc id = (key, 0)) (hf : f id = some S) : (ids.map (entV f))[k]'(by rw [List.length_map]; exact hk) = ⟨key, false, S⟩ := by
  rw [List.getElem_map, hid]
  unfold entV
  rw [hke, hf]
  rfl
theorem kns_nil (K : Know) : K.has (Know.kns (.slice none 0 0) []) := fun _ _ _ => ⟨⟨Option.none, 0, rfl, fun h => absurd h (by simp)⟩, fun x hx => by cases hx⟩
theorem kout_ht {K : Know} {v : Value} {l : List KnR} {id : Bs} {p e t s u st : Int} {lr : List (TopS × Value)} {qt : Option Addr} {capt : Nat} (hk : K.has (Know.kns v l)) {x : KnR} (hx : x ∈ kout l id ++ [(⟨id, p, e, t, s, u, st, lr, qt, capt⟩ : KnR)]) : (K.and (Know.tops (.slice qt lr.length capt) lr)).has (Know.tops (.slice x.q x.tl.length x.cap) x.tl) := by
  rcases List.mem_append.1 hx with hx | hx
  · exact Know.has_trans (Know.has_left (Know.has_refl _)) (kns_tops hk (kout_mem.1 hx).1)
  · rw [List.mem_singleton.1 hx]
    exact Know.has_right (Know.has_refl _)
theorem all_put {f : JF} {l l2 : List KnR} {id d key : Bs} {p e t s u st : Int} {lr : List (TopS × Value)} {tops : List TopS} {qt : Option Addr} {capt : Nat} (h : AllOk f l) (h2 : kout l id ++ [(⟨id, p, e, t, s, u, st, lr, qt, capt⟩ : KnR)] = l2) (hn : (kout l id).length < 60) (hd : d.length ≤ 1000000) (hv : valDec d = (⟨p, e, t, s, tops, u, st⟩, 0)) (hlr : lr.map (·.1) = tops) (hi : id.length ≤ 40000) (hk : keyRd key = (id, 0)) (hkl : key.length ≤ 40100) : AllOk (jset f id (some d)) l2 := by
  subst h2
  subst hlr
  exact h.put ⟨id, p, e, t, s, u, st, lr, qt, capt⟩ d key hn hd hv hi hk hkl

end Go.Proofs.YtmpehoebgifmnaaDoor
/- Changes, and what is kept of them by name. -/
namespace Go.Proofs.YtmpehoebgifmnaaDoor
open Go.RowKit Go.ChangeMaps

/-- A change that came in. -/
structure ChR where
  id : Bs
  dr : Bool
  p : Int
  e : Int
  t : Int
  s : Int
  u : Int
  st : Int
  tl : List (TopS × Value)
  q : Option Addr
  cap : Nat
def ccells (x : ChR) : List Value := [.string (bb x.id), .bool x.dr, .int .i64 x.p, .int .i64 x.e, .int .i64 x.t, .int .i64 x.s, .slice x.q x.tl.length x.cap, .int .i64 x.u, .int .i64 x.st]
def RCh (cs : List Value) (x : ChR) : Prop := cs = ccells x
def Know.chs (v : Value) (l : List ChR) : Know := (Know.flat RCh v 9 l).and (Know.all l fun x => Know.tops (.slice x.q x.tl.length x.cap) x.tl)
theorem chs_flat {K : Know} {v : Value} {l : List ChR} (h : K.has (Know.chs v l)) : K.has (Know.flat RCh v 9 l) := fun w F x => (h w F x).1
theorem chs_tops {K : Know} {v : Value} {l : List ChR} (h : K.has (Know.chs v l)) {x : ChR} (hx : x ∈ l) : K.has (Know.tops (.slice x.q x.tl.length x.cap) x.tl) := fun w F y => (h w F y).2 x hx
theorem chs_at {W0 w : World} {K : Know} {L : List Res} {q : Option Addr} {n cap : Nat} {l : List ChR} (hk : K.has (Know.chs (.slice q n cap) l)) (h : St W0 w K L) (h0 : 0 < l.length) : ∃ b off, q = some ⟨b, off, none⟩ := by
  obtain ⟨F, hF, _⟩ := h.get
  obtain ⟨q2, cap2, hv, hr⟩ := (chs_flat hk _ _ hF).at
  obtain ⟨b, off, hq, _⟩ := hr h0
  simp at hv
  exact ⟨b, off, hv.1.trans hq⟩
theorem chs_cell {W0 w : World} {K : Know} {L : List Res} {b off n cap : Nat} {l : List ChR} (hk : K.has (Know.chs (.slice (some ⟨b, off, none⟩) n cap) l)) (h : St W0 w K L) (i : Nat) (hi : i < l.length) (x : ChR) (hx : l[i] = x) :
    w.cell? ⟨b, off + i * 9, none⟩ = some (.string (bb x.id)) ∧ w.cell? ⟨b, off + i * 9 + 1, none⟩ = some (.bool x.dr) ∧ w.cell? ⟨b, off + i * 9 + 2, none⟩ = some (.int .i64 x.p) ∧ w.cell? ⟨b, off + i * 9 + 3, none⟩ = some (.int .i64 x.e) ∧ w.cell? ⟨b, off + i * 9 + 4, none⟩ = some (.int .i64 x.t) ∧ w.cell? ⟨b, off + i * 9 + 5, none⟩ = some (.int .i64 x.s) ∧ w.cell? ⟨b, off + i * 9 + 6, none⟩ = some (.slice x.q x.tl.length x.cap) ∧ w.cell? ⟨b, off + i * 9 + 7, none⟩ = some (.int .i64 x.u) ∧ w.cell? ⟨b, off + i * 9 + 8, none⟩ = some (.int .i64 x.st) := by
  subst hx
  obtain ⟨F, hF, _⟩ := h.get
  obtain ⟨q2, cap2, hv, hr⟩ := (chs_flat hk _ _ hF).at
  obtain ⟨b2, off2, hq, hc⟩ := hr (by omega)
  rw [hq] at hv
  simp at hv
  obtain ⟨⟨rfl, rfl⟩, _, _⟩ := hv
  obtain ⟨cs, _, hR, hcs⟩ := hc i hi
  unfold RCh at hR
  subst hR
  exact ⟨hcs 0 _ rfl, by rw [Nat.add_assoc]; exact hcs 1 _ rfl, by rw [Nat.add_assoc]; exact hcs 2 _ rfl, by rw [Nat.add_assoc]; exact hcs 3 _ rfl, by rw [Nat.add_assoc]; exact hcs 4 _ rfl, by rw [Nat.add_assoc]; exact hcs 5 _ rfl, by rw [Nat.add_assoc]; exact hcs 6 _ rfl, by rw [Nat.add_assoc]; exact hcs 7 _ rfl, by rw [Nat.add_assoc]; exact hcs 8 _ rfl⟩

/-- Values kept by name. -/
def heldR (v : Value) : Option (DataW Value × List MemPlace) := some (.held v, [])
abbrev GF := Bs → Option Value
def gset (g : GF) (id : Bs) (o : Option Value) : GF := fun x => if x = id then o else g x
theorem gset_same (g : GF) (id : Bs) (o : Option Value) : gset g id o id = o := by unfold gset; rw [if_pos rfl]
theorem gset_other (g : GF) (id : Bs) (o : Option Value) {x : Bs} (h : x ≠ id) : gset g id o x = g x := by unfold gset; rw [if_neg h]
def valH : DataW Value → Value
  | .held v => v
  | _ => .bool false
def lookV (D : DataW Value) (id : Bs) : Option Value := if Maps.has D (.string id) = true then some (valH (D.atKey (.string id) (.held (.bool false)))) else none
theorem lookV_put {D : DataW Value} (hD : Maps.IsMap D) (id : Bs) (v : Value) (x : Bs) : lookV (D.put (.string id) (.held v)) x = gset (lookV D) id (some v) x := by
  unfold lookV gset
  by_cases hx : x = id
  · subst hx
    rw [if_pos (Maps.has_put_same hD (show WideAt.IsKeyLit (.string x) from trivial) _), Maps.atKey_put_same hD (show WideAt.IsKeyLit (.string x) from trivial), if_pos rfl]
    rfl
  · have hne : (Lit.string x) ≠ .string id := fun h => hx (by injection h)
    rw [Maps.has_put_other hne, Maps.atKey_put_other hne, if_neg hx]
def cmap (b n : Nat) (g : GF) : Gen where
  p w S := (∃ D, World.ownsMap w Tryd.prog 9 heldR b n D ∧ ∀ id, lookV D id = g id) ∧ ∀ k, S k ↔ k = b
  keep w w' S h hs hk := by
    obtain ⟨⟨D, ⟨es, clock, hb, F, h1, hD⟩, hf⟩, h2⟩ := h
    exact ⟨⟨D, ⟨es, clock, (hk b (heap_lt hb) ((h2 b).2 rfl)).trans hb, F, h1, hD⟩, hf⟩, h2⟩
theorem St.cget {b n : Nat} {g : GF} {W0 w : World} {K : Know} {L : List Res} (h : St W0 w K (.gen (cmap b n g) :: L)) : ∃ D, World.ownsMap w Tryd.prog 9 heldR b n D ∧ ∀ id, lookV D id = g id := by
  obtain ⟨_, S, F, ⟨S1, S2, h1, _⟩, _⟩ := h
  exact h1.1
theorem St.cnew {W0 w : World} {K : Know} {L : List Res} (h : St W0 w K L) : St W0 (w.alloc (.map #[] 0)) K (.gen (cmap w.heap.size 0 (fun _ => none)) :: L) :=
  h.new (S1 := fun k => k = w.heap.size) ((Keeps.refl _ _).alloc _) ⟨⟨_, World.ownsMap_made w Tryd.prog 9 heldR, fun _ => rfl⟩, fun k => Iff.rfl⟩ (fun j hj => by subst hj; rw [World.size_alloc]; exact ⟨Nat.le_refl _, Nat.lt_succ_self _⟩)
theorem cstore_run {W0 w : World} {K : Know} {L : List Res} {b n : Nat} {g : GF} (hst : St W0 w K (.gen (cmap b n g) :: L)) (hn : n < 1000000) (t : TypeId) (ht : Tryd.prog.underlying t = some (.map 9 31)) (id : Bs) (v : Value) (hl : id.length ≤ 9223372036854775807) :
    ∃ w', (Instr.mapUpdate t (.map (some b)) (.string (bb id)) v).run Tryd.prog w = .ok () w' ∧ St W0 w' K (.gen (cmap b (n + 1) (gset g id (some v))) :: L) := by
  obtain ⟨D, h1, h2⟩ := hst.cget
  obtain ⟨w', hrun, g1, g2⟩ := h1.store keyedS ht (by unfold maxLen; omega) (keyS id hl) (show heldR v = some (.held v, []) from rfl)
  refine ⟨w', hrun, hst.step fun S1 hr => ⟨S1, ⟨⟨_, g1, fun y => ?_⟩, hr.2⟩, (Keeps.of_grown g2.grown).mono (fun k _ hk => (hr.2 k).2 (by injection hk with hk)), fun k hk => ⟨.inl hk, by rw [(hr.2 k).1 hk]; exact g1.lt⟩⟩⟩
  rw [lookV_put h1.isMap]
  unfold gset
  rw [h2]
/-- Values by name, gone through: those of vis have come. -/
def crng (b r n : Nat) (g : GF) (vis : List Bs) (cnt : Nat) : Gen where
  p w S := (∃ D left, World.ranges w Tryd.prog 9 heldR b r n D left cnt ∧ (∀ id, lookV D id = g id) ∧ ∀ id, left (.string id) = ((g id).isSome && !vis.contains id)) ∧ ∀ k, S k ↔ k = b ∨ k = r
  keep w w' S h hs hk := by
    obtain ⟨⟨D, left, hr, h1, h2⟩, h3⟩ := h
    have l1 := hr.owns.lt
    have l2 := hr.lt
    obtain ⟨es, clock, since, seen, c0, hb, F, hs', hD, hr, rest⟩ := hr
    exact ⟨⟨D, left, ⟨es, clock, since, seen, c0, (hk b l1 ((h3 b).2 (.inl rfl))).trans hb, F, hs', hD, (hk r l2 ((h3 r).2 (.inr rfl))).trans hr, rest⟩, h1, h2⟩, h3⟩
theorem St.rget {b r n cnt : Nat} {g : GF} {vis : List Bs} {W0 w : World} {K : Know} {L : List Res} (h : St W0 w K (.gen (crng b r n g vis cnt) :: L)) : ∃ D left, World.ranges w Tryd.prog 9 heldR b r n D left cnt ∧ (∀ id, lookV D id = g id) ∧ ∀ id, left (.string id) = ((g id).isSome && !vis.contains id) := by
  obtain ⟨_, S, F, ⟨S1, S2, h1, _⟩, _⟩ := h
  exact h1.1
theorem St.rleft {b r n cnt : Nat} {g : GF} {vis : List Bs} {W0 w : World} {K : Know} {L : List Res} (h : St W0 w K (.gen (crng b r n g vis cnt) :: L)) : w.rangeLeft b r = cnt := by
  obtain ⟨D, left, hr, _⟩ := h.rget
  exact hr.left_eq
theorem St.rleft' {b r n cnt : Nat} {g : GF} {vis : List Bs} {x : Res} {W0 w : World} {K : Know} {L : List Res} (h : St W0 w K (x :: .gen (crng b r n g vis cnt) :: L)) : w.rangeLeft b r = cnt := h.p1.rleft
theorem crange_run {W0 w : World} {K : Know} {L : List Res} {b n : Nat} {g : GF} (hst : St W0 w K (.gen (cmap b n g) :: L)) (t : TypeId) (ht : Tryd.prog.underlying t = some (.map 9 31)) :
    ∃ w' cnt, (Instr.range t (.map (some b))).run Tryd.prog w = .ok (.pointer (some ⟨w.heap.size, 0, none⟩)) w' ∧ St W0 w' K (.gen (crng b w.heap.size n g [] cnt) :: L) := by
  obtain ⟨D, h1, h2⟩ := hst.cget
  obtain ⟨w', hrun, g1, g2, g3⟩ := h1.range keyedS ht
  refine ⟨w', _, hrun, hst.step fun S1 hr => ⟨fun k => k = b ∨ k = w.heap.size, ⟨⟨D, _, g1, h2, fun id => ?_⟩, fun k => Iff.rfl⟩, (Keeps.of_grown g2).mono (fun k _ hk => by cases hk), ?_⟩⟩
  · rw [← h2]
    unfold lookV
    by_cases hh : Maps.has D (.string id) = true
    · rw [if_pos hh, hh]; rfl
    · rw [if_neg hh, Bool.eq_false_iff.2 hh]; rfl
  · rintro k (rfl | rfl)
    · exact ⟨.inl ((hr.2 _).2 rfl), g1.owns.lt⟩
    · exact ⟨.inr (Nat.le_refl _), g1.lt⟩
theorem cnext_run {W0 w : World} {K : Know} {L : List Res} {b r n cnt : Nat} {g : GF} {vis : List Bs} (hst : St W0 w K (.gen (crng b r n g vis cnt) :: L)) (ty : TypeId) :
    ((∀ id, (g id).isSome = true → id ∈ vis) ∧ (Instr.next (.pointer (some ⟨r, 0, none⟩)) false ty).run Tryd.prog w = .ok (.tuple #[.bool false]) w) ∨
    ∃ id v w' cnt', g id = some v ∧ id ∉ vis ∧ (Instr.next (.pointer (some ⟨r, 0, none⟩)) false ty).run Tryd.prog w = .ok (.tuple #[.bool true, .string (bb id), v]) w' ∧ (Instr.entry (.pointer (some ⟨r, 0, none⟩))).run Tryd.prog w' = .ok (.tuple #[.string (bb id), v]) w' ∧ St W0 w' K (.gen (crng b r n g (id :: vis) cnt') :: L) ∧ cnt' < cnt ∧ w'.heap.size = w.heap.size := by
  obtain ⟨D, left, h1, h2, h3⟩ := hst.rget
  rcases h1.next keyedS ty with ⟨_, h5, hrun⟩ | ⟨key, v, kl, y, w', cnt', hkey, hleft, hv, hat, hrun, hr', hlt, hg, hsz, hent⟩
  · refine .inl ⟨fun id hid => ?_, hrun⟩
    have h6 := h5 (.string id)
    rw [h3, hid] at h6
    simpa using h6
  · obtain ⟨a, rfl, rfl, _⟩ := Maps.keyOf_str Tryd.underlying9 hkey
    have hv2 : y.1 = .held v := (congrArg Prod.fst (Option.some.inj (show some ((.held v : DataW Value), ([] : List MemPlace)) = some y from hv))).symm
    rw [h3, Bool.and_eq_true] at hleft
    obtain ⟨hs1, hs2⟩ := hleft
    have hgv : g a = some v := by
      rw [← h2] at hs1 ⊢
      unfold lookV at hs1 ⊢
      by_cases hh : Maps.has D (.string a) = true
      · rw [if_pos hh, hat, hv2]; rfl
      · rw [if_neg hh] at hs1; cases hs1
    refine .inr ⟨a, v, w', cnt', hgv, by simpa using hs2, hrun, hent, ?_, hlt, hsz⟩
    refine hst.step fun S1 hr => ⟨S1, ⟨⟨D, _, hr', h2, fun id => ?_⟩, hr.2⟩, (Keeps.of_grown hg).mono (fun k _ hk => (hr.2 k).2 (.inr (by injection hk with hk))), fun k hk => ⟨.inl hk, ?_⟩⟩
    · rw [h3, List.contains_cons, Bool.not_or, Bool.and_assoc, Bool.and_comm (!vis.contains id)]
      rfl
    · rcases (hr.2 k).1 hk with rfl | rfl
      · exact hr'.owns.lt
      · exact hr'.lt

end Go.Proofs.YtmpehoebgifmnaaDoor
/- What is kept of changes (pure). -/
namespace Go.Proofs.YtmpehoebgifmnaaDoor
open Go.RowKit

/-- A change as a value. -/
def chV (x : ChR) : Value := .agg #[.string (bb x.id), .bool x.dr, .int .i64 x.p, .int .i64 x.e, .int .i64 x.t, .int .i64 x.s, .slice x.q x.tl.length x.cap, .int .i64 x.u, .int .i64 x.st]
/-- What is kept of each name is what was said last. -/
structure GOk (l : List ChR) (f : JF) (g : GF) : Prop where
  val : ∀ id v, g id = some v → ∃ x, x ∈ l ∧ v = chV x ∧ x.id = id ∧ id.length ≤ 500 ∧ (x.dr = true → f id = none) ∧ (x.dr = false → ∃ S, f id = some S ∧ S.length ≤ 1000000 ∧ valDec S = (⟨x.p, x.e, x.t, x.s, x.tl.map (·.1), x.u, x.st⟩, 0))
  all : ∀ id, (f id).isSome = true → (g id).isSome = true
theorem GOk.nil (l : List ChR) : GOk l (fun _ => none) (fun _ => none) := ⟨fun _ _ h => (by cases h), fun _ h => (by cases h)⟩
theorem GOk.set {l : List ChR} {f : JF} {g : GF} (h : GOk l f g) (x : ChR) (o : Option Bs) (hx : x ∈ l) (hi : x.id.length ≤ 500) (h1 : x.dr = true → o = none) (h2 : x.dr = false → ∃ S, o = some S ∧ S.length ≤ 1000000 ∧ valDec S = (⟨x.p, x.e, x.t, x.s, x.tl.map (·.1), x.u, x.st⟩, 0)) : GOk l (jset f x.id o) (gset g x.id (some (chV x))) := by
  refine ⟨fun id v hv => ?_, fun id hid => ?_⟩
  · by_cases e : id = x.id
    · subst e
      rw [gset_same] at hv
      injection hv with hv
      refine ⟨x, hx, hv.symm, rfl, hi, fun hd => ?_, fun hd => ?_⟩
      · rw [jset_same]; exact h1 hd
      · rw [jset_same]; exact h2 hd
    · rw [gset_other _ _ _ e] at hv
      obtain ⟨y, a, b, c, d, k1, k2⟩ := h.val id v hv
      refine ⟨y, a, b, c, d, ?_, ?_⟩
      · rw [jset_other _ _ _ e]; exact k1
      · rw [jset_other _ _ _ e]; exact k2
  · by_cases e : id = x.id
    · subst e; rw [gset_same]; rfl
    · rw [gset_other _ _ _ e]
      rw [jset_other _ _ _ e] at hid
      exact h.all id hid
theorem GOk.at {l : List ChR} {f : JF} {g : GF} (h : GOk l f g) {id : Bs} {v : Value} (hv : g id = some v) : ∃ (dr : Bool) (p e t s u st : Int) (tl : List (TopS × Value)) (xq : Option Addr) (xcap : Nat), v = .agg #[.string (bb id), .bool dr, .int .i64 p, .int .i64 e, .int .i64 t, .int .i64 s, .slice xq tl.length xcap, .int .i64 u, .int .i64 st] ∧ (⟨id, dr, p, e, t, s, u, st, tl, xq, xcap⟩ : ChR) ∈ l ∧ id.length ≤ 500 ∧ (dr = true → f id = none) ∧ (dr = false → ∃ S, f id = some S ∧ S.length ≤ 1000000 ∧ valDec S = (⟨p, e, t, s, tl.map (·.1), u, st⟩, 0)) := by
  obtain ⟨x, hx, rfl, rfl, hi, h1, h2⟩ := h.val id v hv
  exact ⟨x.dr, x.p, x.e, x.t, x.s, x.u, x.st, x.tl, x.q, x.cap, rfl, hx, hi, h1, h2⟩
theorem jset_twice (f : JF) (id : Bs) (o : Option Bs) : jset (jset f id o) id o = jset f id o := by
  funext x
  unfold jset
  by_cases e : x = id
  · rw [if_pos e, if_pos e]
  · rw [if_neg e, if_neg e]
/-- How many of these are known. -/
def cntS (f : JF) (vis : List Bs) : Nat := (vis.filter fun x => (f x).isSome).length
theorem cntS_cons (f : JF) (x : Bs) (vis : List Bs) (S : Bs) (h : f x = some S) : cntS f (x :: vis) = cntS f vis + 1 := by
  unfold cntS
  rw [List.filter_cons, h]
  rfl
theorem cntS_none (f : JF) (x : Bs) (vis : List Bs) (h : f x = none) : cntS f (x :: vis) = cntS f vis := by
  unfold cntS
  rw [List.filter_cons, h]
  rfl
theorem cntS_le {f : JF} {ids vis : List Bs} (hi : IdsOf f ids) (hn : vis.Nodup) : cntS f vis ≤ ids.length := by
  refine List.Nodup.length_le_of_subset (hn.sublist List.filter_sublist) fun x hx => ?_
  exact (hi.mem x).2 (List.mem_filter.1 hx).2
theorem cntS_all {f : JF} {ids vis : List Bs} (hi : IdsOf f ids) (hn : vis.Nodup) (ha : ∀ x, (f x).isSome = true → x ∈ vis) : cntS f vis = ids.length := by
  refine (List.Perm.length_eq ((List.perm_ext_iff_of_nodup (hn.sublist List.filter_sublist) hi.nodup).2 fun x => ?_))
  rw [List.mem_filter, hi.mem]
  exact ⟨fun h => h.2, fun h => ⟨ha x h, h⟩⟩
theorem ids_len {f : JF} {a b : List Bs} (ha : IdsOf f a) (hb : IdsOf f b) : a.length = b.length :=
  (List.Perm.length_eq ((List.perm_ext_iff_of_nodup ha.nodup hb.nodup).2 fun x => (ha.mem x).trans (hb.mem x).symm))

end Go.Proofs.YtmpehoebgifmnaaDoor
