/- Contracts of package control. -/
import Derived.Test.YtombolmicfjjpaaGWholeEntries4
import Derived.Test.YtombolmicfjjpaaGWholeEntries5
import Derived.Deep.RegionHeld3
import Derived.Deep.DeepCutAuto
import Derived.Test.YtombolmicfjjpaaGWholeEntries1
import Derived.Test.YtombolmicfjjpaaBlob2
import Derived.Test.YtombolmicfjjpaaBlobP
import Derived.Test.YtombolmicfjjpaaBlob1
/- Whether two rows of topics are one, by definition. -/
namespace Go.Proofs.Ytombolmicfjjpaa
open Go.RowKit

set_option maxHeartbeats 2000000 in
set_option maxRecDepth 100000 in
theorem ref14_sameTopics (l1 l2 : List (TopS × Value)) (q1 q2 : Option Addr) (cap1 cap2 : Nat) (r : Bool) (hr : decide (l1.map (·.1) = l2.map (·.1)) = r) (hf1 : LenT l1) (hf2 : LenT l2) {W0 w : World} {K : Know} {L : List Res} (hk1 : K.has (Know.tops (.slice q1 l1.length cap1) l1)) (hk2 : K.has (Know.tops (.slice q2 l2.length cap2) l2)) (h : St W0 w K L) :
    Calls Try.prog 28 #[.slice q1 l1.length cap1, .slice q2 l2.length cap2] w fun en w' => en = .returned (.bool r) ∧ St W0 w' K L := by
  have H := Lib.hid h
  have HK1 := Lib.hid hk1
  have HK2 := Lib.hid hk2
  have hni : (l1.length : Int) ≤ 140737488355328 := by have := hf1.1; omega
  have HF1 := Lib.hid hf1
  have HF2 := Lib.hid hf2
  clear h hk1 hk2 hf1 hf2
  by_cases hlen : l1.length = l2.length
  rotate_left
  · as_aux_lemma =>
    have hr2 : r = false := by rw [← hr]; exact decide_eq_false (tmap_len_ne _ _ hlen)
    have g1 : ((l1.length : Int) == (l2.length : Int)) = false := by rw [beq_eq_false_iff_ne]; omega
    have g2 : ((l1.length : Int) != (l2.length : Int)) = true := by simp [bne, g1]
    have g3 : ¬ ((l1.length : Int) = (l2.length : Int)) := by omega
    subst hr2
    clear hlen hr
    go_enter Try.func28, Try.ntmps28
    go_wp2
    go_ret
    exact ⟨rfl, H.out⟩
  have HLEN := Lib.hid hlen
  have HR := Lib.hid hr
  have g1 : ((l1.length : Int) == (l2.length : Int)) = true := by rw [hlen]; exact beq_self_eq_true _
  have g2 : ((l1.length : Int) != (l2.length : Int)) = false := by simp [bne, g1]
  have g3 : (l2.length : Int) = (l1.length : Int) := by omega
  clear hr hlen
  go_enter Try.func28, Try.ntmps28
  go_wp2
  clear g1 g2 g3
  go_loopw [5] (fun iv wr => ∃ k : Nat, k ≤ l1.length ∧ iv = .int .i64 k ∧ Hid ((l1.map (·.1)).take k = (l2.map (·.1)).take k) ∧ St W0 wr K L) (fun iv _ => l1.length - (intOf iv).toNat)
  case atStart => exact ⟨0, Nat.zero_le _, rfl, Lib.hid (by simp), H.out⟩
  case round =>
    obtain ⟨k, hkl, rfl, heq, hst⟩ := hrel
    clear H
    have H := Lib.hid hst
    clear hst
    by_cases hlt : k < l1.length
    · have hlt2 : k < l2.length := by have := HLEN.out; omega
      obtain ⟨b1', off1, hqq1⟩ := tops_at HK1.out H.out (by omega)
      subst hqq1
      obtain ⟨⟨⟨n1, p1⟩, v1⟩, hx1⟩ : ∃ x, l1[k] = x := ⟨_, rfl⟩
      have hmem1 : ((⟨n1, p1⟩ : TopS), v1) ∈ l1 := hx1 ▸ List.getElem_mem _
      have XF1 := Lib.hid (show p1.length ≤ 9223372036854775807 from HF1.out.2 _ hmem1)
      have xk1 : K.has (Know.flat RI v1 1 p1) := tops_parts HK1.out hmem1
      obtain ⟨qx1, capx1, hv1⟩ := flat_form xk1 H.out
      subst hv1
      have XK1 := Lib.hid xk1
      have HX1 := Lib.hid (show l1[k].1 = ⟨n1, p1⟩ by rw [hx1])
      have HXX1 := Lib.hid hx1
      clear hmem1 hx1 xk1
      obtain ⟨b2', off2, hqq2⟩ := tops_at HK2.out H.out (by omega)
      subst hqq2
      obtain ⟨⟨⟨n2, p2⟩, v2⟩, hx2⟩ : ∃ x, l2[k] = x := ⟨_, rfl⟩
      have hmem2 : ((⟨n2, p2⟩ : TopS), v2) ∈ l2 := hx2 ▸ List.getElem_mem _
      have XF2 := Lib.hid (show p2.length ≤ 9223372036854775807 from HF2.out.2 _ hmem2)
      have xk2 : K.has (Know.flat RI v2 1 p2) := tops_parts HK2.out hmem2
      obtain ⟨qx2, capx2, hv2⟩ := flat_form xk2 H.out
      subst hv2
      have XK2 := Lib.hid xk2
      have HX2 := Lib.hid (show l2[k].1 = ⟨n2, p2⟩ by rw [hx2])
      have HXX2 := Lib.hid hx2
      clear hmem2 hx2 xk2
      have HKP := Lib.hid (show ∀ w', St W0 w' K L → (w'.cell? ⟨b1', off1 + k * 2, none⟩ = some (.string (bb n1)) ∧ w'.cell? ⟨b1', off1 + k * 2 + 1, none⟩ = some (.slice qx1 p1.length capx1) ∧ w'.cell? ⟨b2', off2 + k * 2, none⟩ = some (.string (bb n2)) ∧ w'.cell? ⟨b2', off2 + k * 2 + 1, none⟩ = some (.slice qx2 p2.length capx2)) from fun w' hs => ⟨(tops_cell HK1.out hs k hlt _ HXX1.out).1, (tops_cell HK1.out hs k hlt _ HXX1.out).2, (tops_cell HK2.out hs k hlt2 _ HXX2.out).1, (tops_cell HK2.out hs k hlt2 _ HXX2.out).2⟩)
      have hki : (k : Int) < (l1.length : Int) := by omega
      have hki2 : (k : Int) < (l2.length : Int) := by omega
      have NX := Lib.hid (show (⟨n1, p1⟩ : TopS) ≠ ⟨n2, p2⟩ → l1.map (·.1) ≠ l2.map (·.1) from tmap_ne_of_get l1 l2 k hlt hlt2 _ _ HX1.out HX2.out)
      have NT := Lib.hid (show (⟨n1, p1⟩ : TopS) = ⟨n2, p2⟩ → (l1.map (·.1)).take (k + 1) = (l2.map (·.1)).take (k + 1) from fun e => by rw [tmap_take_succ l1 k hlt _ HX1.out, tmap_take_succ l2 k hlt2 _ HX2.out, heq.out, e])
      clear HX1 HX2 HXX1 HXX2
      clear hlt2
      by_cases hn : n1 = n2
      · by_cases hp : p1 = p2
        · as_aux_lemma =>
          have E1 := Lib.hid (decide_eq_true hp)
          have NT2 := Lib.hid (NT.out (by rw [hn, hp]))
          have gn : (n1 == n2) = true := by rw [hn]; exact beq_self_eq_true _
          have gn2 : (n1 != n2) = false := by simp [bne, gn]
          clear hn hp NX NT
          go_wp2
          have hs := H.out.drew
          refine wp_region_held_drew (S := fun w' => w'.cell? ⟨b1', off1 + k * 2, none⟩ = some (.string (bb n1)) ∧ w'.cell? ⟨b1', off1 + k * 2 + 1, none⟩ = some (.slice qx1 p1.length capx1) ∧ w'.cell? ⟨b2', off2 + k * 2, none⟩ = some (.string (bb n2)) ∧ w'.cell? ⟨b2', off2 + k * 2 + 1, none⟩ = some (.slice qx2 p2.length capx2)) (by kernel_rfl) (HKP.out _ hs) (fun hHeld => ?_)
          refine wpAnyH_take (i := 0) (oi := { dst := some 17, op := Op.move (Operand.tmp 0), type := 22, pos := "ref.go:161", after := #[], guard := none }) (v := ?_) rfl (by kernel_rfl) (by kernel_rfl) (by kernel_rfl) (fun _ _ _ h => h) (Or.inl ⟨by rfl, ?_⟩) (by assumption) ?_
          rotate_left
          · intro w hSw; (try dsimp only at hSw); go_simp; try with_reducible rfl
          simp only [Act.put, List.setIfInBounds_toArray, List.set_cons_zero, List.set_cons_succ]
          refine wpAnyH_take (i := 1) (oi := { dst := some 18, op := Op.move (Operand.tmp 5), type := 3, pos := "ref.go:161", after := #[], guard := none }) (v := ?_) rfl (by kernel_rfl) (by kernel_rfl) (by kernel_rfl) (fun _ _ _ h => h) (Or.inl ⟨by rfl, ?_⟩) (by assumption) ?_
          rotate_left
          · intro w hSw; (try dsimp only at hSw); go_simp; try with_reducible rfl
          simp only [Act.put, List.setIfInBounds_toArray, List.set_cons_zero, List.set_cons_succ]
          refine wpAnyH_take (i := 2) (oi := { dst := some 19, op := Op.indexAddr 22 (Operand.tmp 17) (Operand.tmp 18), type := 0, pos := "ref.go:161", after := #[{ on := 0, ground := Ground.data }, { on := 1, ground := Ground.data }], guard := none }) (v := ?_) rfl (by kernel_rfl) (by kernel_rfl) (by kernel_rfl) (fun _ _ _ h => h) (Or.inl ⟨by rfl, ?_⟩) (by assumption) ?_
          rotate_left
          · intro w hSw; (try dsimp only at hSw); go_simp; try with_reducible rfl
          simp only [Act.put, List.setIfInBounds_toArray, List.set_cons_zero, List.set_cons_succ]
          refine wpAnyH_take (i := 3) (oi := { dst := some 20, op := Op.fieldAddr 51 (Operand.tmp 19) 0, type := 0, pos := "ref.go:161", after := #[{ on := 2, ground := Ground.data }], guard := none }) (v := ?_) rfl (by kernel_rfl) (by kernel_rfl) (by kernel_rfl) (fun _ _ _ h => h) (Or.inl ⟨by rfl, ?_⟩) (by assumption) ?_
          rotate_left
          · intro w hSw; (try dsimp only at hSw); go_simp; try with_reducible rfl
          simp only [Act.put, List.setIfInBounds_toArray, List.set_cons_zero, List.set_cons_succ]
          refine wpAnyH_take (i := 4) (oi := { dst := some 21, op := Op.load 9 (Operand.tmp 20), type := 9, pos := "ref.go:161", after := #[{ on := 3, ground := Ground.data }], guard := none }) (v := ?_) rfl (by kernel_rfl) (by kernel_rfl) (by kernel_rfl) (fun _ _ _ h => h) (Or.inl ⟨by rfl, ?_⟩) (by assumption) ?_
          rotate_left
          · intro w hSw; (try dsimp only at hSw); go_simp; try with_reducible rfl
          simp only [Act.put, List.setIfInBounds_toArray, List.set_cons_zero, List.set_cons_succ]
          refine wpAnyH_take (i := 5) (oi := { dst := some 22, op := Op.move (Operand.tmp 1), type := 22, pos := "ref.go:161", after := #[], guard := none }) (v := ?_) rfl (by kernel_rfl) (by kernel_rfl) (by kernel_rfl) (fun _ _ _ h => h) (Or.inl ⟨by rfl, ?_⟩) (by assumption) ?_
          rotate_left
          · intro w hSw; (try dsimp only at hSw); go_simp; try with_reducible rfl
          simp only [Act.put, List.setIfInBounds_toArray, List.set_cons_zero, List.set_cons_succ]
          refine wpAnyH_take (i := 6) (oi := { dst := some 23, op := Op.move (Operand.tmp 5), type := 3, pos := "ref.go:161", after := #[], guard := none }) (v := ?_) rfl (by kernel_rfl) (by kernel_rfl) (by kernel_rfl) (fun _ _ _ h => h) (Or.inl ⟨by rfl, ?_⟩) (by assumption) ?_
          rotate_left
          · intro w hSw; (try dsimp only at hSw); go_simp; try with_reducible rfl
          simp only [Act.put, List.setIfInBounds_toArray, List.set_cons_zero, List.set_cons_succ]
          refine wpAnyH_take (i := 7) (oi := { dst := some 24, op := Op.indexAddr 22 (Operand.tmp 22) (Operand.tmp 23), type := 0, pos := "ref.go:161", after := #[{ on := 5, ground := Ground.data }, { on := 6, ground := Ground.data }], guard := none }) (v := ?_) rfl (by kernel_rfl) (by kernel_rfl) (by kernel_rfl) (fun _ _ _ h => h) (Or.inl ⟨by rfl, ?_⟩) (by assumption) ?_
          rotate_left
          · intro w hSw; (try dsimp only at hSw); go_simp; try with_reducible rfl
          simp only [Act.put, List.setIfInBounds_toArray, List.set_cons_zero, List.set_cons_succ]
          refine wpAnyH_take (i := 8) (oi := { dst := some 25, op := Op.fieldAddr 51 (Operand.tmp 24) 0, type := 0, pos := "ref.go:161", after := #[{ on := 7, ground := Ground.data }], guard := none }) (v := ?_) rfl (by kernel_rfl) (by kernel_rfl) (by kernel_rfl) (fun _ _ _ h => h) (Or.inl ⟨by rfl, ?_⟩) (by assumption) ?_
          rotate_left
          · intro w hSw; (try dsimp only at hSw); go_simp; try with_reducible rfl
          simp only [Act.put, List.setIfInBounds_toArray, List.set_cons_zero, List.set_cons_succ]
          refine wpAnyH_take (i := 9) (oi := { dst := some 26, op := Op.load 9 (Operand.tmp 25), type := 9, pos := "ref.go:161", after := #[{ on := 8, ground := Ground.data }], guard := none }) (v := ?_) rfl (by kernel_rfl) (by kernel_rfl) (by kernel_rfl) (fun _ _ _ h => h) (Or.inl ⟨by rfl, ?_⟩) (by assumption) ?_
          rotate_left
          · intro w hSw; (try dsimp only at hSw); go_simp; try with_reducible rfl
          simp only [Act.put, List.setIfInBounds_toArray, List.set_cons_zero, List.set_cons_succ]
          refine wpAnyH_take (i := 10) (oi := { dst := some 27, op := Op.binOp BinOp.neq 9 (Operand.tmp 21) (Operand.tmp 26) 9, type := 4, pos := "ref.go:161", after := #[{ on := 4, ground := Ground.data }, { on := 9, ground := Ground.data }], guard := none }) (v := ?_) rfl (by kernel_rfl) (by kernel_rfl) (by kernel_rfl) (fun _ _ _ h => h) (Or.inl ⟨by rfl, ?_⟩) (by assumption) ?_
          rotate_left
          · intro w hSw; (try dsimp only at hSw); go_simp; try with_reducible rfl
          simp only [Act.put, List.setIfInBounds_toArray, List.set_cons_zero, List.set_cons_succ]
          refine wpAnyH_take (i := 11) (oi := { dst := some 28, op := Op.move (Operand.tmp 27), type := 4, pos := "ref.go:161", after := #[{ on := 10, ground := Ground.data }], guard := none }) (v := ?_) rfl (by kernel_rfl) (by kernel_rfl) (by kernel_rfl) (fun _ _ _ h => h) (Or.inl ⟨by rfl, ?_⟩) (by assumption) ?_
          rotate_left
          · intro w hSw; (try dsimp only at hSw); go_simp; try with_reducible rfl
          simp only [Act.put, List.setIfInBounds_toArray, List.set_cons_zero, List.set_cons_succ]
          refine wpAnyH_take (i := 12) (oi := { dst := some 29, op := Op.move (Operand.tmp 0), type := 22, pos := "ref.go:161", after := #[{ on := 11, ground := Ground.guard }], guard := some (11, false) }) (v := ?_) rfl (by kernel_rfl) (by kernel_rfl) (by kernel_rfl) (fun _ _ _ h => h) (Or.inl ⟨by rfl, ?_⟩) (by assumption) ?_
          rotate_left
          · intro w hSw; (try dsimp only at hSw); go_simp; try with_reducible rfl
          simp only [Act.put, List.setIfInBounds_toArray, List.set_cons_zero, List.set_cons_succ]
          refine wpAnyH_take (i := 13) (oi := { dst := some 30, op := Op.move (Operand.tmp 5), type := 3, pos := "ref.go:161", after := #[{ on := 11, ground := Ground.guard }], guard := some (11, false) }) (v := ?_) rfl (by kernel_rfl) (by kernel_rfl) (by kernel_rfl) (fun _ _ _ h => h) (Or.inl ⟨by rfl, ?_⟩) (by assumption) ?_
          rotate_left
          · intro w hSw; (try dsimp only at hSw); go_simp; try with_reducible rfl
          simp only [Act.put, List.setIfInBounds_toArray, List.set_cons_zero, List.set_cons_succ]
          refine wpAnyH_take (i := 14) (oi := { dst := some 31, op := Op.indexAddr 22 (Operand.tmp 29) (Operand.tmp 30), type := 0, pos := "ref.go:161", after := #[{ on := 12, ground := Ground.data }, { on := 13, ground := Ground.data }, { on := 11, ground := Ground.guard }], guard := some (11, false) }) (v := ?_) rfl (by kernel_rfl) (by kernel_rfl) (by kernel_rfl) (fun _ _ _ h => h) (Or.inl ⟨by rfl, ?_⟩) (by assumption) ?_
          rotate_left
          · intro w hSw; (try dsimp only at hSw); go_simp; try with_reducible rfl
          simp only [Act.put, List.setIfInBounds_toArray, List.set_cons_zero, List.set_cons_succ]
          refine wpAnyH_take (i := 15) (oi := { dst := some 32, op := Op.fieldAddr 51 (Operand.tmp 31) 1, type := 0, pos := "ref.go:161", after := #[{ on := 14, ground := Ground.data }, { on := 11, ground := Ground.guard }], guard := some (11, false) }) (v := ?_) rfl (by kernel_rfl) (by kernel_rfl) (by kernel_rfl) (fun _ _ _ h => h) (Or.inl ⟨by rfl, ?_⟩) (by assumption) ?_
          rotate_left
          · intro w hSw; (try dsimp only at hSw); go_simp; try with_reducible rfl
          simp only [Act.put, List.setIfInBounds_toArray, List.set_cons_zero, List.set_cons_succ]
          refine wpAnyH_take (i := 16) (oi := { dst := some 33, op := Op.load 49 (Operand.tmp 32), type := 49, pos := "ref.go:161", after := #[{ on := 15, ground := Ground.data }, { on := 11, ground := Ground.guard }], guard := some (11, false) }) (v := ?_) rfl (by kernel_rfl) (by kernel_rfl) (by kernel_rfl) (fun _ _ _ h => h) (Or.inl ⟨by rfl, ?_⟩) (by assumption) ?_
          rotate_left
          · intro w hSw; (try dsimp only at hSw); go_simp; try with_reducible rfl
          simp only [Act.put, List.setIfInBounds_toArray, List.set_cons_zero, List.set_cons_succ]
          refine wpAnyH_take (i := 17) (oi := { dst := some 34, op := Op.move (Operand.tmp 1), type := 22, pos := "ref.go:161", after := #[{ on := 11, ground := Ground.guard }], guard := some (11, false) }) (v := ?_) rfl (by kernel_rfl) (by kernel_rfl) (by kernel_rfl) (fun _ _ _ h => h) (Or.inl ⟨by rfl, ?_⟩) (by assumption) ?_
          rotate_left
          · intro w hSw; (try dsimp only at hSw); go_simp; try with_reducible rfl
          simp only [Act.put, List.setIfInBounds_toArray, List.set_cons_zero, List.set_cons_succ]
          refine wpAnyH_take (i := 18) (oi := { dst := some 35, op := Op.move (Operand.tmp 5), type := 3, pos := "ref.go:161", after := #[{ on := 11, ground := Ground.guard }], guard := some (11, false) }) (v := ?_) rfl (by kernel_rfl) (by kernel_rfl) (by kernel_rfl) (fun _ _ _ h => h) (Or.inl ⟨by rfl, ?_⟩) (by assumption) ?_
          rotate_left
          · intro w hSw; (try dsimp only at hSw); go_simp; try with_reducible rfl
          simp only [Act.put, List.setIfInBounds_toArray, List.set_cons_zero, List.set_cons_succ]
          refine wpAnyH_take (i := 19) (oi := { dst := some 36, op := Op.indexAddr 22 (Operand.tmp 34) (Operand.tmp 35), type := 0, pos := "ref.go:161", after := #[{ on := 17, ground := Ground.data }, { on := 18, ground := Ground.data }, { on := 11, ground := Ground.guard }], guard := some (11, false) }) (v := ?_) rfl (by kernel_rfl) (by kernel_rfl) (by kernel_rfl) (fun _ _ _ h => h) (Or.inl ⟨by rfl, ?_⟩) (by assumption) ?_
          rotate_left
          · intro w hSw; (try dsimp only at hSw); go_simp; try with_reducible rfl
          simp only [Act.put, List.setIfInBounds_toArray, List.set_cons_zero, List.set_cons_succ]
          refine wpAnyH_take (i := 20) (oi := { dst := some 37, op := Op.fieldAddr 51 (Operand.tmp 36) 1, type := 0, pos := "ref.go:161", after := #[{ on := 19, ground := Ground.data }, { on := 11, ground := Ground.guard }], guard := some (11, false) }) (v := ?_) rfl (by kernel_rfl) (by kernel_rfl) (by kernel_rfl) (fun _ _ _ h => h) (Or.inl ⟨by rfl, ?_⟩) (by assumption) ?_
          rotate_left
          · intro w hSw; (try dsimp only at hSw); go_simp; try with_reducible rfl
          simp only [Act.put, List.setIfInBounds_toArray, List.set_cons_zero, List.set_cons_succ]
          refine wpAnyH_take (i := 21) (oi := { dst := some 38, op := Op.load 49 (Operand.tmp 37), type := 49, pos := "ref.go:161", after := #[{ on := 20, ground := Ground.data }, { on := 11, ground := Ground.guard }], guard := some (11, false) }) (v := ?_) rfl (by kernel_rfl) (by kernel_rfl) (by kernel_rfl) (fun _ _ _ h => h) (Or.inl ⟨by rfl, ?_⟩) (by assumption) ?_
          rotate_left
          · intro w hSw; (try dsimp only at hSw); go_simp; try with_reducible rfl
          simp only [Act.put, List.setIfInBounds_toArray, List.set_cons_zero, List.set_cons_succ]
          refine wpAnyH_ready (rs := [22]) (by kernel_rfl) (by simp) (AllReadyH.cons (o := { dst := some 39, op := Op.call { callee := Callee.value (Operand.func 82), args := #[Operand.tmp 33, Operand.tmp 38], argTypes := #[49, 49] }, type := 4, pos := "ref.go:161", after := #[{ on := 16, ground := Ground.data }, { on := 21, ground := Ground.data }, { on := 11, ground := Ground.chain }, { on := 11, ground := Ground.guard }], guard := some (11, false) }) rfl (fun KK hK => ?_) AllReadyH.nil)
          · go_simp
            go_at_call 82
            with_reducible refine (ints_same01 p1 p2 qx1 qx2 capx1 capx2 XF1.out XF2.out true E1.out XK1.out XK2.out hs).mono ?_
            rintro e wq ⟨rfl, hs⟩
            refine hK.out _ _ (HKP.out _ hs) (fun hHeld => ?_)
            clear hK KK
            try simp only [Act.put, List.setIfInBounds_toArray, List.set_cons_zero, List.set_cons_succ]
            refine wpAnyH_take (i := 23) (oi := { dst := some 40, op := Op.unOp UnOp.not 4 (Operand.tmp 39), type := 4, pos := "ref.go:161", after := #[{ on := 22, ground := Ground.data }, { on := 11, ground := Ground.guard }], guard := some (11, false) }) (v := ?_) rfl (by kernel_rfl) (by kernel_rfl) (by kernel_rfl) (fun _ _ _ h => h) (Or.inl ⟨by rfl, ?_⟩) (by assumption) ?_
            rotate_left
            · intro w hSw; (try dsimp only at hSw); go_simp; try with_reducible rfl
            simp only [Act.put, List.setIfInBounds_toArray, List.set_cons_zero, List.set_cons_succ]
            refine wpAnyH_take (i := 24) (oi := { dst := some 41, op := Op.pick (Operand.tmp 28) (Operand.const (Value.bool true)) (Operand.tmp 40), type := 4, pos := "ref.go:161", after := #[{ on := 11, ground := Ground.data }, { on := 23, ground := Ground.data }], guard := none }) (v := ?_) rfl (by kernel_rfl) (by kernel_rfl) (by kernel_rfl) (fun _ _ _ h => h) (Or.inl ⟨by rfl, ?_⟩) (by assumption) ?_
            rotate_left
            · intro w hSw; (try dsimp only at hSw); go_simp; try with_reducible rfl
            simp only [Act.put, List.setIfInBounds_toArray, List.set_cons_zero, List.set_cons_succ]
            refine wpAnyH_done (by kernel_rfl) ?_ _
            go_wp2_with fail
            go_roundw
            case rel => exact ⟨k + 1, hlt, by go_num, NT2, hs⟩
            case measure => first | (simp [intOf]; done) | (simp [intOf]; omega)
        · as_aux_lemma =>
          have E1 := Lib.hid (decide_eq_false hp)
          have HRF := Lib.hid (show r = false by rw [← HR.out]; exact decide_eq_false (NX.out (by intro h; cases h; exact hp rfl)))
          have gn : (n1 == n2) = true := by rw [hn]; exact beq_self_eq_true _
          have gn2 : (n1 != n2) = false := by simp [bne, gn]
          clear hn hp NX NT
          go_wp2
          have hs := H.out.drew
          refine wp_region_held_drew (S := fun w' => w'.cell? ⟨b1', off1 + k * 2, none⟩ = some (.string (bb n1)) ∧ w'.cell? ⟨b1', off1 + k * 2 + 1, none⟩ = some (.slice qx1 p1.length capx1) ∧ w'.cell? ⟨b2', off2 + k * 2, none⟩ = some (.string (bb n2)) ∧ w'.cell? ⟨b2', off2 + k * 2 + 1, none⟩ = some (.slice qx2 p2.length capx2)) (by kernel_rfl) (HKP.out _ hs) (fun hHeld => ?_)
          refine wpAnyH_take (i := 0) (oi := { dst := some 17, op := Op.move (Operand.tmp 0), type := 22, pos := "ref.go:161", after := #[], guard := none }) (v := ?_) rfl (by kernel_rfl) (by kernel_rfl) (by kernel_rfl) (fun _ _ _ h => h) (Or.inl ⟨by rfl, ?_⟩) (by assumption) ?_
          rotate_left
          · intro w hSw; (try dsimp only at hSw); go_simp; try with_reducible rfl
          simp only [Act.put, List.setIfInBounds_toArray, List.set_cons_zero, List.set_cons_succ]
          refine wpAnyH_take (i := 1) (oi := { dst := some 18, op := Op.move (Operand.tmp 5), type := 3, pos := "ref.go:161", after := #[], guard := none }) (v := ?_) rfl (by kernel_rfl) (by kernel_rfl) (by kernel_rfl) (fun _ _ _ h => h) (Or.inl ⟨by rfl, ?_⟩) (by assumption) ?_
          rotate_left
          · intro w hSw; (try dsimp only at hSw); go_simp; try with_reducible rfl
          simp only [Act.put, List.setIfInBounds_toArray, List.set_cons_zero, List.set_cons_succ]
          refine wpAnyH_take (i := 2) (oi := { dst := some 19, op := Op.indexAddr 22 (Operand.tmp 17) (Operand.tmp 18), type := 0, pos := "ref.go:161", after := #[{ on := 0, ground := Ground.data }, { on := 1, ground := Ground.data }], guard := none }) (v := ?_) rfl (by kernel_rfl) (by kernel_rfl) (by kernel_rfl) (fun _ _ _ h => h) (Or.inl ⟨by rfl, ?_⟩) (by assumption) ?_
          rotate_left
          · intro w hSw; (try dsimp only at hSw); go_simp; try with_reducible rfl
          simp only [Act.put, List.setIfInBounds_toArray, List.set_cons_zero, List.set_cons_succ]
          refine wpAnyH_take (i := 3) (oi := { dst := some 20, op := Op.fieldAddr 51 (Operand.tmp 19) 0, type := 0, pos := "ref.go:161", after := #[{ on := 2, ground := Ground.data }], guard := none }) (v := ?_) rfl (by kernel_rfl) (by kernel_rfl) (by kernel_rfl) (fun _ _ _ h => h) (Or.inl ⟨by rfl, ?_⟩) (by assumption) ?_
          rotate_left
          · intro w hSw; (try dsimp only at hSw); go_simp; try with_reducible rfl
          simp only [Act.put, List.setIfInBounds_toArray, List.set_cons_zero, List.set_cons_succ]
          refine wpAnyH_take (i := 4) (oi := { dst := some 21, op := Op.load 9 (Operand.tmp 20), type := 9, pos := "ref.go:161", after := #[{ on := 3, ground := Ground.data }], guard := none }) (v := ?_) rfl (by kernel_rfl) (by kernel_rfl) (by kernel_rfl) (fun _ _ _ h => h) (Or.inl ⟨by rfl, ?_⟩) (by assumption) ?_
          rotate_left
          · intro w hSw; (try dsimp only at hSw); go_simp; try with_reducible rfl
          simp only [Act.put, List.setIfInBounds_toArray, List.set_cons_zero, List.set_cons_succ]
          refine wpAnyH_take (i := 5) (oi := { dst := some 22, op := Op.move (Operand.tmp 1), type := 22, pos := "ref.go:161", after := #[], guard := none }) (v := ?_) rfl (by kernel_rfl) (by kernel_rfl) (by kernel_rfl) (fun _ _ _ h => h) (Or.inl ⟨by rfl, ?_⟩) (by assumption) ?_
          rotate_left
          · intro w hSw; (try dsimp only at hSw); go_simp; try with_reducible rfl
          simp only [Act.put, List.setIfInBounds_toArray, List.set_cons_zero, List.set_cons_succ]
          refine wpAnyH_take (i := 6) (oi := { dst := some 23, op := Op.move (Operand.tmp 5), type := 3, pos := "ref.go:161", after := #[], guard := none }) (v := ?_) rfl (by kernel_rfl) (by kernel_rfl) (by kernel_rfl) (fun _ _ _ h => h) (Or.inl ⟨by rfl, ?_⟩) (by assumption) ?_
          rotate_left
          · intro w hSw; (try dsimp only at hSw); go_simp; try with_reducible rfl
          simp only [Act.put, List.setIfInBounds_toArray, List.set_cons_zero, List.set_cons_succ]
          refine wpAnyH_take (i := 7) (oi := { dst := some 24, op := Op.indexAddr 22 (Operand.tmp 22) (Operand.tmp 23), type := 0, pos := "ref.go:161", after := #[{ on := 5, ground := Ground.data }, { on := 6, ground := Ground.data }], guard := none }) (v := ?_) rfl (by kernel_rfl) (by kernel_rfl) (by kernel_rfl) (fun _ _ _ h => h) (Or.inl ⟨by rfl, ?_⟩) (by assumption) ?_
          rotate_left
          · intro w hSw; (try dsimp only at hSw); go_simp; try with_reducible rfl
          simp only [Act.put, List.setIfInBounds_toArray, List.set_cons_zero, List.set_cons_succ]
          refine wpAnyH_take (i := 8) (oi := { dst := some 25, op := Op.fieldAddr 51 (Operand.tmp 24) 0, type := 0, pos := "ref.go:161", after := #[{ on := 7, ground := Ground.data }], guard := none }) (v := ?_) rfl (by kernel_rfl) (by kernel_rfl) (by kernel_rfl) (fun _ _ _ h => h) (Or.inl ⟨by rfl, ?_⟩) (by assumption) ?_
          rotate_left
          · intro w hSw; (try dsimp only at hSw); go_simp; try with_reducible rfl
          simp only [Act.put, List.setIfInBounds_toArray, List.set_cons_zero, List.set_cons_succ]
          refine wpAnyH_take (i := 9) (oi := { dst := some 26, op := Op.load 9 (Operand.tmp 25), type := 9, pos := "ref.go:161", after := #[{ on := 8, ground := Ground.data }], guard := none }) (v := ?_) rfl (by kernel_rfl) (by kernel_rfl) (by kernel_rfl) (fun _ _ _ h => h) (Or.inl ⟨by rfl, ?_⟩) (by assumption) ?_
          rotate_left
          · intro w hSw; (try dsimp only at hSw); go_simp; try with_reducible rfl
          simp only [Act.put, List.setIfInBounds_toArray, List.set_cons_zero, List.set_cons_succ]
          refine wpAnyH_take (i := 10) (oi := { dst := some 27, op := Op.binOp BinOp.neq 9 (Operand.tmp 21) (Operand.tmp 26) 9, type := 4, pos := "ref.go:161", after := #[{ on := 4, ground := Ground.data }, { on := 9, ground := Ground.data }], guard := none }) (v := ?_) rfl (by kernel_rfl) (by kernel_rfl) (by kernel_rfl) (fun _ _ _ h => h) (Or.inl ⟨by rfl, ?_⟩) (by assumption) ?_
          rotate_left
          · intro w hSw; (try dsimp only at hSw); go_simp; try with_reducible rfl
          simp only [Act.put, List.setIfInBounds_toArray, List.set_cons_zero, List.set_cons_succ]
          refine wpAnyH_take (i := 11) (oi := { dst := some 28, op := Op.move (Operand.tmp 27), type := 4, pos := "ref.go:161", after := #[{ on := 10, ground := Ground.data }], guard := none }) (v := ?_) rfl (by kernel_rfl) (by kernel_rfl) (by kernel_rfl) (fun _ _ _ h => h) (Or.inl ⟨by rfl, ?_⟩) (by assumption) ?_
          rotate_left
          · intro w hSw; (try dsimp only at hSw); go_simp; try with_reducible rfl
          simp only [Act.put, List.setIfInBounds_toArray, List.set_cons_zero, List.set_cons_succ]
          refine wpAnyH_take (i := 12) (oi := { dst := some 29, op := Op.move (Operand.tmp 0), type := 22, pos := "ref.go:161", after := #[{ on := 11, ground := Ground.guard }], guard := some (11, false) }) (v := ?_) rfl (by kernel_rfl) (by kernel_rfl) (by kernel_rfl) (fun _ _ _ h => h) (Or.inl ⟨by rfl, ?_⟩) (by assumption) ?_
          rotate_left
          · intro w hSw; (try dsimp only at hSw); go_simp; try with_reducible rfl
          simp only [Act.put, List.setIfInBounds_toArray, List.set_cons_zero, List.set_cons_succ]
          refine wpAnyH_take (i := 13) (oi := { dst := some 30, op := Op.move (Operand.tmp 5), type := 3, pos := "ref.go:161", after := #[{ on := 11, ground := Ground.guard }], guard := some (11, false) }) (v := ?_) rfl (by kernel_rfl) (by kernel_rfl) (by kernel_rfl) (fun _ _ _ h => h) (Or.inl ⟨by rfl, ?_⟩) (by assumption) ?_
          rotate_left
          · intro w hSw; (try dsimp only at hSw); go_simp; try with_reducible rfl
          simp only [Act.put, List.setIfInBounds_toArray, List.set_cons_zero, List.set_cons_succ]
          refine wpAnyH_take (i := 14) (oi := { dst := some 31, op := Op.indexAddr 22 (Operand.tmp 29) (Operand.tmp 30), type := 0, pos := "ref.go:161", after := #[{ on := 12, ground := Ground.data }, { on := 13, ground := Ground.data }, { on := 11, ground := Ground.guard }], guard := some (11, false) }) (v := ?_) rfl (by kernel_rfl) (by kernel_rfl) (by kernel_rfl) (fun _ _ _ h => h) (Or.inl ⟨by rfl, ?_⟩) (by assumption) ?_
          rotate_left
          · intro w hSw; (try dsimp only at hSw); go_simp; try with_reducible rfl
          simp only [Act.put, List.setIfInBounds_toArray, List.set_cons_zero, List.set_cons_succ]
          refine wpAnyH_take (i := 15) (oi := { dst := some 32, op := Op.fieldAddr 51 (Operand.tmp 31) 1, type := 0, pos := "ref.go:161", after := #[{ on := 14, ground := Ground.data }, { on := 11, ground := Ground.guard }], guard := some (11, false) }) (v := ?_) rfl (by kernel_rfl) (by kernel_rfl) (by kernel_rfl) (fun _ _ _ h => h) (Or.inl ⟨by rfl, ?_⟩) (by assumption) ?_
          rotate_left
          · intro w hSw; (try dsimp only at hSw); go_simp; try with_reducible rfl
          simp only [Act.put, List.setIfInBounds_toArray, List.set_cons_zero, List.set_cons_succ]
          refine wpAnyH_take (i := 16) (oi := { dst := some 33, op := Op.load 49 (Operand.tmp 32), type := 49, pos := "ref.go:161", after := #[{ on := 15, ground := Ground.data }, { on := 11, ground := Ground.guard }], guard := some (11, false) }) (v := ?_) rfl (by kernel_rfl) (by kernel_rfl) (by kernel_rfl) (fun _ _ _ h => h) (Or.inl ⟨by rfl, ?_⟩) (by assumption) ?_
          rotate_left
          · intro w hSw; (try dsimp only at hSw); go_simp; try with_reducible rfl
          simp only [Act.put, List.setIfInBounds_toArray, List.set_cons_zero, List.set_cons_succ]
          refine wpAnyH_take (i := 17) (oi := { dst := some 34, op := Op.move (Operand.tmp 1), type := 22, pos := "ref.go:161", after := #[{ on := 11, ground := Ground.guard }], guard := some (11, false) }) (v := ?_) rfl (by kernel_rfl) (by kernel_rfl) (by kernel_rfl) (fun _ _ _ h => h) (Or.inl ⟨by rfl, ?_⟩) (by assumption) ?_
          rotate_left
          · intro w hSw; (try dsimp only at hSw); go_simp; try with_reducible rfl
          simp only [Act.put, List.setIfInBounds_toArray, List.set_cons_zero, List.set_cons_succ]
          refine wpAnyH_take (i := 18) (oi := { dst := some 35, op := Op.move (Operand.tmp 5), type := 3, pos := "ref.go:161", after := #[{ on := 11, ground := Ground.guard }], guard := some (11, false) }) (v := ?_) rfl (by kernel_rfl) (by kernel_rfl) (by kernel_rfl) (fun _ _ _ h => h) (Or.inl ⟨by rfl, ?_⟩) (by assumption) ?_
          rotate_left
          · intro w hSw; (try dsimp only at hSw); go_simp; try with_reducible rfl
          simp only [Act.put, List.setIfInBounds_toArray, List.set_cons_zero, List.set_cons_succ]
          refine wpAnyH_take (i := 19) (oi := { dst := some 36, op := Op.indexAddr 22 (Operand.tmp 34) (Operand.tmp 35), type := 0, pos := "ref.go:161", after := #[{ on := 17, ground := Ground.data }, { on := 18, ground := Ground.data }, { on := 11, ground := Ground.guard }], guard := some (11, false) }) (v := ?_) rfl (by kernel_rfl) (by kernel_rfl) (by kernel_rfl) (fun _ _ _ h => h) (Or.inl ⟨by rfl, ?_⟩) (by assumption) ?_
          rotate_left
          · intro w hSw; (try dsimp only at hSw); go_simp; try with_reducible rfl
          simp only [Act.put, List.setIfInBounds_toArray, List.set_cons_zero, List.set_cons_succ]
          refine wpAnyH_take (i := 20) (oi := { dst := some 37, op := Op.fieldAddr 51 (Operand.tmp 36) 1, type := 0, pos := "ref.go:161", after := #[{ on := 19, ground := Ground.data }, { on := 11, ground := Ground.guard }], guard := some (11, false) }) (v := ?_) rfl (by kernel_rfl) (by kernel_rfl) (by kernel_rfl) (fun _ _ _ h => h) (Or.inl ⟨by rfl, ?_⟩) (by assumption) ?_
          rotate_left
          · intro w hSw; (try dsimp only at hSw); go_simp; try with_reducible rfl
          simp only [Act.put, List.setIfInBounds_toArray, List.set_cons_zero, List.set_cons_succ]
          refine wpAnyH_take (i := 21) (oi := { dst := some 38, op := Op.load 49 (Operand.tmp 37), type := 49, pos := "ref.go:161", after := #[{ on := 20, ground := Ground.data }, { on := 11, ground := Ground.guard }], guard := some (11, false) }) (v := ?_) rfl (by kernel_rfl) (by kernel_rfl) (by kernel_rfl) (fun _ _ _ h => h) (Or.inl ⟨by rfl, ?_⟩) (by assumption) ?_
          rotate_left
          · intro w hSw; (try dsimp only at hSw); go_simp; try with_reducible rfl
          simp only [Act.put, List.setIfInBounds_toArray, List.set_cons_zero, List.set_cons_succ]
          refine wpAnyH_ready (rs := [22]) (by kernel_rfl) (by simp) (AllReadyH.cons (o := { dst := some 39, op := Op.call { callee := Callee.value (Operand.func 82), args := #[Operand.tmp 33, Operand.tmp 38], argTypes := #[49, 49] }, type := 4, pos := "ref.go:161", after := #[{ on := 16, ground := Ground.data }, { on := 21, ground := Ground.data }, { on := 11, ground := Ground.chain }, { on := 11, ground := Ground.guard }], guard := some (11, false) }) rfl (fun KK hK => ?_) AllReadyH.nil)
          · go_simp
            go_at_call 82
            with_reducible refine (ints_same01 p1 p2 qx1 qx2 capx1 capx2 XF1.out XF2.out false E1.out XK1.out XK2.out hs).mono ?_
            rintro e wq ⟨rfl, hs⟩
            refine hK.out _ _ (HKP.out _ hs) (fun hHeld => ?_)
            clear hK KK
            try simp only [Act.put, List.setIfInBounds_toArray, List.set_cons_zero, List.set_cons_succ]
            refine wpAnyH_take (i := 23) (oi := { dst := some 40, op := Op.unOp UnOp.not 4 (Operand.tmp 39), type := 4, pos := "ref.go:161", after := #[{ on := 22, ground := Ground.data }, { on := 11, ground := Ground.guard }], guard := some (11, false) }) (v := ?_) rfl (by kernel_rfl) (by kernel_rfl) (by kernel_rfl) (fun _ _ _ h => h) (Or.inl ⟨by rfl, ?_⟩) (by assumption) ?_
            rotate_left
            · intro w hSw; (try dsimp only at hSw); go_simp; try with_reducible rfl
            simp only [Act.put, List.setIfInBounds_toArray, List.set_cons_zero, List.set_cons_succ]
            refine wpAnyH_take (i := 24) (oi := { dst := some 41, op := Op.pick (Operand.tmp 28) (Operand.const (Value.bool true)) (Operand.tmp 40), type := 4, pos := "ref.go:161", after := #[{ on := 11, ground := Ground.data }, { on := 23, ground := Ground.data }], guard := none }) (v := ?_) rfl (by kernel_rfl) (by kernel_rfl) (by kernel_rfl) (fun _ _ _ h => h) (Or.inl ⟨by rfl, ?_⟩) (by assumption) ?_
            rotate_left
            · intro w hSw; (try dsimp only at hSw); go_simp; try with_reducible rfl
            simp only [Act.put, List.setIfInBounds_toArray, List.set_cons_zero, List.set_cons_succ]
            refine wpAnyH_done (by kernel_rfl) ?_ _
            go_wp2_with fail
            go_ret
            exact ⟨ret_bool HRF.out.symm, hs⟩
      · as_aux_lemma =>
          have HRF := Lib.hid (show r = false by rw [← HR.out]; exact decide_eq_false (NX.out (by intro h; cases h; exact hn rfl)))
          have gn : (n1 == n2) = false := by simpa using hn
          have gn2 : (n1 != n2) = true := by simp [bne, gn]
          clear hn NX NT
          go_wp2
          have hs := H.out.drew
          refine wp_region_held_drew (S := fun w' => w'.cell? ⟨b1', off1 + k * 2, none⟩ = some (.string (bb n1)) ∧ w'.cell? ⟨b1', off1 + k * 2 + 1, none⟩ = some (.slice qx1 p1.length capx1) ∧ w'.cell? ⟨b2', off2 + k * 2, none⟩ = some (.string (bb n2)) ∧ w'.cell? ⟨b2', off2 + k * 2 + 1, none⟩ = some (.slice qx2 p2.length capx2)) (by kernel_rfl) (HKP.out _ hs) (fun hHeld => ?_)
          refine wpAnyH_take (i := 0) (oi := { dst := some 17, op := Op.move (Operand.tmp 0), type := 22, pos := "ref.go:161", after := #[], guard := none }) (v := ?_) rfl (by kernel_rfl) (by kernel_rfl) (by kernel_rfl) (fun _ _ _ h => h) (Or.inl ⟨by rfl, ?_⟩) (by assumption) ?_
          rotate_left
          · intro w hSw; (try dsimp only at hSw); go_simp; try with_reducible rfl
          simp only [Act.put, List.setIfInBounds_toArray, List.set_cons_zero, List.set_cons_succ]
          refine wpAnyH_take (i := 1) (oi := { dst := some 18, op := Op.move (Operand.tmp 5), type := 3, pos := "ref.go:161", after := #[], guard := none }) (v := ?_) rfl (by kernel_rfl) (by kernel_rfl) (by kernel_rfl) (fun _ _ _ h => h) (Or.inl ⟨by rfl, ?_⟩) (by assumption) ?_
          rotate_left
          · intro w hSw; (try dsimp only at hSw); go_simp; try with_reducible rfl
          simp only [Act.put, List.setIfInBounds_toArray, List.set_cons_zero, List.set_cons_succ]
          refine wpAnyH_take (i := 2) (oi := { dst := some 19, op := Op.indexAddr 22 (Operand.tmp 17) (Operand.tmp 18), type := 0, pos := "ref.go:161", after := #[{ on := 0, ground := Ground.data }, { on := 1, ground := Ground.data }], guard := none }) (v := ?_) rfl (by kernel_rfl) (by kernel_rfl) (by kernel_rfl) (fun _ _ _ h => h) (Or.inl ⟨by rfl, ?_⟩) (by assumption) ?_
          rotate_left
          · intro w hSw; (try dsimp only at hSw); go_simp; try with_reducible rfl
          simp only [Act.put, List.setIfInBounds_toArray, List.set_cons_zero, List.set_cons_succ]
          refine wpAnyH_take (i := 3) (oi := { dst := some 20, op := Op.fieldAddr 51 (Operand.tmp 19) 0, type := 0, pos := "ref.go:161", after := #[{ on := 2, ground := Ground.data }], guard := none }) (v := ?_) rfl (by kernel_rfl) (by kernel_rfl) (by kernel_rfl) (fun _ _ _ h => h) (Or.inl ⟨by rfl, ?_⟩) (by assumption) ?_
          rotate_left
          · intro w hSw; (try dsimp only at hSw); go_simp; try with_reducible rfl
          simp only [Act.put, List.setIfInBounds_toArray, List.set_cons_zero, List.set_cons_succ]
          refine wpAnyH_take (i := 4) (oi := { dst := some 21, op := Op.load 9 (Operand.tmp 20), type := 9, pos := "ref.go:161", after := #[{ on := 3, ground := Ground.data }], guard := none }) (v := ?_) rfl (by kernel_rfl) (by kernel_rfl) (by kernel_rfl) (fun _ _ _ h => h) (Or.inl ⟨by rfl, ?_⟩) (by assumption) ?_
          rotate_left
          · intro w hSw; (try dsimp only at hSw); go_simp; try with_reducible rfl
          simp only [Act.put, List.setIfInBounds_toArray, List.set_cons_zero, List.set_cons_succ]
          refine wpAnyH_take (i := 5) (oi := { dst := some 22, op := Op.move (Operand.tmp 1), type := 22, pos := "ref.go:161", after := #[], guard := none }) (v := ?_) rfl (by kernel_rfl) (by kernel_rfl) (by kernel_rfl) (fun _ _ _ h => h) (Or.inl ⟨by rfl, ?_⟩) (by assumption) ?_
          rotate_left
          · intro w hSw; (try dsimp only at hSw); go_simp; try with_reducible rfl
          simp only [Act.put, List.setIfInBounds_toArray, List.set_cons_zero, List.set_cons_succ]
          refine wpAnyH_take (i := 6) (oi := { dst := some 23, op := Op.move (Operand.tmp 5), type := 3, pos := "ref.go:161", after := #[], guard := none }) (v := ?_) rfl (by kernel_rfl) (by kernel_rfl) (by kernel_rfl) (fun _ _ _ h => h) (Or.inl ⟨by rfl, ?_⟩) (by assumption) ?_
          rotate_left
          · intro w hSw; (try dsimp only at hSw); go_simp; try with_reducible rfl
          simp only [Act.put, List.setIfInBounds_toArray, List.set_cons_zero, List.set_cons_succ]
          refine wpAnyH_take (i := 7) (oi := { dst := some 24, op := Op.indexAddr 22 (Operand.tmp 22) (Operand.tmp 23), type := 0, pos := "ref.go:161", after := #[{ on := 5, ground := Ground.data }, { on := 6, ground := Ground.data }], guard := none }) (v := ?_) rfl (by kernel_rfl) (by kernel_rfl) (by kernel_rfl) (fun _ _ _ h => h) (Or.inl ⟨by rfl, ?_⟩) (by assumption) ?_
          rotate_left
          · intro w hSw; (try dsimp only at hSw); go_simp; try with_reducible rfl
          simp only [Act.put, List.setIfInBounds_toArray, List.set_cons_zero, List.set_cons_succ]
          refine wpAnyH_take (i := 8) (oi := { dst := some 25, op := Op.fieldAddr 51 (Operand.tmp 24) 0, type := 0, pos := "ref.go:161", after := #[{ on := 7, ground := Ground.data }], guard := none }) (v := ?_) rfl (by kernel_rfl) (by kernel_rfl) (by kernel_rfl) (fun _ _ _ h => h) (Or.inl ⟨by rfl, ?_⟩) (by assumption) ?_
          rotate_left
          · intro w hSw; (try dsimp only at hSw); go_simp; try with_reducible rfl
          simp only [Act.put, List.setIfInBounds_toArray, List.set_cons_zero, List.set_cons_succ]
          refine wpAnyH_take (i := 9) (oi := { dst := some 26, op := Op.load 9 (Operand.tmp 25), type := 9, pos := "ref.go:161", after := #[{ on := 8, ground := Ground.data }], guard := none }) (v := ?_) rfl (by kernel_rfl) (by kernel_rfl) (by kernel_rfl) (fun _ _ _ h => h) (Or.inl ⟨by rfl, ?_⟩) (by assumption) ?_
          rotate_left
          · intro w hSw; (try dsimp only at hSw); go_simp; try with_reducible rfl
          simp only [Act.put, List.setIfInBounds_toArray, List.set_cons_zero, List.set_cons_succ]
          refine wpAnyH_take (i := 10) (oi := { dst := some 27, op := Op.binOp BinOp.neq 9 (Operand.tmp 21) (Operand.tmp 26) 9, type := 4, pos := "ref.go:161", after := #[{ on := 4, ground := Ground.data }, { on := 9, ground := Ground.data }], guard := none }) (v := ?_) rfl (by kernel_rfl) (by kernel_rfl) (by kernel_rfl) (fun _ _ _ h => h) (Or.inl ⟨by rfl, ?_⟩) (by assumption) ?_
          rotate_left
          · intro w hSw; (try dsimp only at hSw); go_simp; try with_reducible rfl
          simp only [Act.put, List.setIfInBounds_toArray, List.set_cons_zero, List.set_cons_succ]
          refine wpAnyH_take (i := 11) (oi := { dst := some 28, op := Op.move (Operand.tmp 27), type := 4, pos := "ref.go:161", after := #[{ on := 10, ground := Ground.data }], guard := none }) (v := ?_) rfl (by kernel_rfl) (by kernel_rfl) (by kernel_rfl) (fun _ _ _ h => h) (Or.inl ⟨by rfl, ?_⟩) (by assumption) ?_
          rotate_left
          · intro w hSw; (try dsimp only at hSw); go_simp; try with_reducible rfl
          simp only [Act.put, List.setIfInBounds_toArray, List.set_cons_zero, List.set_cons_succ]
          refine wpAnyH_take (i := 12) (oi := { dst := some 29, op := Op.move (Operand.tmp 0), type := 22, pos := "ref.go:161", after := #[{ on := 11, ground := Ground.guard }], guard := some (11, false) }) (v := undef) rfl (by kernel_rfl) (by kernel_rfl) (by kernel_rfl) (fun _ _ _ h => h) (Or.inr ⟨by rfl, rfl⟩) (by assumption) ?_
          simp only [Act.put, List.setIfInBounds_toArray, List.set_cons_zero, List.set_cons_succ]
          refine wpAnyH_take (i := 13) (oi := { dst := some 30, op := Op.move (Operand.tmp 5), type := 3, pos := "ref.go:161", after := #[{ on := 11, ground := Ground.guard }], guard := some (11, false) }) (v := undef) rfl (by kernel_rfl) (by kernel_rfl) (by kernel_rfl) (fun _ _ _ h => h) (Or.inr ⟨by rfl, rfl⟩) (by assumption) ?_
          simp only [Act.put, List.setIfInBounds_toArray, List.set_cons_zero, List.set_cons_succ]
          refine wpAnyH_take (i := 14) (oi := { dst := some 31, op := Op.indexAddr 22 (Operand.tmp 29) (Operand.tmp 30), type := 0, pos := "ref.go:161", after := #[{ on := 12, ground := Ground.data }, { on := 13, ground := Ground.data }, { on := 11, ground := Ground.guard }], guard := some (11, false) }) (v := undef) rfl (by kernel_rfl) (by kernel_rfl) (by kernel_rfl) (fun _ _ _ h => h) (Or.inr ⟨by rfl, rfl⟩) (by assumption) ?_
          simp only [Act.put, List.setIfInBounds_toArray, List.set_cons_zero, List.set_cons_succ]
          refine wpAnyH_take (i := 15) (oi := { dst := some 32, op := Op.fieldAddr 51 (Operand.tmp 31) 1, type := 0, pos := "ref.go:161", after := #[{ on := 14, ground := Ground.data }, { on := 11, ground := Ground.guard }], guard := some (11, false) }) (v := undef) rfl (by kernel_rfl) (by kernel_rfl) (by kernel_rfl) (fun _ _ _ h => h) (Or.inr ⟨by rfl, rfl⟩) (by assumption) ?_
          simp only [Act.put, List.setIfInBounds_toArray, List.set_cons_zero, List.set_cons_succ]
          refine wpAnyH_take (i := 16) (oi := { dst := some 33, op := Op.load 49 (Operand.tmp 32), type := 49, pos := "ref.go:161", after := #[{ on := 15, ground := Ground.data }, { on := 11, ground := Ground.guard }], guard := some (11, false) }) (v := undef) rfl (by kernel_rfl) (by kernel_rfl) (by kernel_rfl) (fun _ _ _ h => h) (Or.inr ⟨by rfl, rfl⟩) (by assumption) ?_
          simp only [Act.put, List.setIfInBounds_toArray, List.set_cons_zero, List.set_cons_succ]
          refine wpAnyH_take (i := 17) (oi := { dst := some 34, op := Op.move (Operand.tmp 1), type := 22, pos := "ref.go:161", after := #[{ on := 11, ground := Ground.guard }], guard := some (11, false) }) (v := undef) rfl (by kernel_rfl) (by kernel_rfl) (by kernel_rfl) (fun _ _ _ h => h) (Or.inr ⟨by rfl, rfl⟩) (by assumption) ?_
          simp only [Act.put, List.setIfInBounds_toArray, List.set_cons_zero, List.set_cons_succ]
          refine wpAnyH_take (i := 18) (oi := { dst := some 35, op := Op.move (Operand.tmp 5), type := 3, pos := "ref.go:161", after := #[{ on := 11, ground := Ground.guard }], guard := some (11, false) }) (v := undef) rfl (by kernel_rfl) (by kernel_rfl) (by kernel_rfl) (fun _ _ _ h => h) (Or.inr ⟨by rfl, rfl⟩) (by assumption) ?_
          simp only [Act.put, List.setIfInBounds_toArray, List.set_cons_zero, List.set_cons_succ]
          refine wpAnyH_take (i := 19) (oi := { dst := some 36, op := Op.indexAddr 22 (Operand.tmp 34) (Operand.tmp 35), type := 0, pos := "ref.go:161", after := #[{ on := 17, ground := Ground.data }, { on := 18, ground := Ground.data }, { on := 11, ground := Ground.guard }], guard := some (11, false) }) (v := undef) rfl (by kernel_rfl) (by kernel_rfl) (by kernel_rfl) (fun _ _ _ h => h) (Or.inr ⟨by rfl, rfl⟩) (by assumption) ?_
          simp only [Act.put, List.setIfInBounds_toArray, List.set_cons_zero, List.set_cons_succ]
          refine wpAnyH_take (i := 20) (oi := { dst := some 37, op := Op.fieldAddr 51 (Operand.tmp 36) 1, type := 0, pos := "ref.go:161", after := #[{ on := 19, ground := Ground.data }, { on := 11, ground := Ground.guard }], guard := some (11, false) }) (v := undef) rfl (by kernel_rfl) (by kernel_rfl) (by kernel_rfl) (fun _ _ _ h => h) (Or.inr ⟨by rfl, rfl⟩) (by assumption) ?_
          simp only [Act.put, List.setIfInBounds_toArray, List.set_cons_zero, List.set_cons_succ]
          refine wpAnyH_take (i := 21) (oi := { dst := some 38, op := Op.load 49 (Operand.tmp 37), type := 49, pos := "ref.go:161", after := #[{ on := 20, ground := Ground.data }, { on := 11, ground := Ground.guard }], guard := some (11, false) }) (v := undef) rfl (by kernel_rfl) (by kernel_rfl) (by kernel_rfl) (fun _ _ _ h => h) (Or.inr ⟨by rfl, rfl⟩) (by assumption) ?_
          simp only [Act.put, List.setIfInBounds_toArray, List.set_cons_zero, List.set_cons_succ]
          refine wpAnyH_take (i := 22) (oi := { dst := some 39, op := Op.call { callee := Callee.value (Operand.func 82), args := #[Operand.tmp 33, Operand.tmp 38], argTypes := #[49, 49] }, type := 4, pos := "ref.go:161", after := #[{ on := 16, ground := Ground.data }, { on := 21, ground := Ground.data }, { on := 11, ground := Ground.chain }, { on := 11, ground := Ground.guard }], guard := some (11, false) }) (v := undef) rfl (by kernel_rfl) (by kernel_rfl) (by kernel_rfl) (fun _ _ _ h => h) (Or.inr ⟨by rfl, rfl⟩) (by assumption) ?_
          simp only [Act.put, List.setIfInBounds_toArray, List.set_cons_zero, List.set_cons_succ]
          refine wpAnyH_take (i := 23) (oi := { dst := some 40, op := Op.unOp UnOp.not 4 (Operand.tmp 39), type := 4, pos := "ref.go:161", after := #[{ on := 22, ground := Ground.data }, { on := 11, ground := Ground.guard }], guard := some (11, false) }) (v := undef) rfl (by kernel_rfl) (by kernel_rfl) (by kernel_rfl) (fun _ _ _ h => h) (Or.inr ⟨by rfl, rfl⟩) (by assumption) ?_
          simp only [Act.put, List.setIfInBounds_toArray, List.set_cons_zero, List.set_cons_succ]
          refine wpAnyH_take (i := 24) (oi := { dst := some 41, op := Op.pick (Operand.tmp 28) (Operand.const (Value.bool true)) (Operand.tmp 40), type := 4, pos := "ref.go:161", after := #[{ on := 11, ground := Ground.data }, { on := 23, ground := Ground.data }], guard := none }) (v := ?_) rfl (by kernel_rfl) (by kernel_rfl) (by kernel_rfl) (fun _ _ _ h => h) (Or.inl ⟨by rfl, ?_⟩) (by assumption) ?_
          rotate_left
          · intro w hSw; (try dsimp only at hSw); go_simp; try with_reducible rfl
          simp only [Act.put, List.setIfInBounds_toArray, List.set_cons_zero, List.set_cons_succ]
          refine wpAnyH_done (by kernel_rfl) ?_ _
          go_wp2_with fail
          go_ret
          exact ⟨ret_bool HRF.out.symm, hs⟩
    · obtain rfl : k = l1.length := by omega
      have hall : l1.map (·.1) = l2.map (·.1) := by
        have h := heq.out
        rwa [List.take_of_length_le (by simp), List.take_of_length_le (by have := HLEN.out; simp; omega)] at h
      have HRT := Lib.hid (show r = true by rw [← HR.out, hall]; exact decide_eq_true rfl)
      clear hall
      go_wp2
      go_ret
      exact ⟨ret_bool HRT.out.symm, H.out⟩

end Go.Proofs.Ytombolmicfjjpaa

/- Whether two rows of topics are one. -/
namespace Go.Proofs.Ytombolmicfjjpaa
open Go.RowKit

set_option maxHeartbeats 1000000 in
set_option maxRecDepth 100000 in
theorem top_bare (n1 n2 : Bs) (p1 p2 : List Int) (qx1 qx2 : Option Addr) (capx1 capx2 : Nat) (r : Bool) (hr : decide ((⟨n1, p1⟩ : TopS) = ⟨n2, p2⟩) = r) (hl1 : p1.length ≤ 9223372036854775807) (hl2 : p2.length ≤ 9223372036854775807) {W0 w : World} {K : Know} {L : List Res} (hka : K.has (Know.flat RI (.slice qx1 p1.length capx1) 1 p1)) (hkb : K.has (Know.flat RI (.slice qx2 p2.length capx2) 1 p2)) (h : St W0 w K L) :
    Calls Try.prog 84 #[.agg #[.string (bb n1), .slice qx1 p1.length capx1], .agg #[.string (bb n2), .slice qx2 p2.length capx2]] w fun en w' => en = .returned (.bool r) ∧ St W0 w' K L := by
  have h0 := (h.allocRaw #[.string (bb n1), .slice qx1 p1.length capx1] 51).allocRaw #[.string (bb n2), .slice qx2 p2.length capx2] 51
  rw [World.size_alloc] at h0
  have H := Lib.hid h0
  have HA := Lib.hid hka
  have HB := Lib.hid hkb
  have HL1 := Lib.hid hl1
  have HL2 := Lib.hid hl2
  clear h h0 hka hkb hl1 hl2
  by_cases hn : n1 = n2
  · subst hn
    have HE := Lib.hid (show decide (p1 = p2) = r by rw [← hr]; exact decide_eq_decide.mpr ⟨fun h => by rw [h], fun h => by cases h; rfl⟩)
    clear hr
    go_enter Try.func84, Try.ntmps84
    go_wp2_with (go_at_call 85; (with_reducible refine (ints_equal p1 p2 qx1 qx2 capx1 capx2 HL1.out HL2.out _ HE.out HA.out HB.out H.out).mono ?_); rintro e_ wn ⟨rfl, h⟩; replace H := Lib.hid h; clear h)
    go_ret
    exact ⟨rfl, H.out.drop.drop⟩
  · have HR := Lib.hid (show r = false by rw [← hr]; exact decide_eq_false (by intro h; cases h; exact hn rfl))
    have hb : (n1 == n2) = false := by simpa using hn
    rw [show r = false from HR.out]
    clear hn hr
    go_enter Try.func84, Try.ntmps84
    go_wp2
    go_ret
    exact ⟨rfl, H.out.drop.drop⟩
set_option maxHeartbeats 2000000 in
set_option maxRecDepth 100000 in
theorem tops_eqf (l1 l2 : List (TopS × Value)) (q1 q2 : Option Addr) (cap1 cap2 : Nat) (r : Bool) (hr : decide (l1.map (·.1) = l2.map (·.1)) = r) (hf1 : LenT l1) (hf2 : LenT l2) {W0 w : World} {K : Know} {L : List Res} (hk1 : K.has (Know.tops (.slice q1 l1.length cap1) l1)) (hk2 : K.has (Know.tops (.slice q2 l2.length cap2) l2)) (h : St W0 w K L) :
    Calls Try.prog 83 #[.slice q1 l1.length cap1, .slice q2 l2.length cap2, .func (.func 84) #[] #[]] w fun en w' => en = .returned (.bool r) ∧ St W0 w' K L := by
  have H := Lib.hid h
  have HK1 := Lib.hid hk1
  have HK2 := Lib.hid hk2
  have hni : (l1.length : Int) ≤ 140737488355328 := by have := hf1.1; omega
  have HF1 := Lib.hid hf1
  have HF2 := Lib.hid hf2
  clear h hk1 hk2 hf1 hf2
  by_cases hlen : l1.length = l2.length
  rotate_left
  · as_aux_lemma =>
    have hr2 : r = false := by rw [← hr]; exact decide_eq_false (tmap_len_ne _ _ hlen)
    have g1 : ((l1.length : Int) == (l2.length : Int)) = false := by rw [beq_eq_false_iff_ne]; omega
    have g2 : ((l1.length : Int) != (l2.length : Int)) = true := by simp [bne, g1]
    have g3 : ¬ ((l1.length : Int) = (l2.length : Int)) := by omega
    subst hr2
    clear hlen hr
    go_enter Try.func83, Try.ntmps83
    go_wp2
    go_ret
    exact ⟨rfl, H.out⟩
  have HLEN := Lib.hid hlen
  have HR := Lib.hid hr
  have g1 : ((l1.length : Int) == (l2.length : Int)) = true := by rw [hlen]; exact beq_self_eq_true _
  have g2 : ((l1.length : Int) != (l2.length : Int)) = false := by simp [bne, g1]
  have g3 : (l2.length : Int) = (l1.length : Int) := by omega
  clear hr hlen
  go_enter Try.func83, Try.ntmps83
  go_wp2
  clear g1 g2 g3
  go_loopw [7, 8, 9, 17] (fun _ _ _ iv wr => ∃ k : Nat, k ≤ l1.length ∧ iv = .int .i64 k ∧ Hid ((l1.map (·.1)).take k = (l2.map (·.1)).take k) ∧ St W0 wr K L) (fun _ _ _ iv _ => l1.length - (intOf iv).toNat)
  case atStart => exact ⟨0, Nat.zero_le _, rfl, Lib.hid (by simp), H.out⟩
  case round =>
    obtain ⟨k, hkl, rfl, heq, hst⟩ := hrel
    clear H
    have H := Lib.hid hst
    clear hst
    by_cases hlt : k < l1.length
    · have hlt2 : k < l2.length := by have := HLEN.out; omega
      obtain ⟨b1', off1, hqq1⟩ := tops_at HK1.out H.out (by omega)
      subst hqq1
      obtain ⟨⟨⟨n1, p1⟩, v1⟩, hx1⟩ : ∃ x, l1[k] = x := ⟨_, rfl⟩
      have hmem1 : ((⟨n1, p1⟩ : TopS), v1) ∈ l1 := hx1 ▸ List.getElem_mem _
      have XF1 := Lib.hid (show p1.length ≤ 9223372036854775807 from HF1.out.2 _ hmem1)
      have xk1 : K.has (Know.flat RI v1 1 p1) := tops_parts HK1.out hmem1
      obtain ⟨qx1, capx1, hv1⟩ := flat_form xk1 H.out
      subst hv1
      have XK1 := Lib.hid xk1
      have HX1 := Lib.hid (show l1[k].1 = ⟨n1, p1⟩ by rw [hx1])
      have HXX1 := Lib.hid hx1
      clear hmem1 hx1 xk1
      obtain ⟨b2', off2, hqq2⟩ := tops_at HK2.out H.out (by omega)
      subst hqq2
      obtain ⟨⟨⟨n2, p2⟩, v2⟩, hx2⟩ : ∃ x, l2[k] = x := ⟨_, rfl⟩
      have hmem2 : ((⟨n2, p2⟩ : TopS), v2) ∈ l2 := hx2 ▸ List.getElem_mem _
      have XF2 := Lib.hid (show p2.length ≤ 9223372036854775807 from HF2.out.2 _ hmem2)
      have xk2 : K.has (Know.flat RI v2 1 p2) := tops_parts HK2.out hmem2
      obtain ⟨qx2, capx2, hv2⟩ := flat_form xk2 H.out
      subst hv2
      have XK2 := Lib.hid xk2
      have HX2 := Lib.hid (show l2[k].1 = ⟨n2, p2⟩ by rw [hx2])
      have HXX2 := Lib.hid hx2
      clear hmem2 hx2 xk2
      obtain ⟨c10, c11⟩ : wr.cell? ⟨b1', off1 + k * 2, none⟩ = some (.string (bb n1)) ∧ wr.cell? ⟨b1', off1 + k * 2 + 1, none⟩ = some (.slice qx1 p1.length capx1) := tops_cell HK1.out H.out k hlt _ HXX1.out
      obtain ⟨c20, c21⟩ : (wr.alloc (.cells #[.string (bb n1), .slice qx1 p1.length capx1] 51)).cell? ⟨b2', off2 + k * 2, none⟩ = some (.string (bb n2)) ∧ (wr.alloc (.cells #[.string (bb n1), .slice qx1 p1.length capx1] 51)).cell? ⟨b2', off2 + k * 2 + 1, none⟩ = some (.slice qx2 p2.length capx2) := tops_cell HK2.out (H.out.allocRaw #[.string (bb n1), .slice qx1 p1.length capx1] 51) k hlt2 _ HXX2.out
      have hki : (k : Int) < (l1.length : Int) := by omega
      have hki2 : (k : Int) < (l2.length : Int) := by omega
      have NX := Lib.hid (show (⟨n1, p1⟩ : TopS) ≠ ⟨n2, p2⟩ → l1.map (·.1) ≠ l2.map (·.1) from tmap_ne_of_get l1 l2 k hlt hlt2 _ _ HX1.out HX2.out)
      have NT := Lib.hid (show (⟨n1, p1⟩ : TopS) = ⟨n2, p2⟩ → (l1.map (·.1)).take (k + 1) = (l2.map (·.1)).take (k + 1) from fun e => by rw [tmap_take_succ l1 k hlt _ HX1.out, tmap_take_succ l2 k hlt2 _ HX2.out, heq.out, e])
      obtain ⟨wE, hwE⟩ : ∃ b, wr.heap.size = b := ⟨_, rfl⟩
      obtain ⟨wG, hwG⟩ : ∃ b, wE + 1 = b := ⟨_, rfl⟩
      have h := (H.out.allocRaw #[.string (bb n1), .slice qx1 p1.length capx1] 51).allocRaw #[.string (bb n2), .slice qx2 p2.length capx2] 51
      rw [World.size_alloc, hwE, hwG] at h
      clear H
      have H := Lib.hid h
      clear h HX1 HX2 HXX1 HXX2
      clear hlt2
      have eb0 := (H.out).rawCell 0; have eb1 := (H.out).rawCell 1; have fb0 := (H.out).rawFree 0; have fb1 := (H.out).rawFree 1; simp at eb0 eb1 fb0 fb1
      have ea0 := (H.out.p1).rawCell 0; have ea1 := (H.out.p1).rawCell 1; have fa0 := (H.out.p1).rawFree 0; have fa1 := (H.out.p1).rawFree 1; simp at ea0 ea1 fa0 fa1
      by_cases hxy : (⟨n1, p1⟩ : TopS) = ⟨n2, p2⟩
      · have E1 := Lib.hid (decide_eq_true hxy)
        have NT2 := Lib.hid (NT.out hxy)
        clear hxy NX NT
        go_wp2_with (go_at_call 84; (with_reducible refine (top_bare n1 n2 p1 p2 qx1 qx2 capx1 capx2 _ E1.out XF1.out XF2.out XK1.out XK2.out H.out).mono ?_); rintro e_ wn ⟨rfl, h⟩; replace H := Lib.hid h; clear h)
        go_roundw
        case rel => exact ⟨k + 1, hlt, by go_num, NT2, H.out.drop.drop⟩
        case measure => first | (simp [intOf]; done) | (simp [intOf]; omega)
      · have E1 := Lib.hid (decide_eq_false hxy)
        have HRF := Lib.hid (show r = false by rw [← HR.out]; exact decide_eq_false (NX.out hxy))
        clear hxy NX NT
        go_wp2_with (go_at_call 84; (with_reducible refine (top_bare n1 n2 p1 p2 qx1 qx2 capx1 capx2 _ E1.out XF1.out XF2.out XK1.out XK2.out H.out).mono ?_); rintro e_ wn ⟨rfl, h⟩; replace H := Lib.hid h; clear h)
        go_ret
        exact ⟨ret_bool HRF.out.symm, H.out.drop.drop⟩
    · obtain rfl : k = l1.length := by omega
      have hall : l1.map (·.1) = l2.map (·.1) := by
        have h := heq.out
        rwa [List.take_of_length_le (by simp), List.take_of_length_le (by have := HLEN.out; simp; omega)] at h
      have HRT := Lib.hid (show r = true by rw [← HR.out, hall]; exact decide_eq_true rfl)
      clear hall
      go_wp2
      go_ret
      exact ⟨ret_bool HRT.out.symm, H.out⟩
theorem val_sameTopics (l1 l2 : List (TopS × Value)) (q1 q2 : Option Addr) (cap1 cap2 : Nat) (r : Bool) (hr : decide (l1.map (·.1) = l2.map (·.1)) = r) (hf1 : LenT l1) (hf2 : LenT l2) {W0 w : World} {K : Know} {L : List Res} (hk1 : K.has (Know.tops (.slice q1 l1.length cap1) l1)) (hk2 : K.has (Know.tops (.slice q2 l2.length cap2) l2)) (h : St W0 w K L) :
    Calls Try.prog 30 #[.slice q1 l1.length cap1, .slice q2 l2.length cap2] w fun en w' => en = .returned (.bool r) ∧ St W0 w' K L := by
  have H := Lib.hid h
  have HR := Lib.hid hr
  have HF1 := Lib.hid hf1
  have HF2 := Lib.hid hf2
  have HK1 := Lib.hid hk1
  have HK2 := Lib.hid hk2
  clear h hr hf1 hf2 hk1 hk2
  go_enter Try.func30, Try.ntmps30
  go_wp2_with (go_at_call 83; (with_reducible refine (tops_eqf l1 l2 q1 q2 cap1 cap2 _ HR.out HF1.out HF2.out HK1.out HK2.out H.out).mono ?_); rintro e_ wn ⟨rfl, h⟩; replace H := Lib.hid h; clear h)
  go_ret
  exact ⟨rfl, H.out⟩

end Go.Proofs.Ytombolmicfjjpaa

/- Values that are one. -/
namespace Go.Proofs.Ytombolmicfjjpaa
open Go.RowKit

set_option maxHeartbeats 2000000 in
set_option maxRecDepth 100000 in
theorem val_sameT (p e t s u st : Int) (l1 l2 : List (TopS × Value)) (q1 q2 : Option Addr) (cap1 cap2 : Nat) (hr : l1.map (·.1) = l2.map (·.1)) (hf1 : LenT l1) (hf2 : LenT l2) {W0 w : World} {K : Know} {L : List Res} (hk1 : K.has (Know.tops (.slice q1 l1.length cap1) l1)) (hk2 : K.has (Know.tops (.slice q2 l2.length cap2) l2)) (h : St W0 w K L) :
    Calls Try.prog 21 #[.agg #[.int .i64 p, .int .i64 e, .int .i64 t, .int .i64 s, .slice q1 l1.length cap1, .int .i64 u, .int .i64 st], .agg #[.int .i64 p, .int .i64 e, .int .i64 t, .int .i64 s, .slice q2 l2.length cap2, .int .i64 u, .int .i64 st]] w fun en w' => en = .returned (.bool true) ∧ St W0 w' K L := by
  have h0 := (h.allocRaw #[.int .i64 p, .int .i64 e, .int .i64 t, .int .i64 s, .slice q1 l1.length cap1, .int .i64 u, .int .i64 st] 24).allocRaw #[.int .i64 p, .int .i64 e, .int .i64 t, .int .i64 s, .slice q2 l2.length cap2, .int .i64 u, .int .i64 st] 24
  rw [World.size_alloc] at h0
  have H := Lib.hid h0
  have HR := Lib.hid (decide_eq_true hr)
  have HF1 := Lib.hid hf1
  have HF2 := Lib.hid hf2
  have HK1 := Lib.hid hk1
  have HK2 := Lib.hid hk2
  clear h h0 hr hf1 hf2 hk1 hk2
  go_enter Try.func21, Try.ntmps21
  go_wp2_with (go_at_call 30; (with_reducible refine (val_sameTopics l1 l2 q1 q2 cap1 cap2 true HR.out HF1.out HF2.out HK1.out HK2.out H.out).mono ?_); rintro e_ wn ⟨rfl, h⟩; have c5 := h.rawCell 5; have c6 := h.rawCell 6; have d5 := h.p1.rawCell 5; have d6 := h.p1.rawCell 6; simp at c5 c6 d5 d6; replace H := Lib.hid h; clear h)
  go_ret
  exact ⟨rfl, H.out.drop.drop⟩

set_option maxHeartbeats 2000000 in
set_option maxRecDepth 100000 in
theorem ref14_sameT (p e t s u st : Int) (l1 l2 : List (TopS × Value)) (q1 q2 : Option Addr) (cap1 cap2 : Nat) (hr : l1.map (·.1) = l2.map (·.1)) (hf1 : LenT l1) (hf2 : LenT l2) {W0 w : World} {K : Know} {L : List Res} (hk1 : K.has (Know.tops (.slice q1 l1.length cap1) l1)) (hk2 : K.has (Know.tops (.slice q2 l2.length cap2) l2)) (h : St W0 w K L) :
    Calls Try.prog 20 #[.agg #[.int .i64 p, .int .i64 e, .int .i64 t, .int .i64 s, .slice q1 l1.length cap1, .int .i64 u, .int .i64 st], .agg #[.int .i64 p, .int .i64 e, .int .i64 t, .int .i64 s, .slice q2 l2.length cap2, .int .i64 u, .int .i64 st]] w fun en w' => en = .returned (.bool true) ∧ St W0 w' K L := by
  have h0 := (h.allocRaw #[.int .i64 p, .int .i64 e, .int .i64 t, .int .i64 s, .slice q1 l1.length cap1, .int .i64 u, .int .i64 st] 24).allocRaw #[.int .i64 p, .int .i64 e, .int .i64 t, .int .i64 s, .slice q2 l2.length cap2, .int .i64 u, .int .i64 st] 24
  rw [World.size_alloc] at h0
  have H := Lib.hid h0
  have HR := Lib.hid (decide_eq_true hr)
  have HF1 := Lib.hid hf1
  have HF2 := Lib.hid hf2
  have HK1 := Lib.hid hk1
  have HK2 := Lib.hid hk2
  clear h h0 hr hf1 hf2 hk1 hk2
  go_enter Try.func20, Try.ntmps20
  go_wp2_with (go_at_call 28; (with_reducible refine (ref14_sameTopics l1 l2 q1 q2 cap1 cap2 true HR.out HF1.out HF2.out HK1.out HK2.out H.out).mono ?_); rintro e_ wn ⟨rfl, h⟩; have c5 := h.rawCell 5; have c6 := h.rawCell 6; have d5 := h.p1.rawCell 5; have d6 := h.p1.rawCell 6; simp at c5 c6 d5 d6; replace H := Lib.hid h; clear h)
  go_ret
  exact ⟨rfl, H.out.drop.drop⟩

end Go.Proofs.Ytombolmicfjjpaa

/- Whether two values are one. -/
namespace Go.Proofs.Ytombolmicfjjpaa
open Go.RowKit

set_option maxHeartbeats 2000000 in
set_option maxRecDepth 100000 in
theorem ref14_same (p1 e1 t1 s1 u1 st1 p2 e2 t2 s2 u2 st2 : Int) (l1 l2 : List (TopS × Value)) (q1 q2 : Option Addr) (cap1 cap2 : Nat) (tl1 tl2 : List TopS) (ht1 : l1.map (·.1) = tl1) (ht2 : l2.map (·.1) = tl2) (r : Bool) (hr : decide ((⟨p1, e1, t1, s1, tl1, u1, st1⟩ : ValS) = (⟨p2, e2, t2, s2, tl2, u2, st2⟩ : ValS)) = r) (hf1 : LenT l1) (hf2 : LenT l2) {W0 w : World} {K : Know} {L : List Res} (hk1 : K.has (Know.tops (.slice q1 l1.length cap1) l1)) (hk2 : K.has (Know.tops (.slice q2 l2.length cap2) l2)) (h : St W0 w K L) :
    Calls Try.prog 20 #[.agg #[.int .i64 p1, .int .i64 e1, .int .i64 t1, .int .i64 s1, .slice q1 l1.length cap1, .int .i64 u1, .int .i64 st1], .agg #[.int .i64 p2, .int .i64 e2, .int .i64 t2, .int .i64 s2, .slice q2 l2.length cap2, .int .i64 u2, .int .i64 st2]] w fun en w' => en = .returned (.bool r) ∧ St W0 w' K L := by
  have h0 := (h.allocRaw #[.int .i64 p1, .int .i64 e1, .int .i64 t1, .int .i64 s1, .slice q1 l1.length cap1, .int .i64 u1, .int .i64 st1] 24).allocRaw #[.int .i64 p2, .int .i64 e2, .int .i64 t2, .int .i64 s2, .slice q2 l2.length cap2, .int .i64 u2, .int .i64 st2] 24
  rw [World.size_alloc] at h0
  have H := Lib.hid h0
  have HF1 := Lib.hid hf1
  have HF2 := Lib.hid hf2
  have HK1 := Lib.hid hk1
  have HK2 := Lib.hid hk2
  clear h h0 hf1 hf2 hk1 hk2
  by_cases hn : p1 = p2
  rotate_left
  · as_aux_lemma =>
    obtain rfl : false = r := by rw [← hr]; exact (decide_eq_false (by intro h; cases h; exact hn rfl)).symm
    have hb : (p1 == p2) = false := by rw [beq_eq_false_iff_ne]; exact hn
    clear hn hr ht1 ht2
    go_enter Try.func20, Try.ntmps20
    go_wp2
    go_ret
    exact ⟨rfl, H.out.drop.drop⟩
  subst hn
  by_cases hn : e1 = e2
  rotate_left
  · as_aux_lemma =>
    obtain rfl : false = r := by rw [← hr]; exact (decide_eq_false (by intro h; cases h; exact hn rfl)).symm
    have hb : (e1 == e2) = false := by rw [beq_eq_false_iff_ne]; exact hn
    clear hn hr ht1 ht2
    go_enter Try.func20, Try.ntmps20
    go_wp2
    go_ret
    exact ⟨rfl, H.out.drop.drop⟩
  subst hn
  by_cases hn : t1 = t2
  rotate_left
  · as_aux_lemma =>
    obtain rfl : false = r := by rw [← hr]; exact (decide_eq_false (by intro h; cases h; exact hn rfl)).symm
    have hb : (t1 == t2) = false := by rw [beq_eq_false_iff_ne]; exact hn
    clear hn hr ht1 ht2
    go_enter Try.func20, Try.ntmps20
    go_wp2
    go_ret
    exact ⟨rfl, H.out.drop.drop⟩
  subst hn
  by_cases hn : s1 = s2
  rotate_left
  · as_aux_lemma =>
    obtain rfl : false = r := by rw [← hr]; exact (decide_eq_false (by intro h; cases h; exact hn rfl)).symm
    have hb : (s1 == s2) = false := by rw [beq_eq_false_iff_ne]; exact hn
    clear hn hr ht1 ht2
    go_enter Try.func20, Try.ntmps20
    go_wp2
    go_ret
    exact ⟨rfl, H.out.drop.drop⟩
  subst hn
  by_cases hn : u1 = u2
  rotate_left
  · as_aux_lemma =>
    obtain rfl : false = r := by rw [← hr]; exact (decide_eq_false (by intro h; cases h; exact hn rfl)).symm
    have hb : (u1 == u2) = false := by rw [beq_eq_false_iff_ne]; exact hn
    clear hn hr ht1 ht2
    go_enter Try.func20, Try.ntmps20
    go_wp2
    go_ret
    exact ⟨rfl, H.out.drop.drop⟩
  subst hn
  by_cases hn : st1 = st2
  rotate_left
  · as_aux_lemma =>
    obtain rfl : false = r := by rw [← hr]; exact (decide_eq_false (by intro h; cases h; exact hn rfl)).symm
    have hb : (st1 == st2) = false := by rw [beq_eq_false_iff_ne]; exact hn
    clear hn hr ht1 ht2
    go_enter Try.func20, Try.ntmps20
    go_wp2
    go_ret
    exact ⟨rfl, H.out.drop.drop⟩
  subst hn
  have HD := Lib.hid (show decide (l1.map (·.1) = l2.map (·.1)) = r by
    rw [← hr, ht1, ht2]
    exact decide_eq_decide.mpr ⟨fun h => by rw [h], fun h => by cases h; rfl⟩)
  clear hr ht1 ht2
  go_enter Try.func20, Try.ntmps20
  go_wp2_with (go_at_call 28; (with_reducible refine (ref14_sameTopics l1 l2 q1 q2 cap1 cap2 r HD.out HF1.out HF2.out HK1.out HK2.out H.out).mono ?_); rintro e_ wn ⟨rfl, h⟩; replace H := Lib.hid h; clear h)
  go_ret
  exact ⟨rfl, H.out.drop.drop⟩

end Go.Proofs.Ytombolmicfjjpaa

/- Values, decoded (pure). -/
namespace Go.Proofs.Ytombolmicfjjpaa
open Go.RowKit

theorem close_st {i : InS} (h : i.err ≠ 0) : i.close.err = i.err := by
  unfold InS.close
  split
  · unfold InS.fail; rw [if_neg h]
  · rfl
theorem valF_stuck {i : InS} (h : i.err ≠ 0) : i.valF = (ValS.z, i) := by
  have r8 : i.int 8 = (0, i) := (rds_intN 8 (by decide) (by decide)).stuck i h
  have r2 : i.int 2 = (0, i) := (rds_intN 2 (by decide) (by decide)).stuck i h
  have r4 : i.int 4 = (0, i) := (rds_intN 4 (by decide) (by decide)).stuck i h
  have r1 : i.int 1 = (0, i) := (rds_intN 1 (by decide) (by decide)).stuck i h
  have rt : i.tops = ([], i) := rds_tops.stuck i h
  exact valF_eq r8 r2 r4 r1 rt r8 r8
theorem decE_zero {s : Bs} (h : decE s = 0) : ((⟨s, 0, 0⟩ : InS).int 2).1 = 0 := by
  by_cases ha : ((⟨s, 0, 0⟩ : InS).int 2).1 = 0
  · exact ha
  · exfalso
    have hj : (decI s).err ≠ 0 := by
      unfold decI
      rw [if_neg ha]
      unfold InS.fail
      split
      · show (7 : Int) ≠ 0; decide
      · assumption
    unfold decE at h
    rw [valF_stuck hj, close_st hj] at h
    exact hj h
theorem valDec_ok {s : Bs} {v : ValS} (h : valDec s = (v, 0)) (hz : v ≠ ValS.z ∨ True) : decE s = 0 ∧ (decI s).valF.1 = v ∧ v.err = 0 := by
  unfold valDec at h
  by_cases h1 : decE s ≠ 0
  · rw [if_pos h1] at h
    simp only [Prod.mk.injEq] at h
    exact absurd h.2 h1
  · rw [if_neg h1] at h
    by_cases h2 : (decI s).valF.1.err ≠ 0
    · rw [if_pos h2] at h
      simp only [Prod.mk.injEq] at h
      exact absurd h.2 h2
    · rw [if_neg h2] at h
      simp only [Prod.mk.injEq] at h
      refine ⟨Classical.not_not.1 h1, h.1, ?_⟩
      rw [← h.1]
      exact Classical.not_not.1 h2
theorem valDec_bad {s : Bs} {v : ValS} {E : Int} (h : valDec s = (v, E)) (h0 : E ≠ 0) : (decE s = E) ∨ (decE s = 0 ∧ (decI s).valF.1.err = E) := by
  unfold valDec at h
  by_cases h1 : decE s ≠ 0
  · rw [if_pos h1] at h
    simp only [Prod.mk.injEq] at h
    exact .inl h.2
  · rw [if_neg h1] at h
    have h1 := Classical.not_not.1 h1
    by_cases h2 : (decI s).valF.1.err ≠ 0
    · rw [if_pos h2] at h
      simp only [Prod.mk.injEq] at h
      exact .inr ⟨h1, h.2⟩
    · rw [if_neg h2] at h
      simp only [Prod.mk.injEq] at h
      exact absurd h.2.symm h0

end Go.Proofs.Ytombolmicfjjpaa

/- Numbers and texts, read. -/
namespace Go.Proofs.Ytombolmicfjjpaa
open Go.RowKit

theorem cnt_nat (i : InS) (each : Nat) : (i.count 4 each).1 = ((i.cnt each).1 : Int) ∧ (i.cnt each).1 ≤ 2147483647 := by
  have hr : -2147483648 ≤ (i.int 4).1 ∧ (i.int 4).1 < 2147483648 := by
    have e4 : half (4 : Int).toNat = 2147483648 := by decide
    by_cases hi : i.err = 0
    · obtain ⟨s, pos, er⟩ := i
      simp only at hi
      subst hi
      unfold InS.int
      rw [if_neg (by decide)]
      simp only
      unfold InS.take
      split
      · show -2147483648 ≤ sInt [] ∧ sInt [] < 2147483648; decide
      · split
        · show -2147483648 ≤ sInt [] ∧ sInt [] < 2147483648; decide
        · split
          · show -2147483648 ≤ sInt [] ∧ sInt [] < 2147483648; decide
          · rename_i h1 h2 h3
            have hl : (((s.drop pos)).take (4 : Int).toNat).length = 4 := by
              rw [List.length_take, List.length_drop]
              simp only [InS.left] at h3
              have : (4 : Int).toNat = 4 := rfl
              omega
            have h6 := sInt_fits _ 4 (by decide) (by decide) hl
            have h7 := h6.2.2
            have e5 : half ((4 : Nat) : Int).toNat = 2147483648 := by decide
            rw [e5] at h7
            exact h7
    · rw [int_stuck i hi]; show (-2147483648 : Int) ≤ 0 ∧ (0 : Int) < 2147483648; decide
  have h0 : 0 ≤ (i.count 4 each).1 ∧ (i.count 4 each).1 < 2147483648 := by
    unfold InS.count
    simp only
    split
    · simp
    · split
      · simp
      · omega
  unfold InS.cnt
  simp only
  omega
theorem s_cntV (p : Nat) (i j : InS) (each n : Nat) (ei : Int) (he : ei = each) (hx : i.cnt each = (n, j)) {W0 w : World} {K : Know} {L : List Res} (h : St W0 w K (.inp p i :: L)) :
    Calls Try.prog 77 #[inPtr p, .int .i64 4, .int .i64 ei] w fun en w' => en = .returned (.int .i64 n) ∧ St W0 w' K (.inp p j :: L) := by
  subst he
  have h2 := s_count p i 4 each h
  have h3 := (cnt_nat i each).1
  rw [hx] at h3
  have h4 : (i.count 4 each).2 = j := by have := congrArg Prod.snd hx; exact this
  rw [h3, h4] at h2
  exact h2
theorem s_intV (p : Nat) (i j : InS) (x : Int) (size : Int) (hx : i.int size = (x, j)) {W0 w : World} {K : Know} {L : List Res} (h : St W0 w K (.inp p i :: L)) :
    Calls Try.prog 72 #[inPtr p, .int .i64 size] w fun en w' => en = .returned (.int .i64 x) ∧ St W0 w' K (.inp p j :: L) := by
  have h2 := s_int p i size h
  rw [hx] at h2
  exact h2
theorem s_errV (p : Nat) (i : InS) (e : Int) (hx : i.err = e) {W0 w : World} {K : Know} {L : List Res} (h : St W0 w K (.inp p i :: L)) :
    Calls Try.prog 27 #[inPtr p] w fun en w' => en = .returned (.int .i64 e) ∧ St W0 w' K (.inp p i :: L) := by
  subst hx; exact s_err p i h
theorem blob_textV (p : Nat) (i j : InS) (s : Bs) (hx : i.text = (s, j)) {W0 w : World} {K : Know} {L : List Res} (h : St W0 w K (.inp p i :: L)) :
    Calls Try.prog 78 #[inPtr p] w fun en w' => en = .returned (.string (bb s)) ∧ St W0 w' K (.inp p j :: L) := by
  have h2 := blob_text p i h
  rw [hx] at h2
  exact h2
theorem elem_int : ElemT Try.prog 3 (.int .i64 0) 1 8 := elemT_of (by kernel_rfl) rfl (by decide)
theorem elem_top : ElemT Try.prog 51 (.agg #[.string ⟨#[]⟩, .slice none 0 0]) 2 40 := elemT_of (by kernel_rfl) rfl (by decide)
theorem tops_nil (K : Know) : K.has (K.and (Know.tops (.slice none 0 0) [])) := fun _ _ h => ⟨h, ⟨none, 0, rfl, fun h => absurd h (by simp)⟩, fun x hx => by cases hx⟩

end Go.Proofs.Ytombolmicfjjpaa

/- Topics, read. -/
namespace Go.Proofs.Ytombolmicfjjpaa
open Go.RowKit

set_option maxHeartbeats 1000000 in
set_option maxRecDepth 100000 in
theorem val_parts (p : Nat) (i j : InS) (l : List Int) (hx : i.parts = (l, j)) {W0 w : World} {K : Know} {L : List Res} (h : St W0 w K (.inp p i :: L)) :
    Calls Try.prog 79 #[inPtr p] w fun en w' => ∃ v, en = .returned v ∧ St W0 w' (K.and (Know.flat RI v 1 l)) (.inp p j :: L) := by
  obtain ⟨⟨n, c⟩, hc⟩ : ∃ r, i.cnt 4 = r := ⟨_, rfl⟩
  have hnl := (cnt_nat i 4).2
  rw [hc] at hnl
  have hx2 : InS.partsN n [] c = (l, j) := by rw [← hx]; unfold InS.parts; rw [hc]
  have HC := Lib.hid hc
  have HX := Lib.hid hx2
  have HNL := Lib.hid hnl
  have H := Lib.hid h
  have hni : (n : Int) ≤ 2147483647 := by simp only at hnl; omega
  clear h hx hc hx2 hnl
  go_enter Try.func79, Try.ntmps79
  go_wp2_with (go_at_call 77; (with_reducible refine (s_cntV p i c 4 n 4 rfl HC.out H.out).mono ?_); rintro e_ wn ⟨rfl, h⟩; replace H := Lib.hid h; clear h)
  go_loopw [3, 6] (fun lv iv wr => ∃ (k : Nat) (i2 : InS) (acc : List Int), k ≤ n ∧ iv = .int .i64 k ∧ Hid (acc.length = k) ∧ Hid (InS.partsN (n - k) acc i2 = (l, j)) ∧ St W0 wr K (.row lv 3 1 acc.length (acc.flatMap fun x => [.int .i64 x]) :: .inp p i2 :: L)) (fun _ iv _ => n - (intOf iv).toNat)
  case atStart => exact ⟨0, c, [], Nat.zero_le _, rfl, Lib.hid rfl, Lib.hid HX.out, H.out.nilRow 3 1⟩
  case round =>
    obtain ⟨k, i2, acc, hk, rfl, HAL, HP, hst⟩ := hrel
    clear H
    have H := Lib.hid hst
    clear hst
    by_cases hlt : k < n
    · obtain ⟨⟨x, i3⟩, hi3⟩ : ∃ r, i2.int 4 = r := ⟨_, rfl⟩
      have HI := Lib.hid hi3
      have HP2 := Lib.hid (show InS.partsN (n - (k + 1)) (acc ++ [x]) i3 = (l, j) by
        have h1 := HP.out
        rw [show n - k = (n - (k + 1)) + 1 by omega] at h1
        have h2 : InS.partsN (n - (k + 1)) (acc ++ [(i2.int 4).1]) (i2.int 4).2 = (l, j) := h1
        rw [hi3] at h2
        exact h2)
      have HAB := Lib.hid (show acc.length ≤ 2147483647 by have := HAL.out; have := HNL.out; omega)
      have hkn : (k : Int) < (n : Int) := by omega
      clear hi3
      go_wp2_with (first
    | (go_at_call 72; (with_reducible refine (s_intV p i2 i3 x 4 HI.out H.out.p1).mono ?_); rintro e_ wn ⟨rfl, h⟩; have h := h.p1; replace H := Lib.hid h; clear h)
    | (at_builtin; refine wpl_app1_st rfl _ _ 49 rfl 3 Try.underlying49 elem_int _ _ _ rfl H.out [.int .i64 x] 3 rfl rfl (by simp [Value.oneCell']) (by have := HAB.out; unfold maxLen; omega) (by have := HAB.out; omega) ?_; intro v' w' h; replace H := Lib.hid h; clear h))
      go_roundw
      case rel => exact ⟨k + 1, i3, acc ++ [x], hlt, by go_num, Lib.hid (by rw [List.length_append, HAL.out]; rfl), HP2, by rw [List.length_append, List.flatMap_append]; exact H.out⟩
      case measure => first | (simp [intOf]; done) | (simp [intOf]; omega)
    · obtain rfl : k = n := by omega
      have hp := HP.out
      rw [Nat.sub_self] at hp
      have hp : (acc, i2) = (l, j) := hp
      simp only [Prod.mk.injEq] at hp
      obtain ⟨rfl, rfl⟩ := hp
      go_wp2
      go_ret
      exact ⟨_, rfl, H.out.freezeRow (R := RI) (fun x _ => ⟨rfl, rfl⟩)⟩

set_option maxHeartbeats 2000000 in
set_option maxRecDepth 100000 in
theorem val_topics (p : Nat) (i j : InS) (l : List TopS) (hx : i.tops = (l, j)) {W0 w : World} {K : Know} {L : List Res} (h : St W0 w K (.inp p i :: L)) :
    Calls Try.prog 25 #[inPtr p] w fun en w' => ∃ (v : Value) (lr : List (TopS × Value)), en = .returned v ∧ lr.map (·.1) = l ∧ St W0 w' (K.and (Know.tops v lr)) (.inp p j :: L) := by
  obtain ⟨⟨n, c⟩, hc⟩ : ∃ r, i.cnt 6 = r := ⟨_, rfl⟩
  have hnl := (cnt_nat i 6).2
  rw [hc] at hnl
  have hx2 : InS.topsN n [] c = (l, j) := by rw [← hx]; unfold InS.tops; rw [hc]
  have HC := Lib.hid hc
  have HX := Lib.hid hx2
  have HNL := Lib.hid hnl
  have H := Lib.hid h
  have hni : (n : Int) ≤ 2147483647 := by simp only at hnl; omega
  clear h hx hc hx2 hnl
  go_enter Try.func25, Try.ntmps25
  go_wp2_with (go_at_call 77; (with_reducible refine (s_cntV p i c 6 n 6 rfl HC.out H.out).mono ?_); rintro e_ wn ⟨rfl, h⟩; replace H := Lib.hid h; clear h)
  go_loopw [3, 4, 7] (fun lv _ iv wr => ∃ (k : Nat) (i2 : InS) (acc : List (TopS × Value)) (K2 : Know), k ≤ n ∧ iv = .int .i64 k ∧ Hid (acc.length = k) ∧ Hid (InS.topsN (n - k) (acc.map (·.1)) i2 = (l, j)) ∧ Hid (K2.has K) ∧ Hid (∀ x ∈ acc, K2.has (Know.flat RI x.2 1 x.1.parts)) ∧ St W0 wr K2 (.row lv 51 2 acc.length (acc.flatMap tcells) :: .inp p i2 :: L)) (fun _ _ iv _ => n - (intOf iv).toNat)
  case atStart => exact ⟨0, c, [], K, Nat.zero_le _, rfl, Lib.hid rfl, Lib.hid HX.out, Lib.hid (Know.has_refl _), Lib.hid (fun x hx => by cases hx), H.out.nilRow 51 2⟩
  case round =>
    obtain ⟨k, i2, acc, K2, hk, rfl, HAL, HP, HKK, HALL, hst⟩ := hrel
    clear H
    have H := Lib.hid hst
    clear hst
    by_cases hlt : k < n
    · obtain ⟨⟨nm, i3⟩, hi3⟩ : ∃ r, i2.text = r := ⟨_, rfl⟩
      obtain ⟨⟨ps, i4⟩, hi4⟩ : ∃ r, i3.parts = r := ⟨_, rfl⟩
      obtain ⟨er, her⟩ : ∃ er, i4.err = er := ⟨_, rfl⟩
      have HT := Lib.hid hi3
      have HPS := Lib.hid hi4
      have HER := Lib.hid her
      have hstep : (if er = 0 then InS.topsN (n - (k + 1)) (acc.map (·.1) ++ [⟨nm, ps⟩]) i4 else ([], i4)) = (l, j) := by
        have h1 := HP.out
        rw [show n - k = (n - (k + 1)) + 1 by omega] at h1
        have h2 : (if i2.text.2.parts.2.err = 0 then InS.topsN (n - (k + 1)) (acc.map (·.1) ++ [⟨i2.text.1, i2.text.2.parts.1⟩]) i2.text.2.parts.2 else ([], i2.text.2.parts.2)) = (l, j) := h1
        rw [hi3] at h2
        simp only at h2
        rw [hi4] at h2
        simp only at h2
        rw [her] at h2
        exact h2
      have HAB := Lib.hid (show acc.length ≤ 2147483647 by have := HAL.out; have := HNL.out; omega)
      have hkn : (k : Int) < (n : Int) := by omega
      clear hi3 hi4 her
      by_cases he0 : er = 0
      · as_aux_lemma =>
        rw [if_pos he0] at hstep
        have HP2 := Lib.hid hstep
        subst he0
        clear hstep
        go_wp2_with (first
    | (go_at_call 78; (with_reducible refine (blob_textV p i2 i3 nm HT.out H.out.p1).mono ?_); rintro e_ wn ⟨rfl, h⟩; replace H := Lib.hid h; clear h)
    | (go_at_call 79; (with_reducible refine (val_parts p i3 i4 ps HPS.out H.out).mono ?_); rintro e_ wn ⟨pv, rfl, h⟩; obtain ⟨qx, capx, hpv⟩ := flat_form (Know.has_right (Know.has_refl _)) h; subst hpv; have h := h.p1; replace H := Lib.hid h; clear h)
    | (at_builtin; refine wpl_app1_st rfl _ _ 22 rfl 51 Try.underlying22 elem_top _ _ _ rfl H.out [.string (bb nm), .slice qx ps.length capx] 51 rfl rfl (by simp [Value.oneCell']) (by have := HAB.out; unfold maxLen; omega) (by have := HAB.out; omega) ?_; intro v' w' h; have h := h.p1; replace H := Lib.hid h; clear h)
    | (go_at_call 27; (with_reducible refine (s_errV p i4 0 HER.out H.out).mono ?_); rintro e_ wn ⟨rfl, h⟩; have h := h.p1; replace H := Lib.hid h; clear h))
        go_roundw
        case rel => exact ⟨k + 1, i4, acc ++ [((⟨nm, ps⟩ : TopS), .slice qx ps.length capx)], K2.and (Know.flat RI (.slice qx ps.length capx) 1 ps), hlt, by go_num, Lib.hid (by rw [List.length_append, HAL.out]; rfl), Lib.hid (by rw [List.map_append]; exact HP2.out), Lib.hid (Know.has_trans (Know.has_left (Know.has_refl _)) HKK.out), Lib.hid (fun x hx => by
          rcases List.mem_append.1 hx with hx | hx
          · exact Know.has_left (HALL.out x hx)
          · rw [List.mem_singleton.1 hx]; exact Know.has_right (Know.has_refl _)), by rw [List.length_append, List.flatMap_append]; exact H.out⟩
        case measure => first | (simp [intOf]; done) | (simp [intOf]; omega)
      · as_aux_lemma =>
        rw [if_neg he0] at hstep
        simp only [Prod.mk.injEq] at hstep
        obtain ⟨rfl, rfl⟩ := hstep
        have gz : (er == 0) = false := by rw [beq_eq_false_iff_ne]; exact he0
        have gz3 : (er != 0) = true := by simp [bne, gz]
        clear he0
        go_wp2_with (first
    | (go_at_call 78; (with_reducible refine (blob_textV p i2 i3 nm HT.out H.out.p1).mono ?_); rintro e_ wn ⟨rfl, h⟩; replace H := Lib.hid h; clear h)
    | (go_at_call 79; (with_reducible refine (val_parts p i3 _ ps HPS.out H.out).mono ?_); rintro e_ wn ⟨pv, rfl, h⟩; obtain ⟨qx, capx, hpv⟩ := flat_form (Know.has_right (Know.has_refl _)) h; subst hpv; have h := h.p1; replace H := Lib.hid h; clear h)
    | (at_builtin; refine wpl_app1_st rfl _ _ 22 rfl 51 Try.underlying22 elem_top _ _ _ rfl H.out [.string (bb nm), .slice qx ps.length capx] 51 rfl rfl (by simp [Value.oneCell']) (by have := HAB.out; unfold maxLen; omega) (by have := HAB.out; omega) ?_; intro v' w' h; have h := h.p1; replace H := Lib.hid h; clear h)
    | (go_at_call 27; (with_reducible refine (s_errV p _ er HER.out H.out).mono ?_); rintro e_ wn ⟨rfl, h⟩; replace H := Lib.hid h; clear h))
        go_ret
        exact ⟨_, [], rfl, rfl, (H.out.p1.drop).know (Know.has_trans (Know.has_left HKK.out) (tops_nil K))⟩
    · obtain rfl : k = n := by omega
      have hp := HP.out
      rw [Nat.sub_self] at hp
      have hp : (acc.map (·.1), i2) = (l, j) := hp
      simp only [Prod.mk.injEq] at hp
      obtain ⟨rfl, rfl⟩ := hp
      go_wp2
      go_ret
      have hf := H.out.freezeRow (R := RTop) (fun x _ => ⟨rfl, rfl⟩)
      have hf2 := hf.know (K' := K.and (Know.tops _ acc)) (fun w F hh => ⟨HKK.out _ _ hh.1, hh.2, fun y hy => HALL.out y hy _ _ hh.1⟩)
      first | exact ⟨_, acc, rfl, rfl, hf2⟩ | exact ⟨_, rfl, acc, rfl, hf2⟩

end Go.Proofs.Ytombolmicfjjpaa

/- The bytes of control records (pure). -/
namespace Go.Proofs.Ytombolmicfjjpaa
open Go.RowKit

/-- A number of so many bytes, behind the version. -/
def verB (n : Int) (k : Nat) : Bs := beBytes 0 2 ++ beBytes n k
def ctlKey (k : Int) : Bs × Int := if k = 0 ∨ k = 1 then (verB k 2, 0) else ([], 12)
def ctlVal (n : Int) : Bs × Int := if 0 ≤ n ∧ n < 2147483648 then (verB n 4, 0) else ([], 11)
/-- Of bytes the number behind the version. -/
def verRd (k : Nat) (ok : Int → Bool) (e : Int) (s : Bs) : Int × Int :=
  if s.length < 2 then (0, 1) else if sInt (s.take 2) ≠ 0 then (0, 7) else if s.length < 2 + k then (0, 1)
  else if ok (sInt ((s.drop 2).take k)) = false then (0, e) else if 2 + k < s.length then (0, 2) else (sInt ((s.drop 2).take k), 0)
def verA (s : Bs) : Int × InS := (⟨s, 0, 0⟩ : InS).int 2
def verI (s : Bs) : InS := if (verA s).1 = 0 then (verA s).2 else (verA s).2.fail 7
def verJ (k : Nat) (ok : Int → Bool) (e : Int) (s : Bs) : InS := if ok ((verI s).int k).1 = true then ((verI s).int k).2 else ((verI s).int k).2.fail e
def verD (k : Nat) (ok : Int → Bool) (e : Int) (s : Bs) : Int × Int := if (verJ k ok e s).close.err = 0 then (((verI s).int k).1, 0) else (0, (verJ k ok e s).close.err)
theorem close_stuckC {i : InS} (h : i.err ≠ 0) : i.close = i := by
  unfold InS.close
  split
  · exact if_neg h
  · rfl
theorem verD_bad {k : Nat} {ok : Int → Bool} {e x : Int} {s : Bs} (hx : x ≠ 0) (h : (verJ k ok e s).err = x) : verD k ok e s = (0, x) := by
  subst h
  unfold verD
  rw [close_stuckC hx, if_neg hx]
theorem verJ_stuck {k : Nat} {ok : Int → Bool} {e x : Int} {s : Bs} (h1 : 1 ≤ k) (h8 : k ≤ 8) (hx : x ≠ 0) (h : (verI s).err = x) : (verJ k ok e s).err = x := by
  subst h
  have h2 : (verI s).int k = (0, verI s) := (rds_intN k h1 h8).stuck (verI s) hx
  unfold verJ
  rw [h2]
  split
  · rfl
  · rw [show (verI s).fail e = verI s from if_neg hx]
theorem verD_eq (k : Nat) (ok : Int → Bool) (e : Int) (h1 : 1 ≤ k) (h8 : k ≤ 8) (he : e ≠ 0) (s : Bs) : verD k ok e s = verRd k ok e s := by
  have hi := rds_intN 2 (by decide) (by decide)
  have hk := rds_intN k h1 h8
  unfold verRd
  by_cases c1 : s.length < 2
  · rw [if_pos c1]
    obtain ⟨_, q, _, h3⟩ := hi.err s 0 1 (Nat.zero_le _) (by simp [getIntN, c1])
    have h4 : verA s = (0, ⟨s, q, 1⟩) := h3
    refine verD_bad (by decide) (verJ_stuck h1 h8 (by decide) ?_)
    unfold verI
    rw [h4]
    rfl
  rw [if_neg c1]
  obtain ⟨_, h3⟩ := hi.ok s 0 (sInt (s.take 2)) 2 (Nat.zero_le _) (by simp [getIntN, c1])
  have h4 : verA s = (sInt (s.take 2), ⟨s, 2, 0⟩) := h3
  by_cases c2 : sInt (s.take 2) ≠ 0
  · rw [if_pos c2]
    refine verD_bad (by decide) (verJ_stuck h1 h8 (by decide) ?_)
    unfold verI
    rw [h4, if_neg c2]
    rfl
  rw [if_neg c2]
  have hI : verI s = ⟨s, 2, 0⟩ := by unfold verI; rw [h4, if_pos (by simpa using c2)]
  by_cases c3 : s.length < 2 + k
  · rw [if_pos c3]
    obtain ⟨_, q, _, h7⟩ := hk.err s 2 1 (by omega) (by unfold getIntN; rw [if_pos (by rw [List.length_drop]; omega)])
    have h7 : (verI s).int k = (0, ⟨s, q, 1⟩) := by rw [hI]; exact h7
    refine verD_bad (by decide) ?_
    unfold verJ
    rw [h7]
    split
    · rfl
    · rfl
  rw [if_neg c3]
  obtain ⟨_, h7⟩ := hk.ok s 2 (sInt ((s.drop 2).take k)) k (by omega) (by unfold getIntN; rw [if_neg (by rw [List.length_drop]; omega)])
  have h7 : (verI s).int k = (sInt ((s.drop 2).take k), ⟨s, 2 + k, 0⟩) := by rw [hI]; exact h7
  by_cases c4 : ok (sInt ((s.drop 2).take k)) = false
  · rw [if_pos c4]
    refine verD_bad he ?_
    unfold verJ
    rw [h7]
    rw [if_neg (by rw [c4]; decide)]
    rfl
  rw [if_neg c4]
  have hJ : verJ k ok e s = ⟨s, 2 + k, 0⟩ := by unfold verJ; rw [h7, if_pos (by simpa using c4)]
  by_cases c5 : 2 + k < s.length
  · have hc : (⟨s, 2 + k, 0⟩ : InS).close = ⟨s, 2 + k, 2⟩ := by
      unfold InS.close
      rw [if_pos (show 0 < (⟨s, 2 + k, 0⟩ : InS).left by simp only [InS.left]; omega)]
      rfl
    unfold verD
    rw [if_pos c5, hJ, hc, if_neg (by simp only; decide)]
  · have hc : (⟨s, 2 + k, 0⟩ : InS).close = ⟨s, 2 + k, 0⟩ := by
      unfold InS.close
      rw [if_neg (show ¬ 0 < (⟨s, 2 + k, 0⟩ : InS).left by simp only [InS.left]; omega)]
    unfold verD
    rw [if_neg c5, hJ, hc, if_pos rfl, h7]
def way (n : Int) : Bool := n == 0 || n == 1
def time0 (n : Int) : Bool := decide (0 ≤ n)
theorem verB_len (n : Int) (k : Nat) : (verB n k).length = 2 + k := by unfold verB; simp [beBytes_length]
theorem verB_take (n : Int) (k : Nat) : (verB n k).take 2 = beBytes 0 2 := by unfold verB; rw [List.take_left' (by simp [beBytes_length])]
theorem verB_drop (n : Int) (k : Nat) : (verB n k).drop 2 = beBytes n k := by unfold verB; rw [List.drop_left' (by simp [beBytes_length])]
theorem verRd_back (n : Int) (k : Nat) (ok : Int → Bool) (e : Int) (h1 : 1 ≤ k) (h8 : k ≤ 8) (hf : fits n k) (ho : ok n = true) : verRd k ok e (verB n k) = (n, 0) := by
  have h2 : sInt (beBytes n k) = n := (sInt_beBytes_iff n k h1).2 ⟨hf.2.2.1, hf.2.2.2⟩
  have h3 : (verB n k).length = 2 + k := verB_len n k
  have h4 : ((verB n k).drop 2).take k = beBytes n k := by rw [verB_drop, List.take_of_length_le (by simp [beBytes_length])]
  unfold verRd
  rw [if_neg (by omega), verB_take, if_neg (by decide), if_neg (by omega), h4, h2, if_neg (by rw [ho]; decide), if_neg (by omega)]
theorem ver_text (n : Int) (k : Nat) (h : fits n k) : ((⟨beBytes 0 2, 0⟩ : OutS).int n k).text = (verB n k, 0) := by
  unfold OutS.int
  rw [if_pos h]
  rfl
theorem ver_textN (n : Int) (k : Nat) (h : ¬ fits n k) : ((⟨beBytes 0 2, 0⟩ : OutS).int n k).text = ([], 11) := by
  unfold OutS.int
  rw [if_neg h]
  rfl
theorem half2 : half 2 = 32768 := by decide
theorem half4 : half 4 = 2147483648 := by decide
theorem fits2 (n : Int) (h : -32768 ≤ n ∧ n < 32768) : fits n 2 := ⟨by decide, by decide, by have := half2; show -half 2 ≤ n; omega, by have := half2; show n < half 2; omega⟩
theorem fits4 (n : Int) : fits n 4 ↔ (-2147483648 ≤ n ∧ n < 2147483648) := by
  have := half4
  constructor
  · intro h
    have h3 : -half 4 ≤ n := h.2.2.1
    have h4 : n < half 4 := h.2.2.2
    omega
  · intro h
    exact ⟨by decide, by decide, by show -half 4 ≤ n; omega, by show n < half 4; omega⟩

end Go.Proofs.Ytombolmicfjjpaa

/- Contracts of package control. -/
namespace Go.Proofs.Ytombolmicfjjpaa
open Go.RowKit

end Go.Proofs.Ytombolmicfjjpaa
