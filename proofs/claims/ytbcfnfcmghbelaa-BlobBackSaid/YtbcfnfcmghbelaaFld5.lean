/- Through the layers, walked: WholeFields. -/
import Derived.Test.YtbcfnfcmghbelaaFld4
import Derived.Deep.RegionHeld3
import Derived.IntWalk
namespace Go.Proofs.Ytbcfnfcmghbelaa
open Go.RowKit

set_option maxHeartbeats 1000000 in
set_option maxRecDepth 100000 in
theorem fields_main (ns : List Int) (l : List BlobS) (qn ql : Option Addr) (capn capl : Nat) (ed : Int) (hed : 0 ≤ ed ∧ ed < 65536) (hn : ∀ n ∈ ns, -9223372036854775808 ≤ n ∧ n < 9223372036854775808) (hb : ∀ b ∈ l, b.data.length ≤ 140737488351232) (hm1 : ns.length ≤ 40) (hm2 : l.length ≤ 40) {W0 w : World} {K : Know} (hkn : K.has (Know.flat RI (.slice qn ns.length capn) 1 ns)) (hkl : K.has (Know.flat RB (.slice ql l.length capl) 2 l)) (h : St W0 w K []) :
    Calls Try.prog 13 #[.slice qn ns.length capn, .slice ql l.length capl, .int .u16 ed] w fun en w' => en = .returned (.bool true) ∧ Below W0.heap.size W0 w' := by
  obtain ⟨bN, hbN⟩ : ∃ b, w.heap.size = b := ⟨_, rfl⟩
  obtain ⟨bL, hbL⟩ : ∃ b, bN + 1 = b := ⟨_, rfl⟩
  obtain ⟨po, hpo⟩ : ∃ b, bL + 1 = b := ⟨_, rfl⟩
  have hpo2 : bN + 2 = po := by omega
  have h1 := h.allocRaw #[.slice qn ns.length capn] 37
  have h2 := (h1.allocRaw #[.slice ql l.length capl] 83).p1
  have h3 := h2.allocOut
  simp only [World.size_alloc, hbN, hbL, hpo] at h2 h3
  have H := Lib.hid h3
  have HKN := Lib.hid hkn
  have HKL := Lib.hid hkl
  have HN := Lib.hid hn
  have HB := Lib.hid hb
  have E0 := Lib.hid (show (⟨[], 0⟩ : OutS).putLong (-1) = ⟨encN (-1), 0⟩ from rfl)
  have E0K := Lib.hid (show (⟨[], 0⟩ : OutS).ok 16 by simp [OutS.ok])
  have R0 := Lib.hid (show -9223372036854775808 ≤ (-1 : Int) ∧ (-1 : Int) < 9223372036854775808 by decide)
  have L1 := Lib.hid (show ((encN (-1)).length : Int) = 1 by rw [encN_m1]; rfl)
  have tok1 : True := trivial
  have d1 : decide ((40 : Int) < (ns.length : Int)) = false := decide_eq_false (by omega)
  have d2 : decide ((40 : Int) < (l.length : Int)) = false := decide_eq_false (by omega)
  clear h h1 h2 h3 hkn hkl hn hb
  obtain ⟨ed0, ed1⟩ := hed
  go_enter Try.func13, Try.ntmps13
  go_wp2_with (first
    | (go_at_call 40; have _t := tok1; clear _t; refine (sv_putLong po _ _ R0.out H.out E0K.out).mono ?_; rw [E0.out]; rintro e wn ⟨rfl, h⟩; replace H := Lib.hid h; clear h; clear tok1; have tok2 : True := trivial; have xn : _ = some _ := (H.out).p1.rawCell 0; have xl : _ = some _ := (H.out).p2.rawCell 0)
    | (go_at_call 33; refine (so_len po _ H.out).mono ?_; simp only; rw [L1.out]; rintro e wn ⟨rfl, h⟩; replace H := Lib.hid h; clear h; have xn : _ = some _ := (H.out).p1.rawCell 0; have xl : _ = some _ := (H.out).p2.rawCell 0))
  go_loopw [9, 31] (fun _ iv wr => ∃ k : Nat, k ≤ ns.length ∧ iv = .int .i64 k ∧ St W0 wr K [.out po ⟨encN (-1) ++ encNs (ns.take k), 0⟩, .raw bN #[.slice qn ns.length capn] 37, .raw bL #[.slice ql l.length capl] 83]) (fun _ iv _ => ns.length - (intOf iv).toNat)
  case atStart => exact ⟨0, Nat.zero_le _, rfl, by rw [List.take_zero]; show St W0 _ K [.out po ⟨encN (-1) ++ [], 0⟩, .raw bN #[.slice qn ns.length capn] 37, .raw bL #[.slice ql l.length capl] 83]; rw [List.append_nil]; exact H.out⟩
  case round =>
    clear xn xl
    obtain ⟨k, hk, rfl, hst⟩ := hrel
    clear H
    have H := Lib.hid hst
    clear hst
    by_cases hlt : k < ns.length
    · obtain ⟨b, off, hq⟩ := flat_at HKN.out H.out (by omega)
      subst hq
      obtain ⟨cs, hR, hc⟩ := flat_cell HKN.out H.out k hlt
      unfold RI at hR
      subst hR
      have c0 := hc 0 _ rfl
      rw [Nat.mul_one, Nat.add_zero] at c0
      have hl1 := encNs_le (ns.take k) (fun m hm => HN.out m (List.mem_of_mem_take hm))
      have hl2 := encN_le (-1) R0.out
      rw [List.length_take] at hl1
      obtain ⟨e, he⟩ : ∃ e, encN (-1) ++ encNs (ns.take k) = e := ⟨_, rfl⟩
      have hel : e.length ≤ 1000 := by rw [← he, List.length_append]; omega
      have EN := Lib.hid (show (⟨e, 0⟩ : OutS).putLong ns[k] = ⟨encN (-1) ++ encNs (ns.take (k + 1)), 0⟩ by rw [encNs_take ns k hlt, ← List.append_assoc, he]; rfl)
      have ENK := Lib.hid (show (⟨e, 0⟩ : OutS).ok 16 by unfold OutS.ok; simp only; omega)
      have RN := Lib.hid (HN.out ns[k] (List.getElem_mem hlt))
      obtain ⟨n, hnn⟩ : ∃ n, ns[k] = n := ⟨_, rfl⟩
      rw [hnn] at c0 EN RN
      have h := H.out
      rw [he] at h
      clear H
      have H := Lib.hid h
      have hki : (k : Int) < (ns.length : Int) := by omega
      clear h he hel hl1 hl2 hnn hc
      go_wp2_with (go_at_call 40; refine (sv_putLong po _ _ RN.out H.out ENK.out).mono ?_; rw [EN.out]; rintro e wn ⟨rfl, h⟩; replace H := Lib.hid h; clear h)
      go_roundw
      case rel => exact ⟨k + 1, hlt, by go_num, H.out⟩
      case measure => first | (simp [intOf]; done) | (simp [intOf]; omega)
    · obtain rfl : k = ns.length := by omega
      rw [List.take_length] at H
      have xn : _ = some _ := (H.out).p1.rawCell 0; have xl : _ = some _ := (H.out).p2.rawCell 0
      go_wp2
      clear xn xl
      go_loopw [11, 40] (fun _ iv wr => ∃ k : Nat, k ≤ l.length ∧ iv = .int .i64 k ∧ AllOk (l.take k) ∧ St W0 wr K [.out po ⟨encN (-1) ++ encNs ns ++ encBs (l.take k), 0⟩, .raw bN #[.slice qn ns.length capn] 37, .raw bL #[.slice ql l.length capl] 83]) (fun _ iv _ => l.length - (intOf iv).toNat)
      case atStart => exact ⟨0, Nat.zero_le _, rfl, (fun _ h => by cases h), by rw [List.take_zero]; show St W0 _ K [.out po ⟨encN (-1) ++ encNs ns ++ [], 0⟩, .raw bN #[.slice qn ns.length capn] 37, .raw bL #[.slice ql l.length capl] 83]; rw [List.append_nil]; exact H.out⟩
      case round =>
        obtain ⟨k, hk, rfl, hgd, hst⟩ := hrel
        have HG := Lib.hid hgd
        clear H hgd
        have H := Lib.hid hst
        clear hst
        have hl1 := encNs_le ns HN.out
        have hl2 := encN_le (-1) R0.out
        have hl3 := encBs_le (l.take k) HG.out
        rw [List.length_take] at hl3
        by_cases hlt : k < l.length
        · obtain ⟨b, off, hq⟩ := flat_at HKL.out H.out (by omega)
          subst hq
          obtain ⟨cs, hR, hc⟩ := flat_cell HKL.out H.out k hlt
          unfold RB at hR
          subst hR
          have c0 := hc 0 _ rfl
          have c1 := hc 1 _ rfl
          rw [Nat.add_zero] at c0
          rw [← Nat.add_assoc] at c1
          have hbl := HB.out l[k] (List.getElem_mem hlt)
          obtain ⟨⟨n, d⟩, hbb⟩ : ∃ n, l[k] = n := ⟨_, rfl⟩
          rw [hbb] at c0 c1 hbl
          simp only at c0 c1 hbl
          obtain ⟨e, he⟩ : ∃ e, encN (-1) ++ encNs ns ++ encBs (l.take k) = e := ⟨_, rfl⟩
          have hel : e.length ≤ 30000 := by rw [← he, List.length_append, List.length_append]; omega
          have HEE := Lib.hid he
          have HBB := Lib.hid hbb
          obtain ⟨bE, hbE⟩ : ∃ b, wr.heap.size = b := ⟨_, rfl⟩
          have h := H.out
          rw [he] at h
          have h := h.allocRaw #[.bool n, .string (bb d)] 63
          rw [hbE] at h
          have h := h.p1
          clear H
          have H := Lib.hid h
          have hki : (k : Int) < (l.length : Int) := by omega
          clear h he hbb hl1 hl2 hl3 hc
          by_cases g1 : 200 < d.length
          · have g1' : decide ((200 : Int) < (d.length : Int)) = true := decide_eq_true (by omega)
            clear g1 hel
            go_wp2
            go_ret
            exact ⟨rfl, H.out.below⟩
          have g1' : decide ((200 : Int) < (d.length : Int)) = false := decide_eq_false (by omega)
          by_cases g2 : n = true ∧ d ≠ []
          · obtain ⟨rfl, g3⟩ := g2
            cases d with
            | nil => exact absurd rfl g3
            | cons c t =>
              have g4 : decide ((200 : Int) < (t.length : Int) + 1) = false := decide_eq_false (by simp at g1; omega)
              clear g1 g3 hel
              go_wp2
              go_ret
              exact ⟨rfl, H.out.below⟩
          have hok : BOk ⟨n, d⟩ := by
            refine ⟨?_, by simp only; omega⟩
            unfold BlobS.right
            cases n
            · simp
            · have : d = [] := by simpa using g2
              simp [this]
          have E1 := Lib.hid (putB_right e ⟨n, d⟩ hok)
          have E2 := Lib.hid (show (⟨e ++ encV ⟨n, d⟩, 0⟩ : OutS).putFixed ⟨n, d⟩ 2 = ⟨encN (-1) ++ encNs ns ++ encBs (l.take (k + 1)), 0⟩ by
            rw [putF_right _ _ hok, encBs_take l k hlt, HBB.out, ← List.append_assoc, HEE.out, List.append_assoc]; rfl)
          have hv := encB_le ⟨n, d⟩ hok
          unfold encB at hv
          rw [List.length_append] at hv
          have K1 := Lib.hid (show (⟨e, 0⟩ : OutS).ok ((⟨n, d⟩ : BlobS).data.length + 16) by unfold OutS.ok; simp only; omega)
          have K2 := Lib.hid (show (⟨e ++ encV ⟨n, d⟩, 0⟩ : OutS).ok ((⟨n, d⟩ : BlobS).data.length + 8) by unfold OutS.ok; simp only [List.length_append]; omega)
          have HG2 := Lib.hid (HG.out.snoc hlt (by rw [HBB.out]; exact hok))
          have hnd : n = false ∨ (n = true ∧ d = []) := by
            cases n
            · exact .inl rfl
            · exact .inr ⟨rfl, by simpa using g2⟩
          clear g1 g2 hok hv hel
          rcases hnd with rfl | ⟨rfl, rfl⟩
          all_goals
            have x0 : _ = some _ := H.out.p1.rawCell 0
            have x1 : _ = some _ := H.out.p1.rawCell 1
            go_wp2_with (first
              | (go_at_call 49; refine (blob_putVaried po _ ⟨_, _⟩ H.out K1.out).mono ?_; rw [E1.out]; rintro e wn ⟨rfl, h⟩; replace H := Lib.hid h; clear h; have x0 : _ = some _ := H.out.p1.rawCell 0; have x1 : _ = some _ := H.out.p1.rawCell 1)
              | (go_at_call 48; refine (blob_putFixed po _ ⟨_, _⟩ 2 H.out K2.out).mono ?_; rw [E2.out]; rintro e wn ⟨rfl, h⟩; replace H := Lib.hid h; clear h))
            go_roundw
            case rel => exact ⟨k + 1, hlt, by go_num, HG2.out, H.out.p1.drop⟩
            case measure => first | (simp [intOf]; done) | (simp [intOf]; omega)
        · obtain rfl : k = l.length := by omega
          rw [List.take_length] at H HG
          obtain ⟨s, hs⟩ : ∃ s, encFld ns l = s := ⟨_, rfl⟩
          have hss : encN (-1) ++ encNs ns ++ encBs l = s := by rw [← hs]; unfold encFld; rw [List.append_assoc]
          rw [hss] at H
          have hsl : s.length ≤ 30000 := by
            rw [List.take_length] at hl3
            rw [← hss, List.length_append, List.length_append]; omega
          have hs1 : 0 < s.length := by rw [← hss, encN_m1]; simp
          have HSL := Lib.hid (show s.length ≤ 140737488355328 by omega)
          have ET := Lib.hid (show (⟨s, 0⟩ : OutS).text = (s, 0) from rfl)
          have hse : s.isEmpty = false := by cases s with | nil => simp at hs1 | cons => rfl
          obtain ⟨c, hc⟩ : ∃ c : Nat, ed % (s.length : Int) = c := ⟨(ed % (s.length : Int)).toNat, by have := Int.emod_nonneg ed (show (s.length : Int) ≠ 0 by omega); omega⟩
          have hcl : c < s.length := by have := Int.emod_lt_of_pos ed (show (0 : Int) < s.length by omega); omega
          have FA := Lib.hid (show rdAll ns l ⟨s, 0, 0⟩ = (true, ⟨s, s.length, 0⟩) by rw [← hs]; exact fields_all ns l HN.out HG.out)
          obtain ⟨⟨r, jc⟩, hjc⟩ : ∃ x, rdAll ns l ⟨s.take c, 0, 0⟩ = x := ⟨_, rfl⟩
          have hje : jc.err = 1 := by
            have := fields_cut ns l HN.out HG.out c (by rw [hs]; exact hcl)
            rw [hs, hjc] at this
            exact this
          have FC := Lib.hid hjc
          have CA := Lib.hid (show (⟨s, s.length, 0⟩ : InS).close = ⟨s, s.length, 0⟩ by unfold InS.close; rw [if_neg (by simp only [InS.left]; omega)])
          have CC := Lib.hid (show jc.close.err = 1 by
            unfold InS.close
            split
            · unfold InS.fail; rw [if_neg (by rw [hje]; decide)]; exact hje
            · exact hje)
          have HCT := Lib.hid (show (s.take c).length ≤ 140737488355328 by rw [List.length_take]; omega)
          have hc0 : (0 : Int) ≤ (c : Int) := by omega
          have hc1 : (c : Int) ≤ (s.length : Int) := by omega
          have wc : IntKind.i64.wrap (c : Int) = (c : Int) := IntWalk.i64_in _ (by omega)
          have we : IntKind.i64.wrap ed = ed := IntWalk.i64_in _ (by omega)
          have tm : ed.tmod (s.length : Int) = (c : Int) := by rw [Int.tmod_eq_emod_of_nonneg ed0]; exact hc
          have hsz : ((s.length : Int) == 0) = false := by rw [beq_eq_false_iff_ne]; omega
          have hsn : ¬ s = [] := by intro h0; rw [h0] at hs1; simp at hs1
          clear hs hss hsl hjc hje hl1 hl2 hl3
          go_wp2_with (go_at_call 35; refine (so_text po _ H.out).mono ?_; rw [ET.out]; rintro e wn ⟨rfl, h⟩; replace H := Lib.hid h; clear h)
          have hs := H.out.drew
          refine wp_region_held_drew (S := fun _ => True) (by kernel_rfl) trivial (fun hHeld => ?_)
          refine wpAnyH_take (i := 0) (oi := { dst := some 73, op := Op.move (Operand.tmp 12), type := 9, pos := "top02.go:45", after := #[], guard := none }) (v := ?_) rfl (by kernel_rfl) (by kernel_rfl) (by kernel_rfl) (fun _ _ _ h => h) (Or.inl ⟨by rfl, ?_⟩) (by assumption) ?_
          rotate_left
          · intro w hSw; (try dsimp only at hSw); go_simp; try with_reducible rfl
          simp only [Act.put, List.setIfInBounds_toArray, List.set_cons_zero, List.set_cons_succ]
          refine wpAnyH_take (i := 2) (oi := { dst := some 75, op := Op.move (Operand.tmp 12), type := 9, pos := "top02.go:45", after := #[], guard := none }) (v := ?_) rfl (by kernel_rfl) (by kernel_rfl) (by kernel_rfl) (fun _ _ _ h => h) (Or.inl ⟨by rfl, ?_⟩) (by assumption) ?_
          rotate_left
          · intro w hSw; (try dsimp only at hSw); go_simp; try with_reducible rfl
          simp only [Act.put, List.setIfInBounds_toArray, List.set_cons_zero, List.set_cons_succ]
          refine wpAnyH_take (i := 3) (oi := { dst := some 76, op := Op.move (Operand.tmp 2), type := 89, pos := "top02.go:45", after := #[], guard := none }) (v := ?_) rfl (by kernel_rfl) (by kernel_rfl) (by kernel_rfl) (fun _ _ _ h => h) (Or.inl ⟨by rfl, ?_⟩) (by assumption) ?_
          rotate_left
          · intro w hSw; (try dsimp only at hSw); go_simp; try with_reducible rfl
          simp only [Act.put, List.setIfInBounds_toArray, List.set_cons_zero, List.set_cons_succ]
          refine wpAnyH_take (i := 4) (oi := { dst := some 77, op := Op.convert 89 3 (Operand.tmp 76), type := 3, pos := "top02.go:45", after := #[{ on := 3, ground := Ground.data }], guard := none }) (v := ?_) rfl (by kernel_rfl) (by kernel_rfl) (by kernel_rfl) (fun _ _ _ h => h) (Or.inl ⟨by rfl, ?_⟩) (by assumption) ?_
          rotate_left
          · intro w hSw; (try dsimp only at hSw); go_simp; try with_reducible rfl
          simp only [Act.put, List.setIfInBounds_toArray, List.set_cons_zero, List.set_cons_succ]
          refine wpAnyH_take (i := 5) (oi := { dst := some 78, op := Op.move (Operand.tmp 12), type := 9, pos := "top02.go:45", after := #[], guard := none }) (v := ?_) rfl (by kernel_rfl) (by kernel_rfl) (by kernel_rfl) (fun _ _ _ h => h) (Or.inl ⟨by rfl, ?_⟩) (by assumption) ?_
          rotate_left
          · intro w hSw; (try dsimp only at hSw); go_simp; try with_reducible rfl
          simp only [Act.put, List.setIfInBounds_toArray, List.set_cons_zero, List.set_cons_succ]
          refine wpAnyH_take (i := 6) (oi := { dst := some 79, op := Op.call { callee := Callee.builtin Builtin.len, args := #[Operand.tmp 78], argTypes := #[9] }, type := 3, pos := "top02.go:45", after := #[{ on := 5, ground := Ground.data }], guard := none }) (v := ?_) rfl (by kernel_rfl) (by kernel_rfl) (by kernel_rfl) (fun _ _ _ h => h) (Or.inl ⟨by rfl, ?_⟩) (by assumption) ?_
          rotate_left
          · intro w hSw; (try dsimp only at hSw); go_simp; try with_reducible rfl
          simp only [Act.put, List.setIfInBounds_toArray, List.set_cons_zero, List.set_cons_succ]
          refine wpAnyH_take (i := 7) (oi := { dst := some 80, op := Op.binOp BinOp.rem 3 (Operand.tmp 77) (Operand.tmp 79) 3, type := 3, pos := "top02.go:45", after := #[{ on := 4, ground := Ground.data }, { on := 6, ground := Ground.data }], guard := none }) (v := ?_) rfl (by kernel_rfl) (by kernel_rfl) (by kernel_rfl) (fun _ _ _ h => h) (Or.inl ⟨by rfl, ?_⟩) (by assumption) ?_
          rotate_left
          · intro w hSw; (try dsimp only at hSw); go_simp; try with_reducible rfl
          simp only [Act.put, List.setIfInBounds_toArray, List.set_cons_zero, List.set_cons_succ]
          refine wpAnyH_take (i := 8) (oi := { dst := some 81, op := Op.slice 9 (Operand.tmp 75) none (some (Operand.tmp 80)) none, type := 9, pos := "top02.go:45", after := #[{ on := 2, ground := Ground.data }, { on := 7, ground := Ground.data }], guard := none }) (v := ?_) rfl (by kernel_rfl) (by kernel_rfl) (by kernel_rfl) (fun _ _ _ h => h) (Or.inl ⟨by rfl, ?_⟩) (by assumption) ?_
          rotate_left
          · intro w hSw; (try dsimp only at hSw); go_simp; try with_reducible rfl
          simp only [Act.put, List.setIfInBounds_toArray, List.set_cons_zero, List.set_cons_succ]
          refine wpAnyH_ready (rs := [1]) (by kernel_rfl) (by simp) (AllReadyH.cons (o := { dst := some 74, op := Op.call { callee := Callee.value (Operand.func 15), args := #[Operand.tmp 73], argTypes := #[9] }, type := 24, pos := "top02.go:45", after := #[{ on := 0, ground := Ground.data }], guard := none }) rfl (fun KK hK => ?_) AllReadyH.nil)
          · go_simp
            go_at_call 15
            with_reducible refine (s_new s HSL.out hs).mono ?_
            rintro e wq ⟨b1, rfl, hs⟩
            refine hK.out _ _ (trivial) (fun hHeld => ?_)
            clear hK KK
            try simp only [Act.put, List.setIfInBounds_toArray, List.set_cons_zero, List.set_cons_succ]
            refine wpAnyH_ready (rs := [9]) (by kernel_rfl) (by simp) (AllReadyH.cons (o := { dst := some 82, op := Op.call { callee := Callee.value (Operand.func 15), args := #[Operand.tmp 81], argTypes := #[9] }, type := 24, pos := "top02.go:45", after := #[{ on := 8, ground := Ground.data }, { on := 1, ground := Ground.chain }], guard := none }) rfl (fun KK hK => ?_) AllReadyH.nil)
            · go_simp
              go_at_call 15
              with_reducible refine (s_new (s.take c) HCT.out hs).mono ?_
              rintro e wq ⟨b2, rfl, hs⟩
              refine hK.out _ _ (trivial) (fun hHeld => ?_)
              clear hK KK
              try simp only [Act.put, List.setIfInBounds_toArray, List.set_cons_zero, List.set_cons_succ]
              refine wpAnyH_take (i := 10) (oi := { dst := some 15, op := Op.assign (Operand.tmp 74), type := 24, pos := "top02.go:45", after := #[{ on := 1, ground := Ground.data }, { on := 9, ground := Ground.chain }, { on := 0, ground := Ground.phase }, { on := 1, ground := Ground.phase }, { on := 2, ground := Ground.textOnly Departure.lateStores }, { on := 3, ground := Ground.textOnly Departure.lateStores }, { on := 4, ground := Ground.textOnly Departure.lateStores }, { on := 5, ground := Ground.textOnly Departure.lateStores }, { on := 6, ground := Ground.textOnly Departure.lateStoresUnsure }, { on := 7, ground := Ground.textOnly Departure.lateStores }, { on := 8, ground := Ground.textOnly Departure.lateStoresUnsure }, { on := 9, ground := Ground.textOnly Departure.lateStoresUnsure }], guard := none }) (v := ?_) rfl (by kernel_rfl) (by kernel_rfl) (by kernel_rfl) (fun _ _ _ h => h) (Or.inl ⟨by rfl, ?_⟩) (by assumption) ?_
              rotate_left
              · intro w hSw; (try dsimp only at hSw); go_simp; try with_reducible rfl
              simp only [Act.put, List.setIfInBounds_toArray, List.set_cons_zero, List.set_cons_succ]
              refine wpAnyH_take (i := 11) (oi := { dst := some 16, op := Op.assign (Operand.tmp 82), type := 24, pos := "top02.go:45", after := #[{ on := 9, ground := Ground.data }, { on := 10, ground := Ground.chain }, { on := 0, ground := Ground.phase }, { on := 1, ground := Ground.phase }, { on := 2, ground := Ground.phase }, { on := 3, ground := Ground.phase }, { on := 4, ground := Ground.phase }, { on := 5, ground := Ground.phase }, { on := 6, ground := Ground.phase }, { on := 7, ground := Ground.phase }, { on := 8, ground := Ground.phase }, { on := 9, ground := Ground.phase }, { on := 10, ground := Ground.phase }], guard := none }) (v := ?_) rfl (by kernel_rfl) (by kernel_rfl) (by kernel_rfl) (fun _ _ _ h => h) (Or.inl ⟨by rfl, ?_⟩) (by assumption) ?_
              rotate_left
              · intro w hSw; (try dsimp only at hSw); go_simp; try with_reducible rfl
              simp only [Act.put, List.setIfInBounds_toArray, List.set_cons_zero, List.set_cons_succ]
              refine wpAnyH_done (by kernel_rfl) ?_ _
              have H := Lib.hid hs
              clear hs hHeld
              have k1 : True := trivial
              go_wp2_with (first
                | (go_at_call 65; have _t := k1; clear _t; refine (fld_read b1 bN bL _ ns l qn ql capn capl hm1 hm2 HKN.out HKL.out (H.out.sel [1, 2, 2, 0, 0])).mono ?_; rw [FA.out]; rintro e wn ⟨rfl, h⟩; replace H := Lib.hid h; clear h; clear k1; have k2 : True := trivial)
                | (go_at_call 65; have _t := k2; clear _t; refine (fld_read b2 bN bL _ ns l qn ql capn capl hm1 hm2 HKN.out HKL.out (H.out.sel [3, 1, 1, 0, 0])).mono ?_; rw [FC.out]; rintro e wn ⟨rfl, h⟩; replace H := Lib.hid h; clear h; clear k2; have k3 : True := trivial)
                | (go_at_call 24; have _t := k3; clear _t; refine (s_close b1 _ (H.out.sel [3, 0, 0, 0, 0])).mono ?_; rw [CA.out]; rintro e wn ⟨rfl, h⟩; replace H := Lib.hid h; clear h; clear k3; have k4 : True := trivial)
                | (go_at_call 24; have _t := k4; clear _t; refine (s_close b2 _ (H.out.sel [1, 0, 0, 0, 0])).mono ?_; rw [CC.out]; rintro e wn ⟨rfl, h⟩; replace H := Lib.hid h; clear h))
              go_ret
              exact ⟨rfl, H.out.below⟩

end Go.Proofs.Ytbcfnfcmghbelaa
