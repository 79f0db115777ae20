/- Whether two rows of topics are one. -/
import Derived.Test.YtombolmicfjjpaaGValueTopics4
import Derived.Deep.RegionHeld3
import Derived.Deep.DeepCutAuto
import Derived.RegionTactic
import Derived.Test.YtombolmicfjjpaaRef06
import Derived.BigQuiet
/- Topics, read by definition. -/
namespace Go.Proofs.Ytombolmicfjjpaa
open Go.RowKit

set_option maxHeartbeats 1000000 in
set_option maxRecDepth 100000 in
theorem ref14_readTopics_bad (s : Bs) (hs : s.length ≤ 1000000) (n : Nat) (E : Int) (hc : cntR 6 s = (n, E)) (h0 : E ≠ 0) (lf : List TopS) (mf : Nat) (ef : Int) (hr : topsR s = (lf, mf, ef)) {W0 w : World} {K : Know} {L : List Res} (h : St W0 w K L) :
    Calls Try.prog 26 #[.string (bb s)] w fun en w' => ∃ (v : Value) (lr : List (TopS × Value)), en = .returned (.tuple #[v, .int .i64 mf, .int .i64 ef]) ∧ lr.map (·.1) = lf ∧ St W0 w' (K.and (Know.tops v lr)) L := by
  rw [topsR_bad hc h0] at hr
  cases hr
  have H := Lib.hid h
  have HSL := Lib.hid hs
  have HC := Lib.hid hc
  have g1 : (E == 0) = false := by rw [beq_eq_false_iff_ne]; exact h0
  have g2 : (E != 0) = true := by simp [bne, g1]
  clear h hs hc h0
  go_enter Try.func26, Try.ntmps26
  go_wp2_with (go_at_call 80; (with_reducible refine (ref14_count s 6 6 rfl (by decide) (by decide) HSL.out n _ HC.out H.out).mono ?_); rintro e_ wn ⟨rfl, h⟩; replace H := Lib.hid h; clear h)
  go_ret3
  exact ⟨_, [], rfl, rfl, H.out.know (tops_nil K)⟩

set_option maxHeartbeats 4000000 in
set_option maxRecDepth 100000 in
theorem ref14_readTopics_go (s : Bs) (hs : s.length ≤ 1000000) (n : Nat) (hc : cntR 6 s = (n, 0)) (lf : List TopS) (mf : Nat) (ef : Int) (hr : topsR s = (lf, mf, ef)) {W0 w : World} {K : Know} {L : List Res} (h : St W0 w K L) :
    Calls Try.prog 26 #[.string (bb s)] w fun en w' => ∃ (v : Value) (lr : List (TopS × Value)), en = .returned (.tuple #[v, .int .i64 mf, .int .i64 ef]) ∧ lr.map (·.1) = lf ∧ St W0 w' (K.and (Know.tops v lr)) L := by
  obtain ⟨hgo, hle⟩ := topsR_go hc
  rw [hr] at hgo
  have H := Lib.hid h
  have HSL := Lib.hid hs
  have HC := Lib.hid hc
  have HNB := Lib.hid (show n ≤ 1000000 by omega)
  have HGO := Lib.hid hgo.symm
  have HP4 := Lib.hid (show 4 ≤ s.length by omega)
  have hni : (n : Int) ≤ 1000000 := by omega
  clear h hs hc hr hgo hle
  go_enter Try.func26, Try.ntmps26
  go_wp2_with (go_at_call 80; (with_reducible refine (ref14_count s 6 6 rfl (by decide) (by decide) HSL.out n _ HC.out H.out).mono ?_); rintro e_ wn ⟨rfl, h⟩; replace H := Lib.hid h; clear h)
  go_loopw [7, 8, 9, 10, 11, 12, 13, 14] (fun pv ov iv _ _ _ _ _ wr => ∃ (k p : Nat) (acc : List (TopS × Value)) (K2 : Know), k ≤ n ∧ iv = .int .i64 k ∧ pv = .int .i64 p ∧ Hid (acc.length = k) ∧ Hid (p ≤ s.length) ∧ Hid (stepR (acc.map (·.1)) p (topN (n - k) (s.drop p)) = (lf, mf, ef)) ∧ Hid (K2.has K) ∧ Hid (∀ x ∈ acc, K2.has (Know.flat RI x.2 1 x.1.parts)) ∧ St W0 wr K2 (.row ov 51 2 acc.length (acc.flatMap tcells) :: L)) (fun _ _ iv _ _ _ _ _ _ => n - (intOf iv).toNat)
  case atStart => exact ⟨0, 4, [], K, Nat.zero_le _, rfl, rfl, Lib.hid rfl, HP4, Lib.hid HGO.out, Lib.hid (Know.has_refl _), Lib.hid (fun x hx => by cases hx), H.out.rowLit [] 51 2 0 rfl (by decide)⟩
  case round =>
    obtain ⟨k, p, acc, K2, hk, rfl, rfl, HAL, HPL, HP, HKK, HALL, hst⟩ := hrel
    clear H
    have H := Lib.hid hst
    clear hst
    by_cases hlt : k < n
    · have hkn : (k : Int) < (n : Int) := by omega
      have hP1 := HP.out
      rw [show n - k = (n - (k + 1)) + 1 by omega] at hP1
      have hsl : (s.length : Int) ≤ 1000000 := by have := HSL.out; omega
      have hp0 : (p : Int) ≤ (s.length : Int) := by have := HPL.out; omega
      have HTE := Lib.hid (takeEnd s p)
      have HX := Lib.hid (show (s.drop p).length ≤ 140737488355328 by rw [List.length_drop]; have := HSL.out; omega)
      cases hv : refixed 2 (s.drop p) with
      | error er =>
        have h0 := refixed_err hv
        rw [stepR_err hv] at hP1
        cases hP1
        have HV := Lib.hid hv
        have g1 : (ef == 0) = false := by rw [beq_eq_false_iff_ne]; exact h0
        have g2 : (ef != 0) = true := by simp [bne, g1]
        clear hv h0
        as_aux_lemma =>
        go_wp2_with (go_at_call 81; (with_reducible refine (ref04_fixErr _ (s.drop p) ef HTE.out HX.out HV.out H.out).mono ?_); rintro e_ wn ⟨rfl, h⟩; obtain ⟨gb, hgb⟩ : ∃ b, wn.heap.size = b := ⟨_, rfl⟩; have h := h.allocRaw #[.bool false, .string ⟨#[]⟩, .int .i64 0, .int .i64 ef] 128; rw [hgb] at h; have x0 := h.rawCell 0; have x1 := h.rawCell 1; have x2 := h.rawCell 2; have x3 := h.rawCell 3; simp at x0 x1 x2 x3; replace H := Lib.hid h; clear h)
        have hs := H.out.drew
        go_region
        go_wp2
        go_ret3
        exact ⟨_, [], rfl, rfl, hs.drop.drop.know (Know.has_trans HKK.out (tops_nil K))⟩
      | ok x =>
        obtain ⟨⟨nl, d⟩, kk⟩ := x
        have HV := Lib.hid hv
        cases nl with
        | true =>
          rw [stepR_null hv rfl] at hP1
          cases hP1
          clear hv
          as_aux_lemma =>
          go_wp2_with (go_at_call 81; (with_reducible refine (ref04_fixOk _ (s.drop p) true d kk HTE.out HX.out HV.out H.out).mono ?_); rintro e_ wn ⟨rfl, h⟩; obtain ⟨gb, hgb⟩ : ∃ b, wn.heap.size = b := ⟨_, rfl⟩; have h := h.allocRaw #[.bool true, .string (bb d), .int .i64 kk, .int .i64 0] 128; rw [hgb] at h; have x0 := h.rawCell 0; have x1 := h.rawCell 1; have x2 := h.rawCell 2; have x3 := h.rawCell 3; simp at x0 x1 x2 x3; replace H := Lib.hid h; clear h)
          go_ret3
          exact ⟨_, [], rfl, rfl, H.out.drop.drop.know (Know.has_trans HKK.out (tops_nil K))⟩
        | false =>
          obtain ⟨hk2, hkl⟩ := refixed_le hv
          rw [List.length_drop] at hkl
          have hp1 : ((p : Int) + (kk : Int)) ≤ (s.length : Int) := by have := HPL.out; omega
          have hp1n : p + kk ≤ s.length := by have := HPL.out; omega
          have HTE2 := Lib.hid (takeEnd s (p + kk))
          have HX2 := Lib.hid (show (s.drop (p + kk)).length ≤ 1000000 by rw [List.length_drop]; have := HSL.out; omega)
          obtain ⟨⟨m, f⟩, hc2⟩ : ∃ r, cntR 4 (s.drop (p + kk)) = r := ⟨_, rfl⟩
          have HC2 := Lib.hid hc2
          by_cases h0 : f = 0
          rotate_left
          · rw [stepR_cnt hv rfl hc2 h0] at hP1
            cases hP1
            have g1 : (ef == 0) = false := by rw [beq_eq_false_iff_ne]; exact h0
            have g2 : (ef != 0) = true := by simp [bne, g1]
            clear hv hc2 h0 hk2 hkl
            as_aux_lemma =>
            go_wp2_with (first
    | (go_at_call 81; (with_reducible refine (ref04_fixOk _ (s.drop p) false d kk HTE.out HX.out HV.out H.out).mono ?_); rintro e_ wn ⟨rfl, h⟩; obtain ⟨gb, hgb⟩ : ∃ b, wn.heap.size = b := ⟨_, rfl⟩; have h := h.allocRaw #[.bool false, .string (bb d), .int .i64 kk, .int .i64 0] 128; rw [hgb] at h; have x0 := h.rawCell 0; have x1 := h.rawCell 1; have x2 := h.rawCell 2; have x3 := h.rawCell 3; simp at x0 x1 x2 x3; replace H := Lib.hid h; clear h)
    | (go_at_call 80; (with_reducible refine (ref14_countT _ (s.drop (p + kk)) HTE2.out 4 4 rfl (by decide) (by decide) HX2.out m ef HC2.out H.out).mono ?_); rintro e_ wn ⟨rfl, h⟩; have x0 := h.rawCell 0; have x1 := h.rawCell 1; have x2 := h.rawCell 2; have x3 := h.rawCell 3; simp at x0 x1 x2 x3; replace H := Lib.hid h; clear h))
            go_ret3
            exact ⟨_, [], rfl, rfl, H.out.drop.drop.know (Know.has_trans HKK.out (tops_nil K))⟩
          subst h0
          rw [stepR_next hv rfl hc2] at hP1
          obtain ⟨_, hml⟩ := cntR_zero (by decide) hc2
          rw [List.length_drop] at hml
          obtain ⟨p2, hp2⟩ : ∃ p2, p + kk + 4 = p2 := ⟨_, rfl⟩
          rw [hp2] at hP1
          have HP2 := Lib.hid hP1
          have HML := Lib.hid (show p2 + 4 * m ≤ s.length by omega)
          have hmi : (m : Int) ≤ 1000000 := by have := HSL.out; omega
          have HP2E := Lib.hid hp2
          have hpi : (p : Int) + (kk : Int) + 4 = (p2 : Int) := by omega
          clear hv hc2 hP1 hk2 hkl hml hp2
          as_aux_lemma =>
          go_wp2_with (first
    | (go_at_call 81; (with_reducible refine (ref04_fixOk _ (s.drop p) false d kk HTE.out HX.out HV.out H.out).mono ?_); rintro e_ wn ⟨rfl, h⟩; obtain ⟨gb, hgb⟩ : ∃ b, wn.heap.size = b := ⟨_, rfl⟩; have h := h.allocRaw #[.bool false, .string (bb d), .int .i64 kk, .int .i64 0] 128; rw [hgb] at h; have x0 := h.rawCell 0; have x1 := h.rawCell 1; have x2 := h.rawCell 2; have x3 := h.rawCell 3; simp at x0 x1 x2 x3; replace H := Lib.hid h; clear h)
    | (go_at_call 80; (with_reducible refine (ref14_countT _ (s.drop (p + kk)) HTE2.out 4 4 rfl (by decide) (by decide) HX2.out m 0 HC2.out H.out).mono ?_); rintro e_ wn ⟨rfl, h⟩; have x0 := h.rawCell 0; have x1 := h.rawCell 1; have x2 := h.rawCell 2; have x3 := h.rawCell 3; simp at x0 x1 x2 x3; obtain ⟨tb, htb⟩ : ∃ b, wn.heap.size = b := ⟨_, rfl⟩; have h := h.allocRaw #[.string (bb d), .slice none 0 0] 51; rw [htb] at h; replace H := Lib.hid h; clear h))
          go_loopw [7, 14] (fun pv iv wr => ∃ (k2 q : Nat) (rv : Value) (ps : List Int), k2 ≤ m ∧ iv = .int .i64 k2 ∧ pv = .int .i64 q ∧ Hid (q = p2 + 4 * k2) ∧ Hid (ps.length = k2) ∧ Hid (ps = intsB k2 (s.drop p2)) ∧ St W0 wr K2 (.raw tb #[.string (bb d), rv] 51 :: .row rv 3 1 ps.length (ps.flatMap fun x => [.int .i64 x]) :: .row u8 51 2 acc.length (acc.flatMap tcells) :: L)) (fun _ iv _ => m - (intOf iv).toNat)
          case atStart => exact ⟨0, p2, _, [], Nat.zero_le _, rfl, by first | rfl | (rw [hpi]) | (simp only [hpi]), Lib.hid rfl, Lib.hid rfl, Lib.hid rfl, ((H.out.p1.drop).nilRow 3 1).p1⟩
          case round =>
            obtain ⟨k2, q, rv, ps, hk2, rfl, rfl, HQ, HPN, HPS, hst⟩ := hrel
            obtain ⟨qr, cr, hrv⟩ := hst.p1.rowAny
            subst hrv
            clear H
            have H := Lib.hid hst
            clear hst
            by_cases hlt2 : k2 < m
            · have hkm : (k2 : Int) < (m : Int) := by omega
              have hq4 : (q : Int) + 4 ≤ (s.length : Int) := by have := HQ.out; have := HML.out; omega
              obtain ⟨a, ha⟩ : ∃ a, sInt ((s.drop q).take 4) = a := ⟨_, rfl⟩
              have HPS2 := Lib.hid (show ps ++ [a] = intsB (k2 + 1) (s.drop p2) by rw [intsB_snoc, ← HPS.out, List.drop_drop, ← HQ.out, ha])
              have HAE := Lib.hid ha
              have HT8 := Lib.hid (show ((s.drop q).take 4).length ≤ 8 by rw [List.length_take]; omega)
              obtain ⟨q4, hq4e⟩ : ∃ q4, q + 4 = q4 := ⟨_, rfl⟩
              have HT4 := Lib.hid (show List.take (q4 - q) (s.drop q) = (s.drop q).take 4 by rw [← hq4e, Nat.add_sub_cancel_left])
              have hw4 : IntKind.i64.wrap ((q : Int) + 4) = (q4 : Int) := by rw [IntKind.wrap_i64]; omega
              have hw5 : IntKind.i64.wrap (q4 : Int) = (q4 : Int) := by rw [IntKind.wrap_i64]; omega
              have hqa : (q4 : Int) ≤ (s.length : Int) := by omega
              have hqb : q ≤ q4 := by omega
              have hqc : (q : Int) ≤ (q4 : Int) := by omega
              have hq4i : (q : Int) + 4 = (q4 : Int) := by omega
              clear hq4e
              have HPB := Lib.hid (show ps.length ≤ 1000000 by have := HPN.out; omega)
              clear ha
              go_wp2_with fail
              have hs := H.out.drew
              refine wp_region_held_drew (S := fun _ => True) (by kernel_rfl) trivial (fun hHeld => ?_)
              refine wpAnyH_take (i := 0) (oi := { dst := some 66, op := Op.fieldAddr 51 (Operand.tmp 13) 1, type := 0, pos := "ref.go:113", after := #[], guard := none }) (v := ?_) rfl (by kernel_rfl) (by kernel_rfl) (by kernel_rfl) (fun _ _ _ h => h) (Or.inl ⟨by rfl, ?_⟩) (by assumption) ?_
              rotate_left
              · intro w hSw; (try dsimp only at hSw); go_simp; try with_reducible rfl
              simp only [Act.put, List.setIfInBounds_toArray, List.set_cons_zero, List.set_cons_succ]
              refine wpAnyH_take (i := 2) (oi := { dst := some 68, op := Op.move (Operand.tmp 0), type := 9, pos := "ref.go:113", after := #[], guard := none }) (v := ?_) rfl (by kernel_rfl) (by kernel_rfl) (by kernel_rfl) (fun _ _ _ h => h) (Or.inl ⟨by rfl, ?_⟩) (by assumption) ?_
              rotate_left
              · intro w hSw; (try dsimp only at hSw); go_simp; try with_reducible rfl
              simp only [Act.put, List.setIfInBounds_toArray, List.set_cons_zero, List.set_cons_succ]
              refine wpAnyH_take (i := 3) (oi := { dst := some 69, op := Op.move (Operand.tmp 7), type := 3, pos := "ref.go:113", after := #[], guard := none }) (v := ?_) rfl (by kernel_rfl) (by kernel_rfl) (by kernel_rfl) (fun _ _ _ h => h) (Or.inl ⟨by rfl, ?_⟩) (by assumption) ?_
              rotate_left
              · intro w hSw; (try dsimp only at hSw); go_simp; try with_reducible rfl
              simp only [Act.put, List.setIfInBounds_toArray, List.set_cons_zero, List.set_cons_succ]
              refine wpAnyH_take (i := 4) (oi := { dst := some 70, op := Op.move (Operand.tmp 7), type := 3, pos := "ref.go:113", after := #[], guard := none }) (v := ?_) rfl (by kernel_rfl) (by kernel_rfl) (by kernel_rfl) (fun _ _ _ h => h) (Or.inl ⟨by rfl, ?_⟩) (by assumption) ?_
              rotate_left
              · intro w hSw; (try dsimp only at hSw); go_simp; try with_reducible rfl
              simp only [Act.put, List.setIfInBounds_toArray, List.set_cons_zero, List.set_cons_succ]
              refine wpAnyH_take (i := 5) (oi := { dst := some 71, op := Op.binOp BinOp.add 3 (Operand.tmp 70) (Operand.const (Value.int IntKind.i64 4)) 3, type := 3, pos := "ref.go:113", after := #[{ on := 4, ground := Ground.data }], guard := none }) (v := ?_) rfl (by kernel_rfl) (by kernel_rfl) (by kernel_rfl) (fun _ _ _ h => h) (Or.inl ⟨by rfl, ?_⟩) (by assumption) ?_
              rotate_left
              · intro w hSw; (try dsimp only at hSw); go_simp; try with_reducible rfl
              simp only [Act.put, List.setIfInBounds_toArray, List.set_cons_zero, List.set_cons_succ]
              refine wpAnyH_take (i := 6) (oi := { dst := some 72, op := Op.slice 9 (Operand.tmp 68) (some (Operand.tmp 69)) (some (Operand.tmp 71)) none, type := 9, pos := "ref.go:113", after := #[{ on := 2, ground := Ground.data }, { on := 3, ground := Ground.data }, { on := 5, ground := Ground.data }], guard := none }) (v := ?_) rfl (by kernel_rfl) (by kernel_rfl) (by kernel_rfl) (fun _ _ _ h => h) (Or.inl ⟨by rfl, ?_⟩) (by assumption) ?_
              rotate_left
              · intro w hSw; (try dsimp only at hSw); go_simp; try with_reducible rfl
              simp only [Act.put, List.setIfInBounds_toArray, List.set_cons_zero, List.set_cons_succ]
              refine wpAnyH_ready (rs := [1, 7]) (by kernel_rfl) (by simp) (AllReadyH.cons (o := { dst := some 67, op := Op.load 49 (Operand.tmp 66), type := 49, pos := "ref.go:113", after := #[{ on := 0, ground := Ground.data }], guard := none }) rfl (fun KK hK => ?_) (AllReadyH.cons (o := { dst := some 73, op := Op.call { callee := Callee.value (Operand.func 76), args := #[Operand.tmp 72], argTypes := #[9] }, type := 3, pos := "ref.go:113", after := #[{ on := 6, ground := Ground.data }], guard := none }) rfl (fun KK hK => ?_) AllReadyH.nil))
              · have c1 := hs.rawCell 1
                simp at c1
                go_simp
                refine hK.out _ _ (trivial) (fun hHeld => ?_)
                clear hK KK
                try simp only [Act.put, List.setIfInBounds_toArray, List.set_cons_zero, List.set_cons_succ]
                clear c1
                refine wpAnyH_ready (rs := [7]) (by kernel_rfl) (by simp) (AllReadyH.cons (o := { dst := some 73, op := Op.call { callee := Callee.value (Operand.func 76), args := #[Operand.tmp 72], argTypes := #[9] }, type := 3, pos := "ref.go:113", after := #[{ on := 6, ground := Ground.data }], guard := none }) rfl (fun KK hK => ?_) AllReadyH.nil)
                · go_simp
                  go_at_call 76
                  with_reducible refine (sr_intT _ ((s.drop q).take 4) HT4.out a HAE.out HT8.out hs).mono ?_
                  rintro e wq ⟨rfl, hs⟩
                  refine hK.out _ _ (trivial) (fun hHeld => ?_)
                  clear hK KK
                  try simp only [Act.put, List.setIfInBounds_toArray, List.set_cons_zero, List.set_cons_succ]
                  refine wpAnyH_ready (rs := [8]) (by kernel_rfl) (by simp) (AllReadyH.cons (o := { dst := some 74, op := Op.buildSlice 49 1 #[(0, Operand.tmp 73)], type := 49, pos := "ref.go:113", after := #[{ on := 7, ground := Ground.data }], guard := none }) rfl (fun KK hK => ?_) AllReadyH.nil)
                  · rw [if_pos (by rfl)]
                    refine op_value (v := .slice (some ⟨wq.heap.size, 0, none⟩) 1 1) (w' := wq.alloc (.cells #[.int .i64 a] 3 (0, 0))) (by go_simp) ?_
                    obtain ⟨wy, bS, ey, eb, hs⟩ := hs.allocEx #[.int .i64 a] 3
                    rw [ey, eb]
                    clear ey eb
                    refine hK.out _ _ (trivial) (fun hHeld => ?_)
                    clear hK KK
                    try simp only [Act.put, List.setIfInBounds_toArray, List.set_cons_zero, List.set_cons_succ]
                    refine wpAnyH_ready (rs := [9]) (by kernel_rfl) (by simp) (AllReadyH.cons (o := { dst := some 75, op := Op.call { callee := Callee.builtin Builtin.append, args := #[Operand.tmp 67, Operand.tmp 74], argTypes := #[49, 49] }, type := 49, pos := "ref.go:113", after := #[{ on := 1, ground := Ground.data }, { on := 8, ground := Ground.data }, { on := 7, ground := Ground.chain }], guard := none }) rfl (fun KK hK => ?_) AllReadyH.nil)
                    · rw [if_pos (by rfl)]
                      refine op_app1 (.tmp 67) (.tmp 74) 49 rfl 3 Try.underlying49 elem_int (.slice qr ps.length cr) ps.length _ (by rfl) bS #[.int .i64 a] 3 hs.p2.p1 (by rfl) rfl (by simp [Value.oneCell']) (by have := HPB.out; unfold maxLen; omega) (by have := HPB.out; omega) (fun v' w' h => ?_)
                      obtain ⟨qv, cv, hqv⟩ := h.rowAny
                      subst hqv
                      have hs := h.p1
                      clear h
                      refine hK.out _ _ (trivial) (fun hHeld => ?_)
                      clear hK KK
                      try simp only [Act.put, List.setIfInBounds_toArray, List.set_cons_zero, List.set_cons_succ]
                      refine wpAnyH_take (i := 10) (oi := { dst := some 76, op := Op.fieldAddr 51 (Operand.tmp 13) 1, type := 0, pos := "ref.go:113", after := #[{ on := 0, ground := Ground.phase }, { on := 1, ground := Ground.phase }, { on := 2, ground := Ground.phase }, { on := 3, ground := Ground.phase }, { on := 4, ground := Ground.phase }, { on := 5, ground := Ground.phase }, { on := 6, ground := Ground.phase }, { on := 7, ground := Ground.phase }, { on := 8, ground := Ground.phase }, { on := 9, ground := Ground.phase }], guard := none }) (v := ?_) rfl (by kernel_rfl) (by kernel_rfl) (by kernel_rfl) (fun _ _ _ h => h) (Or.inl ⟨by rfl, ?_⟩) (by assumption) ?_
                      rotate_left
                      · intro w hSw; (try dsimp only at hSw); go_simp; try with_reducible rfl
                      simp only [Act.put, List.setIfInBounds_toArray, List.set_cons_zero, List.set_cons_succ]
                      refine wpAnyH_ready (rs := [11]) (by kernel_rfl) (by simp) (AllReadyH.cons (o := { dst := none, op := Op.store 49 (Operand.tmp 76) (Operand.tmp 75), type := 0, pos := "ref.go:113", after := #[{ on := 10, ground := Ground.data }, { on := 9, ground := Ground.data }, { on := 9, ground := Ground.chain }, { on := 0, ground := Ground.phase }, { on := 1, ground := Ground.phase }, { on := 2, ground := Ground.phase }, { on := 3, ground := Ground.phase }, { on := 4, ground := Ground.phase }, { on := 5, ground := Ground.phase }, { on := 6, ground := Ground.phase }, { on := 7, ground := Ground.phase }, { on := 8, ground := Ground.phase }, { on := 9, ground := Ground.phase }], guard := none }) rfl (fun KK hK => ?_) AllReadyH.nil)
                      · have f1 := hs.rawFree 1
                        have c1 := hs.rawCell 1
                        simp at c1
                        rw [if_pos (by rfl)]
                        refine op_skip (w' := w'.setCell ⟨tb, 1, none⟩ (.slice qv (ps.length + 1) cv)) (by go_simp) ?_
                        obtain ⟨wz, ez, hs⟩ := hs.setEx 1 (.slice qv (ps.length + 1) cv)
                        rw [ez]
                        clear ez f1 c1
                        refine hK.out _ _ (trivial) (fun hHeld => ?_)
                        clear hK KK
                        try simp only [Act.put, List.setIfInBounds_toArray, List.set_cons_zero, List.set_cons_succ]
                        refine wpAnyH_done (by kernel_rfl) ?_ _
                        clear hHeld
                        go_wp2_with fail
                        go_roundw
                        case rel => exact ⟨k2 + 1, q4, _, ps ++ [a], hlt2, by go_num, by first | rfl | go_num, Lib.hid (by have := HQ.out; omega), Lib.hid (by rw [List.length_append, HPN.out]; rfl), HPS2, by rw [List.length_append, List.flatMap_append]; exact hs⟩
                        case measure => first | (simp [intOf]; done) | (simp [intOf]; omega)
              · go_simp
                go_at_call 76
                with_reducible refine (sr_intT _ ((s.drop q).take 4) HT4.out a HAE.out HT8.out hs).mono ?_
                rintro e wq ⟨rfl, hs⟩
                refine hK.out _ _ (trivial) (fun hHeld => ?_)
                clear hK KK
                try simp only [Act.put, List.setIfInBounds_toArray, List.set_cons_zero, List.set_cons_succ]
                refine wpAnyH_ready (rs := [1, 8]) (by kernel_rfl) (by simp) (AllReadyH.cons (o := { dst := some 67, op := Op.load 49 (Operand.tmp 66), type := 49, pos := "ref.go:113", after := #[{ on := 0, ground := Ground.data }], guard := none }) rfl (fun KK hK => ?_) (AllReadyH.cons (o := { dst := some 74, op := Op.buildSlice 49 1 #[(0, Operand.tmp 73)], type := 49, pos := "ref.go:113", after := #[{ on := 7, ground := Ground.data }], guard := none }) rfl (fun KK hK => ?_) AllReadyH.nil))
                · have c1 := hs.rawCell 1
                  simp at c1
                  go_simp
                  refine hK.out _ _ (trivial) (fun hHeld => ?_)
                  clear hK KK
                  try simp only [Act.put, List.setIfInBounds_toArray, List.set_cons_zero, List.set_cons_succ]
                  clear c1
                  refine wpAnyH_ready (rs := [8]) (by kernel_rfl) (by simp) (AllReadyH.cons (o := { dst := some 74, op := Op.buildSlice 49 1 #[(0, Operand.tmp 73)], type := 49, pos := "ref.go:113", after := #[{ on := 7, ground := Ground.data }], guard := none }) rfl (fun KK hK => ?_) AllReadyH.nil)
                  · rw [if_pos (by rfl)]
                    refine op_value (v := .slice (some ⟨wq.heap.size, 0, none⟩) 1 1) (w' := wq.alloc (.cells #[.int .i64 a] 3 (0, 0))) (by go_simp) ?_
                    obtain ⟨wy, bS, ey, eb, hs⟩ := hs.allocEx #[.int .i64 a] 3
                    rw [ey, eb]
                    clear ey eb
                    refine hK.out _ _ (trivial) (fun hHeld => ?_)
                    clear hK KK
                    try simp only [Act.put, List.setIfInBounds_toArray, List.set_cons_zero, List.set_cons_succ]
                    refine wpAnyH_ready (rs := [9]) (by kernel_rfl) (by simp) (AllReadyH.cons (o := { dst := some 75, op := Op.call { callee := Callee.builtin Builtin.append, args := #[Operand.tmp 67, Operand.tmp 74], argTypes := #[49, 49] }, type := 49, pos := "ref.go:113", after := #[{ on := 1, ground := Ground.data }, { on := 8, ground := Ground.data }, { on := 7, ground := Ground.chain }], guard := none }) rfl (fun KK hK => ?_) AllReadyH.nil)
                    · rw [if_pos (by rfl)]
                      refine op_app1 (.tmp 67) (.tmp 74) 49 rfl 3 Try.underlying49 elem_int (.slice qr ps.length cr) ps.length _ (by rfl) bS #[.int .i64 a] 3 hs.p2.p1 (by rfl) rfl (by simp [Value.oneCell']) (by have := HPB.out; unfold maxLen; omega) (by have := HPB.out; omega) (fun v' w' h => ?_)
                      obtain ⟨qv, cv, hqv⟩ := h.rowAny
                      subst hqv
                      have hs := h.p1
                      clear h
                      refine hK.out _ _ (trivial) (fun hHeld => ?_)
                      clear hK KK
                      try simp only [Act.put, List.setIfInBounds_toArray, List.set_cons_zero, List.set_cons_succ]
                      refine wpAnyH_take (i := 10) (oi := { dst := some 76, op := Op.fieldAddr 51 (Operand.tmp 13) 1, type := 0, pos := "ref.go:113", after := #[{ on := 0, ground := Ground.phase }, { on := 1, ground := Ground.phase }, { on := 2, ground := Ground.phase }, { on := 3, ground := Ground.phase }, { on := 4, ground := Ground.phase }, { on := 5, ground := Ground.phase }, { on := 6, ground := Ground.phase }, { on := 7, ground := Ground.phase }, { on := 8, ground := Ground.phase }, { on := 9, ground := Ground.phase }], guard := none }) (v := ?_) rfl (by kernel_rfl) (by kernel_rfl) (by kernel_rfl) (fun _ _ _ h => h) (Or.inl ⟨by rfl, ?_⟩) (by assumption) ?_
                      rotate_left
                      · intro w hSw; (try dsimp only at hSw); go_simp; try with_reducible rfl
                      simp only [Act.put, List.setIfInBounds_toArray, List.set_cons_zero, List.set_cons_succ]
                      refine wpAnyH_ready (rs := [11]) (by kernel_rfl) (by simp) (AllReadyH.cons (o := { dst := none, op := Op.store 49 (Operand.tmp 76) (Operand.tmp 75), type := 0, pos := "ref.go:113", after := #[{ on := 10, ground := Ground.data }, { on := 9, ground := Ground.data }, { on := 9, ground := Ground.chain }, { on := 0, ground := Ground.phase }, { on := 1, ground := Ground.phase }, { on := 2, ground := Ground.phase }, { on := 3, ground := Ground.phase }, { on := 4, ground := Ground.phase }, { on := 5, ground := Ground.phase }, { on := 6, ground := Ground.phase }, { on := 7, ground := Ground.phase }, { on := 8, ground := Ground.phase }, { on := 9, ground := Ground.phase }], guard := none }) rfl (fun KK hK => ?_) AllReadyH.nil)
                      · have f1 := hs.rawFree 1
                        have c1 := hs.rawCell 1
                        simp at c1
                        rw [if_pos (by rfl)]
                        refine op_skip (w' := w'.setCell ⟨tb, 1, none⟩ (.slice qv (ps.length + 1) cv)) (by go_simp) ?_
                        obtain ⟨wz, ez, hs⟩ := hs.setEx 1 (.slice qv (ps.length + 1) cv)
                        rw [ez]
                        clear ez f1 c1
                        refine hK.out _ _ (trivial) (fun hHeld => ?_)
                        clear hK KK
                        try simp only [Act.put, List.setIfInBounds_toArray, List.set_cons_zero, List.set_cons_succ]
                        refine wpAnyH_done (by kernel_rfl) ?_ _
                        clear hHeld
                        go_wp2_with fail
                        go_roundw
                        case rel => exact ⟨k2 + 1, q4, _, ps ++ [a], hlt2, by go_num, by first | rfl | go_num, Lib.hid (by have := HQ.out; omega), Lib.hid (by rw [List.length_append, HPN.out]; rfl), HPS2, by rw [List.length_append, List.flatMap_append]; exact hs⟩
                        case measure => first | (simp [intOf]; done) | (simp [intOf]; omega)
                · rw [if_pos (by rfl)]
                  refine op_value (v := .slice (some ⟨wq.heap.size, 0, none⟩) 1 1) (w' := wq.alloc (.cells #[.int .i64 a] 3 (0, 0))) (by go_simp) ?_
                  obtain ⟨wy, bS, ey, eb, hs⟩ := hs.allocEx #[.int .i64 a] 3
                  rw [ey, eb]
                  clear ey eb
                  refine hK.out _ _ (trivial) (fun hHeld => ?_)
                  clear hK KK
                  try simp only [Act.put, List.setIfInBounds_toArray, List.set_cons_zero, List.set_cons_succ]
                  refine wpAnyH_ready (rs := [1]) (by kernel_rfl) (by simp) (AllReadyH.cons (o := { dst := some 67, op := Op.load 49 (Operand.tmp 66), type := 49, pos := "ref.go:113", after := #[{ on := 0, ground := Ground.data }], guard := none }) rfl (fun KK hK => ?_) AllReadyH.nil)
                  · have c1 := hs.p1.rawCell 1
                    simp at c1
                    go_simp
                    refine hK.out _ _ (trivial) (fun hHeld => ?_)
                    clear hK KK
                    try simp only [Act.put, List.setIfInBounds_toArray, List.set_cons_zero, List.set_cons_succ]
                    clear c1
                    refine wpAnyH_ready (rs := [9]) (by kernel_rfl) (by simp) (AllReadyH.cons (o := { dst := some 75, op := Op.call { callee := Callee.builtin Builtin.append, args := #[Operand.tmp 67, Operand.tmp 74], argTypes := #[49, 49] }, type := 49, pos := "ref.go:113", after := #[{ on := 1, ground := Ground.data }, { on := 8, ground := Ground.data }, { on := 7, ground := Ground.chain }], guard := none }) rfl (fun KK hK => ?_) AllReadyH.nil)
                    · rw [if_pos (by rfl)]
                      refine op_app1 (.tmp 67) (.tmp 74) 49 rfl 3 Try.underlying49 elem_int (.slice qr ps.length cr) ps.length _ (by rfl) bS #[.int .i64 a] 3 hs.p2.p1 (by rfl) rfl (by simp [Value.oneCell']) (by have := HPB.out; unfold maxLen; omega) (by have := HPB.out; omega) (fun v' w' h => ?_)
                      obtain ⟨qv, cv, hqv⟩ := h.rowAny
                      subst hqv
                      have hs := h.p1
                      clear h
                      refine hK.out _ _ (trivial) (fun hHeld => ?_)
                      clear hK KK
                      try simp only [Act.put, List.setIfInBounds_toArray, List.set_cons_zero, List.set_cons_succ]
                      refine wpAnyH_take (i := 10) (oi := { dst := some 76, op := Op.fieldAddr 51 (Operand.tmp 13) 1, type := 0, pos := "ref.go:113", after := #[{ on := 0, ground := Ground.phase }, { on := 1, ground := Ground.phase }, { on := 2, ground := Ground.phase }, { on := 3, ground := Ground.phase }, { on := 4, ground := Ground.phase }, { on := 5, ground := Ground.phase }, { on := 6, ground := Ground.phase }, { on := 7, ground := Ground.phase }, { on := 8, ground := Ground.phase }, { on := 9, ground := Ground.phase }], guard := none }) (v := ?_) rfl (by kernel_rfl) (by kernel_rfl) (by kernel_rfl) (fun _ _ _ h => h) (Or.inl ⟨by rfl, ?_⟩) (by assumption) ?_
                      rotate_left
                      · intro w hSw; (try dsimp only at hSw); go_simp; try with_reducible rfl
                      simp only [Act.put, List.setIfInBounds_toArray, List.set_cons_zero, List.set_cons_succ]
                      refine wpAnyH_ready (rs := [11]) (by kernel_rfl) (by simp) (AllReadyH.cons (o := { dst := none, op := Op.store 49 (Operand.tmp 76) (Operand.tmp 75), type := 0, pos := "ref.go:113", after := #[{ on := 10, ground := Ground.data }, { on := 9, ground := Ground.data }, { on := 9, ground := Ground.chain }, { on := 0, ground := Ground.phase }, { on := 1, ground := Ground.phase }, { on := 2, ground := Ground.phase }, { on := 3, ground := Ground.phase }, { on := 4, ground := Ground.phase }, { on := 5, ground := Ground.phase }, { on := 6, ground := Ground.phase }, { on := 7, ground := Ground.phase }, { on := 8, ground := Ground.phase }, { on := 9, ground := Ground.phase }], guard := none }) rfl (fun KK hK => ?_) AllReadyH.nil)
                      · have f1 := hs.rawFree 1
                        have c1 := hs.rawCell 1
                        simp at c1
                        rw [if_pos (by rfl)]
                        refine op_skip (w' := w'.setCell ⟨tb, 1, none⟩ (.slice qv (ps.length + 1) cv)) (by go_simp) ?_
                        obtain ⟨wz, ez, hs⟩ := hs.setEx 1 (.slice qv (ps.length + 1) cv)
                        rw [ez]
                        clear ez f1 c1
                        refine hK.out _ _ (trivial) (fun hHeld => ?_)
                        clear hK KK
                        try simp only [Act.put, List.setIfInBounds_toArray, List.set_cons_zero, List.set_cons_succ]
                        refine wpAnyH_done (by kernel_rfl) ?_ _
                        clear hHeld
                        go_wp2_with fail
                        go_roundw
                        case rel => exact ⟨k2 + 1, q4, _, ps ++ [a], hlt2, by go_num, by first | rfl | go_num, Lib.hid (by have := HQ.out; omega), Lib.hid (by rw [List.length_append, HPN.out]; rfl), HPS2, by rw [List.length_append, List.flatMap_append]; exact hs⟩
                        case measure => first | (simp [intOf]; done) | (simp [intOf]; omega)
            · obtain rfl : k2 = m := by omega
              have y0 := H.out.rawCell 0
              have y1 := H.out.rawCell 1
              simp at y0 y1
              have HAB := Lib.hid (show acc.length ≤ 2147483647 by have := HAL.out; have := HNB.out; omega)
              have HN2 := Lib.hid ((H.out.p1.freezeRow (R := RI) (fun x _ => ⟨rfl, rfl⟩)).drop)
              clear H
              have H := HN2
              clear HN2
              go_wp2_with (at_builtin; refine wpl_app1_st rfl _ _ 22 rfl 51 Try.underlying22 elem_top _ _ _ rfl H.out [.string (bb d), .slice qr ps.length cr] 51 rfl rfl (by simp [Value.oneCell']) (by have := HAB.out; unfold maxLen; omega) (by have := HAB.out; omega) ?_; intro v' w' h; replace H := Lib.hid h; clear h)
              go_roundw
              case rel => exact ⟨k + 1, q, acc ++ [((⟨d, ps⟩ : TopS), .slice qr ps.length cr)], K2.and (Know.flat RI (.slice qr ps.length cr) 1 ps), hlt, by go_num, rfl, Lib.hid (by rw [List.length_append, HAL.out]; rfl), Lib.hid (by have := HQ.out; have := HML.out; omega), Lib.hid (by rw [List.map_append, HQ.out]; have h9 := HP2.out; rw [← HPS.out] at h9; exact h9), Lib.hid (Know.has_trans (Know.has_left (Know.has_refl _)) HKK.out), Lib.hid (fun x hx => by
                rcases List.mem_append.1 hx with hx | hx
                · exact Know.has_left (HALL.out x hx)
                · rw [List.mem_singleton.1 hx]; exact Know.has_right (Know.has_refl _)), by rw [List.length_append, List.flatMap_append]; exact H.out⟩
              case measure => first | (simp [intOf]; done) | (simp [intOf]; omega)
    · obtain rfl : k = n := by omega
      have hp := HP.out
      rw [Nat.sub_self, stepR_zero] at hp
      simp only [Prod.mk.injEq] at hp
      obtain ⟨rfl, rfl, rfl⟩ := hp
      go_wp2
      go_ret3
      have hf := H.out.freezeRow (R := RTop) (fun x _ => ⟨rfl, rfl⟩)
      have hf2 := hf.know (K' := K.and (Know.tops _ acc)) (fun w F hh => ⟨HKK.out _ _ hh.1, hh.2, fun y hy => HALL.out y hy _ _ hh.1⟩)
      first | exact ⟨_, acc, rfl, rfl, hf2⟩ | exact ⟨_, rfl, acc, rfl, hf2⟩
theorem ref14_readTopics (s : Bs) (hs : s.length ≤ 1000000) (lf : List TopS) (mf : Nat) (ef : Int) (hr : topsR s = (lf, mf, ef)) {W0 w : World} {K : Know} {L : List Res} (h : St W0 w K L) :
    Calls Try.prog 26 #[.string (bb s)] w fun en w' => ∃ (v : Value) (lr : List (TopS × Value)), en = .returned (.tuple #[v, .int .i64 mf, .int .i64 ef]) ∧ lr.map (·.1) = lf ∧ St W0 w' (K.and (Know.tops v lr)) L := by
  obtain ⟨⟨n, E⟩, hc⟩ : ∃ r, cntR 6 s = r := ⟨_, rfl⟩
  by_cases h0 : E = 0
  · subst h0
    exact ref14_readTopics_go s hs n hc lf mf ef hr h
  · exact ref14_readTopics_bad s hs n E hc h0 lf mf ef hr h

end Go.Proofs.Ytombolmicfjjpaa

/- Topics, written by definition. -/
namespace Go.Proofs.Ytombolmicfjjpaa
open Go.RowKit

theorem preT_le2 (l : List TopS) (h : FitTs l) (k : Nat) (hk : k ≤ l.length) : (preT l k).length ≤ 100000000000000 := by
  have h1 := preT_le l h k hk
  have h2 := h.1
  omega
set_option maxHeartbeats 2000000 in
set_option maxRecDepth 100000 in
theorem ref14_topics (l : List (TopS × Value)) (q : Option Addr) (cap : Nat) (r : Bs) (hr : encTs (l.map (·.1)) = r) (hf : FitTs (l.map (·.1))) {W0 w : World} {K : Know} {L : List Res} (hk : K.has (Know.tops (.slice q l.length cap) l)) (h : St W0 w K L) :
    Calls Try.prog 33 #[.slice q l.length cap] w fun en w' => en = .returned (.string (bb r)) ∧ St W0 w' K L := by
  have H := Lib.hid h
  have HK := Lib.hid hk
  have HR := Lib.hid hr
  have HF := Lib.hid hf
  have hni : (l.length : Int) ≤ 1000000 := by have := hf.1; rw [List.length_map] at this; omega
  have HRN := Lib.hid (show -9223372036854775808 ≤ (l.length : Int) ∧ (l.length : Int) < 9223372036854775808 by omega)
  have HP00 := Lib.hid (show beBytes (l.length : Int) 4 = preT (l.map (·.1)) 0 by rw [preT_zero, List.length_map])
  clear h hk hr hf
  go_enter Try.func33, Try.ntmps33
  go_wp2_with (go_at_call 75; (with_reducible refine (sr_bytesV (l.length : Int) 4 4 rfl (by decide) _ HP00.out HRN.out H.out).mono ?_); rintro e_ wn ⟨rfl, h⟩; replace H := Lib.hid h; clear h)
  go_loopw [3, 4, 5] (fun sv iv _ wr => ∃ k : Nat, k ≤ l.length ∧ iv = .int .i64 k ∧ sv = .string (bb (preT (l.map (·.1)) k)) ∧ St W0 wr K L) (fun _ iv _ _ => l.length - (intOf iv).toNat)
  case atStart => exact ⟨0, Nat.zero_le _, rfl, rfl, H.out⟩
  case round =>
    obtain ⟨k, hkl, rfl, rfl, hst⟩ := hrel
    clear H
    have H := Lib.hid hst
    clear hst
    by_cases hlt : k < l.length
    · as_aux_lemma =>
      obtain ⟨b, off, hqq⟩ := tops_at HK.out H.out (by omega)
      subst hqq
      obtain ⟨⟨⟨nm, ps⟩, vx⟩, hx⟩ : ∃ x, l[k] = x := ⟨_, rfl⟩
      obtain ⟨c0, c1⟩ : wr.cell? ⟨b, off + k * 2, none⟩ = some (.string (bb nm)) ∧ wr.cell? ⟨b, off + k * 2 + 1, none⟩ = some vx := tops_cell HK.out H.out k hlt _ hx
      have hmem : ((⟨nm, ps⟩ : TopS), vx) ∈ l := hx ▸ List.getElem_mem hlt
      have hxk : K.has (Know.flat RI vx 1 ps) := tops_parts HK.out hmem
      obtain ⟨qx, capx, hvx⟩ := flat_form hxk H.out
      subst hvx
      have HXK := Lib.hid hxk
      have hmk : k < (l.map (·.1)).length := by rw [List.length_map]; exact hlt
      have hmg : (l.map (·.1))[k] = ⟨nm, ps⟩ := by rw [List.getElem_map, hx]
      have hfx : (⟨nm, ps⟩ : TopS).Fit := HF.out.2 _ (hmg ▸ List.getElem_mem hmk)
      have HNM := Lib.hid hfx.1
      have HPL := Lib.hid hfx.2.1
      have HPS := Lib.hid hfx.2.2
      have hkn : (k : Int) < (l.length : Int) := by omega
      have hnl : (nm.length : Int) ≤ 32767 := by have := hfx.1; simp only at this; omega
      have hpl : (ps.length : Int) ≤ 1000000 := by have := hfx.2.1; simp only at this; omega
      have hst1 := preT_step (l.map (·.1)) k hmk _ hmg
      have hle1 := preT_le (l.map (·.1)) HF.out (k + 1) hmk
      have hln : (l.map (·.1)).length ≤ 1000000 := HF.out.1
      simp only at hst1
      obtain ⟨B0, hB0⟩ : ∃ B, preT (l.map (·.1)) k = B := ⟨_, rfl⟩
      obtain ⟨F1, hF1⟩ : ∃ B, encF 2 ⟨false, nm⟩ = B := ⟨_, rfl⟩
      obtain ⟨F2, hF2⟩ : ∃ B, beBytes (ps.length : Int) 4 = B := ⟨_, rfl⟩
      obtain ⟨B1, hB1⟩ : ∃ B, B0 ++ F1 = B := ⟨_, rfl⟩
      obtain ⟨B2, hB2⟩ : ∃ B, B1 ++ F2 = B := ⟨_, rfl⟩
      have HB3 := Lib.hid (show preT (l.map (·.1)) (k + 1) = B2 ++ be4s ps by rw [hst1, ← hB2, ← hB1, ← hB0, ← hF1, ← hF2]; simp only [List.append_assoc])
      have hlen : (B2 ++ be4s ps).length ≤ 100000000000000 := by
        rw [← HB3.out]
        exact preT_le2 _ HF.out _ hmk
      have hl0 : B1.length ≤ 100000000000000 ∧ B2.length + 4 * ps.length ≤ 100000000000000 := by
        rw [List.length_append, be4s_len] at hlen
        rw [← hB2, List.length_append] at hlen ⊢
        omega
      have hl1 := congrArg List.length hB1
      have hl2 := congrArg List.length hB2
      rw [List.length_append] at hl1 hl2
      have hcat1 : bb B0 ++ bb F1 = bb B1 := by rw [← hB1]; exact bb_append _ _
      have hcat2 : bb B1 ++ bb F2 = bb B2 := by rw [← hB2]; exact bb_append _ _
      have hg1 : ¬ (9223372036854775807 < B0.length + F1.length) := by omega
      have hg2 : ¬ (9223372036854775807 < B1.length + F2.length) := by omega
      have HF1 := Lib.hid hF1
      have HF2 := Lib.hid hF2
      have HL0 := Lib.hid hl0
      have HRP := Lib.hid (show -9223372036854775808 ≤ (ps.length : Int) ∧ (ps.length : Int) < 9223372036854775808 by omega)
      have hp0 : ps = [] ∨ ∃ pb poff, qx = some ⟨pb, poff, none⟩ := by
        by_cases hps : ps = []
        · exact .inl hps
        · exact .inr (flat_at HXK.out H.out (List.length_pos_iff.2 hps))
      have HP0 := Lib.hid hp0
      have HKP := Lib.hid (show ∀ w', St W0 w' K L → (w'.cell? ⟨b, off + k * 2, none⟩ = some (.string (bb nm)) ∧ w'.cell? ⟨b, off + k * 2 + 1, none⟩ = some (.slice qx ps.length capx)) from fun w' hs => tops_cell HK.out hs k hlt _ hx)
      rw [hB0]
      clear hx hmem hxk hmk hmg hfx hst1 hle1 hln hB0 hB1 hB2 hF1 hF2 hlen hl0 hp0 hl1 hl2
      go_wp2
      have hs := H.out.drew
      refine wp_region_held_drew (S := fun w' => w'.cell? ⟨b, off + k * 2, none⟩ = some (.string (bb nm)) ∧ w'.cell? ⟨b, off + k * 2 + 1, none⟩ = some (.slice qx ps.length capx)) (by kernel_rfl) (HKP.out _ hs) (fun hHeld => ?_)
      refine wpAnyH_take (i := 0) (oi := { dst := some 15, op := Op.move (Operand.tmp 3), type := 9, pos := "ref.go:61", after := #[], guard := none }) (v := ?_) rfl (by kernel_rfl) (by kernel_rfl) (by kernel_rfl) (fun _ _ _ h => h) (Or.inl ⟨by rfl, ?_⟩) (by assumption) ?_
      rotate_left
      · intro w hSw; (try dsimp only at hSw); go_simp; try with_reducible rfl
      simp only [Act.put, List.setIfInBounds_toArray, List.set_cons_zero, List.set_cons_succ]
      refine wpAnyH_take (i := 1) (oi := { dst := some 16, op := Op.move (Operand.tmp 0), type := 22, pos := "ref.go:61", after := #[], guard := none }) (v := ?_) rfl (by kernel_rfl) (by kernel_rfl) (by kernel_rfl) (fun _ _ _ h => h) (Or.inl ⟨by rfl, ?_⟩) (by assumption) ?_
      rotate_left
      · intro w hSw; (try dsimp only at hSw); go_simp; try with_reducible rfl
      simp only [Act.put, List.setIfInBounds_toArray, List.set_cons_zero, List.set_cons_succ]
      refine wpAnyH_take (i := 2) (oi := { dst := some 17, op := Op.move (Operand.tmp 4), type := 3, pos := "ref.go:61", after := #[], guard := none }) (v := ?_) rfl (by kernel_rfl) (by kernel_rfl) (by kernel_rfl) (fun _ _ _ h => h) (Or.inl ⟨by rfl, ?_⟩) (by assumption) ?_
      rotate_left
      · intro w hSw; (try dsimp only at hSw); go_simp; try with_reducible rfl
      simp only [Act.put, List.setIfInBounds_toArray, List.set_cons_zero, List.set_cons_succ]
      refine wpAnyH_take (i := 3) (oi := { dst := some 18, op := Op.indexAddr 22 (Operand.tmp 16) (Operand.tmp 17), type := 0, pos := "ref.go:61", after := #[{ on := 1, ground := Ground.data }, { on := 2, ground := Ground.data }], guard := none }) (v := ?_) rfl (by kernel_rfl) (by kernel_rfl) (by kernel_rfl) (fun _ _ _ h => h) (Or.inl ⟨by rfl, ?_⟩) (by assumption) ?_
      rotate_left
      · intro w hSw; (try dsimp only at hSw); go_simp; try with_reducible rfl
      simp only [Act.put, List.setIfInBounds_toArray, List.set_cons_zero, List.set_cons_succ]
      refine wpAnyH_take (i := 4) (oi := { dst := some 19, op := Op.fieldAddr 51 (Operand.tmp 18) 0, type := 0, pos := "ref.go:61", after := #[{ on := 3, ground := Ground.data }], guard := none }) (v := ?_) rfl (by kernel_rfl) (by kernel_rfl) (by kernel_rfl) (fun _ _ _ h => h) (Or.inl ⟨by rfl, ?_⟩) (by assumption) ?_
      rotate_left
      · intro w hSw; (try dsimp only at hSw); go_simp; try with_reducible rfl
      simp only [Act.put, List.setIfInBounds_toArray, List.set_cons_zero, List.set_cons_succ]
      refine wpAnyH_take (i := 5) (oi := { dst := some 20, op := Op.load 9 (Operand.tmp 19), type := 9, pos := "ref.go:61", after := #[{ on := 4, ground := Ground.data }], guard := none }) (v := ?_) rfl (by kernel_rfl) (by kernel_rfl) (by kernel_rfl) (fun _ _ _ h => h) (Or.inl ⟨by rfl, ?_⟩) (by assumption) ?_
      rotate_left
      · intro w hSw; (try dsimp only at hSw); go_simp; try with_reducible rfl
      simp only [Act.put, List.setIfInBounds_toArray, List.set_cons_zero, List.set_cons_succ]
      refine wpAnyH_take (i := 6) (oi := { dst := some 21, op := Op.build 64 #[(1, Operand.tmp 20)], type := 64, pos := "ref.go:61", after := #[{ on := 5, ground := Ground.data }], guard := none }) (v := ?_) rfl (by kernel_rfl) (by kernel_rfl) (by kernel_rfl) (fun _ _ _ h => h) (Or.inl ⟨by rfl, ?_⟩) (by assumption) ?_
      rotate_left
      · intro w hSw; (try dsimp only at hSw); go_simp; try with_reducible rfl
      simp only [Act.put, List.setIfInBounds_toArray, List.set_cons_zero, List.set_cons_succ]
      refine wpAnyH_take (i := 9) (oi := { dst := some 24, op := Op.move (Operand.tmp 0), type := 22, pos := "ref.go:61", after := #[], guard := none }) (v := ?_) rfl (by kernel_rfl) (by kernel_rfl) (by kernel_rfl) (fun _ _ _ h => h) (Or.inl ⟨by rfl, ?_⟩) (by assumption) ?_
      rotate_left
      · intro w hSw; (try dsimp only at hSw); go_simp; try with_reducible rfl
      simp only [Act.put, List.setIfInBounds_toArray, List.set_cons_zero, List.set_cons_succ]
      refine wpAnyH_take (i := 10) (oi := { dst := some 25, op := Op.move (Operand.tmp 4), type := 3, pos := "ref.go:61", after := #[], guard := none }) (v := ?_) rfl (by kernel_rfl) (by kernel_rfl) (by kernel_rfl) (fun _ _ _ h => h) (Or.inl ⟨by rfl, ?_⟩) (by assumption) ?_
      rotate_left
      · intro w hSw; (try dsimp only at hSw); go_simp; try with_reducible rfl
      simp only [Act.put, List.setIfInBounds_toArray, List.set_cons_zero, List.set_cons_succ]
      refine wpAnyH_take (i := 11) (oi := { dst := some 26, op := Op.indexAddr 22 (Operand.tmp 24) (Operand.tmp 25), type := 0, pos := "ref.go:61", after := #[{ on := 9, ground := Ground.data }, { on := 10, ground := Ground.data }], guard := none }) (v := ?_) rfl (by kernel_rfl) (by kernel_rfl) (by kernel_rfl) (fun _ _ _ h => h) (Or.inl ⟨by rfl, ?_⟩) (by assumption) ?_
      rotate_left
      · intro w hSw; (try dsimp only at hSw); go_simp; try with_reducible rfl
      simp only [Act.put, List.setIfInBounds_toArray, List.set_cons_zero, List.set_cons_succ]
      refine wpAnyH_take (i := 12) (oi := { dst := some 27, op := Op.fieldAddr 51 (Operand.tmp 26) 1, type := 0, pos := "ref.go:61", after := #[{ on := 11, ground := Ground.data }], guard := none }) (v := ?_) rfl (by kernel_rfl) (by kernel_rfl) (by kernel_rfl) (fun _ _ _ h => h) (Or.inl ⟨by rfl, ?_⟩) (by assumption) ?_
      rotate_left
      · intro w hSw; (try dsimp only at hSw); go_simp; try with_reducible rfl
      simp only [Act.put, List.setIfInBounds_toArray, List.set_cons_zero, List.set_cons_succ]
      refine wpAnyH_take (i := 13) (oi := { dst := some 28, op := Op.load 49 (Operand.tmp 27), type := 49, pos := "ref.go:61", after := #[{ on := 12, ground := Ground.data }], guard := none }) (v := ?_) rfl (by kernel_rfl) (by kernel_rfl) (by kernel_rfl) (fun _ _ _ h => h) (Or.inl ⟨by rfl, ?_⟩) (by assumption) ?_
      rotate_left
      · intro w hSw; (try dsimp only at hSw); go_simp; try with_reducible rfl
      simp only [Act.put, List.setIfInBounds_toArray, List.set_cons_zero, List.set_cons_succ]
      refine wpAnyH_take (i := 14) (oi := { dst := some 29, op := Op.call { callee := Callee.builtin Builtin.len, args := #[Operand.tmp 28], argTypes := #[49] }, type := 3, pos := "ref.go:61", after := #[{ on := 13, ground := Ground.data }], guard := none }) (v := ?_) rfl (by kernel_rfl) (by kernel_rfl) (by kernel_rfl) (fun _ _ _ h => h) (Or.inl ⟨by rfl, ?_⟩) (by assumption) ?_
      rotate_left
      · intro w hSw; (try dsimp only at hSw); go_simp; try with_reducible rfl
      simp only [Act.put, List.setIfInBounds_toArray, List.set_cons_zero, List.set_cons_succ]
      refine wpAnyH_ready (rs := [7]) (by kernel_rfl) (by simp) (AllReadyH.cons (o := { dst := some 22, op := Op.call { callee := Callee.value (Operand.func 87), args := #[Operand.tmp 21, Operand.const (Value.int IntKind.i64 2)], argTypes := #[64, 3] }, type := 9, pos := "ref.go:61", after := #[{ on := 6, ground := Ground.data }], guard := none }) rfl (fun KK hK => ?_) AllReadyH.nil)
      · go_simp
        go_at_call 87
        with_reducible refine (ref04_fixedV nm F1 HF1.out HNM.out hs).mono ?_
        rintro e wq ⟨rfl, hs⟩
        refine hK.out _ _ (HKP.out _ hs) (fun hHeld => ?_)
        clear hK KK
        try simp only [Act.put, List.setIfInBounds_toArray, List.set_cons_zero, List.set_cons_succ]
        refine wpAnyH_take (i := 8) (oi := { dst := some 23, op := Op.binOp BinOp.add 9 (Operand.tmp 15) (Operand.tmp 22) 9, type := 9, pos := "ref.go:61", after := #[{ on := 0, ground := Ground.data }, { on := 7, ground := Ground.data }], guard := none }) (v := ?_) rfl (by kernel_rfl) (by kernel_rfl) (by kernel_rfl) (fun _ _ _ h => h) (Or.inl ⟨by rfl, ?_⟩) (by assumption) ?_
        rotate_left
        · intro w hSw; (try dsimp only at hSw); go_simp; try with_reducible rfl
        simp only [Act.put, List.setIfInBounds_toArray, List.set_cons_zero, List.set_cons_succ]
        refine wpAnyH_ready (rs := [15]) (by kernel_rfl) (by simp) (AllReadyH.cons (o := { dst := some 30, op := Op.call { callee := Callee.value (Operand.func 75), args := #[Operand.tmp 29, Operand.const (Value.int IntKind.i64 4)], argTypes := #[3, 3] }, type := 9, pos := "ref.go:61", after := #[{ on := 14, ground := Ground.data }, { on := 7, ground := Ground.chain }], guard := none }) rfl (fun KK hK => ?_) AllReadyH.nil)
        · go_simp
          go_at_call 75
          with_reducible refine (sr_bytesV (ps.length : Int) 4 4 rfl (by decide) F2 HF2.out HRP.out hs).mono ?_
          rintro e wq ⟨rfl, hs⟩
          refine hK.out _ _ (HKP.out _ hs) (fun hHeld => ?_)
          clear hK KK
          try simp only [Act.put, List.setIfInBounds_toArray, List.set_cons_zero, List.set_cons_succ]
          refine wpAnyH_take (i := 16) (oi := { dst := some 31, op := Op.binOp BinOp.add 9 (Operand.tmp 23) (Operand.tmp 30) 9, type := 9, pos := "ref.go:61", after := #[{ on := 8, ground := Ground.data }, { on := 15, ground := Ground.data }], guard := none }) (v := ?_) rfl (by kernel_rfl) (by kernel_rfl) (by kernel_rfl) (fun _ _ _ h => h) (Or.inl ⟨by rfl, ?_⟩) (by assumption) ?_
          rotate_left
          · intro w hSw; (try dsimp only at hSw); go_simp; try with_reducible rfl
          simp only [Act.put, List.setIfInBounds_toArray, List.set_cons_zero, List.set_cons_succ]
          refine wpAnyH_take (i := 17) (oi := { dst := some 3, op := Op.assign (Operand.tmp 31), type := 9, pos := "ref.go:61", after := #[{ on := 16, ground := Ground.data }, { on := 15, ground := Ground.chain }, { on := 0, ground := Ground.phase }, { on := 1, ground := Ground.phase }, { on := 2, ground := Ground.phase }, { on := 3, ground := Ground.phase }, { on := 4, ground := Ground.phase }, { on := 5, ground := Ground.phase }, { on := 6, ground := Ground.phase }, { on := 7, ground := Ground.phase }, { on := 8, ground := Ground.phase }, { on := 9, ground := Ground.phase }, { on := 10, ground := Ground.phase }, { on := 11, ground := Ground.phase }, { on := 12, ground := Ground.phase }, { on := 13, ground := Ground.phase }, { on := 14, ground := Ground.phase }, { on := 15, ground := Ground.phase }, { on := 16, ground := Ground.phase }], guard := none }) (v := ?_) rfl (by kernel_rfl) (by kernel_rfl) (by kernel_rfl) (fun _ _ _ h => h) (Or.inl ⟨by rfl, ?_⟩) (by assumption) ?_
          rotate_left
          · intro w hSw; (try dsimp only at hSw); go_simp; try with_reducible rfl
          simp only [Act.put, List.setIfInBounds_toArray, List.set_cons_zero, List.set_cons_succ]
          refine wpAnyH_done (by kernel_rfl) ?_ _
          go_wp2_with fail
          clear H
          have H := Lib.hid hs
          clear hs
          go_loopw [3, 5] (fun sv jv wr => ∃ j : Nat, j ≤ ps.length ∧ jv = .int .i64 j ∧ sv = .string (bb (B2 ++ be4s (ps.take j))) ∧ St W0 wr K L) (fun _ jv _ => ps.length - (intOf jv).toNat)
          case atStart => exact ⟨0, Nat.zero_le _, rfl, by rw [List.take_zero]; show _ = Value.string (bb (B2 ++ [])); rw [List.append_nil], H.out⟩
          case round =>
            obtain ⟨j, hjl, rfl, rfl, hst⟩ := hrel
            clear H
            have H := Lib.hid hst
            clear hst
            obtain ⟨c0, c1⟩ := HKP.out _ H.out
            by_cases hlj : j < ps.length
            · have hps : ¬ ps = [] := by rintro rfl; simp at hlj
              rcases HP0.out with hps2 | ⟨pb, poff, hq⟩
              · exact absurd hps2 hps
              subst hq
              have d0 := int_cell HXK.out H.out j hlj
              obtain ⟨x, hx⟩ : ∃ x, ps.getD j 0 = x := ⟨_, rfl⟩
              rw [hx] at d0
              have hxr := HPS.out x (hx ▸ getD_mem ps j hlj)
              have hst := be4s_step ps j hlj x hx
              obtain ⟨C, hC⟩ : ∃ C, B2 ++ be4s (ps.take j) = C := ⟨_, rfl⟩
              obtain ⟨X, hX⟩ : ∃ X, beBytes x 4 = X := ⟨_, rfl⟩
              obtain ⟨D, hD⟩ : ∃ D, C ++ X = D := ⟨_, rfl⟩
              have hcat : bb C ++ bb X = bb D := by rw [← hD]; exact bb_append _ _
              have HD2 := Lib.hid (show B2 ++ be4s (ps.take (j + 1)) = D by rw [hst, ← List.append_assoc, hC, hX, hD])
              have hXl : X.length = 4 := by rw [← hX]; exact beBytes_length x 4
              have hCl : C.length ≤ 100000000000000 := by
                rw [← hC, List.length_append, be4s_len, List.length_take]
                have := HL0.out.2
                omega
              have hg : ¬ (9223372036854775807 < C.length + X.length) := by omega
              have HX := Lib.hid hX
              have HXR := Lib.hid (show -9223372036854775808 ≤ x ∧ x < 9223372036854775808 by omega)
              have hji : (j : Int) < (ps.length : Int) := by omega
              rw [hC]
              clear hC hst hx hps hxr hX hD hXl hCl
              go_wp2_with (go_at_call 75; (with_reducible refine (sr_bytesV x 4 4 rfl (by decide) X HX.out HXR.out H.out).mono ?_); rintro e_ wn ⟨rfl, h⟩; replace H := Lib.hid h; clear h)
              go_roundw
              case rel => exact ⟨j + 1, hlj, by go_num, by rw [HD2.out], H.out⟩
              case measure => first | (simp [intOf]; done) | (simp [intOf]; omega)
            · obtain rfl : j = ps.length := by omega
              rw [List.take_length, ← HB3.out]
              go_wp2
              go_roundw
              case rel => exact ⟨k + 1, hlt, by go_num, rfl, H.out⟩
              case measure => first | (simp [intOf]; done) | (simp [intOf]; omega)
    · obtain rfl : k = l.length := by omega
      rw [show preT (l.map (·.1)) l.length = r by rw [← HR.out, ← preT_all, List.length_map]]
      go_wp2
      go_ret
      exact ⟨rfl, H.out⟩

end Go.Proofs.Ytombolmicfjjpaa

/- Whether two rows of numbers are one. -/
namespace Go.Proofs.Ytombolmicfjjpaa
open Go.RowKit

set_option maxHeartbeats 1000000 in
set_option maxRecDepth 100000 in
theorem ints_same01 (a b : List Int) (q1 q2 : Option Addr) (cap1 cap2 : Nat) (hl : a.length ≤ 9223372036854775807) (hl2 : b.length ≤ 9223372036854775807) (r : Bool) (hr : decide (a = b) = r) {W0 w : World} {K : Know} {L : List Res} (hka : K.has (Know.flat RI (.slice q1 a.length cap1) 1 a)) (hkb : K.has (Know.flat RI (.slice q2 b.length cap2) 1 b)) (h : St W0 w K L) :
    Calls Try.prog 82 #[.slice q1 a.length cap1, .slice q2 b.length cap2] w fun en w' => en = .returned (.bool r) ∧ St W0 w' K L := by
  have H := Lib.hid h
  have HA := Lib.hid hka
  have HB := Lib.hid hkb
  clear h hka hkb
  by_cases hlen : a.length = b.length
  · have HLEN := Lib.hid hlen
    have HR := Lib.hid hr
    rw [← hlen]
    clear hr hlen
    go_enter Try.func82, Try.ntmps82
    go_wp2
    go_loopw [5] (fun iv wr => ∃ k : Nat, k ≤ a.length ∧ iv = .int .i64 k ∧ Hid (a.take k = b.take k) ∧ St W0 wr K L) (fun iv _ => a.length - (intOf iv).toNat)
    case atStart => exact ⟨0, Nat.zero_le _, rfl, Lib.hid (by simp), H.out⟩
    case round =>
      obtain ⟨k, hk, rfl, HEQ, hst⟩ := hrel
      clear H
      have H := Lib.hid hst
      clear hst
      by_cases hlt : k < a.length
      · have hltb : k < b.length := by have := HLEN.out; omega
        obtain ⟨ba, oa, hqa⟩ := flat_at HA.out H.out (by omega)
        obtain ⟨bb', ob, hqb⟩ := flat_at HB.out H.out (by omega)
        subst hqa
        subst hqb
        have c0 := int_cell HA.out H.out k hlt
        have c1 := int_cell HB.out H.out k hltb
        have ea : a.take (k + 1) = a.take k ++ [a.getD k 0] := by rw [List.take_succ_eq_append_getElem hlt, List.getD_eq_getElem?_getD, List.getElem?_eq_getElem hlt]; rfl
        have eb : b.take (k + 1) = b.take k ++ [b.getD k 0] := by rw [List.take_succ_eq_append_getElem hltb, List.getD_eq_getElem?_getD, List.getElem?_eq_getElem hltb]; rfl
        have hne : a.getD k 0 ≠ b.getD k 0 → a ≠ b := by rintro h rfl; exact h rfl
        obtain ⟨x, hx⟩ : ∃ x, a.getD k 0 = x := ⟨_, rfl⟩
        obtain ⟨y, hy⟩ : ∃ y, b.getD k 0 = y := ⟨_, rfl⟩
        rw [hx] at c0 ea hne
        rw [hy] at c1 eb hne
        have EA := Lib.hid (And.intro ea (And.intro eb hne))
        clear ea eb hne hx hy hltb
        by_cases hxy : x = y
        · subst hxy
          go_wp2
          go_quiet (fail)
          go_wp2
          go_roundw
          case rel => exact ⟨k + 1, hlt, by go_num, Lib.hid (by rw [EA.out.1, EA.out.2.1, HEQ.out]), H.out.drewN _⟩
          case measure => first | (simp [intOf]; done) | (simp [intOf]; omega)
        · have HNE := Lib.hid (EA.out.2.2 hxy)
          go_wp2
          go_quiet (fail)
          go_wp2
          go_ret
          exact ⟨ret_bool (by rw [← HR.out]; exact (decide_eq_false HNE.out).symm), H.out.drewN _⟩
      · have hke : k = a.length := by omega
        subst hke
        go_wp2
        go_ret
        refine ⟨ret_bool ?_, H.out⟩
        have h := HEQ.out
        rw [List.take_of_length_le (by omega), List.take_of_length_le (by have := HLEN.out; omega)] at h
        rw [← HR.out]
        exact (decide_eq_true h).symm
  · have HR := Lib.hid hr
    have hne : ¬ ((a.length : Int) = (b.length : Int)) := by omega
    have HLEN := Lib.hid hlen
    clear hr hlen
    go_enter Try.func82, Try.ntmps82
    go_wp2
    go_ret
    exact ⟨ret_bool (by rw [← HR.out]; exact (decide_eq_false (by rintro rfl; exact HLEN.out rfl)).symm), H.out⟩

set_option maxHeartbeats 1000000 in
set_option maxRecDepth 100000 in
theorem ints_equal (a b : List Int) (q1 q2 : Option Addr) (cap1 cap2 : Nat) (hl : a.length ≤ 9223372036854775807) (hl2 : b.length ≤ 9223372036854775807) (r : Bool) (hr : decide (a = b) = r) {W0 w : World} {K : Know} {L : List Res} (hka : K.has (Know.flat RI (.slice q1 a.length cap1) 1 a)) (hkb : K.has (Know.flat RI (.slice q2 b.length cap2) 1 b)) (h : St W0 w K L) :
    Calls Try.prog 85 #[.slice q1 a.length cap1, .slice q2 b.length cap2] w fun en w' => en = .returned (.bool r) ∧ St W0 w' K L := by
  have H := Lib.hid h
  have HA := Lib.hid hka
  have HB := Lib.hid hkb
  clear h hka hkb
  by_cases hlen : a.length = b.length
  · have HLEN := Lib.hid hlen
    have HR := Lib.hid hr
    rw [← hlen]
    clear hr hlen
    go_enter Try.func85, Try.ntmps85
    go_wp2
    go_loopw [13] (fun iv wr => ∃ k : Nat, k ≤ a.length ∧ iv = .int .i64 k ∧ Hid (a.take k = b.take k) ∧ St W0 wr K L) (fun iv _ => a.length - (intOf iv).toNat)
    case atStart => exact ⟨0, Nat.zero_le _, rfl, Lib.hid (by simp), H.out⟩
    case round =>
      obtain ⟨k, hk, rfl, HEQ, hst⟩ := hrel
      clear H
      have H := Lib.hid hst
      clear hst
      by_cases hlt : k < a.length
      · have hltb : k < b.length := by have := HLEN.out; omega
        obtain ⟨ba, oa, hqa⟩ := flat_at HA.out H.out (by omega)
        obtain ⟨bb', ob, hqb⟩ := flat_at HB.out H.out (by omega)
        subst hqa
        subst hqb
        have c0 := int_cell HA.out H.out k hlt
        have c1 := int_cell HB.out H.out k hltb
        have ea : a.take (k + 1) = a.take k ++ [a.getD k 0] := by rw [List.take_succ_eq_append_getElem hlt, List.getD_eq_getElem?_getD, List.getElem?_eq_getElem hlt]; rfl
        have eb : b.take (k + 1) = b.take k ++ [b.getD k 0] := by rw [List.take_succ_eq_append_getElem hltb, List.getD_eq_getElem?_getD, List.getElem?_eq_getElem hltb]; rfl
        have hne : a.getD k 0 ≠ b.getD k 0 → a ≠ b := by rintro h rfl; exact h rfl
        obtain ⟨x, hx⟩ : ∃ x, a.getD k 0 = x := ⟨_, rfl⟩
        obtain ⟨y, hy⟩ : ∃ y, b.getD k 0 = y := ⟨_, rfl⟩
        rw [hx] at c0 ea hne
        rw [hy] at c1 eb hne
        have EA := Lib.hid (And.intro ea (And.intro eb hne))
        clear ea eb hne hx hy hltb
        by_cases hxy : x = y
        · subst hxy
          go_wp2
          go_quiet (fail)
          go_wp2
          go_roundw
          case rel => exact ⟨k + 1, hlt, by go_num, Lib.hid (by rw [EA.out.1, EA.out.2.1, HEQ.out]), H.out.drewN _⟩
          case measure => first | (simp [intOf]; done) | (simp [intOf]; omega)
        · have HNE := Lib.hid (EA.out.2.2 hxy)
          go_wp2
          go_quiet (fail)
          go_wp2
          go_ret
          exact ⟨ret_bool (by rw [← HR.out]; exact (decide_eq_false HNE.out).symm), H.out.drewN _⟩
      · have hke : k = a.length := by omega
        subst hke
        go_wp2
        go_ret
        refine ⟨ret_bool ?_, H.out⟩
        have h := HEQ.out
        rw [List.take_of_length_le (by omega), List.take_of_length_le (by have := HLEN.out; omega)] at h
        rw [← HR.out]
        exact (decide_eq_true h).symm
  · have HR := Lib.hid hr
    have hne : ¬ ((a.length : Int) = (b.length : Int)) := by omega
    have HLEN := Lib.hid hlen
    clear hr hlen
    go_enter Try.func85, Try.ntmps85
    go_wp2
    go_ret
    exact ⟨ret_bool (by rw [← HR.out]; exact (decide_eq_false (by rintro rfl; exact HLEN.out rfl)).symm), H.out⟩

end Go.Proofs.Ytombolmicfjjpaa

/- Whether two rows of topics are one. -/
namespace Go.Proofs.Ytombolmicfjjpaa
open Go.RowKit

set_option maxHeartbeats 1000000 in
set_option maxRecDepth 100000 in
theorem top_bare (n1 n2 : Bs) (p1 p2 : List Int) (qx1 qx2 : Option Addr) (capx1 capx2 : Nat) (r : Bool) (hr : decide ((⟨n1, p1⟩ : TopS) = ⟨n2, p2⟩) = r) (hl1 : p1.length ≤ 9223372036854775807) (hl2 : p2.length ≤ 9223372036854775807) {W0 w : World} {K : Know} {L : List Res} (hka : K.has (Know.flat RI (.slice qx1 p1.length capx1) 1 p1)) (hkb : K.has (Know.flat RI (.slice qx2 p2.length capx2) 1 p2)) (h : St W0 w K L) :
    Calls Try.prog 84 #[.agg #[.string (bb n1), .slice qx1 p1.length capx1], .agg #[.string (bb n2), .slice qx2 p2.length capx2]] w fun en w' => en = .returned (.bool r) ∧ St W0 w' K L := by
  have h0 := (h.allocRaw #[.string (bb n1), .slice qx1 p1.length capx1] 51).allocRaw #[.string (bb n2), .slice qx2 p2.length capx2] 51
  rw [World.size_alloc] at h0
  have H := Lib.hid h0
  have HA := Lib.hid hka
  have HB := Lib.hid hkb
  have HL1 := Lib.hid hl1
  have HL2 := Lib.hid hl2
  clear h h0 hka hkb hl1 hl2
  by_cases hn : n1 = n2
  · subst hn
    have HE := Lib.hid (show decide (p1 = p2) = r by rw [← hr]; exact decide_eq_decide.mpr ⟨fun h => by rw [h], fun h => by cases h; rfl⟩)
    clear hr
    go_enter Try.func84, Try.ntmps84
    go_wp2_with (go_at_call 85; (with_reducible refine (ints_equal p1 p2 qx1 qx2 capx1 capx2 HL1.out HL2.out _ HE.out HA.out HB.out H.out).mono ?_); rintro e_ wn ⟨rfl, h⟩; replace H := Lib.hid h; clear h)
    go_ret
    exact ⟨rfl, H.out.drop.drop⟩
  · have HR := Lib.hid (show r = false by rw [← hr]; exact decide_eq_false (by intro h; cases h; exact hn rfl))
    have hb : (n1 == n2) = false := by simpa using hn
    rw [show r = false from HR.out]
    clear hn hr
    go_enter Try.func84, Try.ntmps84
    go_wp2
    go_ret
    exact ⟨rfl, H.out.drop.drop⟩
set_option maxHeartbeats 2000000 in
set_option maxRecDepth 100000 in
theorem tops_eqf (l1 l2 : List (TopS × Value)) (q1 q2 : Option Addr) (cap1 cap2 : Nat) (r : Bool) (hr : decide (l1.map (·.1) = l2.map (·.1)) = r) (hf1 : LenT l1) (hf2 : LenT l2) {W0 w : World} {K : Know} {L : List Res} (hk1 : K.has (Know.tops (.slice q1 l1.length cap1) l1)) (hk2 : K.has (Know.tops (.slice q2 l2.length cap2) l2)) (h : St W0 w K L) :
    Calls Try.prog 83 #[.slice q1 l1.length cap1, .slice q2 l2.length cap2, .func (.func 84) #[] #[]] w fun en w' => en = .returned (.bool r) ∧ St W0 w' K L := by
  have H := Lib.hid h
  have HK1 := Lib.hid hk1
  have HK2 := Lib.hid hk2
  have hni : (l1.length : Int) ≤ 140737488355328 := by have := hf1.1; omega
  have HF1 := Lib.hid hf1
  have HF2 := Lib.hid hf2
  clear h hk1 hk2 hf1 hf2
  by_cases hlen : l1.length = l2.length
  rotate_left
  · as_aux_lemma =>
    have hr2 : r = false := by rw [← hr]; exact decide_eq_false (tmap_len_ne _ _ hlen)
    have g1 : ((l1.length : Int) == (l2.length : Int)) = false := by rw [beq_eq_false_iff_ne]; omega
    have g2 : ((l1.length : Int) != (l2.length : Int)) = true := by simp [bne, g1]
    have g3 : ¬ ((l1.length : Int) = (l2.length : Int)) := by omega
    subst hr2
    clear hlen hr
    go_enter Try.func83, Try.ntmps83
    go_wp2
    go_ret
    exact ⟨rfl, H.out⟩
  have HLEN := Lib.hid hlen
  have HR := Lib.hid hr
  have g1 : ((l1.length : Int) == (l2.length : Int)) = true := by rw [hlen]; exact beq_self_eq_true _
  have g2 : ((l1.length : Int) != (l2.length : Int)) = false := by simp [bne, g1]
  have g3 : (l2.length : Int) = (l1.length : Int) := by omega
  clear hr hlen
  go_enter Try.func83, Try.ntmps83
  go_wp2
  clear g1 g2 g3
  go_loopw [7, 8, 9, 17] (fun _ _ _ iv wr => ∃ k : Nat, k ≤ l1.length ∧ iv = .int .i64 k ∧ Hid ((l1.map (·.1)).take k = (l2.map (·.1)).take k) ∧ St W0 wr K L) (fun _ _ _ iv _ => l1.length - (intOf iv).toNat)
  case atStart => exact ⟨0, Nat.zero_le _, rfl, Lib.hid (by simp), H.out⟩
  case round =>
    obtain ⟨k, hkl, rfl, heq, hst⟩ := hrel
    clear H
    have H := Lib.hid hst
    clear hst
    by_cases hlt : k < l1.length
    · have hlt2 : k < l2.length := by have := HLEN.out; omega
      obtain ⟨b1', off1, hqq1⟩ := tops_at HK1.out H.out (by omega)
      subst hqq1
      obtain ⟨⟨⟨n1, p1⟩, v1⟩, hx1⟩ : ∃ x, l1[k] = x := ⟨_, rfl⟩
      have hmem1 : ((⟨n1, p1⟩ : TopS), v1) ∈ l1 := hx1 ▸ List.getElem_mem _
      have XF1 := Lib.hid (show p1.length ≤ 9223372036854775807 from HF1.out.2 _ hmem1)
      have xk1 : K.has (Know.flat RI v1 1 p1) := tops_parts HK1.out hmem1
      obtain ⟨qx1, capx1, hv1⟩ := flat_form xk1 H.out
      subst hv1
      have XK1 := Lib.hid xk1
      have HX1 := Lib.hid (show l1[k].1 = ⟨n1, p1⟩ by rw [hx1])
      have HXX1 := Lib.hid hx1
      clear hmem1 hx1 xk1
      obtain ⟨b2', off2, hqq2⟩ := tops_at HK2.out H.out (by omega)
      subst hqq2
      obtain ⟨⟨⟨n2, p2⟩, v2⟩, hx2⟩ : ∃ x, l2[k] = x := ⟨_, rfl⟩
      have hmem2 : ((⟨n2, p2⟩ : TopS), v2) ∈ l2 := hx2 ▸ List.getElem_mem _
      have XF2 := Lib.hid (show p2.length ≤ 9223372036854775807 from HF2.out.2 _ hmem2)
      have xk2 : K.has (Know.flat RI v2 1 p2) := tops_parts HK2.out hmem2
      obtain ⟨qx2, capx2, hv2⟩ := flat_form xk2 H.out
      subst hv2
      have XK2 := Lib.hid xk2
      have HX2 := Lib.hid (show l2[k].1 = ⟨n2, p2⟩ by rw [hx2])
      have HXX2 := Lib.hid hx2
      clear hmem2 hx2 xk2
      obtain ⟨c10, c11⟩ : wr.cell? ⟨b1', off1 + k * 2, none⟩ = some (.string (bb n1)) ∧ wr.cell? ⟨b1', off1 + k * 2 + 1, none⟩ = some (.slice qx1 p1.length capx1) := tops_cell HK1.out H.out k hlt _ HXX1.out
      obtain ⟨c20, c21⟩ : (wr.alloc (.cells #[.string (bb n1), .slice qx1 p1.length capx1] 51)).cell? ⟨b2', off2 + k * 2, none⟩ = some (.string (bb n2)) ∧ (wr.alloc (.cells #[.string (bb n1), .slice qx1 p1.length capx1] 51)).cell? ⟨b2', off2 + k * 2 + 1, none⟩ = some (.slice qx2 p2.length capx2) := tops_cell HK2.out (H.out.allocRaw #[.string (bb n1), .slice qx1 p1.length capx1] 51) k hlt2 _ HXX2.out
      have hki : (k : Int) < (l1.length : Int) := by omega
      have hki2 : (k : Int) < (l2.length : Int) := by omega
      have NX := Lib.hid (show (⟨n1, p1⟩ : TopS) ≠ ⟨n2, p2⟩ → l1.map (·.1) ≠ l2.map (·.1) from tmap_ne_of_get l1 l2 k hlt hlt2 _ _ HX1.out HX2.out)
      have NT := Lib.hid (show (⟨n1, p1⟩ : TopS) = ⟨n2, p2⟩ → (l1.map (·.1)).take (k + 1) = (l2.map (·.1)).take (k + 1) from fun e => by rw [tmap_take_succ l1 k hlt _ HX1.out, tmap_take_succ l2 k hlt2 _ HX2.out, heq.out, e])
      obtain ⟨wE, hwE⟩ : ∃ b, wr.heap.size = b := ⟨_, rfl⟩
      obtain ⟨wG, hwG⟩ : ∃ b, wE + 1 = b := ⟨_, rfl⟩
      have h := (H.out.allocRaw #[.string (bb n1), .slice qx1 p1.length capx1] 51).allocRaw #[.string (bb n2), .slice qx2 p2.length capx2] 51
      rw [World.size_alloc, hwE, hwG] at h
      clear H
      have H := Lib.hid h
      clear h HX1 HX2 HXX1 HXX2
      clear hlt2
      have eb0 := (H.out).rawCell 0; have eb1 := (H.out).rawCell 1; have fb0 := (H.out).rawFree 0; have fb1 := (H.out).rawFree 1; simp at eb0 eb1 fb0 fb1
      have ea0 := (H.out.p1).rawCell 0; have ea1 := (H.out.p1).rawCell 1; have fa0 := (H.out.p1).rawFree 0; have fa1 := (H.out.p1).rawFree 1; simp at ea0 ea1 fa0 fa1
      by_cases hxy : (⟨n1, p1⟩ : TopS) = ⟨n2, p2⟩
      · have E1 := Lib.hid (decide_eq_true hxy)
        have NT2 := Lib.hid (NT.out hxy)
        clear hxy NX NT
        go_wp2_with (go_at_call 84; (with_reducible refine (top_bare n1 n2 p1 p2 qx1 qx2 capx1 capx2 _ E1.out XF1.out XF2.out XK1.out XK2.out H.out).mono ?_); rintro e_ wn ⟨rfl, h⟩; replace H := Lib.hid h; clear h)
        go_roundw
        case rel => exact ⟨k + 1, hlt, by go_num, NT2, H.out.drop.drop⟩
        case measure => first | (simp [intOf]; done) | (simp [intOf]; omega)
      · have E1 := Lib.hid (decide_eq_false hxy)
        have HRF := Lib.hid (show r = false by rw [← HR.out]; exact decide_eq_false (NX.out hxy))
        clear hxy NX NT
        go_wp2_with (go_at_call 84; (with_reducible refine (top_bare n1 n2 p1 p2 qx1 qx2 capx1 capx2 _ E1.out XF1.out XF2.out XK1.out XK2.out H.out).mono ?_); rintro e_ wn ⟨rfl, h⟩; replace H := Lib.hid h; clear h)
        go_ret
        exact ⟨ret_bool HRF.out.symm, H.out.drop.drop⟩
    · obtain rfl : k = l1.length := by omega
      have hall : l1.map (·.1) = l2.map (·.1) := by
        have h := heq.out
        rwa [List.take_of_length_le (by simp), List.take_of_length_le (by have := HLEN.out; simp; omega)] at h
      have HRT := Lib.hid (show r = true by rw [← HR.out, hall]; exact decide_eq_true rfl)
      clear hall
      go_wp2
      go_ret
      exact ⟨ret_bool HRT.out.symm, H.out⟩
theorem val_sameTopics (l1 l2 : List (TopS × Value)) (q1 q2 : Option Addr) (cap1 cap2 : Nat) (r : Bool) (hr : decide (l1.map (·.1) = l2.map (·.1)) = r) (hf1 : LenT l1) (hf2 : LenT l2) {W0 w : World} {K : Know} {L : List Res} (hk1 : K.has (Know.tops (.slice q1 l1.length cap1) l1)) (hk2 : K.has (Know.tops (.slice q2 l2.length cap2) l2)) (h : St W0 w K L) :
    Calls Try.prog 30 #[.slice q1 l1.length cap1, .slice q2 l2.length cap2] w fun en w' => en = .returned (.bool r) ∧ St W0 w' K L := by
  have H := Lib.hid h
  have HR := Lib.hid hr
  have HF1 := Lib.hid hf1
  have HF2 := Lib.hid hf2
  have HK1 := Lib.hid hk1
  have HK2 := Lib.hid hk2
  clear h hr hf1 hf2 hk1 hk2
  go_enter Try.func30, Try.ntmps30
  go_wp2_with (go_at_call 83; (with_reducible refine (tops_eqf l1 l2 q1 q2 cap1 cap2 _ HR.out HF1.out HF2.out HK1.out HK2.out H.out).mono ?_); rintro e_ wn ⟨rfl, h⟩; replace H := Lib.hid h; clear h)
  go_ret
  exact ⟨rfl, H.out⟩

end Go.Proofs.Ytombolmicfjjpaa
