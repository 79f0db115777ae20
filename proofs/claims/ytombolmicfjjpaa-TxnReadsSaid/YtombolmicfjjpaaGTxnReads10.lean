/- One end. -/
import Derived.Test.YtombolmicfjjpaaGTxnReads9
import Derived.Test.YtombolmicfjjpaaGTxnReads5
import Derived.Deep.RegionHeld3
import Derived.Deep.DeepCutAuto
import Derived.RegionTactic
import Derived.Test.YtombolmicfjjpaaGTxnReads2
import Derived.Test.YtombolmicfjjpaaGTxnReads6
import Derived.Test.YtombolmicfjjpaaGTxnReads4
import Derived.Handy
/- Topics, read by definition. -/
namespace Go.Proofs.Ytombolmicfjjpaa
open Go.RowKit

set_option maxHeartbeats 1000000 in
set_option maxRecDepth 100000 in
theorem ref14_readTopics_bad (s : Bs) (hs : s.length ≤ 1000000) (n : Nat) (E : Int) (hc : cntR 6 s = (n, E)) (h0 : E ≠ 0) (lf : List TopS) (mf : Nat) (ef : Int) (hr : topsR s = (lf, mf, ef)) {W0 w : World} {K : Know} {L : List Res} (h : St W0 w K L) :
    Calls Try.prog 26 #[.string (bb s)] w fun en w' => ∃ (v : Value) (lr : List (TopS × Value)), en = .returned (.tuple #[v, .int .i64 mf, .int .i64 ef]) ∧ lr.map (·.1) = lf ∧ St W0 w' (K.and (Know.tops v lr)) L := by
  rw [topsR_bad hc h0] at hr
  cases hr
  have H := Lib.hid h
  have HSL := Lib.hid hs
  have HC := Lib.hid hc
  have g1 : (E == 0) = false := by rw [beq_eq_false_iff_ne]; exact h0
  have g2 : (E != 0) = true := by simp [bne, g1]
  clear h hs hc h0
  go_enter Try.func26, Try.ntmps26
  go_wp2_with (go_at_call 80; (with_reducible refine (ref14_count s 6 6 rfl (by decide) (by decide) HSL.out n _ HC.out H.out).mono ?_); rintro e_ wn ⟨rfl, h⟩; replace H := Lib.hid h; clear h)
  go_ret3
  exact ⟨_, [], rfl, rfl, H.out.know (tops_nil K)⟩

set_option maxHeartbeats 4000000 in
set_option maxRecDepth 100000 in
theorem ref14_readTopics_go (s : Bs) (hs : s.length ≤ 1000000) (n : Nat) (hc : cntR 6 s = (n, 0)) (lf : List TopS) (mf : Nat) (ef : Int) (hr : topsR s = (lf, mf, ef)) {W0 w : World} {K : Know} {L : List Res} (h : St W0 w K L) :
    Calls Try.prog 26 #[.string (bb s)] w fun en w' => ∃ (v : Value) (lr : List (TopS × Value)), en = .returned (.tuple #[v, .int .i64 mf, .int .i64 ef]) ∧ lr.map (·.1) = lf ∧ St W0 w' (K.and (Know.tops v lr)) L := by
  obtain ⟨hgo, hle⟩ := topsR_go hc
  rw [hr] at hgo
  have H := Lib.hid h
  have HSL := Lib.hid hs
  have HC := Lib.hid hc
  have HNB := Lib.hid (show n ≤ 1000000 by omega)
  have HGO := Lib.hid hgo.symm
  have HP4 := Lib.hid (show 4 ≤ s.length by omega)
  have hni : (n : Int) ≤ 1000000 := by omega
  clear h hs hc hr hgo hle
  go_enter Try.func26, Try.ntmps26
  go_wp2_with (go_at_call 80; (with_reducible refine (ref14_count s 6 6 rfl (by decide) (by decide) HSL.out n _ HC.out H.out).mono ?_); rintro e_ wn ⟨rfl, h⟩; replace H := Lib.hid h; clear h)
  go_loopw [7, 8, 9, 10, 11, 12, 13, 14] (fun pv ov iv _ _ _ _ _ wr => ∃ (k p : Nat) (acc : List (TopS × Value)) (K2 : Know), k ≤ n ∧ iv = .int .i64 k ∧ pv = .int .i64 p ∧ Hid (acc.length = k) ∧ Hid (p ≤ s.length) ∧ Hid (stepR (acc.map (·.1)) p (topN (n - k) (s.drop p)) = (lf, mf, ef)) ∧ Hid (K2.has K) ∧ Hid (∀ x ∈ acc, K2.has (Know.flat RI x.2 1 x.1.parts)) ∧ St W0 wr K2 (.row ov 51 2 acc.length (acc.flatMap tcells) :: L)) (fun _ _ iv _ _ _ _ _ _ => n - (intOf iv).toNat)
  case atStart => exact ⟨0, 4, [], K, Nat.zero_le _, rfl, rfl, Lib.hid rfl, HP4, Lib.hid HGO.out, Lib.hid (Know.has_refl _), Lib.hid (fun x hx => by cases hx), H.out.rowLit [] 51 2 0 rfl (by decide)⟩
  case round =>
    obtain ⟨k, p, acc, K2, hk, rfl, rfl, HAL, HPL, HP, HKK, HALL, hst⟩ := hrel
    clear H
    have H := Lib.hid hst
    clear hst
    by_cases hlt : k < n
    · have hkn : (k : Int) < (n : Int) := by omega
      have hP1 := HP.out
      rw [show n - k = (n - (k + 1)) + 1 by omega] at hP1
      have hsl : (s.length : Int) ≤ 1000000 := by have := HSL.out; omega
      have hp0 : (p : Int) ≤ (s.length : Int) := by have := HPL.out; omega
      have HTE := Lib.hid (takeEnd s p)
      have HX := Lib.hid (show (s.drop p).length ≤ 140737488355328 by rw [List.length_drop]; have := HSL.out; omega)
      cases hv : refixed 2 (s.drop p) with
      | error er =>
        have h0 := refixed_err hv
        rw [stepR_err hv] at hP1
        cases hP1
        have HV := Lib.hid hv
        have g1 : (ef == 0) = false := by rw [beq_eq_false_iff_ne]; exact h0
        have g2 : (ef != 0) = true := by simp [bne, g1]
        clear hv h0
        as_aux_lemma =>
        go_wp2_with (go_at_call 81; (with_reducible refine (ref04_fixErr _ (s.drop p) ef HTE.out HX.out HV.out H.out).mono ?_); rintro e_ wn ⟨rfl, h⟩; obtain ⟨gb, hgb⟩ : ∃ b, wn.heap.size = b := ⟨_, rfl⟩; have h := h.allocRaw #[.bool false, .string ⟨#[]⟩, .int .i64 0, .int .i64 ef] 128; rw [hgb] at h; have x0 := h.rawCell 0; have x1 := h.rawCell 1; have x2 := h.rawCell 2; have x3 := h.rawCell 3; simp at x0 x1 x2 x3; replace H := Lib.hid h; clear h)
        have hs := H.out.drew
        go_region
        go_wp2
        go_ret3
        exact ⟨_, [], rfl, rfl, hs.drop.drop.know (Know.has_trans HKK.out (tops_nil K))⟩
      | ok x =>
        obtain ⟨⟨nl, d⟩, kk⟩ := x
        have HV := Lib.hid hv
        cases nl with
        | true =>
          rw [stepR_null hv rfl] at hP1
          cases hP1
          clear hv
          as_aux_lemma =>
          go_wp2_with (go_at_call 81; (with_reducible refine (ref04_fixOk _ (s.drop p) true d kk HTE.out HX.out HV.out H.out).mono ?_); rintro e_ wn ⟨rfl, h⟩; obtain ⟨gb, hgb⟩ : ∃ b, wn.heap.size = b := ⟨_, rfl⟩; have h := h.allocRaw #[.bool true, .string (bb d), .int .i64 kk, .int .i64 0] 128; rw [hgb] at h; have x0 := h.rawCell 0; have x1 := h.rawCell 1; have x2 := h.rawCell 2; have x3 := h.rawCell 3; simp at x0 x1 x2 x3; replace H := Lib.hid h; clear h)
          go_ret3
          exact ⟨_, [], rfl, rfl, H.out.drop.drop.know (Know.has_trans HKK.out (tops_nil K))⟩
        | false =>
          obtain ⟨hk2, hkl⟩ := refixed_le hv
          rw [List.length_drop] at hkl
          have hp1 : ((p : Int) + (kk : Int)) ≤ (s.length : Int) := by have := HPL.out; omega
          have hp1n : p + kk ≤ s.length := by have := HPL.out; omega
          have HTE2 := Lib.hid (takeEnd s (p + kk))
          have HX2 := Lib.hid (show (s.drop (p + kk)).length ≤ 1000000 by rw [List.length_drop]; have := HSL.out; omega)
          obtain ⟨⟨m, f⟩, hc2⟩ : ∃ r, cntR 4 (s.drop (p + kk)) = r := ⟨_, rfl⟩
          have HC2 := Lib.hid hc2
          by_cases h0 : f = 0
          rotate_left
          · rw [stepR_cnt hv rfl hc2 h0] at hP1
            cases hP1
            have g1 : (ef == 0) = false := by rw [beq_eq_false_iff_ne]; exact h0
            have g2 : (ef != 0) = true := by simp [bne, g1]
            clear hv hc2 h0 hk2 hkl
            as_aux_lemma =>
            go_wp2_with (first
    | (go_at_call 81; (with_reducible refine (ref04_fixOk _ (s.drop p) false d kk HTE.out HX.out HV.out H.out).mono ?_); rintro e_ wn ⟨rfl, h⟩; obtain ⟨gb, hgb⟩ : ∃ b, wn.heap.size = b := ⟨_, rfl⟩; have h := h.allocRaw #[.bool false, .string (bb d), .int .i64 kk, .int .i64 0] 128; rw [hgb] at h; have x0 := h.rawCell 0; have x1 := h.rawCell 1; have x2 := h.rawCell 2; have x3 := h.rawCell 3; simp at x0 x1 x2 x3; replace H := Lib.hid h; clear h)
    | (go_at_call 80; (with_reducible refine (ref14_countT _ (s.drop (p + kk)) HTE2.out 4 4 rfl (by decide) (by decide) HX2.out m ef HC2.out H.out).mono ?_); rintro e_ wn ⟨rfl, h⟩; have x0 := h.rawCell 0; have x1 := h.rawCell 1; have x2 := h.rawCell 2; have x3 := h.rawCell 3; simp at x0 x1 x2 x3; replace H := Lib.hid h; clear h))
            go_ret3
            exact ⟨_, [], rfl, rfl, H.out.drop.drop.know (Know.has_trans HKK.out (tops_nil K))⟩
          subst h0
          rw [stepR_next hv rfl hc2] at hP1
          obtain ⟨_, hml⟩ := cntR_zero (by decide) hc2
          rw [List.length_drop] at hml
          obtain ⟨p2, hp2⟩ : ∃ p2, p + kk + 4 = p2 := ⟨_, rfl⟩
          rw [hp2] at hP1
          have HP2 := Lib.hid hP1
          have HML := Lib.hid (show p2 + 4 * m ≤ s.length by omega)
          have hmi : (m : Int) ≤ 1000000 := by have := HSL.out; omega
          have HP2E := Lib.hid hp2
          have hpi : (p : Int) + (kk : Int) + 4 = (p2 : Int) := by omega
          clear hv hc2 hP1 hk2 hkl hml hp2
          as_aux_lemma =>
          go_wp2_with (first
    | (go_at_call 81; (with_reducible refine (ref04_fixOk _ (s.drop p) false d kk HTE.out HX.out HV.out H.out).mono ?_); rintro e_ wn ⟨rfl, h⟩; obtain ⟨gb, hgb⟩ : ∃ b, wn.heap.size = b := ⟨_, rfl⟩; have h := h.allocRaw #[.bool false, .string (bb d), .int .i64 kk, .int .i64 0] 128; rw [hgb] at h; have x0 := h.rawCell 0; have x1 := h.rawCell 1; have x2 := h.rawCell 2; have x3 := h.rawCell 3; simp at x0 x1 x2 x3; replace H := Lib.hid h; clear h)
    | (go_at_call 80; (with_reducible refine (ref14_countT _ (s.drop (p + kk)) HTE2.out 4 4 rfl (by decide) (by decide) HX2.out m 0 HC2.out H.out).mono ?_); rintro e_ wn ⟨rfl, h⟩; have x0 := h.rawCell 0; have x1 := h.rawCell 1; have x2 := h.rawCell 2; have x3 := h.rawCell 3; simp at x0 x1 x2 x3; obtain ⟨tb, htb⟩ : ∃ b, wn.heap.size = b := ⟨_, rfl⟩; have h := h.allocRaw #[.string (bb d), .slice none 0 0] 51; rw [htb] at h; replace H := Lib.hid h; clear h))
          go_loopw [7, 14] (fun pv iv wr => ∃ (k2 q : Nat) (rv : Value) (ps : List Int), k2 ≤ m ∧ iv = .int .i64 k2 ∧ pv = .int .i64 q ∧ Hid (q = p2 + 4 * k2) ∧ Hid (ps.length = k2) ∧ Hid (ps = intsB k2 (s.drop p2)) ∧ St W0 wr K2 (.raw tb #[.string (bb d), rv] 51 :: .row rv 3 1 ps.length (ps.flatMap fun x => [.int .i64 x]) :: .row u8 51 2 acc.length (acc.flatMap tcells) :: L)) (fun _ iv _ => m - (intOf iv).toNat)
          case atStart => exact ⟨0, p2, _, [], Nat.zero_le _, rfl, by first | rfl | (rw [hpi]) | (simp only [hpi]), Lib.hid rfl, Lib.hid rfl, Lib.hid rfl, ((H.out.p1.drop).nilRow 3 1).p1⟩
          case round =>
            obtain ⟨k2, q, rv, ps, hk2, rfl, rfl, HQ, HPN, HPS, hst⟩ := hrel
            obtain ⟨qr, cr, hrv⟩ := hst.p1.rowAny
            subst hrv
            clear H
            have H := Lib.hid hst
            clear hst
            by_cases hlt2 : k2 < m
            · have hkm : (k2 : Int) < (m : Int) := by omega
              have hq4 : (q : Int) + 4 ≤ (s.length : Int) := by have := HQ.out; have := HML.out; omega
              obtain ⟨a, ha⟩ : ∃ a, sInt ((s.drop q).take 4) = a := ⟨_, rfl⟩
              have HPS2 := Lib.hid (show ps ++ [a] = intsB (k2 + 1) (s.drop p2) by rw [intsB_snoc, ← HPS.out, List.drop_drop, ← HQ.out, ha])
              have HAE := Lib.hid ha
              have HT8 := Lib.hid (show ((s.drop q).take 4).length ≤ 8 by rw [List.length_take]; omega)
              obtain ⟨q4, hq4e⟩ : ∃ q4, q + 4 = q4 := ⟨_, rfl⟩
              have HT4 := Lib.hid (show List.take (q4 - q) (s.drop q) = (s.drop q).take 4 by rw [← hq4e, Nat.add_sub_cancel_left])
              have hw4 : IntKind.i64.wrap ((q : Int) + 4) = (q4 : Int) := by rw [IntKind.wrap_i64]; omega
              have hw5 : IntKind.i64.wrap (q4 : Int) = (q4 : Int) := by rw [IntKind.wrap_i64]; omega
              have hqa : (q4 : Int) ≤ (s.length : Int) := by omega
              have hqb : q ≤ q4 := by omega
              have hqc : (q : Int) ≤ (q4 : Int) := by omega
              have hq4i : (q : Int) + 4 = (q4 : Int) := by omega
              clear hq4e
              have HPB := Lib.hid (show ps.length ≤ 1000000 by have := HPN.out; omega)
              clear ha
              go_wp2_with fail
              have hs := H.out.drew
              refine wp_region_held_drew (S := fun _ => True) (by kernel_rfl) trivial (fun hHeld => ?_)
              refine wpAnyH_take (i := 0) (oi := { dst := some 66, op := Op.fieldAddr 51 (Operand.tmp 13) 1, type := 0, pos := "ref.go:113", after := #[], guard := none }) (v := ?_) rfl (by kernel_rfl) (by kernel_rfl) (by kernel_rfl) (fun _ _ _ h => h) (Or.inl ⟨by rfl, ?_⟩) (by assumption) ?_
              rotate_left
              · intro w hSw; (try dsimp only at hSw); go_simp; try with_reducible rfl
              simp only [Act.put, List.setIfInBounds_toArray, List.set_cons_zero, List.set_cons_succ]
              refine wpAnyH_take (i := 2) (oi := { dst := some 68, op := Op.move (Operand.tmp 0), type := 9, pos := "ref.go:113", after := #[], guard := none }) (v := ?_) rfl (by kernel_rfl) (by kernel_rfl) (by kernel_rfl) (fun _ _ _ h => h) (Or.inl ⟨by rfl, ?_⟩) (by assumption) ?_
              rotate_left
              · intro w hSw; (try dsimp only at hSw); go_simp; try with_reducible rfl
              simp only [Act.put, List.setIfInBounds_toArray, List.set_cons_zero, List.set_cons_succ]
              refine wpAnyH_take (i := 3) (oi := { dst := some 69, op := Op.move (Operand.tmp 7), type := 3, pos := "ref.go:113", after := #[], guard := none }) (v := ?_) rfl (by kernel_rfl) (by kernel_rfl) (by kernel_rfl) (fun _ _ _ h => h) (Or.inl ⟨by rfl, ?_⟩) (by assumption) ?_
              rotate_left
              · intro w hSw; (try dsimp only at hSw); go_simp; try with_reducible rfl
              simp only [Act.put, List.setIfInBounds_toArray, List.set_cons_zero, List.set_cons_succ]
              refine wpAnyH_take (i := 4) (oi := { dst := some 70, op := Op.move (Operand.tmp 7), type := 3, pos := "ref.go:113", after := #[], guard := none }) (v := ?_) rfl (by kernel_rfl) (by kernel_rfl) (by kernel_rfl) (fun _ _ _ h => h) (Or.inl ⟨by rfl, ?_⟩) (by assumption) ?_
              rotate_left
              · intro w hSw; (try dsimp only at hSw); go_simp; try with_reducible rfl
              simp only [Act.put, List.setIfInBounds_toArray, List.set_cons_zero, List.set_cons_succ]
              refine wpAnyH_take (i := 5) (oi := { dst := some 71, op := Op.binOp BinOp.add 3 (Operand.tmp 70) (Operand.const (Value.int IntKind.i64 4)) 3, type := 3, pos := "ref.go:113", after := #[{ on := 4, ground := Ground.data }], guard := none }) (v := ?_) rfl (by kernel_rfl) (by kernel_rfl) (by kernel_rfl) (fun _ _ _ h => h) (Or.inl ⟨by rfl, ?_⟩) (by assumption) ?_
              rotate_left
              · intro w hSw; (try dsimp only at hSw); go_simp; try with_reducible rfl
              simp only [Act.put, List.setIfInBounds_toArray, List.set_cons_zero, List.set_cons_succ]
              refine wpAnyH_take (i := 6) (oi := { dst := some 72, op := Op.slice 9 (Operand.tmp 68) (some (Operand.tmp 69)) (some (Operand.tmp 71)) none, type := 9, pos := "ref.go:113", after := #[{ on := 2, ground := Ground.data }, { on := 3, ground := Ground.data }, { on := 5, ground := Ground.data }], guard := none }) (v := ?_) rfl (by kernel_rfl) (by kernel_rfl) (by kernel_rfl) (fun _ _ _ h => h) (Or.inl ⟨by rfl, ?_⟩) (by assumption) ?_
              rotate_left
              · intro w hSw; (try dsimp only at hSw); go_simp; try with_reducible rfl
              simp only [Act.put, List.setIfInBounds_toArray, List.set_cons_zero, List.set_cons_succ]
              refine wpAnyH_ready (rs := [1, 7]) (by kernel_rfl) (by simp) (AllReadyH.cons (o := { dst := some 67, op := Op.load 49 (Operand.tmp 66), type := 49, pos := "ref.go:113", after := #[{ on := 0, ground := Ground.data }], guard := none }) rfl (fun KK hK => ?_) (AllReadyH.cons (o := { dst := some 73, op := Op.call { callee := Callee.value (Operand.func 76), args := #[Operand.tmp 72], argTypes := #[9] }, type := 3, pos := "ref.go:113", after := #[{ on := 6, ground := Ground.data }], guard := none }) rfl (fun KK hK => ?_) AllReadyH.nil))
              · have c1 := hs.rawCell 1
                simp at c1
                go_simp
                refine hK.out _ _ (trivial) (fun hHeld => ?_)
                clear hK KK
                try simp only [Act.put, List.setIfInBounds_toArray, List.set_cons_zero, List.set_cons_succ]
                clear c1
                refine wpAnyH_ready (rs := [7]) (by kernel_rfl) (by simp) (AllReadyH.cons (o := { dst := some 73, op := Op.call { callee := Callee.value (Operand.func 76), args := #[Operand.tmp 72], argTypes := #[9] }, type := 3, pos := "ref.go:113", after := #[{ on := 6, ground := Ground.data }], guard := none }) rfl (fun KK hK => ?_) AllReadyH.nil)
                · go_simp
                  go_at_call 76
                  with_reducible refine (sr_intT _ ((s.drop q).take 4) HT4.out a HAE.out HT8.out hs).mono ?_
                  rintro e wq ⟨rfl, hs⟩
                  refine hK.out _ _ (trivial) (fun hHeld => ?_)
                  clear hK KK
                  try simp only [Act.put, List.setIfInBounds_toArray, List.set_cons_zero, List.set_cons_succ]
                  refine wpAnyH_ready (rs := [8]) (by kernel_rfl) (by simp) (AllReadyH.cons (o := { dst := some 74, op := Op.buildSlice 49 1 #[(0, Operand.tmp 73)], type := 49, pos := "ref.go:113", after := #[{ on := 7, ground := Ground.data }], guard := none }) rfl (fun KK hK => ?_) AllReadyH.nil)
                  · rw [if_pos (by rfl)]
                    refine op_value (v := .slice (some ⟨wq.heap.size, 0, none⟩) 1 1) (w' := wq.alloc (.cells #[.int .i64 a] 3 (0, 0))) (by go_simp) ?_
                    obtain ⟨wy, bS, ey, eb, hs⟩ := hs.allocEx #[.int .i64 a] 3
                    rw [ey, eb]
                    clear ey eb
                    refine hK.out _ _ (trivial) (fun hHeld => ?_)
                    clear hK KK
                    try simp only [Act.put, List.setIfInBounds_toArray, List.set_cons_zero, List.set_cons_succ]
                    refine wpAnyH_ready (rs := [9]) (by kernel_rfl) (by simp) (AllReadyH.cons (o := { dst := some 75, op := Op.call { callee := Callee.builtin Builtin.append, args := #[Operand.tmp 67, Operand.tmp 74], argTypes := #[49, 49] }, type := 49, pos := "ref.go:113", after := #[{ on := 1, ground := Ground.data }, { on := 8, ground := Ground.data }, { on := 7, ground := Ground.chain }], guard := none }) rfl (fun KK hK => ?_) AllReadyH.nil)
                    · rw [if_pos (by rfl)]
                      refine op_app1 (.tmp 67) (.tmp 74) 49 rfl 3 Try.underlying49 elem_int (.slice qr ps.length cr) ps.length _ (by rfl) bS #[.int .i64 a] 3 hs.p2.p1 (by rfl) rfl (by simp [Value.oneCell']) (by have := HPB.out; unfold maxLen; omega) (by have := HPB.out; omega) (fun v' w' h => ?_)
                      obtain ⟨qv, cv, hqv⟩ := h.rowAny
                      subst hqv
                      have hs := h.p1
                      clear h
                      refine hK.out _ _ (trivial) (fun hHeld => ?_)
                      clear hK KK
                      try simp only [Act.put, List.setIfInBounds_toArray, List.set_cons_zero, List.set_cons_succ]
                      refine wpAnyH_take (i := 10) (oi := { dst := some 76, op := Op.fieldAddr 51 (Operand.tmp 13) 1, type := 0, pos := "ref.go:113", after := #[{ on := 0, ground := Ground.phase }, { on := 1, ground := Ground.phase }, { on := 2, ground := Ground.phase }, { on := 3, ground := Ground.phase }, { on := 4, ground := Ground.phase }, { on := 5, ground := Ground.phase }, { on := 6, ground := Ground.phase }, { on := 7, ground := Ground.phase }, { on := 8, ground := Ground.phase }, { on := 9, ground := Ground.phase }], guard := none }) (v := ?_) rfl (by kernel_rfl) (by kernel_rfl) (by kernel_rfl) (fun _ _ _ h => h) (Or.inl ⟨by rfl, ?_⟩) (by assumption) ?_
                      rotate_left
                      · intro w hSw; (try dsimp only at hSw); go_simp; try with_reducible rfl
                      simp only [Act.put, List.setIfInBounds_toArray, List.set_cons_zero, List.set_cons_succ]
                      refine wpAnyH_ready (rs := [11]) (by kernel_rfl) (by simp) (AllReadyH.cons (o := { dst := none, op := Op.store 49 (Operand.tmp 76) (Operand.tmp 75), type := 0, pos := "ref.go:113", after := #[{ on := 10, ground := Ground.data }, { on := 9, ground := Ground.data }, { on := 9, ground := Ground.chain }, { on := 0, ground := Ground.phase }, { on := 1, ground := Ground.phase }, { on := 2, ground := Ground.phase }, { on := 3, ground := Ground.phase }, { on := 4, ground := Ground.phase }, { on := 5, ground := Ground.phase }, { on := 6, ground := Ground.phase }, { on := 7, ground := Ground.phase }, { on := 8, ground := Ground.phase }, { on := 9, ground := Ground.phase }], guard := none }) rfl (fun KK hK => ?_) AllReadyH.nil)
                      · have f1 := hs.rawFree 1
                        have c1 := hs.rawCell 1
                        simp at c1
                        rw [if_pos (by rfl)]
                        refine op_skip (w' := w'.setCell ⟨tb, 1, none⟩ (.slice qv (ps.length + 1) cv)) (by go_simp) ?_
                        obtain ⟨wz, ez, hs⟩ := hs.setEx 1 (.slice qv (ps.length + 1) cv)
                        rw [ez]
                        clear ez f1 c1
                        refine hK.out _ _ (trivial) (fun hHeld => ?_)
                        clear hK KK
                        try simp only [Act.put, List.setIfInBounds_toArray, List.set_cons_zero, List.set_cons_succ]
                        refine wpAnyH_done (by kernel_rfl) ?_ _
                        clear hHeld
                        go_wp2_with fail
                        go_roundw
                        case rel => exact ⟨k2 + 1, q4, _, ps ++ [a], hlt2, by go_num, by first | rfl | go_num, Lib.hid (by have := HQ.out; omega), Lib.hid (by rw [List.length_append, HPN.out]; rfl), HPS2, by rw [List.length_append, List.flatMap_append]; exact hs⟩
                        case measure => first | (simp [intOf]; done) | (simp [intOf]; omega)
              · go_simp
                go_at_call 76
                with_reducible refine (sr_intT _ ((s.drop q).take 4) HT4.out a HAE.out HT8.out hs).mono ?_
                rintro e wq ⟨rfl, hs⟩
                refine hK.out _ _ (trivial) (fun hHeld => ?_)
                clear hK KK
                try simp only [Act.put, List.setIfInBounds_toArray, List.set_cons_zero, List.set_cons_succ]
                refine wpAnyH_ready (rs := [1, 8]) (by kernel_rfl) (by simp) (AllReadyH.cons (o := { dst := some 67, op := Op.load 49 (Operand.tmp 66), type := 49, pos := "ref.go:113", after := #[{ on := 0, ground := Ground.data }], guard := none }) rfl (fun KK hK => ?_) (AllReadyH.cons (o := { dst := some 74, op := Op.buildSlice 49 1 #[(0, Operand.tmp 73)], type := 49, pos := "ref.go:113", after := #[{ on := 7, ground := Ground.data }], guard := none }) rfl (fun KK hK => ?_) AllReadyH.nil))
                · have c1 := hs.rawCell 1
                  simp at c1
                  go_simp
                  refine hK.out _ _ (trivial) (fun hHeld => ?_)
                  clear hK KK
                  try simp only [Act.put, List.setIfInBounds_toArray, List.set_cons_zero, List.set_cons_succ]
                  clear c1
                  refine wpAnyH_ready (rs := [8]) (by kernel_rfl) (by simp) (AllReadyH.cons (o := { dst := some 74, op := Op.buildSlice 49 1 #[(0, Operand.tmp 73)], type := 49, pos := "ref.go:113", after := #[{ on := 7, ground := Ground.data }], guard := none }) rfl (fun KK hK => ?_) AllReadyH.nil)
                  · rw [if_pos (by rfl)]
                    refine op_value (v := .slice (some ⟨wq.heap.size, 0, none⟩) 1 1) (w' := wq.alloc (.cells #[.int .i64 a] 3 (0, 0))) (by go_simp) ?_
                    obtain ⟨wy, bS, ey, eb, hs⟩ := hs.allocEx #[.int .i64 a] 3
                    rw [ey, eb]
                    clear ey eb
                    refine hK.out _ _ (trivial) (fun hHeld => ?_)
                    clear hK KK
                    try simp only [Act.put, List.setIfInBounds_toArray, List.set_cons_zero, List.set_cons_succ]
                    refine wpAnyH_ready (rs := [9]) (by kernel_rfl) (by simp) (AllReadyH.cons (o := { dst := some 75, op := Op.call { callee := Callee.builtin Builtin.append, args := #[Operand.tmp 67, Operand.tmp 74], argTypes := #[49, 49] }, type := 49, pos := "ref.go:113", after := #[{ on := 1, ground := Ground.data }, { on := 8, ground := Ground.data }, { on := 7, ground := Ground.chain }], guard := none }) rfl (fun KK hK => ?_) AllReadyH.nil)
                    · rw [if_pos (by rfl)]
                      refine op_app1 (.tmp 67) (.tmp 74) 49 rfl 3 Try.underlying49 elem_int (.slice qr ps.length cr) ps.length _ (by rfl) bS #[.int .i64 a] 3 hs.p2.p1 (by rfl) rfl (by simp [Value.oneCell']) (by have := HPB.out; unfold maxLen; omega) (by have := HPB.out; omega) (fun v' w' h => ?_)
                      obtain ⟨qv, cv, hqv⟩ := h.rowAny
                      subst hqv
                      have hs := h.p1
                      clear h
                      refine hK.out _ _ (trivial) (fun hHeld => ?_)
                      clear hK KK
                      try simp only [Act.put, List.setIfInBounds_toArray, List.set_cons_zero, List.set_cons_succ]
                      refine wpAnyH_take (i := 10) (oi := { dst := some 76, op := Op.fieldAddr 51 (Operand.tmp 13) 1, type := 0, pos := "ref.go:113", after := #[{ on := 0, ground := Ground.phase }, { on := 1, ground := Ground.phase }, { on := 2, ground := Ground.phase }, { on := 3, ground := Ground.phase }, { on := 4, ground := Ground.phase }, { on := 5, ground := Ground.phase }, { on := 6, ground := Ground.phase }, { on := 7, ground := Ground.phase }, { on := 8, ground := Ground.phase }, { on := 9, ground := Ground.phase }], guard := none }) (v := ?_) rfl (by kernel_rfl) (by kernel_rfl) (by kernel_rfl) (fun _ _ _ h => h) (Or.inl ⟨by rfl, ?_⟩) (by assumption) ?_
                      rotate_left
                      · intro w hSw; (try dsimp only at hSw); go_simp; try with_reducible rfl
                      simp only [Act.put, List.setIfInBounds_toArray, List.set_cons_zero, List.set_cons_succ]
                      refine wpAnyH_ready (rs := [11]) (by kernel_rfl) (by simp) (AllReadyH.cons (o := { dst := none, op := Op.store 49 (Operand.tmp 76) (Operand.tmp 75), type := 0, pos := "ref.go:113", after := #[{ on := 10, ground := Ground.data }, { on := 9, ground := Ground.data }, { on := 9, ground := Ground.chain }, { on := 0, ground := Ground.phase }, { on := 1, ground := Ground.phase }, { on := 2, ground := Ground.phase }, { on := 3, ground := Ground.phase }, { on := 4, ground := Ground.phase }, { on := 5, ground := Ground.phase }, { on := 6, ground := Ground.phase }, { on := 7, ground := Ground.phase }, { on := 8, ground := Ground.phase }, { on := 9, ground := Ground.phase }], guard := none }) rfl (fun KK hK => ?_) AllReadyH.nil)
                      · have f1 := hs.rawFree 1
                        have c1 := hs.rawCell 1
                        simp at c1
                        rw [if_pos (by rfl)]
                        refine op_skip (w' := w'.setCell ⟨tb, 1, none⟩ (.slice qv (ps.length + 1) cv)) (by go_simp) ?_
                        obtain ⟨wz, ez, hs⟩ := hs.setEx 1 (.slice qv (ps.length + 1) cv)
                        rw [ez]
                        clear ez f1 c1
                        refine hK.out _ _ (trivial) (fun hHeld => ?_)
                        clear hK KK
                        try simp only [Act.put, List.setIfInBounds_toArray, List.set_cons_zero, List.set_cons_succ]
                        refine wpAnyH_done (by kernel_rfl) ?_ _
                        clear hHeld
                        go_wp2_with fail
                        go_roundw
                        case rel => exact ⟨k2 + 1, q4, _, ps ++ [a], hlt2, by go_num, by first | rfl | go_num, Lib.hid (by have := HQ.out; omega), Lib.hid (by rw [List.length_append, HPN.out]; rfl), HPS2, by rw [List.length_append, List.flatMap_append]; exact hs⟩
                        case measure => first | (simp [intOf]; done) | (simp [intOf]; omega)
                · rw [if_pos (by rfl)]
                  refine op_value (v := .slice (some ⟨wq.heap.size, 0, none⟩) 1 1) (w' := wq.alloc (.cells #[.int .i64 a] 3 (0, 0))) (by go_simp) ?_
                  obtain ⟨wy, bS, ey, eb, hs⟩ := hs.allocEx #[.int .i64 a] 3
                  rw [ey, eb]
                  clear ey eb
                  refine hK.out _ _ (trivial) (fun hHeld => ?_)
                  clear hK KK
                  try simp only [Act.put, List.setIfInBounds_toArray, List.set_cons_zero, List.set_cons_succ]
                  refine wpAnyH_ready (rs := [1]) (by kernel_rfl) (by simp) (AllReadyH.cons (o := { dst := some 67, op := Op.load 49 (Operand.tmp 66), type := 49, pos := "ref.go:113", after := #[{ on := 0, ground := Ground.data }], guard := none }) rfl (fun KK hK => ?_) AllReadyH.nil)
                  · have c1 := hs.p1.rawCell 1
                    simp at c1
                    go_simp
                    refine hK.out _ _ (trivial) (fun hHeld => ?_)
                    clear hK KK
                    try simp only [Act.put, List.setIfInBounds_toArray, List.set_cons_zero, List.set_cons_succ]
                    clear c1
                    refine wpAnyH_ready (rs := [9]) (by kernel_rfl) (by simp) (AllReadyH.cons (o := { dst := some 75, op := Op.call { callee := Callee.builtin Builtin.append, args := #[Operand.tmp 67, Operand.tmp 74], argTypes := #[49, 49] }, type := 49, pos := "ref.go:113", after := #[{ on := 1, ground := Ground.data }, { on := 8, ground := Ground.data }, { on := 7, ground := Ground.chain }], guard := none }) rfl (fun KK hK => ?_) AllReadyH.nil)
                    · rw [if_pos (by rfl)]
                      refine op_app1 (.tmp 67) (.tmp 74) 49 rfl 3 Try.underlying49 elem_int (.slice qr ps.length cr) ps.length _ (by rfl) bS #[.int .i64 a] 3 hs.p2.p1 (by rfl) rfl (by simp [Value.oneCell']) (by have := HPB.out; unfold maxLen; omega) (by have := HPB.out; omega) (fun v' w' h => ?_)
                      obtain ⟨qv, cv, hqv⟩ := h.rowAny
                      subst hqv
                      have hs := h.p1
                      clear h
                      refine hK.out _ _ (trivial) (fun hHeld => ?_)
                      clear hK KK
                      try simp only [Act.put, List.setIfInBounds_toArray, List.set_cons_zero, List.set_cons_succ]
                      refine wpAnyH_take (i := 10) (oi := { dst := some 76, op := Op.fieldAddr 51 (Operand.tmp 13) 1, type := 0, pos := "ref.go:113", after := #[{ on := 0, ground := Ground.phase }, { on := 1, ground := Ground.phase }, { on := 2, ground := Ground.phase }, { on := 3, ground := Ground.phase }, { on := 4, ground := Ground.phase }, { on := 5, ground := Ground.phase }, { on := 6, ground := Ground.phase }, { on := 7, ground := Ground.phase }, { on := 8, ground := Ground.phase }, { on := 9, ground := Ground.phase }], guard := none }) (v := ?_) rfl (by kernel_rfl) (by kernel_rfl) (by kernel_rfl) (fun _ _ _ h => h) (Or.inl ⟨by rfl, ?_⟩) (by assumption) ?_
                      rotate_left
                      · intro w hSw; (try dsimp only at hSw); go_simp; try with_reducible rfl
                      simp only [Act.put, List.setIfInBounds_toArray, List.set_cons_zero, List.set_cons_succ]
                      refine wpAnyH_ready (rs := [11]) (by kernel_rfl) (by simp) (AllReadyH.cons (o := { dst := none, op := Op.store 49 (Operand.tmp 76) (Operand.tmp 75), type := 0, pos := "ref.go:113", after := #[{ on := 10, ground := Ground.data }, { on := 9, ground := Ground.data }, { on := 9, ground := Ground.chain }, { on := 0, ground := Ground.phase }, { on := 1, ground := Ground.phase }, { on := 2, ground := Ground.phase }, { on := 3, ground := Ground.phase }, { on := 4, ground := Ground.phase }, { on := 5, ground := Ground.phase }, { on := 6, ground := Ground.phase }, { on := 7, ground := Ground.phase }, { on := 8, ground := Ground.phase }, { on := 9, ground := Ground.phase }], guard := none }) rfl (fun KK hK => ?_) AllReadyH.nil)
                      · have f1 := hs.rawFree 1
                        have c1 := hs.rawCell 1
                        simp at c1
                        rw [if_pos (by rfl)]
                        refine op_skip (w' := w'.setCell ⟨tb, 1, none⟩ (.slice qv (ps.length + 1) cv)) (by go_simp) ?_
                        obtain ⟨wz, ez, hs⟩ := hs.setEx 1 (.slice qv (ps.length + 1) cv)
                        rw [ez]
                        clear ez f1 c1
                        refine hK.out _ _ (trivial) (fun hHeld => ?_)
                        clear hK KK
                        try simp only [Act.put, List.setIfInBounds_toArray, List.set_cons_zero, List.set_cons_succ]
                        refine wpAnyH_done (by kernel_rfl) ?_ _
                        clear hHeld
                        go_wp2_with fail
                        go_roundw
                        case rel => exact ⟨k2 + 1, q4, _, ps ++ [a], hlt2, by go_num, by first | rfl | go_num, Lib.hid (by have := HQ.out; omega), Lib.hid (by rw [List.length_append, HPN.out]; rfl), HPS2, by rw [List.length_append, List.flatMap_append]; exact hs⟩
                        case measure => first | (simp [intOf]; done) | (simp [intOf]; omega)
            · obtain rfl : k2 = m := by omega
              have y0 := H.out.rawCell 0
              have y1 := H.out.rawCell 1
              simp at y0 y1
              have HAB := Lib.hid (show acc.length ≤ 2147483647 by have := HAL.out; have := HNB.out; omega)
              have HN2 := Lib.hid ((H.out.p1.freezeRow (R := RI) (fun x _ => ⟨rfl, rfl⟩)).drop)
              clear H
              have H := HN2
              clear HN2
              go_wp2_with (at_builtin; refine wpl_app1_st rfl _ _ 22 rfl 51 Try.underlying22 elem_top _ _ _ rfl H.out [.string (bb d), .slice qr ps.length cr] 51 rfl rfl (by simp [Value.oneCell']) (by have := HAB.out; unfold maxLen; omega) (by have := HAB.out; omega) ?_; intro v' w' h; replace H := Lib.hid h; clear h)
              go_roundw
              case rel => exact ⟨k + 1, q, acc ++ [((⟨d, ps⟩ : TopS), .slice qr ps.length cr)], K2.and (Know.flat RI (.slice qr ps.length cr) 1 ps), hlt, by go_num, rfl, Lib.hid (by rw [List.length_append, HAL.out]; rfl), Lib.hid (by have := HQ.out; have := HML.out; omega), Lib.hid (by rw [List.map_append, HQ.out]; have h9 := HP2.out; rw [← HPS.out] at h9; exact h9), Lib.hid (Know.has_trans (Know.has_left (Know.has_refl _)) HKK.out), Lib.hid (fun x hx => by
                rcases List.mem_append.1 hx with hx | hx
                · exact Know.has_left (HALL.out x hx)
                · rw [List.mem_singleton.1 hx]; exact Know.has_right (Know.has_refl _)), by rw [List.length_append, List.flatMap_append]; exact H.out⟩
              case measure => first | (simp [intOf]; done) | (simp [intOf]; omega)
    · obtain rfl : k = n := by omega
      have hp := HP.out
      rw [Nat.sub_self, stepR_zero] at hp
      simp only [Prod.mk.injEq] at hp
      obtain ⟨rfl, rfl, rfl⟩ := hp
      go_wp2
      go_ret3
      have hf := H.out.freezeRow (R := RTop) (fun x _ => ⟨rfl, rfl⟩)
      have hf2 := hf.know (K' := K.and (Know.tops _ acc)) (fun w F hh => ⟨HKK.out _ _ hh.1, hh.2, fun y hy => HALL.out y hy _ _ hh.1⟩)
      first | exact ⟨_, acc, rfl, rfl, hf2⟩ | exact ⟨_, rfl, acc, rfl, hf2⟩
theorem ref14_readTopics (s : Bs) (hs : s.length ≤ 1000000) (lf : List TopS) (mf : Nat) (ef : Int) (hr : topsR s = (lf, mf, ef)) {W0 w : World} {K : Know} {L : List Res} (h : St W0 w K L) :
    Calls Try.prog 26 #[.string (bb s)] w fun en w' => ∃ (v : Value) (lr : List (TopS × Value)), en = .returned (.tuple #[v, .int .i64 mf, .int .i64 ef]) ∧ lr.map (·.1) = lf ∧ St W0 w' (K.and (Know.tops v lr)) L := by
  obtain ⟨⟨n, E⟩, hc⟩ : ∃ r, cntR 6 s = r := ⟨_, rfl⟩
  by_cases h0 : E = 0
  · subst h0
    exact ref14_readTopics_go s hs n hc lf mf ef hr h
  · exact ref14_readTopics_bad s hs n E hc h0 lf mf ef hr h

end Go.Proofs.Ytombolmicfjjpaa

/- Values, checked by definition: the ways. -/
namespace Go.Proofs.Ytombolmicfjjpaa
open Go.RowKit

theorem ref14_rise0 (q : Option Addr) (cap : Nat) (r : Bool) (hr : tRise (([] : List (TopS × Value)).map (·.1)) = r) (hf : FewT []) {W0 w : World} {K : Know} {L : List Res} (hk : K.has (Know.tops (.slice q 0 cap) [])) (h : St W0 w K L) :
    Calls Try.prog 45 #[.slice q 0 cap] w fun en w' => en = .returned (.bool r) ∧ St W0 w' K L := ref14_rise [] q cap r hr hf hk h

set_option maxHeartbeats 2000000 in
set_option maxRecDepth 100000 in
theorem rchk_11 (p e t s u st : Int) (l : List (TopS × Value)) (q : Option Addr) (cap : Nat) (hrg : (decide (0 ≤ p) && (decide (0 ≤ e) && (decide (e ≤ 32767) && (decide (0 ≤ t) && (decide (t ≤ 2147483647) && (decide (0 ≤ u) && decide (-1 ≤ st))))))) = false) (hf : FewT l) {W0 w : World} {K : Know} {L : List Res} (hk : K.has (Know.tops (.slice q l.length cap) l)) (h : St W0 w K L) :
    Calls Try.prog 16 #[.agg #[.int .i64 p, .int .i64 e, .int .i64 t, .int .i64 s, .slice q l.length cap, .int .i64 u, .int .i64 st]] w fun en w' => en = .returned (.int .i64 11) ∧ St W0 w' K L := by
  have HK := Lib.hid hk
  have HF := Lib.hid hf
  obtain ⟨vb, hvb⟩ : ∃ b, w.heap.size = b := ⟨_, rfl⟩
  have h1 := h.allocRaw #[.int .i64 p, .int .i64 e, .int .i64 t, .int .i64 s, .slice q l.length cap, .int .i64 u, .int .i64 st] 24
  rw [hvb] at h1
  have c0 := (h1).rawCell 0
  have c1 := (h1).rawCell 1
  have c2 := (h1).rawCell 2
  have c3 := (h1).rawCell 3
  have c4 := (h1).rawCell 4
  have c5 := (h1).rawCell 5
  have c6 := (h1).rawCell 6
  simp at c0 c1 c2 c3 c4 c5 c6
  have H := Lib.hid h1
  clear h h1 hk hf
  by_cases h0 : 0 ≤ p
  · have k0 : ¬ p < 0 := by omega
    by_cases h1 : 0 ≤ e
    · have k1 : ¬ e < 0 := by omega
      by_cases h2 : e ≤ 32767
      · have k2 : ¬ 32767 < e := by omega
        by_cases h3 : 0 ≤ t
        · have k3 : ¬ t < 0 := by omega
          by_cases h4 : t ≤ 2147483647
          · have k4 : ¬ 2147483647 < t := by omega
            by_cases h5 : 0 ≤ u
            · have k5 : ¬ u < 0 := by omega
              by_cases h6 : -1 ≤ st
              · have k6 : ¬ st < -1 := by omega
                exact absurd hrg (by simp [h0, h1, h2, h3, h4, h5, h6])
              · as_aux_lemma =>
                have k6 : st < -1 := by omega
                clear hrg
                go_enter Try.func16, Try.ntmps16
                go_wp2
                go_ret
                exact ⟨rfl, H.out.drop⟩
            · as_aux_lemma =>
              have k5 : u < 0 := by omega
              clear hrg
              go_enter Try.func16, Try.ntmps16
              go_wp2
              go_ret
              exact ⟨rfl, H.out.drop⟩
          · as_aux_lemma =>
            have k4 : 2147483647 < t := by omega
            clear hrg
            go_enter Try.func16, Try.ntmps16
            go_wp2
            go_ret
            exact ⟨rfl, H.out.drop⟩
        · as_aux_lemma =>
          have k3 : t < 0 := by omega
          clear hrg
          go_enter Try.func16, Try.ntmps16
          go_wp2
          go_ret
          exact ⟨rfl, H.out.drop⟩
      · as_aux_lemma =>
        have k2 : 32767 < e := by omega
        clear hrg
        go_enter Try.func16, Try.ntmps16
        go_wp2
        go_ret
        exact ⟨rfl, H.out.drop⟩
    · as_aux_lemma =>
      have k1 : e < 0 := by omega
      clear hrg
      go_enter Try.func16, Try.ntmps16
      go_wp2
      go_ret
      exact ⟨rfl, H.out.drop⟩
  · as_aux_lemma =>
    have k0 : p < 0 := by omega
    clear hrg
    go_enter Try.func16, Try.ntmps16
    go_wp2
    go_ret
    exact ⟨rfl, H.out.drop⟩

set_option maxHeartbeats 2000000 in
set_option maxRecDepth 100000 in
theorem rchk_12 (p e t s u st : Int) (l : List (TopS × Value)) (q : Option Addr) (cap : Nat) (h0 : 0 ≤ p) (h1 : 0 ≤ e) (h2 : e ≤ 32767) (h3 : 0 ≤ t) (h4 : t ≤ 2147483647) (h5 : 0 ≤ u) (h6 : -1 ≤ st) (hs : s < 0 ∨ 7 ≤ s) (hf : FewT l) {W0 w : World} {K : Know} {L : List Res} (hk : K.has (Know.tops (.slice q l.length cap) l)) (h : St W0 w K L) :
    Calls Try.prog 16 #[.agg #[.int .i64 p, .int .i64 e, .int .i64 t, .int .i64 s, .slice q l.length cap, .int .i64 u, .int .i64 st]] w fun en w' => en = .returned (.int .i64 12) ∧ St W0 w' K L := by
  have HK := Lib.hid hk
  have HF := Lib.hid hf
  obtain ⟨vb, hvb⟩ : ∃ b, w.heap.size = b := ⟨_, rfl⟩
  have h1 := h.allocRaw #[.int .i64 p, .int .i64 e, .int .i64 t, .int .i64 s, .slice q l.length cap, .int .i64 u, .int .i64 st] 24
  rw [hvb] at h1
  have c0 := (h1).rawCell 0
  have c1 := (h1).rawCell 1
  have c2 := (h1).rawCell 2
  have c3 := (h1).rawCell 3
  have c4 := (h1).rawCell 4
  have c5 := (h1).rawCell 5
  have c6 := (h1).rawCell 6
  simp at c0 c1 c2 c3 c4 c5 c6
  have H := Lib.hid h1
  clear h h1 hk hf
  have k0 : ¬ p < 0 := by omega
  have k1 : ¬ e < 0 := by omega
  have k2 : ¬ 32767 < e := by omega
  have k3 : ¬ t < 0 := by omega
  have k4 : ¬ 2147483647 < t := by omega
  have k5 : ¬ u < 0 := by omega
  have k6 : ¬ st < -1 := by omega
  rcases hs with hs | hs
  · as_aux_lemma =>
    go_enter Try.func16, Try.ntmps16
    go_wp2
    go_ret
    exact ⟨rfl, H.out.drop⟩
  · as_aux_lemma =>
    have s1 : ¬ s < 0 := by omega
    have s2 : 6 < s := by omega
    go_enter Try.func16, Try.ntmps16
    go_wp2
    go_ret
    exact ⟨rfl, H.out.drop⟩

set_option maxHeartbeats 2000000 in
set_option maxRecDepth 100000 in
theorem rchk_0f (p e t s u st : Int) (l : List (TopS × Value)) (q : Option Addr) (cap : Nat) (h0 : 0 ≤ p) (h1 : 0 ≤ e) (h2 : e ≤ 32767) (h3 : 0 ≤ t) (h4 : t ≤ 2147483647) (h5 : 0 ≤ u) (h6 : -1 ≤ st) (hs : s = 0) (hem : ¬ l = []) (hf : FewT l) {W0 w : World} {K : Know} {L : List Res} (hk : K.has (Know.tops (.slice q l.length cap) l)) (h : St W0 w K L) :
    Calls Try.prog 16 #[.agg #[.int .i64 p, .int .i64 e, .int .i64 t, .int .i64 s, .slice q l.length cap, .int .i64 u, .int .i64 st]] w fun en w' => en = .returned (.int .i64 10) ∧ St W0 w' K L := by
  have HK := Lib.hid hk
  have HF := Lib.hid hf
  obtain ⟨vb, hvb⟩ : ∃ b, w.heap.size = b := ⟨_, rfl⟩
  have h1 := h.allocRaw #[.int .i64 p, .int .i64 e, .int .i64 t, .int .i64 s, .slice q l.length cap, .int .i64 u, .int .i64 st] 24
  rw [hvb] at h1
  have c0 := (h1).rawCell 0
  have c1 := (h1).rawCell 1
  have c2 := (h1).rawCell 2
  have c3 := (h1).rawCell 3
  have c4 := (h1).rawCell 4
  have c5 := (h1).rawCell 5
  have c6 := (h1).rawCell 6
  simp at c0 c1 c2 c3 c4 c5 c6
  have H := Lib.hid h1
  clear h h1 hk hf
  have k0 : ¬ p < 0 := by omega
  have k1 : ¬ e < 0 := by omega
  have k2 : ¬ 32767 < e := by omega
  have k3 : ¬ t < 0 := by omega
  have k4 : ¬ 2147483647 < t := by omega
  have k5 : ¬ u < 0 := by omega
  have k6 : ¬ st < -1 := by omega
  subst hs
  have hl0 : ((l.length : Int) == 0) = false := by rw [beq_eq_false_iff_ne]; intro h; exact hem (List.length_eq_zero_iff.1 (by omega))
  have hl1 : 0 < l.length := List.length_pos_iff.2 hem
  have hl2 : decide ((0 : Int) < (l.length : Int)) = true := decide_eq_true (by omega)
  go_enter Try.func16, Try.ntmps16
  go_wp2
  go_ret
  exact ⟨rfl, H.out.drop⟩

set_option maxHeartbeats 2000000 in
set_option maxRecDepth 100000 in
theorem rchk_0e0 (p e t s u st : Int) (q : Option Addr) (cap : Nat) (h0 : 0 ≤ p) (h1 : 0 ≤ e) (h2 : e ≤ 32767) (h3 : 0 ≤ t) (h4 : t ≤ 2147483647) (h5 : 0 ≤ u) (h6 : -1 ≤ st) (hs : s = 0) (hb : ¬ st = -1) (hf : FewT []) {W0 w : World} {K : Know} {L : List Res} (hk : K.has (Know.tops (.slice q 0 cap) [])) (h : St W0 w K L) :
    Calls Try.prog 16 #[.agg #[.int .i64 p, .int .i64 e, .int .i64 t, .int .i64 s, .slice q 0 cap, .int .i64 u, .int .i64 st]] w fun en w' => en = .returned (.int .i64 10) ∧ St W0 w' K L := by
  have HK := Lib.hid hk
  have HF := Lib.hid hf
  obtain ⟨vb, hvb⟩ : ∃ b, w.heap.size = b := ⟨_, rfl⟩
  have h1 := h.allocRaw #[.int .i64 p, .int .i64 e, .int .i64 t, .int .i64 s, .slice q 0 cap, .int .i64 u, .int .i64 st] 24
  rw [hvb] at h1
  have c0 := (h1).rawCell 0
  have c1 := (h1).rawCell 1
  have c2 := (h1).rawCell 2
  have c3 := (h1).rawCell 3
  have c4 := (h1).rawCell 4
  have c5 := (h1).rawCell 5
  have c6 := (h1).rawCell 6
  simp at c0 c1 c2 c3 c4 c5 c6
  have H := Lib.hid h1
  clear h h1 hk hf
  have k0 : ¬ p < 0 := by omega
  have k1 : ¬ e < 0 := by omega
  have k2 : ¬ 32767 < e := by omega
  have k3 : ¬ t < 0 := by omega
  have k4 : ¬ 2147483647 < t := by omega
  have k5 : ¬ u < 0 := by omega
  have k6 : ¬ st < -1 := by omega
  subst hs
  have sb : (st == -1) = false := by rw [beq_eq_false_iff_ne]; exact hb
  have sb2 : (st != -1) = true := by simp [bne, sb]
  go_enter Try.func16, Try.ntmps16
  go_wp2
  go_ret
  exact ⟨rfl, H.out.drop⟩

set_option maxHeartbeats 2000000 in
set_option maxRecDepth 100000 in
theorem rchk_0e1 (p e t s u st : Int) (q : Option Addr) (cap : Nat) (h0 : 0 ≤ p) (h1 : 0 ≤ e) (h2 : e ≤ 32767) (h3 : 0 ≤ t) (h4 : t ≤ 2147483647) (h5 : 0 ≤ u) (h6 : -1 ≤ st) (hs : s = 0) (hb : st = -1) (htr : tRise (([] : List (TopS × Value)).map (·.1)) = true) (hf : FewT []) {W0 w : World} {K : Know} {L : List Res} (hk : K.has (Know.tops (.slice q 0 cap) [])) (h : St W0 w K L) :
    Calls Try.prog 16 #[.agg #[.int .i64 p, .int .i64 e, .int .i64 t, .int .i64 s, .slice q 0 cap, .int .i64 u, .int .i64 st]] w fun en w' => en = .returned (.int .i64 0) ∧ St W0 w' K L := by
  have HK := Lib.hid hk
  have HF := Lib.hid hf
  obtain ⟨vb, hvb⟩ : ∃ b, w.heap.size = b := ⟨_, rfl⟩
  have h1 := h.allocRaw #[.int .i64 p, .int .i64 e, .int .i64 t, .int .i64 s, .slice q 0 cap, .int .i64 u, .int .i64 st] 24
  rw [hvb] at h1
  have c0 := (h1).rawCell 0
  have c1 := (h1).rawCell 1
  have c2 := (h1).rawCell 2
  have c3 := (h1).rawCell 3
  have c4 := (h1).rawCell 4
  have c5 := (h1).rawCell 5
  have c6 := (h1).rawCell 6
  simp at c0 c1 c2 c3 c4 c5 c6
  have H := Lib.hid h1
  clear h h1 hk hf
  have k0 : ¬ p < 0 := by omega
  have k1 : ¬ e < 0 := by omega
  have k2 : ¬ 32767 < e := by omega
  have k3 : ¬ t < 0 := by omega
  have k4 : ¬ 2147483647 < t := by omega
  have k5 : ¬ u < 0 := by omega
  have k6 : ¬ st < -1 := by omega
  have HTR := Lib.hid htr
  clear htr
  subst hs
  subst hb
  go_enter Try.func16, Try.ntmps16
  go_wp2_with (go_at_call 45; (with_reducible refine (ref14_rise0 _ _ true HTR.out HF.out HK.out H.out).mono ?_); rintro e_ wn ⟨rfl, h⟩; replace H := Lib.hid h; clear h)
  go_ret
  exact ⟨rfl, H.out.drop⟩

set_option maxHeartbeats 2000000 in
set_option maxRecDepth 100000 in
theorem rchk_me (p e t s u st : Int) (q : Option Addr) (cap : Nat) (h0 : 0 ≤ p) (h1 : 0 ≤ e) (h2 : e ≤ 32767) (h3 : 0 ≤ t) (h4 : t ≤ 2147483647) (h5 : 0 ≤ u) (h6 : -1 ≤ st) (hs : 1 ≤ s) (hs2 : s ≤ 3) (hf : FewT []) {W0 w : World} {K : Know} {L : List Res} (hk : K.has (Know.tops (.slice q 0 cap) [])) (h : St W0 w K L) :
    Calls Try.prog 16 #[.agg #[.int .i64 p, .int .i64 e, .int .i64 t, .int .i64 s, .slice q 0 cap, .int .i64 u, .int .i64 st]] w fun en w' => en = .returned (.int .i64 10) ∧ St W0 w' K L := by
  have HK := Lib.hid hk
  have HF := Lib.hid hf
  obtain ⟨vb, hvb⟩ : ∃ b, w.heap.size = b := ⟨_, rfl⟩
  have h1 := h.allocRaw #[.int .i64 p, .int .i64 e, .int .i64 t, .int .i64 s, .slice q 0 cap, .int .i64 u, .int .i64 st] 24
  rw [hvb] at h1
  have c0 := (h1).rawCell 0
  have c1 := (h1).rawCell 1
  have c2 := (h1).rawCell 2
  have c3 := (h1).rawCell 3
  have c4 := (h1).rawCell 4
  have c5 := (h1).rawCell 5
  have c6 := (h1).rawCell 6
  simp at c0 c1 c2 c3 c4 c5 c6
  have H := Lib.hid h1
  clear h h1 hk hf
  have k0 : ¬ p < 0 := by omega
  have k1 : ¬ e < 0 := by omega
  have k2 : ¬ 32767 < e := by omega
  have k3 : ¬ t < 0 := by omega
  have k4 : ¬ 2147483647 < t := by omega
  have k5 : ¬ u < 0 := by omega
  have k6 : ¬ st < -1 := by omega
  have s1 : ¬ s < 0 := by omega
  have s2 : ¬ 6 < s := by omega
  have s3 : 1 ≤ s := by omega
  have s4 : 0 < s := by omega
  have s5 : (s == 0) = false := by rw [beq_eq_false_iff_ne]; omega
  have s6 : s ≤ 3 := by omega
  go_enter Try.func16, Try.ntmps16
  go_wp2
  go_ret
  exact ⟨rfl, H.out.drop⟩

set_option maxHeartbeats 2000000 in
set_option maxRecDepth 100000 in
theorem rchk_mf1 (p e t s u st : Int) (l : List (TopS × Value)) (q : Option Addr) (cap : Nat) (h0 : 0 ≤ p) (h1 : 0 ≤ e) (h2 : e ≤ 32767) (h3 : 0 ≤ t) (h4 : t ≤ 2147483647) (h5 : 0 ≤ u) (h6 : -1 ≤ st) (hs : 1 ≤ s) (hs2 : s ≤ 3) (hem : ¬ l = []) (hb : st = -1) (hf : FewT l) {W0 w : World} {K : Know} {L : List Res} (hk : K.has (Know.tops (.slice q l.length cap) l)) (h : St W0 w K L) :
    Calls Try.prog 16 #[.agg #[.int .i64 p, .int .i64 e, .int .i64 t, .int .i64 s, .slice q l.length cap, .int .i64 u, .int .i64 st]] w fun en w' => en = .returned (.int .i64 10) ∧ St W0 w' K L := by
  have HK := Lib.hid hk
  have HF := Lib.hid hf
  obtain ⟨vb, hvb⟩ : ∃ b, w.heap.size = b := ⟨_, rfl⟩
  have h1 := h.allocRaw #[.int .i64 p, .int .i64 e, .int .i64 t, .int .i64 s, .slice q l.length cap, .int .i64 u, .int .i64 st] 24
  rw [hvb] at h1
  have c0 := (h1).rawCell 0
  have c1 := (h1).rawCell 1
  have c2 := (h1).rawCell 2
  have c3 := (h1).rawCell 3
  have c4 := (h1).rawCell 4
  have c5 := (h1).rawCell 5
  have c6 := (h1).rawCell 6
  simp at c0 c1 c2 c3 c4 c5 c6
  have H := Lib.hid h1
  clear h h1 hk hf
  have k0 : ¬ p < 0 := by omega
  have k1 : ¬ e < 0 := by omega
  have k2 : ¬ 32767 < e := by omega
  have k3 : ¬ t < 0 := by omega
  have k4 : ¬ 2147483647 < t := by omega
  have k5 : ¬ u < 0 := by omega
  have k6 : ¬ st < -1 := by omega
  have s1 : ¬ s < 0 := by omega
  have s2 : ¬ 6 < s := by omega
  have s3 : 1 ≤ s := by omega
  have s4 : 0 < s := by omega
  have s5 : (s == 0) = false := by rw [beq_eq_false_iff_ne]; omega
  have s6 : s ≤ 3 := by omega
  have hl0 : ((l.length : Int) == 0) = false := by rw [beq_eq_false_iff_ne]; intro h; exact hem (List.length_eq_zero_iff.1 (by omega))
  have hl1 : 0 < l.length := List.length_pos_iff.2 hem
  have hl2 : decide ((0 : Int) < (l.length : Int)) = true := decide_eq_true (by omega)
  subst hb
  go_enter Try.func16, Try.ntmps16
  go_wp2
  go_ret
  exact ⟨rfl, H.out.drop⟩

set_option maxHeartbeats 2000000 in
set_option maxRecDepth 100000 in
theorem rchk_mft (p e t s u st : Int) (l : List (TopS × Value)) (q : Option Addr) (cap : Nat) (h0 : 0 ≤ p) (h1 : 0 ≤ e) (h2 : e ≤ 32767) (h3 : 0 ≤ t) (h4 : t ≤ 2147483647) (h5 : 0 ≤ u) (h6 : -1 ≤ st) (hs : 1 ≤ s) (hs2 : s ≤ 3) (hem : ¬ l = []) (hb : ¬ st = -1) (htr : tRise (l.map (·.1)) = true) (hf : FewT l) {W0 w : World} {K : Know} {L : List Res} (hk : K.has (Know.tops (.slice q l.length cap) l)) (h : St W0 w K L) :
    Calls Try.prog 16 #[.agg #[.int .i64 p, .int .i64 e, .int .i64 t, .int .i64 s, .slice q l.length cap, .int .i64 u, .int .i64 st]] w fun en w' => en = .returned (.int .i64 0) ∧ St W0 w' K L := by
  have HK := Lib.hid hk
  have HF := Lib.hid hf
  obtain ⟨vb, hvb⟩ : ∃ b, w.heap.size = b := ⟨_, rfl⟩
  have h1 := h.allocRaw #[.int .i64 p, .int .i64 e, .int .i64 t, .int .i64 s, .slice q l.length cap, .int .i64 u, .int .i64 st] 24
  rw [hvb] at h1
  have c0 := (h1).rawCell 0
  have c1 := (h1).rawCell 1
  have c2 := (h1).rawCell 2
  have c3 := (h1).rawCell 3
  have c4 := (h1).rawCell 4
  have c5 := (h1).rawCell 5
  have c6 := (h1).rawCell 6
  simp at c0 c1 c2 c3 c4 c5 c6
  have H := Lib.hid h1
  clear h h1 hk hf
  have k0 : ¬ p < 0 := by omega
  have k1 : ¬ e < 0 := by omega
  have k2 : ¬ 32767 < e := by omega
  have k3 : ¬ t < 0 := by omega
  have k4 : ¬ 2147483647 < t := by omega
  have k5 : ¬ u < 0 := by omega
  have k6 : ¬ st < -1 := by omega
  have HTR := Lib.hid htr
  clear htr
  have s1 : ¬ s < 0 := by omega
  have s2 : ¬ 6 < s := by omega
  have s3 : 1 ≤ s := by omega
  have s4 : 0 < s := by omega
  have s5 : (s == 0) = false := by rw [beq_eq_false_iff_ne]; omega
  have s6 : s ≤ 3 := by omega
  have hl0 : ((l.length : Int) == 0) = false := by rw [beq_eq_false_iff_ne]; intro h; exact hem (List.length_eq_zero_iff.1 (by omega))
  have hl1 : 0 < l.length := List.length_pos_iff.2 hem
  have hl2 : decide ((0 : Int) < (l.length : Int)) = true := decide_eq_true (by omega)
  have sb : (st == -1) = false := by rw [beq_eq_false_iff_ne]; exact hb
  have sb2 : (st != -1) = true := by simp [bne, sb]
  go_enter Try.func16, Try.ntmps16
  go_wp2_with (go_at_call 45; (with_reducible refine (ref14_rise l _ _ true HTR.out HF.out HK.out H.out).mono ?_); rintro e_ wn ⟨rfl, h⟩; replace H := Lib.hid h; clear h)
  go_ret
  exact ⟨rfl, H.out.drop⟩

set_option maxHeartbeats 2000000 in
set_option maxRecDepth 100000 in
theorem rchk_mfb (p e t s u st : Int) (l : List (TopS × Value)) (q : Option Addr) (cap : Nat) (h0 : 0 ≤ p) (h1 : 0 ≤ e) (h2 : e ≤ 32767) (h3 : 0 ≤ t) (h4 : t ≤ 2147483647) (h5 : 0 ≤ u) (h6 : -1 ≤ st) (hs : 1 ≤ s) (hs2 : s ≤ 3) (hem : ¬ l = []) (hb : ¬ st = -1) (htr : tRise (l.map (·.1)) = false) (hf : FewT l) {W0 w : World} {K : Know} {L : List Res} (hk : K.has (Know.tops (.slice q l.length cap) l)) (h : St W0 w K L) :
    Calls Try.prog 16 #[.agg #[.int .i64 p, .int .i64 e, .int .i64 t, .int .i64 s, .slice q l.length cap, .int .i64 u, .int .i64 st]] w fun en w' => en = .returned (.int .i64 13) ∧ St W0 w' K L := by
  have HK := Lib.hid hk
  have HF := Lib.hid hf
  obtain ⟨vb, hvb⟩ : ∃ b, w.heap.size = b := ⟨_, rfl⟩
  have h1 := h.allocRaw #[.int .i64 p, .int .i64 e, .int .i64 t, .int .i64 s, .slice q l.length cap, .int .i64 u, .int .i64 st] 24
  rw [hvb] at h1
  have c0 := (h1).rawCell 0
  have c1 := (h1).rawCell 1
  have c2 := (h1).rawCell 2
  have c3 := (h1).rawCell 3
  have c4 := (h1).rawCell 4
  have c5 := (h1).rawCell 5
  have c6 := (h1).rawCell 6
  simp at c0 c1 c2 c3 c4 c5 c6
  have H := Lib.hid h1
  clear h h1 hk hf
  have k0 : ¬ p < 0 := by omega
  have k1 : ¬ e < 0 := by omega
  have k2 : ¬ 32767 < e := by omega
  have k3 : ¬ t < 0 := by omega
  have k4 : ¬ 2147483647 < t := by omega
  have k5 : ¬ u < 0 := by omega
  have k6 : ¬ st < -1 := by omega
  have HTR := Lib.hid htr
  clear htr
  have s1 : ¬ s < 0 := by omega
  have s2 : ¬ 6 < s := by omega
  have s3 : 1 ≤ s := by omega
  have s4 : 0 < s := by omega
  have s5 : (s == 0) = false := by rw [beq_eq_false_iff_ne]; omega
  have s6 : s ≤ 3 := by omega
  have hl0 : ((l.length : Int) == 0) = false := by rw [beq_eq_false_iff_ne]; intro h; exact hem (List.length_eq_zero_iff.1 (by omega))
  have hl1 : 0 < l.length := List.length_pos_iff.2 hem
  have hl2 : decide ((0 : Int) < (l.length : Int)) = true := decide_eq_true (by omega)
  have sb : (st == -1) = false := by rw [beq_eq_false_iff_ne]; exact hb
  have sb2 : (st != -1) = true := by simp [bne, sb]
  go_enter Try.func16, Try.ntmps16
  go_wp2_with (go_at_call 45; (with_reducible refine (ref14_rise l _ _ false HTR.out HF.out HK.out H.out).mono ?_); rintro e_ wn ⟨rfl, h⟩; replace H := Lib.hid h; clear h)
  go_ret
  exact ⟨rfl, H.out.drop⟩

set_option maxHeartbeats 2000000 in
set_option maxRecDepth 100000 in
theorem rchk_hf (p e t s u st : Int) (l : List (TopS × Value)) (q : Option Addr) (cap : Nat) (h0 : 0 ≤ p) (h1 : 0 ≤ e) (h2 : e ≤ 32767) (h3 : 0 ≤ t) (h4 : t ≤ 2147483647) (h5 : 0 ≤ u) (h6 : -1 ≤ st) (hs : 4 ≤ s) (hs2 : s ≤ 6) (hem : ¬ l = []) (hf : FewT l) {W0 w : World} {K : Know} {L : List Res} (hk : K.has (Know.tops (.slice q l.length cap) l)) (h : St W0 w K L) :
    Calls Try.prog 16 #[.agg #[.int .i64 p, .int .i64 e, .int .i64 t, .int .i64 s, .slice q l.length cap, .int .i64 u, .int .i64 st]] w fun en w' => en = .returned (.int .i64 10) ∧ St W0 w' K L := by
  have HK := Lib.hid hk
  have HF := Lib.hid hf
  obtain ⟨vb, hvb⟩ : ∃ b, w.heap.size = b := ⟨_, rfl⟩
  have h1 := h.allocRaw #[.int .i64 p, .int .i64 e, .int .i64 t, .int .i64 s, .slice q l.length cap, .int .i64 u, .int .i64 st] 24
  rw [hvb] at h1
  have c0 := (h1).rawCell 0
  have c1 := (h1).rawCell 1
  have c2 := (h1).rawCell 2
  have c3 := (h1).rawCell 3
  have c4 := (h1).rawCell 4
  have c5 := (h1).rawCell 5
  have c6 := (h1).rawCell 6
  simp at c0 c1 c2 c3 c4 c5 c6
  have H := Lib.hid h1
  clear h h1 hk hf
  have k0 : ¬ p < 0 := by omega
  have k1 : ¬ e < 0 := by omega
  have k2 : ¬ 32767 < e := by omega
  have k3 : ¬ t < 0 := by omega
  have k4 : ¬ 2147483647 < t := by omega
  have k5 : ¬ u < 0 := by omega
  have k6 : ¬ st < -1 := by omega
  have s1 : ¬ s < 0 := by omega
  have s2 : ¬ 6 < s := by omega
  have s3 : 1 ≤ s := by omega
  have s4 : 0 < s := by omega
  have s5 : (s == 0) = false := by rw [beq_eq_false_iff_ne]; omega
  have s6 : ¬ s ≤ 3 := by omega
  have hl0 : ((l.length : Int) == 0) = false := by rw [beq_eq_false_iff_ne]; intro h; exact hem (List.length_eq_zero_iff.1 (by omega))
  have hl1 : 0 < l.length := List.length_pos_iff.2 hem
  have hl2 : decide ((0 : Int) < (l.length : Int)) = true := decide_eq_true (by omega)
  go_enter Try.func16, Try.ntmps16
  go_wp2
  go_ret
  exact ⟨rfl, H.out.drop⟩

set_option maxHeartbeats 2000000 in
set_option maxRecDepth 100000 in
theorem rchk_he1 (p e t s u st : Int) (q : Option Addr) (cap : Nat) (h0 : 0 ≤ p) (h1 : 0 ≤ e) (h2 : e ≤ 32767) (h3 : 0 ≤ t) (h4 : t ≤ 2147483647) (h5 : 0 ≤ u) (h6 : -1 ≤ st) (hs : 4 ≤ s) (hs2 : s ≤ 6) (hb : st = -1) (hf : FewT []) {W0 w : World} {K : Know} {L : List Res} (hk : K.has (Know.tops (.slice q 0 cap) [])) (h : St W0 w K L) :
    Calls Try.prog 16 #[.agg #[.int .i64 p, .int .i64 e, .int .i64 t, .int .i64 s, .slice q 0 cap, .int .i64 u, .int .i64 st]] w fun en w' => en = .returned (.int .i64 10) ∧ St W0 w' K L := by
  have HK := Lib.hid hk
  have HF := Lib.hid hf
  obtain ⟨vb, hvb⟩ : ∃ b, w.heap.size = b := ⟨_, rfl⟩
  have h1 := h.allocRaw #[.int .i64 p, .int .i64 e, .int .i64 t, .int .i64 s, .slice q 0 cap, .int .i64 u, .int .i64 st] 24
  rw [hvb] at h1
  have c0 := (h1).rawCell 0
  have c1 := (h1).rawCell 1
  have c2 := (h1).rawCell 2
  have c3 := (h1).rawCell 3
  have c4 := (h1).rawCell 4
  have c5 := (h1).rawCell 5
  have c6 := (h1).rawCell 6
  simp at c0 c1 c2 c3 c4 c5 c6
  have H := Lib.hid h1
  clear h h1 hk hf
  have k0 : ¬ p < 0 := by omega
  have k1 : ¬ e < 0 := by omega
  have k2 : ¬ 32767 < e := by omega
  have k3 : ¬ t < 0 := by omega
  have k4 : ¬ 2147483647 < t := by omega
  have k5 : ¬ u < 0 := by omega
  have k6 : ¬ st < -1 := by omega
  have s1 : ¬ s < 0 := by omega
  have s2 : ¬ 6 < s := by omega
  have s3 : 1 ≤ s := by omega
  have s4 : 0 < s := by omega
  have s5 : (s == 0) = false := by rw [beq_eq_false_iff_ne]; omega
  have s6 : ¬ s ≤ 3 := by omega
  subst hb
  go_enter Try.func16, Try.ntmps16
  go_wp2
  go_ret
  exact ⟨rfl, H.out.drop⟩

set_option maxHeartbeats 2000000 in
set_option maxRecDepth 100000 in
theorem rchk_he0 (p e t s u st : Int) (q : Option Addr) (cap : Nat) (h0 : 0 ≤ p) (h1 : 0 ≤ e) (h2 : e ≤ 32767) (h3 : 0 ≤ t) (h4 : t ≤ 2147483647) (h5 : 0 ≤ u) (h6 : -1 ≤ st) (hs : 4 ≤ s) (hs2 : s ≤ 6) (hb : ¬ st = -1) (htr : tRise (([] : List (TopS × Value)).map (·.1)) = true) (hf : FewT []) {W0 w : World} {K : Know} {L : List Res} (hk : K.has (Know.tops (.slice q 0 cap) [])) (h : St W0 w K L) :
    Calls Try.prog 16 #[.agg #[.int .i64 p, .int .i64 e, .int .i64 t, .int .i64 s, .slice q 0 cap, .int .i64 u, .int .i64 st]] w fun en w' => en = .returned (.int .i64 0) ∧ St W0 w' K L := by
  have HK := Lib.hid hk
  have HF := Lib.hid hf
  obtain ⟨vb, hvb⟩ : ∃ b, w.heap.size = b := ⟨_, rfl⟩
  have h1 := h.allocRaw #[.int .i64 p, .int .i64 e, .int .i64 t, .int .i64 s, .slice q 0 cap, .int .i64 u, .int .i64 st] 24
  rw [hvb] at h1
  have c0 := (h1).rawCell 0
  have c1 := (h1).rawCell 1
  have c2 := (h1).rawCell 2
  have c3 := (h1).rawCell 3
  have c4 := (h1).rawCell 4
  have c5 := (h1).rawCell 5
  have c6 := (h1).rawCell 6
  simp at c0 c1 c2 c3 c4 c5 c6
  have H := Lib.hid h1
  clear h h1 hk hf
  have k0 : ¬ p < 0 := by omega
  have k1 : ¬ e < 0 := by omega
  have k2 : ¬ 32767 < e := by omega
  have k3 : ¬ t < 0 := by omega
  have k4 : ¬ 2147483647 < t := by omega
  have k5 : ¬ u < 0 := by omega
  have k6 : ¬ st < -1 := by omega
  have HTR := Lib.hid htr
  clear htr
  have s1 : ¬ s < 0 := by omega
  have s2 : ¬ 6 < s := by omega
  have s3 : 1 ≤ s := by omega
  have s4 : 0 < s := by omega
  have s5 : (s == 0) = false := by rw [beq_eq_false_iff_ne]; omega
  have s6 : ¬ s ≤ 3 := by omega
  have sb : (st == -1) = false := by rw [beq_eq_false_iff_ne]; exact hb
  have sb2 : (st != -1) = true := by simp [bne, sb]
  go_enter Try.func16, Try.ntmps16
  go_wp2_with (go_at_call 45; (with_reducible refine (ref14_rise0 _ _ true HTR.out HF.out HK.out H.out).mono ?_); rintro e_ wn ⟨rfl, h⟩; replace H := Lib.hid h; clear h)
  go_ret
  exact ⟨rfl, H.out.drop⟩

end Go.Proofs.Ytombolmicfjjpaa

/- Values, checked by definition. -/
namespace Go.Proofs.Ytombolmicfjjpaa
open Go.RowKit

theorem idle_m (s : Int) (h1 : 1 ≤ s) (h2 : s ≤ 3) : idle s = false := by
  rcases (by omega : s = 1 ∨ s = 2 ∨ s = 3) with rfl | rfl | rfl <;> rfl
theorem idle_h (s : Int) (h1 : 4 ≤ s) : idle s = true := by
  unfold idle
  rw [beq_eq_false_iff_ne.2 (show s ≠ 1 by omega), beq_eq_false_iff_ne.2 (show s ≠ 2 by omega), beq_eq_false_iff_ne.2 (show s ≠ 3 by omega)]
  rfl
theorem ref14_check (v : ValS) (l : List (TopS × Value)) (q : Option Addr) (cap : Nat) (hl : l.map (·.1) = v.tops) (E : Int) (he : v.err = E) (hf : FewT l) {W0 w : World} {K : Know} {L : List Res} (hk : K.has (Know.tops (.slice q l.length cap) l)) (h : St W0 w K L) :
    Calls Try.prog 16 #[.agg #[.int .i64 v.prod, .int .i64 v.epoch, .int .i64 v.timeout, .int .i64 v.state, .slice q l.length cap, .int .i64 v.upd, .int .i64 v.started]] w fun en w' => en = .returned (.int .i64 E) ∧ St W0 w' K L := by
  obtain ⟨p, e, t, s, tops, u, st⟩ := v
  simp only at hl ⊢
  subst hl
  unfold ValS.err ValS.ranged at he
  simp only at he
  cases hrg : (decide (0 ≤ p) && (decide (0 ≤ e) && (decide (e ≤ 32767) && (decide (0 ≤ t) && (decide (t ≤ 2147483647) && (decide (0 ≤ u) && decide (-1 ≤ st))))))) with
  | false =>
    rw [if_pos hrg] at he
    subst he
    exact rchk_11 p e t s u st l q cap hrg hf hk h
  | true =>
    rw [if_neg (by rw [hrg]; decide)] at he
    simp only [Bool.and_eq_true, decide_eq_true_eq] at hrg
    obtain ⟨h0, h1, h2, h3, h4, h5, h6⟩ := hrg
    by_cases hs : s < 0 ∨ 7 ≤ s
    · rw [if_pos hs] at he
      subst he
      exact rchk_12 p e t s u st l q cap h0 h1 h2 h3 h4 h5 h6 hs hf hk h
    · rw [if_neg hs] at he
      have hemp : (l.map (·.1)).isEmpty = decide (l = []) := by cases l <;> simp
      rw [hemp] at he
      rcases (by omega : s = 0 ∨ (1 ≤ s ∧ s ≤ 3) ∨ (4 ≤ s ∧ s ≤ 6)) with hs0 | ⟨m1, m2⟩ | ⟨m1, m2⟩
      · have hi : idle s = true := by rw [hs0]; rfl
        by_cases hem : l = []
        · rw [decide_eq_true hem] at he
          by_cases hb : st = -1
          · rw [if_neg (by rw [hi, hs0, hb]; decide)] at he
            have htr : tRise (l.map (·.1)) = true := by rw [hem]; rfl
            rw [if_neg (by rw [htr]; decide)] at he
            subst he
            subst hem
            exact rchk_0e1 p e t s u st q cap h0 h1 h2 h3 h4 h5 h6 hs0 hb htr hf hk h
          · rw [if_pos (.inr (by rw [hs0, beq_eq_false_iff_ne.2 hb]; rfl))] at he
            subst he
            subst hem
            exact rchk_0e0 p e t s u st q cap h0 h1 h2 h3 h4 h5 h6 hs0 hb hf hk h
        · rw [decide_eq_false hem, if_pos (.inl (by rw [hi]; rfl))] at he
          subst he
          exact rchk_0f p e t s u st l q cap h0 h1 h2 h3 h4 h5 h6 hs0 hem hf hk h
      · have hi := idle_m s m1 m2
        have hz : ¬ s = 0 := by omega
        by_cases hem : l = []
        · rw [decide_eq_true hem, if_pos (.inl (by rw [hi]; rfl))] at he
          subst he
          subst hem
          exact rchk_me p e t s u st q cap h0 h1 h2 h3 h4 h5 h6 m1 m2 hf hk h
        · rw [decide_eq_false hem] at he
          by_cases hb : st = -1
          · rw [if_pos (.inr (by rw [hb, beq_eq_false_iff_ne.2 hz]; rfl))] at he
            subst he
            exact rchk_mf1 p e t s u st l q cap h0 h1 h2 h3 h4 h5 h6 m1 m2 hem hb hf hk h
          · rw [if_neg (by rw [hi, beq_eq_false_iff_ne.2 hz, beq_eq_false_iff_ne.2 hb]; decide)] at he
            cases htr : tRise (l.map (·.1)) with
            | true =>
              rw [if_neg (by rw [htr]; decide)] at he
              subst he
              exact rchk_mft p e t s u st l q cap h0 h1 h2 h3 h4 h5 h6 m1 m2 hem hb htr hf hk h
            | false =>
              rw [if_pos htr] at he
              subst he
              exact rchk_mfb p e t s u st l q cap h0 h1 h2 h3 h4 h5 h6 m1 m2 hem hb htr hf hk h
      · have hi := idle_h s m1
        have hz : ¬ s = 0 := by omega
        by_cases hem : l = []
        · rw [decide_eq_true hem] at he
          by_cases hb : st = -1
          · rw [if_pos (.inr (by rw [hb, beq_eq_false_iff_ne.2 hz]; rfl))] at he
            subst he
            subst hem
            exact rchk_he1 p e t s u st q cap h0 h1 h2 h3 h4 h5 h6 m1 m2 hb hf hk h
          · rw [if_neg (by rw [hi, beq_eq_false_iff_ne.2 hz, beq_eq_false_iff_ne.2 hb]; decide)] at he
            have htr : tRise (l.map (·.1)) = true := by rw [hem]; rfl
            rw [if_neg (by rw [htr]; decide)] at he
            subst he
            subst hem
            exact rchk_he0 p e t s u st q cap h0 h1 h2 h3 h4 h5 h6 m1 m2 hb htr hf hk h
        · rw [decide_eq_false hem, if_pos (.inl (by rw [hi]; rfl))] at he
          subst he
          exact rchk_hf p e t s u st l q cap h0 h1 h2 h3 h4 h5 h6 m1 m2 hem hf hk h

end Go.Proofs.Ytombolmicfjjpaa

/- All cells of a block set (arrays). -/
namespace Go.Proofs.Ytombolmicfjjpaa
open Go.RowKit

theorem setAll_getV : ∀ (vs : List Value) (o : Nat) (c : Array Value) (i : Nat), (setAll c o vs)[i]? = if o ≤ i ∧ i < o + vs.length ∧ i < c.size then vs[i - o]? else c[i]?
  | [], o, c, i => by
    show c[i]? = _
    rw [if_neg (by simp; omega)]
  | v :: r, o, c, i => by
    show (setAll (c.setIfInBounds o v) (o + 1) r)[i]? = _
    rw [setAll_getV r (o + 1) _ i]
    simp only [Array.size_setIfInBounds, List.length_cons]
    by_cases h1 : o + 1 ≤ i ∧ i < o + 1 + r.length ∧ i < c.size
    · rw [if_pos h1, if_pos (by omega)]
      obtain ⟨k, rfl⟩ : ∃ k, i = o + 1 + k := ⟨i - (o + 1), by omega⟩
      rw [show o + 1 + k - (o + 1) = k by omega, show o + 1 + k - o = k + 1 by omega]
      rfl
    · rw [if_neg h1, Array.getElem?_setIfInBounds]
      by_cases h2 : o = i
      · subst h2
        rw [if_pos rfl]
        by_cases h3 : o < c.size
        · rw [if_pos h3, if_pos (by omega), Nat.sub_self]; rfl
        · rw [if_neg h3, if_neg (by omega), Array.getElem?_eq_none (by omega)]
      · rw [if_neg h2, if_neg (by omega)]
theorem setAll_allV (c cs : Array Value) (h : c.size = cs.size) : setAll c 0 cs.toList = cs := by
  refine Array.ext_getElem? fun i => ?_
  rw [setAll_getV]
  by_cases h1 : i < cs.size
  · rw [if_pos (by simp; omega), Nat.sub_zero, Array.getElem?_toList]
  · rw [if_neg (by simp; omega), Array.getElem?_eq_none (by omega), Array.getElem?_eq_none (by omega)]

end Go.Proofs.Ytombolmicfjjpaa

/- Values, read by definition: early ends. -/
namespace Go.Proofs.Ytombolmicfjjpaa
open Go.RowKit

theorem ref14_readTopicsT (t X : Bs) (ht : t = X) (hs : X.length ≤ 1000000) (lf : List TopS) (mf : Nat) (ef : Int) (hr : topsR X = (lf, mf, ef)) {W0 w : World} {K : Know} {L : List Res} (h : St W0 w K L) :
    Calls Try.prog 26 #[.string (bb t)] w fun en w' => ∃ (v : Value) (lr : List (TopS × Value)), en = .returned (.tuple #[v, .int .i64 mf, .int .i64 ef]) ∧ lr.map (·.1) = lf ∧ St W0 w' (K.and (Know.tops v lr)) L := by
  subst ht; exact ref14_readTopics t hs lf mf ef hr h

set_option maxHeartbeats 6000000 in
set_option maxRecDepth 100000 in
theorem rd_1 (S : Bs) (hsl : S.length ≤ 1000000) (hl : S.length < 2) {W0 w : World} {K : Know} {L : List Res} (h : St W0 w K L) :
    Calls Try.prog 23 #[.string (bb S)] w fun en w' => en = .returned (.tuple #[.agg #[.int .i64 0, .int .i64 0, .int .i64 0, .int .i64 0, .slice none 0 0, .int .i64 0, .int .i64 0], .int .i64 1]) ∧ St W0 w' K L := by
  obtain ⟨rb, hrb⟩ : ∃ b, w.heap.size = b := ⟨_, rfl⟩
  obtain ⟨nb, hnb⟩ : ∃ b, rb + 1 = b := ⟨_, rfl⟩
  have g1 := (h.allocRaw #[.int .i64 0, .int .i64 0, .int .i64 0, .int .i64 0, .slice none 0 0, .int .i64 0, .int .i64 0] 24).allocRaw #[.int .i64 0, .int .i64 0, .int .i64 0, .int .i64 0, .slice none 0 0, .int .i64 0, .int .i64 0] 24
  simp only [World.size_alloc, hrb, hnb] at g1
  have H := Lib.hid g1
  have HSL := Lib.hid hsl
  have c0 := g1.rawCell 0; have c1 := g1.rawCell 1; have c2 := g1.rawCell 2; have c3 := g1.rawCell 3; have c4 := g1.rawCell 4; have c5 := g1.rawCell 5; have c6 := g1.rawCell 6; simp at c0 c1 c2 c3 c4 c5 c6
  have d0 := g1.p1.rawCell 0; have r0 := g1.p1.rawFree 0; have d1 := g1.p1.rawCell 1; have r1 := g1.p1.rawFree 1; have d2 := g1.p1.rawCell 2; have r2 := g1.p1.rawFree 2; have d3 := g1.p1.rawCell 3; have r3 := g1.p1.rawFree 3; have d4 := g1.p1.rawCell 4; have r4 := g1.p1.rawFree 4; have d5 := g1.p1.rawCell 5; have r5 := g1.p1.rawFree 5; have d6 := g1.p1.rawCell 6; have r6 := g1.p1.rawFree 6; simp at d0 d1 d2 d3 d4 d5 d6
  have hl2 : (S.length : Int) < 2 := by omega
  clear h g1 hsl 
  go_enter Try.func23, Try.ntmps23
  go_wp2_with (fail)
  have hz : St W0 _ _ (.raw rb #[.int .i64 0, .int .i64 0, .int .i64 0, .int .i64 0, .slice none 0 0, .int .i64 0, .int .i64 0] 24 :: _) := St.sets7 _ _ _ _ _ _ _ (H.out.p1)
  refine bodyPost_ret (rc_cell_tmp rfl _ _ rb [.int .i64 0, .int .i64 0, .int .i64 0, .int .i64 0, .slice none 0 0, .int .i64 0, .int .i64 0] _ rfl (rc_range hz) Try.underlying24 rfl (by kernel_rfl)) rfl ?_
  exact ⟨rfl, hz.drop.drop⟩

set_option maxHeartbeats 6000000 in
set_option maxRecDepth 100000 in
theorem rd_2 (S : Bs) (hsl : S.length ≤ 1000000) (hl : 2 ≤ S.length) (a : Int) (ha : sInt (S.take 2) = a) (h0 : a ≠ 0) {W0 w : World} {K : Know} {L : List Res} (h : St W0 w K L) :
    Calls Try.prog 23 #[.string (bb S)] w fun en w' => en = .returned (.tuple #[.agg #[.int .i64 0, .int .i64 0, .int .i64 0, .int .i64 0, .slice none 0 0, .int .i64 0, .int .i64 0], .int .i64 7]) ∧ St W0 w' K L := by
  obtain ⟨rb, hrb⟩ : ∃ b, w.heap.size = b := ⟨_, rfl⟩
  obtain ⟨nb, hnb⟩ : ∃ b, rb + 1 = b := ⟨_, rfl⟩
  have g1 := (h.allocRaw #[.int .i64 0, .int .i64 0, .int .i64 0, .int .i64 0, .slice none 0 0, .int .i64 0, .int .i64 0] 24).allocRaw #[.int .i64 0, .int .i64 0, .int .i64 0, .int .i64 0, .slice none 0 0, .int .i64 0, .int .i64 0] 24
  simp only [World.size_alloc, hrb, hnb] at g1
  have H := Lib.hid g1
  have HSL := Lib.hid hsl
  have c0 := g1.rawCell 0; have c1 := g1.rawCell 1; have c2 := g1.rawCell 2; have c3 := g1.rawCell 3; have c4 := g1.rawCell 4; have c5 := g1.rawCell 5; have c6 := g1.rawCell 6; simp at c0 c1 c2 c3 c4 c5 c6
  have d0 := g1.p1.rawCell 0; have r0 := g1.p1.rawFree 0; have d1 := g1.p1.rawCell 1; have r1 := g1.p1.rawFree 1; have d2 := g1.p1.rawCell 2; have r2 := g1.p1.rawFree 2; have d3 := g1.p1.rawCell 3; have r3 := g1.p1.rawFree 3; have d4 := g1.p1.rawCell 4; have r4 := g1.p1.rawFree 4; have d5 := g1.p1.rawCell 5; have r5 := g1.p1.rawFree 5; have d6 := g1.p1.rawCell 6; have r6 := g1.p1.rawFree 6; simp at d0 d1 d2 d3 d4 d5 d6
  have hl2 : ¬ (S.length : Int) < 2 := by omega
  have hl3 : 2 ≤ (S.length : Int) := by omega
  have g1 : (a == 0) = false := by rw [beq_eq_false_iff_ne]; exact h0
  have g2 : (a != 0) = true := by simp [bne, g1]
  have HA := Lib.hid ha
  have H8 := Lib.hid (show (S.take 2).length ≤ 8 by rw [List.length_take]; omega)
  clear h g1 hsl ha h0
  go_enter Try.func23, Try.ntmps23
  go_wp2_with (go_at_call 76; clear c0 d0 r0 c1 d1 r1 c2 d2 r2 c3 d3 r3 c4 d4 r4 c5 d5 r5 c6 d6 r6; (with_reducible refine (sr_intT _ (S.take 2) (by first | rfl | simp) a HA.out H8.out H.out).mono ?_); rintro e_ wn ⟨rfl, h⟩; have c0 := h.rawCell 0; have c1 := h.rawCell 1; have c2 := h.rawCell 2; have c3 := h.rawCell 3; have c4 := h.rawCell 4; have c5 := h.rawCell 5; have c6 := h.rawCell 6; simp at c0 c1 c2 c3 c4 c5 c6; have d0 := h.p1.rawCell 0; have r0 := h.p1.rawFree 0; have d1 := h.p1.rawCell 1; have r1 := h.p1.rawFree 1; have d2 := h.p1.rawCell 2; have r2 := h.p1.rawFree 2; have d3 := h.p1.rawCell 3; have r3 := h.p1.rawFree 3; have d4 := h.p1.rawCell 4; have r4 := h.p1.rawFree 4; have d5 := h.p1.rawCell 5; have r5 := h.p1.rawFree 5; have d6 := h.p1.rawCell 6; have r6 := h.p1.rawFree 6; simp at d0 d1 d2 d3 d4 d5 d6; replace H := Lib.hid h; clear h)
  have hz : St W0 _ _ (.raw rb #[.int .i64 0, .int .i64 0, .int .i64 0, .int .i64 0, .slice none 0 0, .int .i64 0, .int .i64 0] 24 :: _) := St.sets7 _ _ _ _ _ _ _ (H.out.p1)
  refine bodyPost_ret (rc_cell_tmp rfl _ _ rb [.int .i64 0, .int .i64 0, .int .i64 0, .int .i64 0, .slice none 0 0, .int .i64 0, .int .i64 0] _ rfl (rc_range hz) Try.underlying24 rfl (by kernel_rfl)) rfl ?_
  exact ⟨rfl, hz.drop.drop⟩

set_option maxHeartbeats 6000000 in
set_option maxRecDepth 100000 in
theorem rd_3 (S : Bs) (hsl : S.length ≤ 1000000) (hl : 2 ≤ S.length) (ha : sInt (S.take 2) = 0) (hl17 : S.length < 17) {W0 w : World} {K : Know} {L : List Res} (h : St W0 w K L) :
    Calls Try.prog 23 #[.string (bb S)] w fun en w' => en = .returned (.tuple #[.agg #[.int .i64 0, .int .i64 0, .int .i64 0, .int .i64 0, .slice none 0 0, .int .i64 0, .int .i64 0], .int .i64 1]) ∧ St W0 w' K L := by
  obtain ⟨rb, hrb⟩ : ∃ b, w.heap.size = b := ⟨_, rfl⟩
  obtain ⟨nb, hnb⟩ : ∃ b, rb + 1 = b := ⟨_, rfl⟩
  have g1 := (h.allocRaw #[.int .i64 0, .int .i64 0, .int .i64 0, .int .i64 0, .slice none 0 0, .int .i64 0, .int .i64 0] 24).allocRaw #[.int .i64 0, .int .i64 0, .int .i64 0, .int .i64 0, .slice none 0 0, .int .i64 0, .int .i64 0] 24
  simp only [World.size_alloc, hrb, hnb] at g1
  have H := Lib.hid g1
  have HSL := Lib.hid hsl
  have c0 := g1.rawCell 0; have c1 := g1.rawCell 1; have c2 := g1.rawCell 2; have c3 := g1.rawCell 3; have c4 := g1.rawCell 4; have c5 := g1.rawCell 5; have c6 := g1.rawCell 6; simp at c0 c1 c2 c3 c4 c5 c6
  have d0 := g1.p1.rawCell 0; have r0 := g1.p1.rawFree 0; have d1 := g1.p1.rawCell 1; have r1 := g1.p1.rawFree 1; have d2 := g1.p1.rawCell 2; have r2 := g1.p1.rawFree 2; have d3 := g1.p1.rawCell 3; have r3 := g1.p1.rawFree 3; have d4 := g1.p1.rawCell 4; have r4 := g1.p1.rawFree 4; have d5 := g1.p1.rawCell 5; have r5 := g1.p1.rawFree 5; have d6 := g1.p1.rawCell 6; have r6 := g1.p1.rawFree 6; simp at d0 d1 d2 d3 d4 d5 d6
  have hl2 : ¬ (S.length : Int) < 2 := by omega
  have hl3 : 2 ≤ (S.length : Int) := by omega
  have hl4 : (S.length : Int) < 17 := by omega
  have HA := Lib.hid ha
  have H8 := Lib.hid (show (S.take 2).length ≤ 8 by rw [List.length_take]; omega)
  clear h g1 hsl ha
  go_enter Try.func23, Try.ntmps23
  go_wp2_with (go_at_call 76; clear c0 d0 r0 c1 d1 r1 c2 d2 r2 c3 d3 r3 c4 d4 r4 c5 d5 r5 c6 d6 r6; (with_reducible refine (sr_intT _ (S.take 2) (by first | rfl | simp) 0 HA.out H8.out H.out).mono ?_); rintro e_ wn ⟨rfl, h⟩; have c0 := h.rawCell 0; have c1 := h.rawCell 1; have c2 := h.rawCell 2; have c3 := h.rawCell 3; have c4 := h.rawCell 4; have c5 := h.rawCell 5; have c6 := h.rawCell 6; simp at c0 c1 c2 c3 c4 c5 c6; have d0 := h.p1.rawCell 0; have r0 := h.p1.rawFree 0; have d1 := h.p1.rawCell 1; have r1 := h.p1.rawFree 1; have d2 := h.p1.rawCell 2; have r2 := h.p1.rawFree 2; have d3 := h.p1.rawCell 3; have r3 := h.p1.rawFree 3; have d4 := h.p1.rawCell 4; have r4 := h.p1.rawFree 4; have d5 := h.p1.rawCell 5; have r5 := h.p1.rawFree 5; have d6 := h.p1.rawCell 6; have r6 := h.p1.rawFree 6; simp at d0 d1 d2 d3 d4 d5 d6; replace H := Lib.hid h; clear h)
  have hz : St W0 _ _ (.raw rb #[.int .i64 0, .int .i64 0, .int .i64 0, .int .i64 0, .slice none 0 0, .int .i64 0, .int .i64 0] 24 :: _) := St.sets7 _ _ _ _ _ _ _ (H.out.p1)
  refine bodyPost_ret (rc_cell_tmp rfl _ _ rb [.int .i64 0, .int .i64 0, .int .i64 0, .int .i64 0, .slice none 0 0, .int .i64 0, .int .i64 0] _ rfl (rc_range hz) Try.underlying24 rfl (by kernel_rfl)) rfl ?_
  exact ⟨rfl, hz.drop.drop⟩

end Go.Proofs.Ytombolmicfjjpaa

/- Requests of transactions, read by definition: what is called. -/
namespace Go.Proofs.Ytombolmicfjjpaa
open Go.RowKit

theorem St.raw_neQ {W0 w : World} {K : Know} {L : List Res} {a b : Nat} {c c' : Array Value} {T T' : TypeId} (h : St W0 w K (.raw a c T :: .raw b c' T' :: L)) : ¬ (a = b) := by
  rintro rfl
  obtain ⟨_, S, F, ⟨S1, S2, h1, ⟨S3, S4, h3, _, _, e3⟩, d1, _⟩, _⟩ := h
  exact d1 a ((h1.2 a).2 rfl) ((e3 a).2 (.inl ((h3.2 a).2 rfl)))
theorem rc_cell_tmp3 {P : Program} {fn : Func} {p t u : Tmp} {ty : TypeId} (h : fn.results = #[.cell p ty, .tmp t, .tmp u]) (tmps : Array Value) (w : World) (b : Nat) (cs : List Value) (d : TypeDesc)
    (hp : tmps.getD p undef = .pointer (some ⟨b, 0, none⟩)) (hc : w.rangeAt b 0 cs) (hu : P.underlying ty = some d) (hd : d.isRow = true) (hi : (P.info? ty).map (·.size) = some cs.length) :
    (results fn tmps).run P w = .ok (.tuple #[.agg cs.toArray, tmps.getD t undef, tmps.getD u undef]) w := by
  have hp' : tmps[p]?.getD undef = .pointer (some ⟨b, 0, none⟩) := by simpa using hp
  simp [results, h, hp', asAddr, run_loadVar_mid w b 0 ty cs d hc hu hd hi]

theorem fewT_nilR : FewT [] := ⟨by decide, fun x hx => by cases hx⟩
theorem has_nilR (K : Know) : K.has (Know.tops (.slice none 0 0) []) := Know.has_trans (tops_nil K) (Know.has_right (Know.has_refl _))
theorem ref18_check22N (v : Int) (nl : Bool) (d : Bs) (tm p e : Int) (r : Int) (hE : begE v nl d tm p e = r) {W0 w : World} {K : Know} {L : List Res} (h : St W0 w K L) :
    Calls Try.prog 40 #[.int .i64 22, .int .i64 v, .agg #[.bool nl, .string (bb d), .int .i64 tm, .int .i64 p, .int .i64 e, .slice none 0 0, .bool false]] w fun en w' => en = .returned (.int .i64 r) ∧ St W0 w' K L :=
  ref18_check22 v nl d tm p e [] none 0 false r hE fewT_nilR (has_nilR K) h
theorem ref18_check24N (v : Int) (d : Bs) (p e : Int) (l : List (TopS × Value)) (q : Option Addr) (cap : Nat) (r : Int) (hE : addE d p e (l.map (·.1)) = r) (hf : FewT l) {W0 w : World} {K : Know} {L : List Res} (hk : K.has (Know.tops (.slice q l.length cap) l)) (h : St W0 w K L) :
    Calls Try.prog 40 #[.int .i64 24, .int .i64 v, .agg #[.bool false, .string (bb d), .int .i64 0, .int .i64 p, .int .i64 e, .slice q l.length cap, .bool false]] w fun en w' => en = .returned (.int .i64 r) ∧ St W0 w' K L :=
  ref18_check24 v false d 0 p e l q cap false r hE hf hk h

end Go.Proofs.Ytombolmicfjjpaa

/- One end (pure). -/
namespace Go.Proofs.Ytombolmicfjjpaa
open Go.RowKit

def z18 : Bs := [0, 1, 97, 0, 0, 0, 0, 0, 0, 0, 0, 0, 0, 1]
theorem few_nilT : FewT [] := ⟨by decide, fun x hx => by cases hx⟩

end Go.Proofs.Ytombolmicfjjpaa

/- Ends of transactions, read. -/
namespace Go.Proofs.Ytombolmicfjjpaa
open Go.RowKit

set_option maxHeartbeats 1000000 in
set_option maxRecDepth 100000 in
theorem whole_end (b : Nat) (i : InS) (id : Bs) (p e : Int) (c : Bool) (hi : i.err = 0) (hr : chkW id p e = 0) (hl : id.length ≤ 140737488355328) {W0 w : World} {K : Know} {L : List Res} (h : St W0 w K (.inp b i :: L)) :
    Calls Try.prog 119 #[inPtr b, .iface 136 (.agg #[.string (bb id), .int .i64 p, .int .i64 e, .bool c])] w fun en w' => en = .returned (.bool true) ∧ St W0 w' K (.inp b i :: L) := by
  have H := Lib.hid h
  have HI := Lib.hid hi
  have HR := Lib.hid hr
  have HL := Lib.hid hl
  clear h hi hr hl
  go_enter Try.func119, Try.ntmps119
  go_wp2_with (first
    | (go_at_call 27; (with_reducible refine (s_errV b _ _ HI.out H.out).mono ?_); rintro e_ wn ⟨rfl, h⟩; replace H := Lib.hid h; clear h)
    | (go_at_call 96; (with_reducible refine (end_check id p e c _ HR.out HL.out H.out).mono ?_); rintro e_ wn ⟨rfl, h⟩; replace H := Lib.hid h; clear h))
  go_ret
  exact ⟨rfl, H.out⟩

set_option maxHeartbeats 2000000 in
set_option maxRecDepth 100000 in
theorem read_end_ok (b : Nat) (i i1 i2 i3 i4 : InS) (id : Bs) (p e : Int) (c : Bool) (h1 : i.text = (id, i1)) (h2 : i1.int 8 = (p, i2)) (h3 : i2.int 2 = (e, i3)) (h4 : i3.boolP = (c, i4)) (hi : i4.err = 0) (hr : chkW id p e = 0) (hl : id.length ≤ 140737488355328) {W0 w : World} {K : Know} {L : List Res} (h : St W0 w K (.inp b i :: L)) :
    Calls Try.prog 91 #[inPtr b] w fun en w' => en = .returned (.agg #[.string (bb id), .int .i64 p, .int .i64 e, .bool c]) ∧ St W0 w' K (.inp b i4 :: L) := by
  obtain ⟨rb, hrb⟩ : ∃ b, w.heap.size = b := ⟨_, rfl⟩
  obtain ⟨eb, heb⟩ : ∃ b, rb + 1 = b := ⟨_, rfl⟩
  have g1 := (h.allocRaw #[.string ⟨#[]⟩, .int .i64 0, .int .i64 0, .bool false] 136).allocRaw #[.string ⟨#[]⟩, .int .i64 0, .int .i64 0, .bool false] 136
  simp only [World.size_alloc, hrb, heb] at g1
  have H := Lib.hid g1.p2
  have H1 := Lib.hid h1
  have H2 := Lib.hid h2
  have H3 := Lib.hid h3
  have H4 := Lib.hid h4
  have HI := Lib.hid hi
  have HR := Lib.hid hr
  have HL := Lib.hid hl
  clear h g1 h1 h2 h3 h4 hi hr hl
  go_enter Try.func91, Try.ntmps91
  go_wp2_with (first
    | (go_at_call 78; (with_reducible refine (blob_textV b _ _ id H1.out H.out).mono ?_); rintro e_ wn ⟨rfl, h⟩; have f0 := h.p1.rawFree 0; have g0 := h.p1.rawCell 0; simp at g0; have h := (show St W0 (wn.setCell ⟨eb, 0, none⟩ (.string (bb id))) K (.inp b i1 :: .raw eb #[.string (bb id), .int .i64 0, .int .i64 0, .bool false] 136 :: .raw rb #[.string ⟨#[]⟩, .int .i64 0, .int .i64 0, .bool false] 136 :: L) from (h.p1.rawSet 0 (.string (bb id))).p1); replace H := Lib.hid h; clear h)
    | (go_at_call 118; (with_reducible refine (txn_readWriter b _ _ _ p e H2.out H3.out H.out).mono ?_); rintro e_ wn ⟨rfl, h⟩; have f1 := h.p1.rawFree 1; have g1 := h.p1.rawCell 1; simp at g1; have f2 := h.p1.rawFree 2; have g2 := h.p1.rawCell 2; simp at g2; have h := (show St W0 ((wn.setCell ⟨eb, 1, none⟩ (.int .i64 p)).setCell ⟨eb, 2, none⟩ (.int .i64 e)) K (.inp b i3 :: .raw eb #[.string (bb id), .int .i64 p, .int .i64 e, .bool false] 136 :: .raw rb #[.string ⟨#[]⟩, .int .i64 0, .int .i64 0, .bool false] 136 :: L) from ((h.p1.rawSet 1 (.int .i64 p)).rawSet 2 (.int .i64 e)).p1); replace H := Lib.hid h; clear h)
    | (go_at_call 48; (with_reducible refine (s_bool b _ _ c H4.out H.out).mono ?_); rintro e_ wn ⟨rfl, h⟩; have f3 := h.p1.rawFree 3; have g3 := h.p1.rawCell 3; simp at g3; have h := (show St W0 (wn.setCell ⟨eb, 3, none⟩ (.bool c)) K (.inp b i4 :: .raw eb #[.string (bb id), .int .i64 p, .int .i64 e, .bool c] 136 :: .raw rb #[.string ⟨#[]⟩, .int .i64 0, .int .i64 0, .bool false] 136 :: L) from (h.p1.rawSet 3 (.bool c)).p1); have c0 := h.p1.rawCell 0; have c1 := h.p1.rawCell 1; have c2 := h.p1.rawCell 2; have c3 := h.p1.rawCell 3; simp at c0 c1 c2 c3; replace H := Lib.hid h; clear h)
    | (go_at_call 119; (with_reducible refine (whole_end b i4 id p e c HI.out HR.out HL.out H.out).mono ?_); rintro e_ wn ⟨rfl, h⟩; have c0 := h.p1.rawCell 0; have d0 := h.p2.rawCell 0; have r0 := h.p2.rawFree 0; have c1 := h.p1.rawCell 1; have d1 := h.p2.rawCell 1; have r1 := h.p2.rawFree 1; have c2 := h.p1.rawCell 2; have d2 := h.p2.rawCell 2; have r2 := h.p2.rawFree 2; have c3 := h.p1.rawCell 3; have d3 := h.p2.rawCell 3; have r3 := h.p2.rawFree 3; simp at c0 c1 c2 c3 d0 d1 d2 d3; replace H := Lib.hid h; clear h))
  have hz : St W0 _ _ (.raw rb #[.string (bb id), .int .i64 p, .int .i64 e, .bool c] 136 :: .inp b i4 :: .raw eb #[.string (bb id), .int .i64 p, .int .i64 e, .bool c] 136 :: L) := ((((H.out.p2).rawSet 0 _).rawSet 1 _).rawSet 2 _).rawSet 3 _
  refine bodyPost_ret (rc_cell_only rfl _ _ rb [.string (bb id), .int .i64 p, .int .i64 e, .bool c] _ rfl (rc_range hz) Try.underlying136 rfl (by kernel_rfl)) rfl ?_
  exact ⟨rfl, hz.drop.p1.drop⟩

end Go.Proofs.Ytombolmicfjjpaa

/- One end. -/
namespace Go.Proofs.Ytombolmicfjjpaa
open Go.RowKit

theorem end_write_z (b : Nat) {W0 w : World} {K : Know} {L : List Res} (h : St W0 w K (.out b ⟨[], 0⟩ :: L)) :
    Calls Try.prog 90 #[.agg #[.string ⟨#[97]⟩, .int .i64 0, .int .i64 0, .bool true], outPtr b] w fun en w' => en = .returned (.tuple #[]) ∧ St W0 w' K (.out b ⟨z18, 0⟩ :: L) :=
  end_write_ok b [] [0, 1, 97] [0, 1, 97, 0, 0, 0, 0, 0, 0, 0, 0] [0, 1, 97, 0, 0, 0, 0, 0, 0, 0, 0, 0, 0] z18 [97] 0 0 true (by kernel_rfl) (by kernel_rfl) (by kernel_rfl) (by kernel_rfl) (by kernel_rfl) (by decide) (by decide) (by decide) h
theorem text_z (b : Nat) {W0 w : World} {K : Know} {L : List Res} (h : St W0 w K (.out b ⟨z18, 0⟩ :: L)) :
    Calls Try.prog 32 #[outPtr b] w fun en w' => en = .returned (.tuple #[.string ⟨#[0, 1, 97, 0, 0, 0, 0, 0, 0, 0, 0, 0, 0, 1]⟩, .int .i64 0]) ∧ St W0 w' K (.out b ⟨z18, 0⟩ :: L) := so_textV b z18 h
theorem new_z {W0 w : World} {K : Know} {L : List Res} (h : St W0 w K L) :
    Calls Try.prog 24 #[.string ⟨#[0, 1, 97, 0, 0, 0, 0, 0, 0, 0, 0, 0, 0, 1]⟩] w fun en w' => ∃ b, en = .returned (inPtr b) ∧ St W0 w' K (.inp b ⟨z18, 0, 0⟩ :: L) := s_new z18 (by decide) h
theorem read_end_z (b : Nat) {W0 w : World} {K : Know} {L : List Res} (h : St W0 w K (.inp b ⟨z18, 0, 0⟩ :: L)) :
    Calls Try.prog 91 #[inPtr b] w fun en w' => en = .returned (.agg #[.string ⟨#[97]⟩, .int .i64 0, .int .i64 0, .bool true]) ∧ St W0 w' K (.inp b ⟨z18, 14, 0⟩ :: L) :=
  read_end_ok b ⟨z18, 0, 0⟩ ⟨z18, 3, 0⟩ ⟨z18, 11, 0⟩ ⟨z18, 13, 0⟩ ⟨z18, 14, 0⟩ [97] 0 0 true (by kernel_rfl) (by kernel_rfl) (by kernel_rfl) (by kernel_rfl) (by kernel_rfl) (by kernel_rfl) (by decide) h
theorem rise_z {W0 w : World} {K : Know} {L : List Res} (h : St W0 w K L) :
    Calls Try.prog 47 #[.slice none 0 0] w fun en w' => en = .returned (.int .i64 10) ∧ St W0 w' K L := by
  have h2 : St W0 w (K.and (Know.tops (.slice none 0 0) [])) L := h.know (tops_nil K)
  refine (txn_rise [] none 0 10 (by kernel_rfl) few_nilT (Know.has_right (Know.has_refl _)) h2).mono ?_
  rintro e_ wn ⟨rfl, h3⟩
  exact ⟨rfl, h3.know (Know.has_left (Know.has_refl _))⟩
theorem who_z {W0 w : World} {K : Know} {L : List Res} (h : St W0 w K L) :
    Calls Try.prog 46 #[.int .i64 0, .int .i64 0] w fun en w' => en = .returned (.bool true) ∧ St W0 w' K L := txn_who 0 0 true (by kernel_rfl) h
set_option maxHeartbeats 1000000 in
set_option maxRecDepth 100000 in
theorem speaks18 {W0 w : World} {K : Know} {L : List Res} (h : St W0 w K L) :
    Calls Try.prog 37 #[] w fun en w' => en = .returned (.bool true) ∧ St W0 w' K L := by
  obtain ⟨po, hpo⟩ : ∃ b, w.heap.size = b := ⟨_, rfl⟩
  have h0 := h.allocOut
  rw [hpo] at h0
  have H := Lib.hid h0
  clear h h0
  go_enter Try.func37, Try.ntmps37
  go_wp2_with (first
    | (go_at_call 90; (with_reducible refine (end_write_z po H.out).mono ?_); rintro e_ wn ⟨rfl, h⟩; replace H := Lib.hid h; clear h)
    | (go_at_call 32; (with_reducible refine (text_z po H.out).mono ?_); rintro e_ wn ⟨rfl, h⟩; replace H := Lib.hid h; clear h)
    | (go_at_call 24; (with_reducible refine (new_z H.out).mono ?_); rintro e_ wn ⟨bi, rfl, h⟩; replace H := Lib.hid h; clear h)
    | (go_at_call 91; (with_reducible refine (read_end_z bi H.out).mono ?_); rintro e_ wn ⟨rfl, h⟩; replace H := Lib.hid h; clear h)
    | (go_at_call 47; (with_reducible refine (rise_z H.out).mono ?_); rintro e_ wn ⟨rfl, h⟩; replace H := Lib.hid h; clear h)
    | (go_at_call 46; (with_reducible refine (who_z H.out).mono ?_); rintro e_ wn ⟨rfl, h⟩; replace H := Lib.hid h; clear h))
  go_ret
  exact ⟨rfl, H.out.drop.drop⟩

end Go.Proofs.Ytombolmicfjjpaa
