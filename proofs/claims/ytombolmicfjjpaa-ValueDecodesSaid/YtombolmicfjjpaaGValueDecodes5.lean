/- Values, decoded. -/
import Derived.Test.YtombolmicfjjpaaGValueDecodes4
import Derived.Deep.RegionHeld3
import Derived.Deep.DeepCutAuto
import Derived.RegionTactic
import Derived.Test.YtombolmicfjjpaaBlobP
import Derived.Test.YtombolmicfjjpaaBlob1
import Derived.Test.YtombolmicfjjpaaBlob2
import Derived.Test.YtombolmicfjjpaaRec1
import Derived.Test.YtombolmicfjjpaaRecP
import Derived.Test.YtombolmicfjjpaaRecs
import Derived.Test.YtombolmicfjjpaaSep
import Derived.Deep.MidRow
/- Topics, read by definition. -/
namespace Go.Proofs.Ytombolmicfjjpaa
open Go.RowKit

set_option maxHeartbeats 1000000 in
set_option maxRecDepth 100000 in
theorem ref14_readTopics_bad (s : Bs) (hs : s.length ≤ 1000000) (n : Nat) (E : Int) (hc : cntR 6 s = (n, E)) (h0 : E ≠ 0) (lf : List TopS) (mf : Nat) (ef : Int) (hr : topsR s = (lf, mf, ef)) {W0 w : World} {K : Know} {L : List Res} (h : St W0 w K L) :
    Calls Try.prog 26 #[.string (bb s)] w fun en w' => ∃ (v : Value) (lr : List (TopS × Value)), en = .returned (.tuple #[v, .int .i64 mf, .int .i64 ef]) ∧ lr.map (·.1) = lf ∧ St W0 w' (K.and (Know.tops v lr)) L := by
  rw [topsR_bad hc h0] at hr
  cases hr
  have H := Lib.hid h
  have HSL := Lib.hid hs
  have HC := Lib.hid hc
  have g1 : (E == 0) = false := by rw [beq_eq_false_iff_ne]; exact h0
  have g2 : (E != 0) = true := by simp [bne, g1]
  clear h hs hc h0
  go_enter Try.func26, Try.ntmps26
  go_wp2_with (go_at_call 80; (with_reducible refine (ref14_count s 6 6 rfl (by decide) (by decide) HSL.out n _ HC.out H.out).mono ?_); rintro e_ wn ⟨rfl, h⟩; replace H := Lib.hid h; clear h)
  go_ret3
  exact ⟨_, [], rfl, rfl, H.out.know (tops_nil K)⟩

set_option maxHeartbeats 4000000 in
set_option maxRecDepth 100000 in
theorem ref14_readTopics_go (s : Bs) (hs : s.length ≤ 1000000) (n : Nat) (hc : cntR 6 s = (n, 0)) (lf : List TopS) (mf : Nat) (ef : Int) (hr : topsR s = (lf, mf, ef)) {W0 w : World} {K : Know} {L : List Res} (h : St W0 w K L) :
    Calls Try.prog 26 #[.string (bb s)] w fun en w' => ∃ (v : Value) (lr : List (TopS × Value)), en = .returned (.tuple #[v, .int .i64 mf, .int .i64 ef]) ∧ lr.map (·.1) = lf ∧ St W0 w' (K.and (Know.tops v lr)) L := by
  obtain ⟨hgo, hle⟩ := topsR_go hc
  rw [hr] at hgo
  have H := Lib.hid h
  have HSL := Lib.hid hs
  have HC := Lib.hid hc
  have HNB := Lib.hid (show n ≤ 1000000 by omega)
  have HGO := Lib.hid hgo.symm
  have HP4 := Lib.hid (show 4 ≤ s.length by omega)
  have hni : (n : Int) ≤ 1000000 := by omega
  clear h hs hc hr hgo hle
  go_enter Try.func26, Try.ntmps26
  go_wp2_with (go_at_call 80; (with_reducible refine (ref14_count s 6 6 rfl (by decide) (by decide) HSL.out n _ HC.out H.out).mono ?_); rintro e_ wn ⟨rfl, h⟩; replace H := Lib.hid h; clear h)
  go_loopw [7, 8, 9, 10, 11, 12, 13, 14] (fun pv ov iv _ _ _ _ _ wr => ∃ (k p : Nat) (acc : List (TopS × Value)) (K2 : Know), k ≤ n ∧ iv = .int .i64 k ∧ pv = .int .i64 p ∧ Hid (acc.length = k) ∧ Hid (p ≤ s.length) ∧ Hid (stepR (acc.map (·.1)) p (topN (n - k) (s.drop p)) = (lf, mf, ef)) ∧ Hid (K2.has K) ∧ Hid (∀ x ∈ acc, K2.has (Know.flat RI x.2 1 x.1.parts)) ∧ St W0 wr K2 (.row ov 51 2 acc.length (acc.flatMap tcells) :: L)) (fun _ _ iv _ _ _ _ _ _ => n - (intOf iv).toNat)
  case atStart => exact ⟨0, 4, [], K, Nat.zero_le _, rfl, rfl, Lib.hid rfl, HP4, Lib.hid HGO.out, Lib.hid (Know.has_refl _), Lib.hid (fun x hx => by cases hx), H.out.rowLit [] 51 2 0 rfl (by decide)⟩
  case round =>
    obtain ⟨k, p, acc, K2, hk, rfl, rfl, HAL, HPL, HP, HKK, HALL, hst⟩ := hrel
    clear H
    have H := Lib.hid hst
    clear hst
    by_cases hlt : k < n
    · have hkn : (k : Int) < (n : Int) := by omega
      have hP1 := HP.out
      rw [show n - k = (n - (k + 1)) + 1 by omega] at hP1
      have hsl : (s.length : Int) ≤ 1000000 := by have := HSL.out; omega
      have hp0 : (p : Int) ≤ (s.length : Int) := by have := HPL.out; omega
      have HTE := Lib.hid (takeEnd s p)
      have HX := Lib.hid (show (s.drop p).length ≤ 140737488355328 by rw [List.length_drop]; have := HSL.out; omega)
      cases hv : refixed 2 (s.drop p) with
      | error er =>
        have h0 := refixed_err hv
        rw [stepR_err hv] at hP1
        cases hP1
        have HV := Lib.hid hv
        have g1 : (ef == 0) = false := by rw [beq_eq_false_iff_ne]; exact h0
        have g2 : (ef != 0) = true := by simp [bne, g1]
        clear hv h0
        as_aux_lemma =>
        go_wp2_with (go_at_call 81; (with_reducible refine (ref04_fixErr _ (s.drop p) ef HTE.out HX.out HV.out H.out).mono ?_); rintro e_ wn ⟨rfl, h⟩; obtain ⟨gb, hgb⟩ : ∃ b, wn.heap.size = b := ⟨_, rfl⟩; have h := h.allocRaw #[.bool false, .string ⟨#[]⟩, .int .i64 0, .int .i64 ef] 128; rw [hgb] at h; have x0 := h.rawCell 0; have x1 := h.rawCell 1; have x2 := h.rawCell 2; have x3 := h.rawCell 3; simp at x0 x1 x2 x3; replace H := Lib.hid h; clear h)
        have hs := H.out.drew
        go_region
        go_wp2
        go_ret3
        exact ⟨_, [], rfl, rfl, hs.drop.drop.know (Know.has_trans HKK.out (tops_nil K))⟩
      | ok x =>
        obtain ⟨⟨nl, d⟩, kk⟩ := x
        have HV := Lib.hid hv
        cases nl with
        | true =>
          rw [stepR_null hv rfl] at hP1
          cases hP1
          clear hv
          as_aux_lemma =>
          go_wp2_with (go_at_call 81; (with_reducible refine (ref04_fixOk _ (s.drop p) true d kk HTE.out HX.out HV.out H.out).mono ?_); rintro e_ wn ⟨rfl, h⟩; obtain ⟨gb, hgb⟩ : ∃ b, wn.heap.size = b := ⟨_, rfl⟩; have h := h.allocRaw #[.bool true, .string (bb d), .int .i64 kk, .int .i64 0] 128; rw [hgb] at h; have x0 := h.rawCell 0; have x1 := h.rawCell 1; have x2 := h.rawCell 2; have x3 := h.rawCell 3; simp at x0 x1 x2 x3; replace H := Lib.hid h; clear h)
          go_ret3
          exact ⟨_, [], rfl, rfl, H.out.drop.drop.know (Know.has_trans HKK.out (tops_nil K))⟩
        | false =>
          obtain ⟨hk2, hkl⟩ := refixed_le hv
          rw [List.length_drop] at hkl
          have hp1 : ((p : Int) + (kk : Int)) ≤ (s.length : Int) := by have := HPL.out; omega
          have hp1n : p + kk ≤ s.length := by have := HPL.out; omega
          have HTE2 := Lib.hid (takeEnd s (p + kk))
          have HX2 := Lib.hid (show (s.drop (p + kk)).length ≤ 1000000 by rw [List.length_drop]; have := HSL.out; omega)
          obtain ⟨⟨m, f⟩, hc2⟩ : ∃ r, cntR 4 (s.drop (p + kk)) = r := ⟨_, rfl⟩
          have HC2 := Lib.hid hc2
          by_cases h0 : f = 0
          rotate_left
          · rw [stepR_cnt hv rfl hc2 h0] at hP1
            cases hP1
            have g1 : (ef == 0) = false := by rw [beq_eq_false_iff_ne]; exact h0
            have g2 : (ef != 0) = true := by simp [bne, g1]
            clear hv hc2 h0 hk2 hkl
            as_aux_lemma =>
            go_wp2_with (first
    | (go_at_call 81; (with_reducible refine (ref04_fixOk _ (s.drop p) false d kk HTE.out HX.out HV.out H.out).mono ?_); rintro e_ wn ⟨rfl, h⟩; obtain ⟨gb, hgb⟩ : ∃ b, wn.heap.size = b := ⟨_, rfl⟩; have h := h.allocRaw #[.bool false, .string (bb d), .int .i64 kk, .int .i64 0] 128; rw [hgb] at h; have x0 := h.rawCell 0; have x1 := h.rawCell 1; have x2 := h.rawCell 2; have x3 := h.rawCell 3; simp at x0 x1 x2 x3; replace H := Lib.hid h; clear h)
    | (go_at_call 80; (with_reducible refine (ref14_countT _ (s.drop (p + kk)) HTE2.out 4 4 rfl (by decide) (by decide) HX2.out m ef HC2.out H.out).mono ?_); rintro e_ wn ⟨rfl, h⟩; have x0 := h.rawCell 0; have x1 := h.rawCell 1; have x2 := h.rawCell 2; have x3 := h.rawCell 3; simp at x0 x1 x2 x3; replace H := Lib.hid h; clear h))
            go_ret3
            exact ⟨_, [], rfl, rfl, H.out.drop.drop.know (Know.has_trans HKK.out (tops_nil K))⟩
          subst h0
          rw [stepR_next hv rfl hc2] at hP1
          obtain ⟨_, hml⟩ := cntR_zero (by decide) hc2
          rw [List.length_drop] at hml
          obtain ⟨p2, hp2⟩ : ∃ p2, p + kk + 4 = p2 := ⟨_, rfl⟩
          rw [hp2] at hP1
          have HP2 := Lib.hid hP1
          have HML := Lib.hid (show p2 + 4 * m ≤ s.length by omega)
          have hmi : (m : Int) ≤ 1000000 := by have := HSL.out; omega
          have HP2E := Lib.hid hp2
          have hpi : (p : Int) + (kk : Int) + 4 = (p2 : Int) := by omega
          clear hv hc2 hP1 hk2 hkl hml hp2
          as_aux_lemma =>
          go_wp2_with (first
    | (go_at_call 81; (with_reducible refine (ref04_fixOk _ (s.drop p) false d kk HTE.out HX.out HV.out H.out).mono ?_); rintro e_ wn ⟨rfl, h⟩; obtain ⟨gb, hgb⟩ : ∃ b, wn.heap.size = b := ⟨_, rfl⟩; have h := h.allocRaw #[.bool false, .string (bb d), .int .i64 kk, .int .i64 0] 128; rw [hgb] at h; have x0 := h.rawCell 0; have x1 := h.rawCell 1; have x2 := h.rawCell 2; have x3 := h.rawCell 3; simp at x0 x1 x2 x3; replace H := Lib.hid h; clear h)
    | (go_at_call 80; (with_reducible refine (ref14_countT _ (s.drop (p + kk)) HTE2.out 4 4 rfl (by decide) (by decide) HX2.out m 0 HC2.out H.out).mono ?_); rintro e_ wn ⟨rfl, h⟩; have x0 := h.rawCell 0; have x1 := h.rawCell 1; have x2 := h.rawCell 2; have x3 := h.rawCell 3; simp at x0 x1 x2 x3; obtain ⟨tb, htb⟩ : ∃ b, wn.heap.size = b := ⟨_, rfl⟩; have h := h.allocRaw #[.string (bb d), .slice none 0 0] 51; rw [htb] at h; replace H := Lib.hid h; clear h))
          go_loopw [7, 14] (fun pv iv wr => ∃ (k2 q : Nat) (rv : Value) (ps : List Int), k2 ≤ m ∧ iv = .int .i64 k2 ∧ pv = .int .i64 q ∧ Hid (q = p2 + 4 * k2) ∧ Hid (ps.length = k2) ∧ Hid (ps = intsB k2 (s.drop p2)) ∧ St W0 wr K2 (.raw tb #[.string (bb d), rv] 51 :: .row rv 3 1 ps.length (ps.flatMap fun x => [.int .i64 x]) :: .row u8 51 2 acc.length (acc.flatMap tcells) :: L)) (fun _ iv _ => m - (intOf iv).toNat)
          case atStart => exact ⟨0, p2, _, [], Nat.zero_le _, rfl, by first | rfl | (rw [hpi]) | (simp only [hpi]), Lib.hid rfl, Lib.hid rfl, Lib.hid rfl, ((H.out.p1.drop).nilRow 3 1).p1⟩
          case round =>
            obtain ⟨k2, q, rv, ps, hk2, rfl, rfl, HQ, HPN, HPS, hst⟩ := hrel
            obtain ⟨qr, cr, hrv⟩ := hst.p1.rowAny
            subst hrv
            clear H
            have H := Lib.hid hst
            clear hst
            by_cases hlt2 : k2 < m
            · have hkm : (k2 : Int) < (m : Int) := by omega
              have hq4 : (q : Int) + 4 ≤ (s.length : Int) := by have := HQ.out; have := HML.out; omega
              obtain ⟨a, ha⟩ : ∃ a, sInt ((s.drop q).take 4) = a := ⟨_, rfl⟩
              have HPS2 := Lib.hid (show ps ++ [a] = intsB (k2 + 1) (s.drop p2) by rw [intsB_snoc, ← HPS.out, List.drop_drop, ← HQ.out, ha])
              have HAE := Lib.hid ha
              have HT8 := Lib.hid (show ((s.drop q).take 4).length ≤ 8 by rw [List.length_take]; omega)
              obtain ⟨q4, hq4e⟩ : ∃ q4, q + 4 = q4 := ⟨_, rfl⟩
              have HT4 := Lib.hid (show List.take (q4 - q) (s.drop q) = (s.drop q).take 4 by rw [← hq4e, Nat.add_sub_cancel_left])
              have hw4 : IntKind.i64.wrap ((q : Int) + 4) = (q4 : Int) := by rw [IntKind.wrap_i64]; omega
              have hw5 : IntKind.i64.wrap (q4 : Int) = (q4 : Int) := by rw [IntKind.wrap_i64]; omega
              have hqa : (q4 : Int) ≤ (s.length : Int) := by omega
              have hqb : q ≤ q4 := by omega
              have hqc : (q : Int) ≤ (q4 : Int) := by omega
              have hq4i : (q : Int) + 4 = (q4 : Int) := by omega
              clear hq4e
              have HPB := Lib.hid (show ps.length ≤ 1000000 by have := HPN.out; omega)
              clear ha
              go_wp2_with fail
              have hs := H.out.drew
              refine wp_region_held_drew (S := fun _ => True) (by kernel_rfl) trivial (fun hHeld => ?_)
              refine wpAnyH_take (i := 0) (oi := { dst := some 66, op := Op.fieldAddr 51 (Operand.tmp 13) 1, type := 0, pos := "ref.go:113", after := #[], guard := none }) (v := ?_) rfl (by kernel_rfl) (by kernel_rfl) (by kernel_rfl) (fun _ _ _ h => h) (Or.inl ⟨by rfl, ?_⟩) (by assumption) ?_
              rotate_left
              · intro w hSw; (try dsimp only at hSw); go_simp; try with_reducible rfl
              simp only [Act.put, List.setIfInBounds_toArray, List.set_cons_zero, List.set_cons_succ]
              refine wpAnyH_take (i := 2) (oi := { dst := some 68, op := Op.move (Operand.tmp 0), type := 9, pos := "ref.go:113", after := #[], guard := none }) (v := ?_) rfl (by kernel_rfl) (by kernel_rfl) (by kernel_rfl) (fun _ _ _ h => h) (Or.inl ⟨by rfl, ?_⟩) (by assumption) ?_
              rotate_left
              · intro w hSw; (try dsimp only at hSw); go_simp; try with_reducible rfl
              simp only [Act.put, List.setIfInBounds_toArray, List.set_cons_zero, List.set_cons_succ]
              refine wpAnyH_take (i := 3) (oi := { dst := some 69, op := Op.move (Operand.tmp 7), type := 3, pos := "ref.go:113", after := #[], guard := none }) (v := ?_) rfl (by kernel_rfl) (by kernel_rfl) (by kernel_rfl) (fun _ _ _ h => h) (Or.inl ⟨by rfl, ?_⟩) (by assumption) ?_
              rotate_left
              · intro w hSw; (try dsimp only at hSw); go_simp; try with_reducible rfl
              simp only [Act.put, List.setIfInBounds_toArray, List.set_cons_zero, List.set_cons_succ]
              refine wpAnyH_take (i := 4) (oi := { dst := some 70, op := Op.move (Operand.tmp 7), type := 3, pos := "ref.go:113", after := #[], guard := none }) (v := ?_) rfl (by kernel_rfl) (by kernel_rfl) (by kernel_rfl) (fun _ _ _ h => h) (Or.inl ⟨by rfl, ?_⟩) (by assumption) ?_
              rotate_left
              · intro w hSw; (try dsimp only at hSw); go_simp; try with_reducible rfl
              simp only [Act.put, List.setIfInBounds_toArray, List.set_cons_zero, List.set_cons_succ]
              refine wpAnyH_take (i := 5) (oi := { dst := some 71, op := Op.binOp BinOp.add 3 (Operand.tmp 70) (Operand.const (Value.int IntKind.i64 4)) 3, type := 3, pos := "ref.go:113", after := #[{ on := 4, ground := Ground.data }], guard := none }) (v := ?_) rfl (by kernel_rfl) (by kernel_rfl) (by kernel_rfl) (fun _ _ _ h => h) (Or.inl ⟨by rfl, ?_⟩) (by assumption) ?_
              rotate_left
              · intro w hSw; (try dsimp only at hSw); go_simp; try with_reducible rfl
              simp only [Act.put, List.setIfInBounds_toArray, List.set_cons_zero, List.set_cons_succ]
              refine wpAnyH_take (i := 6) (oi := { dst := some 72, op := Op.slice 9 (Operand.tmp 68) (some (Operand.tmp 69)) (some (Operand.tmp 71)) none, type := 9, pos := "ref.go:113", after := #[{ on := 2, ground := Ground.data }, { on := 3, ground := Ground.data }, { on := 5, ground := Ground.data }], guard := none }) (v := ?_) rfl (by kernel_rfl) (by kernel_rfl) (by kernel_rfl) (fun _ _ _ h => h) (Or.inl ⟨by rfl, ?_⟩) (by assumption) ?_
              rotate_left
              · intro w hSw; (try dsimp only at hSw); go_simp; try with_reducible rfl
              simp only [Act.put, List.setIfInBounds_toArray, List.set_cons_zero, List.set_cons_succ]
              refine wpAnyH_ready (rs := [1, 7]) (by kernel_rfl) (by simp) (AllReadyH.cons (o := { dst := some 67, op := Op.load 49 (Operand.tmp 66), type := 49, pos := "ref.go:113", after := #[{ on := 0, ground := Ground.data }], guard := none }) rfl (fun KK hK => ?_) (AllReadyH.cons (o := { dst := some 73, op := Op.call { callee := Callee.value (Operand.func 76), args := #[Operand.tmp 72], argTypes := #[9] }, type := 3, pos := "ref.go:113", after := #[{ on := 6, ground := Ground.data }], guard := none }) rfl (fun KK hK => ?_) AllReadyH.nil))
              · have c1 := hs.rawCell 1
                simp at c1
                go_simp
                refine hK.out _ _ (trivial) (fun hHeld => ?_)
                clear hK KK
                try simp only [Act.put, List.setIfInBounds_toArray, List.set_cons_zero, List.set_cons_succ]
                clear c1
                refine wpAnyH_ready (rs := [7]) (by kernel_rfl) (by simp) (AllReadyH.cons (o := { dst := some 73, op := Op.call { callee := Callee.value (Operand.func 76), args := #[Operand.tmp 72], argTypes := #[9] }, type := 3, pos := "ref.go:113", after := #[{ on := 6, ground := Ground.data }], guard := none }) rfl (fun KK hK => ?_) AllReadyH.nil)
                · go_simp
                  go_at_call 76
                  with_reducible refine (sr_intT _ ((s.drop q).take 4) HT4.out a HAE.out HT8.out hs).mono ?_
                  rintro e wq ⟨rfl, hs⟩
                  refine hK.out _ _ (trivial) (fun hHeld => ?_)
                  clear hK KK
                  try simp only [Act.put, List.setIfInBounds_toArray, List.set_cons_zero, List.set_cons_succ]
                  refine wpAnyH_ready (rs := [8]) (by kernel_rfl) (by simp) (AllReadyH.cons (o := { dst := some 74, op := Op.buildSlice 49 1 #[(0, Operand.tmp 73)], type := 49, pos := "ref.go:113", after := #[{ on := 7, ground := Ground.data }], guard := none }) rfl (fun KK hK => ?_) AllReadyH.nil)
                  · rw [if_pos (by rfl)]
                    refine op_value (v := .slice (some ⟨wq.heap.size, 0, none⟩) 1 1) (w' := wq.alloc (.cells #[.int .i64 a] 3 (0, 0))) (by go_simp) ?_
                    obtain ⟨wy, bS, ey, eb, hs⟩ := hs.allocEx #[.int .i64 a] 3
                    rw [ey, eb]
                    clear ey eb
                    refine hK.out _ _ (trivial) (fun hHeld => ?_)
                    clear hK KK
                    try simp only [Act.put, List.setIfInBounds_toArray, List.set_cons_zero, List.set_cons_succ]
                    refine wpAnyH_ready (rs := [9]) (by kernel_rfl) (by simp) (AllReadyH.cons (o := { dst := some 75, op := Op.call { callee := Callee.builtin Builtin.append, args := #[Operand.tmp 67, Operand.tmp 74], argTypes := #[49, 49] }, type := 49, pos := "ref.go:113", after := #[{ on := 1, ground := Ground.data }, { on := 8, ground := Ground.data }, { on := 7, ground := Ground.chain }], guard := none }) rfl (fun KK hK => ?_) AllReadyH.nil)
                    · rw [if_pos (by rfl)]
                      refine op_app1 (.tmp 67) (.tmp 74) 49 rfl 3 Try.underlying49 elem_int (.slice qr ps.length cr) ps.length _ (by rfl) bS #[.int .i64 a] 3 hs.p2.p1 (by rfl) rfl (by simp [Value.oneCell']) (by have := HPB.out; unfold maxLen; omega) (by have := HPB.out; omega) (fun v' w' h => ?_)
                      obtain ⟨qv, cv, hqv⟩ := h.rowAny
                      subst hqv
                      have hs := h.p1
                      clear h
                      refine hK.out _ _ (trivial) (fun hHeld => ?_)
                      clear hK KK
                      try simp only [Act.put, List.setIfInBounds_toArray, List.set_cons_zero, List.set_cons_succ]
                      refine wpAnyH_take (i := 10) (oi := { dst := some 76, op := Op.fieldAddr 51 (Operand.tmp 13) 1, type := 0, pos := "ref.go:113", after := #[{ on := 0, ground := Ground.phase }, { on := 1, ground := Ground.phase }, { on := 2, ground := Ground.phase }, { on := 3, ground := Ground.phase }, { on := 4, ground := Ground.phase }, { on := 5, ground := Ground.phase }, { on := 6, ground := Ground.phase }, { on := 7, ground := Ground.phase }, { on := 8, ground := Ground.phase }, { on := 9, ground := Ground.phase }], guard := none }) (v := ?_) rfl (by kernel_rfl) (by kernel_rfl) (by kernel_rfl) (fun _ _ _ h => h) (Or.inl ⟨by rfl, ?_⟩) (by assumption) ?_
                      rotate_left
                      · intro w hSw; (try dsimp only at hSw); go_simp; try with_reducible rfl
                      simp only [Act.put, List.setIfInBounds_toArray, List.set_cons_zero, List.set_cons_succ]
                      refine wpAnyH_ready (rs := [11]) (by kernel_rfl) (by simp) (AllReadyH.cons (o := { dst := none, op := Op.store 49 (Operand.tmp 76) (Operand.tmp 75), type := 0, pos := "ref.go:113", after := #[{ on := 10, ground := Ground.data }, { on := 9, ground := Ground.data }, { on := 9, ground := Ground.chain }, { on := 0, ground := Ground.phase }, { on := 1, ground := Ground.phase }, { on := 2, ground := Ground.phase }, { on := 3, ground := Ground.phase }, { on := 4, ground := Ground.phase }, { on := 5, ground := Ground.phase }, { on := 6, ground := Ground.phase }, { on := 7, ground := Ground.phase }, { on := 8, ground := Ground.phase }, { on := 9, ground := Ground.phase }], guard := none }) rfl (fun KK hK => ?_) AllReadyH.nil)
                      · have f1 := hs.rawFree 1
                        have c1 := hs.rawCell 1
                        simp at c1
                        rw [if_pos (by rfl)]
                        refine op_skip (w' := w'.setCell ⟨tb, 1, none⟩ (.slice qv (ps.length + 1) cv)) (by go_simp) ?_
                        obtain ⟨wz, ez, hs⟩ := hs.setEx 1 (.slice qv (ps.length + 1) cv)
                        rw [ez]
                        clear ez f1 c1
                        refine hK.out _ _ (trivial) (fun hHeld => ?_)
                        clear hK KK
                        try simp only [Act.put, List.setIfInBounds_toArray, List.set_cons_zero, List.set_cons_succ]
                        refine wpAnyH_done (by kernel_rfl) ?_ _
                        clear hHeld
                        go_wp2_with fail
                        go_roundw
                        case rel => exact ⟨k2 + 1, q4, _, ps ++ [a], hlt2, by go_num, by first | rfl | go_num, Lib.hid (by have := HQ.out; omega), Lib.hid (by rw [List.length_append, HPN.out]; rfl), HPS2, by rw [List.length_append, List.flatMap_append]; exact hs⟩
                        case measure => first | (simp [intOf]; done) | (simp [intOf]; omega)
              · go_simp
                go_at_call 76
                with_reducible refine (sr_intT _ ((s.drop q).take 4) HT4.out a HAE.out HT8.out hs).mono ?_
                rintro e wq ⟨rfl, hs⟩
                refine hK.out _ _ (trivial) (fun hHeld => ?_)
                clear hK KK
                try simp only [Act.put, List.setIfInBounds_toArray, List.set_cons_zero, List.set_cons_succ]
                refine wpAnyH_ready (rs := [1, 8]) (by kernel_rfl) (by simp) (AllReadyH.cons (o := { dst := some 67, op := Op.load 49 (Operand.tmp 66), type := 49, pos := "ref.go:113", after := #[{ on := 0, ground := Ground.data }], guard := none }) rfl (fun KK hK => ?_) (AllReadyH.cons (o := { dst := some 74, op := Op.buildSlice 49 1 #[(0, Operand.tmp 73)], type := 49, pos := "ref.go:113", after := #[{ on := 7, ground := Ground.data }], guard := none }) rfl (fun KK hK => ?_) AllReadyH.nil))
                · have c1 := hs.rawCell 1
                  simp at c1
                  go_simp
                  refine hK.out _ _ (trivial) (fun hHeld => ?_)
                  clear hK KK
                  try simp only [Act.put, List.setIfInBounds_toArray, List.set_cons_zero, List.set_cons_succ]
                  clear c1
                  refine wpAnyH_ready (rs := [8]) (by kernel_rfl) (by simp) (AllReadyH.cons (o := { dst := some 74, op := Op.buildSlice 49 1 #[(0, Operand.tmp 73)], type := 49, pos := "ref.go:113", after := #[{ on := 7, ground := Ground.data }], guard := none }) rfl (fun KK hK => ?_) AllReadyH.nil)
                  · rw [if_pos (by rfl)]
                    refine op_value (v := .slice (some ⟨wq.heap.size, 0, none⟩) 1 1) (w' := wq.alloc (.cells #[.int .i64 a] 3 (0, 0))) (by go_simp) ?_
                    obtain ⟨wy, bS, ey, eb, hs⟩ := hs.allocEx #[.int .i64 a] 3
                    rw [ey, eb]
                    clear ey eb
                    refine hK.out _ _ (trivial) (fun hHeld => ?_)
                    clear hK KK
                    try simp only [Act.put, List.setIfInBounds_toArray, List.set_cons_zero, List.set_cons_succ]
                    refine wpAnyH_ready (rs := [9]) (by kernel_rfl) (by simp) (AllReadyH.cons (o := { dst := some 75, op := Op.call { callee := Callee.builtin Builtin.append, args := #[Operand.tmp 67, Operand.tmp 74], argTypes := #[49, 49] }, type := 49, pos := "ref.go:113", after := #[{ on := 1, ground := Ground.data }, { on := 8, ground := Ground.data }, { on := 7, ground := Ground.chain }], guard := none }) rfl (fun KK hK => ?_) AllReadyH.nil)
                    · rw [if_pos (by rfl)]
                      refine op_app1 (.tmp 67) (.tmp 74) 49 rfl 3 Try.underlying49 elem_int (.slice qr ps.length cr) ps.length _ (by rfl) bS #[.int .i64 a] 3 hs.p2.p1 (by rfl) rfl (by simp [Value.oneCell']) (by have := HPB.out; unfold maxLen; omega) (by have := HPB.out; omega) (fun v' w' h => ?_)
                      obtain ⟨qv, cv, hqv⟩ := h.rowAny
                      subst hqv
                      have hs := h.p1
                      clear h
                      refine hK.out _ _ (trivial) (fun hHeld => ?_)
                      clear hK KK
                      try simp only [Act.put, List.setIfInBounds_toArray, List.set_cons_zero, List.set_cons_succ]
                      refine wpAnyH_take (i := 10) (oi := { dst := some 76, op := Op.fieldAddr 51 (Operand.tmp 13) 1, type := 0, pos := "ref.go:113", after := #[{ on := 0, ground := Ground.phase }, { on := 1, ground := Ground.phase }, { on := 2, ground := Ground.phase }, { on := 3, ground := Ground.phase }, { on := 4, ground := Ground.phase }, { on := 5, ground := Ground.phase }, { on := 6, ground := Ground.phase }, { on := 7, ground := Ground.phase }, { on := 8, ground := Ground.phase }, { on := 9, ground := Ground.phase }], guard := none }) (v := ?_) rfl (by kernel_rfl) (by kernel_rfl) (by kernel_rfl) (fun _ _ _ h => h) (Or.inl ⟨by rfl, ?_⟩) (by assumption) ?_
                      rotate_left
                      · intro w hSw; (try dsimp only at hSw); go_simp; try with_reducible rfl
                      simp only [Act.put, List.setIfInBounds_toArray, List.set_cons_zero, List.set_cons_succ]
                      refine wpAnyH_ready (rs := [11]) (by kernel_rfl) (by simp) (AllReadyH.cons (o := { dst := none, op := Op.store 49 (Operand.tmp 76) (Operand.tmp 75), type := 0, pos := "ref.go:113", after := #[{ on := 10, ground := Ground.data }, { on := 9, ground := Ground.data }, { on := 9, ground := Ground.chain }, { on := 0, ground := Ground.phase }, { on := 1, ground := Ground.phase }, { on := 2, ground := Ground.phase }, { on := 3, ground := Ground.phase }, { on := 4, ground := Ground.phase }, { on := 5, ground := Ground.phase }, { on := 6, ground := Ground.phase }, { on := 7, ground := Ground.phase }, { on := 8, ground := Ground.phase }, { on := 9, ground := Ground.phase }], guard := none }) rfl (fun KK hK => ?_) AllReadyH.nil)
                      · have f1 := hs.rawFree 1
                        have c1 := hs.rawCell 1
                        simp at c1
                        rw [if_pos (by rfl)]
                        refine op_skip (w' := w'.setCell ⟨tb, 1, none⟩ (.slice qv (ps.length + 1) cv)) (by go_simp) ?_
                        obtain ⟨wz, ez, hs⟩ := hs.setEx 1 (.slice qv (ps.length + 1) cv)
                        rw [ez]
                        clear ez f1 c1
                        refine hK.out _ _ (trivial) (fun hHeld => ?_)
                        clear hK KK
                        try simp only [Act.put, List.setIfInBounds_toArray, List.set_cons_zero, List.set_cons_succ]
                        refine wpAnyH_done (by kernel_rfl) ?_ _
                        clear hHeld
                        go_wp2_with fail
                        go_roundw
                        case rel => exact ⟨k2 + 1, q4, _, ps ++ [a], hlt2, by go_num, by first | rfl | go_num, Lib.hid (by have := HQ.out; omega), Lib.hid (by rw [List.length_append, HPN.out]; rfl), HPS2, by rw [List.length_append, List.flatMap_append]; exact hs⟩
                        case measure => first | (simp [intOf]; done) | (simp [intOf]; omega)
                · rw [if_pos (by rfl)]
                  refine op_value (v := .slice (some ⟨wq.heap.size, 0, none⟩) 1 1) (w' := wq.alloc (.cells #[.int .i64 a] 3 (0, 0))) (by go_simp) ?_
                  obtain ⟨wy, bS, ey, eb, hs⟩ := hs.allocEx #[.int .i64 a] 3
                  rw [ey, eb]
                  clear ey eb
                  refine hK.out _ _ (trivial) (fun hHeld => ?_)
                  clear hK KK
                  try simp only [Act.put, List.setIfInBounds_toArray, List.set_cons_zero, List.set_cons_succ]
                  refine wpAnyH_ready (rs := [1]) (by kernel_rfl) (by simp) (AllReadyH.cons (o := { dst := some 67, op := Op.load 49 (Operand.tmp 66), type := 49, pos := "ref.go:113", after := #[{ on := 0, ground := Ground.data }], guard := none }) rfl (fun KK hK => ?_) AllReadyH.nil)
                  · have c1 := hs.p1.rawCell 1
                    simp at c1
                    go_simp
                    refine hK.out _ _ (trivial) (fun hHeld => ?_)
                    clear hK KK
                    try simp only [Act.put, List.setIfInBounds_toArray, List.set_cons_zero, List.set_cons_succ]
                    clear c1
                    refine wpAnyH_ready (rs := [9]) (by kernel_rfl) (by simp) (AllReadyH.cons (o := { dst := some 75, op := Op.call { callee := Callee.builtin Builtin.append, args := #[Operand.tmp 67, Operand.tmp 74], argTypes := #[49, 49] }, type := 49, pos := "ref.go:113", after := #[{ on := 1, ground := Ground.data }, { on := 8, ground := Ground.data }, { on := 7, ground := Ground.chain }], guard := none }) rfl (fun KK hK => ?_) AllReadyH.nil)
                    · rw [if_pos (by rfl)]
                      refine op_app1 (.tmp 67) (.tmp 74) 49 rfl 3 Try.underlying49 elem_int (.slice qr ps.length cr) ps.length _ (by rfl) bS #[.int .i64 a] 3 hs.p2.p1 (by rfl) rfl (by simp [Value.oneCell']) (by have := HPB.out; unfold maxLen; omega) (by have := HPB.out; omega) (fun v' w' h => ?_)
                      obtain ⟨qv, cv, hqv⟩ := h.rowAny
                      subst hqv
                      have hs := h.p1
                      clear h
                      refine hK.out _ _ (trivial) (fun hHeld => ?_)
                      clear hK KK
                      try simp only [Act.put, List.setIfInBounds_toArray, List.set_cons_zero, List.set_cons_succ]
                      refine wpAnyH_take (i := 10) (oi := { dst := some 76, op := Op.fieldAddr 51 (Operand.tmp 13) 1, type := 0, pos := "ref.go:113", after := #[{ on := 0, ground := Ground.phase }, { on := 1, ground := Ground.phase }, { on := 2, ground := Ground.phase }, { on := 3, ground := Ground.phase }, { on := 4, ground := Ground.phase }, { on := 5, ground := Ground.phase }, { on := 6, ground := Ground.phase }, { on := 7, ground := Ground.phase }, { on := 8, ground := Ground.phase }, { on := 9, ground := Ground.phase }], guard := none }) (v := ?_) rfl (by kernel_rfl) (by kernel_rfl) (by kernel_rfl) (fun _ _ _ h => h) (Or.inl ⟨by rfl, ?_⟩) (by assumption) ?_
                      rotate_left
                      · intro w hSw; (try dsimp only at hSw); go_simp; try with_reducible rfl
                      simp only [Act.put, List.setIfInBounds_toArray, List.set_cons_zero, List.set_cons_succ]
                      refine wpAnyH_ready (rs := [11]) (by kernel_rfl) (by simp) (AllReadyH.cons (o := { dst := none, op := Op.store 49 (Operand.tmp 76) (Operand.tmp 75), type := 0, pos := "ref.go:113", after := #[{ on := 10, ground := Ground.data }, { on := 9, ground := Ground.data }, { on := 9, ground := Ground.chain }, { on := 0, ground := Ground.phase }, { on := 1, ground := Ground.phase }, { on := 2, ground := Ground.phase }, { on := 3, ground := Ground.phase }, { on := 4, ground := Ground.phase }, { on := 5, ground := Ground.phase }, { on := 6, ground := Ground.phase }, { on := 7, ground := Ground.phase }, { on := 8, ground := Ground.phase }, { on := 9, ground := Ground.phase }], guard := none }) rfl (fun KK hK => ?_) AllReadyH.nil)
                      · have f1 := hs.rawFree 1
                        have c1 := hs.rawCell 1
                        simp at c1
                        rw [if_pos (by rfl)]
                        refine op_skip (w' := w'.setCell ⟨tb, 1, none⟩ (.slice qv (ps.length + 1) cv)) (by go_simp) ?_
                        obtain ⟨wz, ez, hs⟩ := hs.setEx 1 (.slice qv (ps.length + 1) cv)
                        rw [ez]
                        clear ez f1 c1
                        refine hK.out _ _ (trivial) (fun hHeld => ?_)
                        clear hK KK
                        try simp only [Act.put, List.setIfInBounds_toArray, List.set_cons_zero, List.set_cons_succ]
                        refine wpAnyH_done (by kernel_rfl) ?_ _
                        clear hHeld
                        go_wp2_with fail
                        go_roundw
                        case rel => exact ⟨k2 + 1, q4, _, ps ++ [a], hlt2, by go_num, by first | rfl | go_num, Lib.hid (by have := HQ.out; omega), Lib.hid (by rw [List.length_append, HPN.out]; rfl), HPS2, by rw [List.length_append, List.flatMap_append]; exact hs⟩
                        case measure => first | (simp [intOf]; done) | (simp [intOf]; omega)
            · obtain rfl : k2 = m := by omega
              have y0 := H.out.rawCell 0
              have y1 := H.out.rawCell 1
              simp at y0 y1
              have HAB := Lib.hid (show acc.length ≤ 2147483647 by have := HAL.out; have := HNB.out; omega)
              have HN2 := Lib.hid ((H.out.p1.freezeRow (R := RI) (fun x _ => ⟨rfl, rfl⟩)).drop)
              clear H
              have H := HN2
              clear HN2
              go_wp2_with (at_builtin; refine wpl_app1_st rfl _ _ 22 rfl 51 Try.underlying22 elem_top _ _ _ rfl H.out [.string (bb d), .slice qr ps.length cr] 51 rfl rfl (by simp [Value.oneCell']) (by have := HAB.out; unfold maxLen; omega) (by have := HAB.out; omega) ?_; intro v' w' h; replace H := Lib.hid h; clear h)
              go_roundw
              case rel => exact ⟨k + 1, q, acc ++ [((⟨d, ps⟩ : TopS), .slice qr ps.length cr)], K2.and (Know.flat RI (.slice qr ps.length cr) 1 ps), hlt, by go_num, rfl, Lib.hid (by rw [List.length_append, HAL.out]; rfl), Lib.hid (by have := HQ.out; have := HML.out; omega), Lib.hid (by rw [List.map_append, HQ.out]; have h9 := HP2.out; rw [← HPS.out] at h9; exact h9), Lib.hid (Know.has_trans (Know.has_left (Know.has_refl _)) HKK.out), Lib.hid (fun x hx => by
                rcases List.mem_append.1 hx with hx | hx
                · exact Know.has_left (HALL.out x hx)
                · rw [List.mem_singleton.1 hx]; exact Know.has_right (Know.has_refl _)), by rw [List.length_append, List.flatMap_append]; exact H.out⟩
              case measure => first | (simp [intOf]; done) | (simp [intOf]; omega)
    · obtain rfl : k = n := by omega
      have hp := HP.out
      rw [Nat.sub_self, stepR_zero] at hp
      simp only [Prod.mk.injEq] at hp
      obtain ⟨rfl, rfl, rfl⟩ := hp
      go_wp2
      go_ret3
      have hf := H.out.freezeRow (R := RTop) (fun x _ => ⟨rfl, rfl⟩)
      have hf2 := hf.know (K' := K.and (Know.tops _ acc)) (fun w F hh => ⟨HKK.out _ _ hh.1, hh.2, fun y hy => HALL.out y hy _ _ hh.1⟩)
      first | exact ⟨_, acc, rfl, rfl, hf2⟩ | exact ⟨_, rfl, acc, rfl, hf2⟩
theorem ref14_readTopics (s : Bs) (hs : s.length ≤ 1000000) (lf : List TopS) (mf : Nat) (ef : Int) (hr : topsR s = (lf, mf, ef)) {W0 w : World} {K : Know} {L : List Res} (h : St W0 w K L) :
    Calls Try.prog 26 #[.string (bb s)] w fun en w' => ∃ (v : Value) (lr : List (TopS × Value)), en = .returned (.tuple #[v, .int .i64 mf, .int .i64 ef]) ∧ lr.map (·.1) = lf ∧ St W0 w' (K.and (Know.tops v lr)) L := by
  obtain ⟨⟨n, E⟩, hc⟩ : ∃ r, cntR 6 s = r := ⟨_, rfl⟩
  by_cases h0 : E = 0
  · subst h0
    exact ref14_readTopics_go s hs n hc lf mf ef hr h
  · exact ref14_readTopics_bad s hs n E hc h0 lf mf ef hr h

end Go.Proofs.Ytombolmicfjjpaa

/- Values, decoded (pure). -/
namespace Go.Proofs.Ytombolmicfjjpaa
open Go.RowKit

theorem close_st {i : InS} (h : i.err ≠ 0) : i.close.err = i.err := by
  unfold InS.close
  split
  · unfold InS.fail; rw [if_neg h]
  · rfl
theorem valF_stuck {i : InS} (h : i.err ≠ 0) : i.valF = (ValS.z, i) := by
  have r8 : i.int 8 = (0, i) := (rds_intN 8 (by decide) (by decide)).stuck i h
  have r2 : i.int 2 = (0, i) := (rds_intN 2 (by decide) (by decide)).stuck i h
  have r4 : i.int 4 = (0, i) := (rds_intN 4 (by decide) (by decide)).stuck i h
  have r1 : i.int 1 = (0, i) := (rds_intN 1 (by decide) (by decide)).stuck i h
  have rt : i.tops = ([], i) := rds_tops.stuck i h
  exact valF_eq r8 r2 r4 r1 rt r8 r8
theorem decE_zero {s : Bs} (h : decE s = 0) : ((⟨s, 0, 0⟩ : InS).int 2).1 = 0 := by
  by_cases ha : ((⟨s, 0, 0⟩ : InS).int 2).1 = 0
  · exact ha
  · exfalso
    have hj : (decI s).err ≠ 0 := by
      unfold decI
      rw [if_neg ha]
      unfold InS.fail
      split
      · show (7 : Int) ≠ 0; decide
      · assumption
    unfold decE at h
    rw [valF_stuck hj, close_st hj] at h
    exact hj h
theorem valDec_ok {s : Bs} {v : ValS} (h : valDec s = (v, 0)) (hz : v ≠ ValS.z ∨ True) : decE s = 0 ∧ (decI s).valF.1 = v ∧ v.err = 0 := by
  unfold valDec at h
  by_cases h1 : decE s ≠ 0
  · rw [if_pos h1] at h
    simp only [Prod.mk.injEq] at h
    exact absurd h.2 h1
  · rw [if_neg h1] at h
    by_cases h2 : (decI s).valF.1.err ≠ 0
    · rw [if_pos h2] at h
      simp only [Prod.mk.injEq] at h
      exact absurd h.2 h2
    · rw [if_neg h2] at h
      simp only [Prod.mk.injEq] at h
      refine ⟨Classical.not_not.1 h1, h.1, ?_⟩
      rw [← h.1]
      exact Classical.not_not.1 h2
theorem valDec_bad {s : Bs} {v : ValS} {E : Int} (h : valDec s = (v, E)) (h0 : E ≠ 0) : (decE s = E) ∨ (decE s = 0 ∧ (decI s).valF.1.err = E) := by
  unfold valDec at h
  by_cases h1 : decE s ≠ 0
  · rw [if_pos h1] at h
    simp only [Prod.mk.injEq] at h
    exact .inl h.2
  · rw [if_neg h1] at h
    have h1 := Classical.not_not.1 h1
    by_cases h2 : (decI s).valF.1.err ≠ 0
    · rw [if_pos h2] at h
      simp only [Prod.mk.injEq] at h
      exact .inr ⟨h1, h.2⟩
    · rw [if_neg h2] at h
      simp only [Prod.mk.injEq] at h
      exact absurd h.2.symm h0

end Go.Proofs.Ytombolmicfjjpaa

/- The bytes of control records (pure). -/
namespace Go.Proofs.Ytombolmicfjjpaa
open Go.RowKit

/-- A number of so many bytes, behind the version. -/
def verB (n : Int) (k : Nat) : Bs := beBytes 0 2 ++ beBytes n k
def ctlKey (k : Int) : Bs × Int := if k = 0 ∨ k = 1 then (verB k 2, 0) else ([], 12)
def ctlVal (n : Int) : Bs × Int := if 0 ≤ n ∧ n < 2147483648 then (verB n 4, 0) else ([], 11)
/-- Of bytes the number behind the version. -/
def verRd (k : Nat) (ok : Int → Bool) (e : Int) (s : Bs) : Int × Int :=
  if s.length < 2 then (0, 1) else if sInt (s.take 2) ≠ 0 then (0, 7) else if s.length < 2 + k then (0, 1)
  else if ok (sInt ((s.drop 2).take k)) = false then (0, e) else if 2 + k < s.length then (0, 2) else (sInt ((s.drop 2).take k), 0)
def verA (s : Bs) : Int × InS := (⟨s, 0, 0⟩ : InS).int 2
def verI (s : Bs) : InS := if (verA s).1 = 0 then (verA s).2 else (verA s).2.fail 7
def verJ (k : Nat) (ok : Int → Bool) (e : Int) (s : Bs) : InS := if ok ((verI s).int k).1 = true then ((verI s).int k).2 else ((verI s).int k).2.fail e
def verD (k : Nat) (ok : Int → Bool) (e : Int) (s : Bs) : Int × Int := if (verJ k ok e s).close.err = 0 then (((verI s).int k).1, 0) else (0, (verJ k ok e s).close.err)
theorem close_stuckC {i : InS} (h : i.err ≠ 0) : i.close = i := by
  unfold InS.close
  split
  · exact if_neg h
  · rfl
theorem verD_bad {k : Nat} {ok : Int → Bool} {e x : Int} {s : Bs} (hx : x ≠ 0) (h : (verJ k ok e s).err = x) : verD k ok e s = (0, x) := by
  subst h
  unfold verD
  rw [close_stuckC hx, if_neg hx]
theorem verJ_stuck {k : Nat} {ok : Int → Bool} {e x : Int} {s : Bs} (h1 : 1 ≤ k) (h8 : k ≤ 8) (hx : x ≠ 0) (h : (verI s).err = x) : (verJ k ok e s).err = x := by
  subst h
  have h2 : (verI s).int k = (0, verI s) := (rds_intN k h1 h8).stuck (verI s) hx
  unfold verJ
  rw [h2]
  split
  · rfl
  · rw [show (verI s).fail e = verI s from if_neg hx]
theorem verD_eq (k : Nat) (ok : Int → Bool) (e : Int) (h1 : 1 ≤ k) (h8 : k ≤ 8) (he : e ≠ 0) (s : Bs) : verD k ok e s = verRd k ok e s := by
  have hi := rds_intN 2 (by decide) (by decide)
  have hk := rds_intN k h1 h8
  unfold verRd
  by_cases c1 : s.length < 2
  · rw [if_pos c1]
    obtain ⟨_, q, _, h3⟩ := hi.err s 0 1 (Nat.zero_le _) (by simp [getIntN, c1])
    have h4 : verA s = (0, ⟨s, q, 1⟩) := h3
    refine verD_bad (by decide) (verJ_stuck h1 h8 (by decide) ?_)
    unfold verI
    rw [h4]
    rfl
  rw [if_neg c1]
  obtain ⟨_, h3⟩ := hi.ok s 0 (sInt (s.take 2)) 2 (Nat.zero_le _) (by simp [getIntN, c1])
  have h4 : verA s = (sInt (s.take 2), ⟨s, 2, 0⟩) := h3
  by_cases c2 : sInt (s.take 2) ≠ 0
  · rw [if_pos c2]
    refine verD_bad (by decide) (verJ_stuck h1 h8 (by decide) ?_)
    unfold verI
    rw [h4, if_neg c2]
    rfl
  rw [if_neg c2]
  have hI : verI s = ⟨s, 2, 0⟩ := by unfold verI; rw [h4, if_pos (by simpa using c2)]
  by_cases c3 : s.length < 2 + k
  · rw [if_pos c3]
    obtain ⟨_, q, _, h7⟩ := hk.err s 2 1 (by omega) (by unfold getIntN; rw [if_pos (by rw [List.length_drop]; omega)])
    have h7 : (verI s).int k = (0, ⟨s, q, 1⟩) := by rw [hI]; exact h7
    refine verD_bad (by decide) ?_
    unfold verJ
    rw [h7]
    split
    · rfl
    · rfl
  rw [if_neg c3]
  obtain ⟨_, h7⟩ := hk.ok s 2 (sInt ((s.drop 2).take k)) k (by omega) (by unfold getIntN; rw [if_neg (by rw [List.length_drop]; omega)])
  have h7 : (verI s).int k = (sInt ((s.drop 2).take k), ⟨s, 2 + k, 0⟩) := by rw [hI]; exact h7
  by_cases c4 : ok (sInt ((s.drop 2).take k)) = false
  · rw [if_pos c4]
    refine verD_bad he ?_
    unfold verJ
    rw [h7]
    rw [if_neg (by rw [c4]; decide)]
    rfl
  rw [if_neg c4]
  have hJ : verJ k ok e s = ⟨s, 2 + k, 0⟩ := by unfold verJ; rw [h7, if_pos (by simpa using c4)]
  by_cases c5 : 2 + k < s.length
  · have hc : (⟨s, 2 + k, 0⟩ : InS).close = ⟨s, 2 + k, 2⟩ := by
      unfold InS.close
      rw [if_pos (show 0 < (⟨s, 2 + k, 0⟩ : InS).left by simp only [InS.left]; omega)]
      rfl
    unfold verD
    rw [if_pos c5, hJ, hc, if_neg (by simp only; decide)]
  · have hc : (⟨s, 2 + k, 0⟩ : InS).close = ⟨s, 2 + k, 0⟩ := by
      unfold InS.close
      rw [if_neg (show ¬ 0 < (⟨s, 2 + k, 0⟩ : InS).left by simp only [InS.left]; omega)]
    unfold verD
    rw [if_neg c5, hJ, hc, if_pos rfl, h7]
def way (n : Int) : Bool := n == 0 || n == 1
def time0 (n : Int) : Bool := decide (0 ≤ n)
theorem verB_len (n : Int) (k : Nat) : (verB n k).length = 2 + k := by unfold verB; simp [beBytes_length]
theorem verB_take (n : Int) (k : Nat) : (verB n k).take 2 = beBytes 0 2 := by unfold verB; rw [List.take_left' (by simp [beBytes_length])]
theorem verB_drop (n : Int) (k : Nat) : (verB n k).drop 2 = beBytes n k := by unfold verB; rw [List.drop_left' (by simp [beBytes_length])]
theorem verRd_back (n : Int) (k : Nat) (ok : Int → Bool) (e : Int) (h1 : 1 ≤ k) (h8 : k ≤ 8) (hf : fits n k) (ho : ok n = true) : verRd k ok e (verB n k) = (n, 0) := by
  have h2 : sInt (beBytes n k) = n := (sInt_beBytes_iff n k h1).2 ⟨hf.2.2.1, hf.2.2.2⟩
  have h3 : (verB n k).length = 2 + k := verB_len n k
  have h4 : ((verB n k).drop 2).take k = beBytes n k := by rw [verB_drop, List.take_of_length_le (by simp [beBytes_length])]
  unfold verRd
  rw [if_neg (by omega), verB_take, if_neg (by decide), if_neg (by omega), h4, h2, if_neg (by rw [ho]; decide), if_neg (by omega)]
theorem ver_text (n : Int) (k : Nat) (h : fits n k) : ((⟨beBytes 0 2, 0⟩ : OutS).int n k).text = (verB n k, 0) := by
  unfold OutS.int
  rw [if_pos h]
  rfl
theorem ver_textN (n : Int) (k : Nat) (h : ¬ fits n k) : ((⟨beBytes 0 2, 0⟩ : OutS).int n k).text = ([], 11) := by
  unfold OutS.int
  rw [if_neg h]
  rfl
theorem half2 : half 2 = 32768 := by decide
theorem half4 : half 4 = 2147483648 := by decide
theorem fits2 (n : Int) (h : -32768 ≤ n ∧ n < 32768) : fits n 2 := ⟨by decide, by decide, by have := half2; show -half 2 ≤ n; omega, by have := half2; show n < half 2; omega⟩
theorem fits4 (n : Int) : fits n 4 ↔ (-2147483648 ≤ n ∧ n < 2147483648) := by
  have := half4
  constructor
  · intro h
    have h3 : -half 4 ≤ n := h.2.2.1
    have h4 : n < half 4 := h.2.2.2
    omega
  · intro h
    exact ⟨by decide, by decide, by show -half 4 ≤ n; omega, by show n < half 4; omega⟩

end Go.Proofs.Ytombolmicfjjpaa

/- Contracts of package control. -/
namespace Go.Proofs.Ytombolmicfjjpaa
open Go.RowKit

end Go.Proofs.Ytombolmicfjjpaa

/- Contracts of cursitorref08. -/
namespace Go.Proofs.Ytombolmicfjjpaa
open Go.RowKit

theorem sr_bytes2 (n : Int) (hn : -9223372036854775808 ≤ n ∧ n < 9223372036854775808) {W0 w : World} {K : Know} {L : List Res} (h : St W0 w K L) :
    Calls Try.prog 75 #[.int .i64 n, .int .i64 2] w fun en w' => en = .returned (.string (bb (beBytes n 2))) ∧ St W0 w' K L := sr_bytes n 2 (by decide) hn h
theorem sr_bytes4 (n : Int) (hn : -9223372036854775808 ≤ n ∧ n < 9223372036854775808) {W0 w : World} {K : Know} {L : List Res} (h : St W0 w K L) :
    Calls Try.prog 75 #[.int .i64 n, .int .i64 4] w fun en w' => en = .returned (.string (bb (beBytes n 4))) ∧ St W0 w' K L := sr_bytes n 4 (by decide) hn h
end Go.Proofs.Ytombolmicfjjpaa

/- Contracts: control records. -/
namespace Go.Proofs.Ytombolmicfjjpaa
open Go.RowKit

theorem know_nil0 {α : Type} (R : List Value → α → Prop) (sz : Nat) (K : Know) : K.has (Know.flat R (.slice none 0 0) sz []) := fun _ _ _ => ⟨none, 0, rfl, fun h => absurd h (by simp)⟩

def ctlRead (n1 n2 : Bool) (d1 d2 : Bs) (many o : Int) : Int × Int × Int :=
  if n1 = true ∨ n2 = true ∨ many ≠ 0 ∨ o ≠ 0 then (0, 0, 12)
  else if (verRd 2 way 12 d1).2 ≠ 0 then (0, 0, (verRd 2 way 12 d1).2)
  else if (verRd 4 time0 11 d2).2 ≠ 0 then (0, 0, (verRd 4 time0 11 d2).2)
  else ((verRd 2 way 12 d1).1, (verRd 4 time0 11 d2).1, 0)

end Go.Proofs.Ytombolmicfjjpaa

/- Batches (pure): which may be. -/
namespace Go.Proofs.Ytombolmicfjjpaa
open Go.RowKit

structure BatS where
  base : Int
  leader : Int
  app : Bool
  txn : Bool
  ctl : Bool
  last : Int
  first : Int
  maxt : Int
  prod : Int
  epoch : Int
  seq : Int
  recs : List RecS
deriving DecidableEq
def BatS.zero : BatS := ⟨0, 0, false, false, false, 0, 0, 0, 0, 0, 0, []⟩
def Rn (n : Int) : Prop := -9223372036854775808 ≤ n ∧ n < 9223372036854775808
def BatS.R (b : BatS) : Prop := Rn b.base ∧ Rn b.leader ∧ Rn b.last ∧ Rn b.first ∧ Rn b.maxt ∧ Rn b.prod ∧ Rn b.epoch ∧ Rn b.seq
def BatS.placed (b : BatS) : Bool := decide (0 ≤ b.base ∧ (-1 ≤ b.leader ∧ b.leader ≤ 2147483647) ∧ (0 ≤ b.last ∧ b.last ≤ 2147483647) ∧ b.base ≤ 9223372036854775807 - b.last ∧ 0 ≤ b.first ∧ 0 ≤ b.maxt)
def BatS.signed (b : BatS) : Bool :=
  if b.prod = -1 then decide (b.epoch = -1 ∧ b.seq = -1 ∧ b.txn = false)
  else if b.prod < 0 ∨ ¬ (0 ≤ b.epoch ∧ b.epoch ≤ 32767) then false
  else if b.ctl then decide (b.seq = -1)
  else decide (0 ≤ b.seq ∧ b.seq ≤ 2147483647)
/-- The greatest time of records behind a first one, or why their places and times may not be. -/
def rowsC (first last : Int) : List RecS → Int → Int → Except Int Int
  | [], _, g => .ok g
  | r :: t, ah, g => if r.off ≤ ah ∨ last < r.off then .error 13 else if r.time < -first ∨ 9223372036854775807 - first < r.time then .error 11 else rowsC first last t r.off (max g (first + r.time))
def rowsE (app : Bool) (maxt : Int) (r : Except Int Int) : Int := match r with
  | .error e => e
  | .ok g => if app = false ∧ maxt ≠ g then 11 else 0
def BatS.rows (b : BatS) : Int := rowsE b.app b.maxt (rowsC b.first b.last b.recs (-1) b.first)
def recsC : List RecS → Int
  | [] => 0
  | r :: t => if recOk r = 0 then recsC t else recOk r
def ctlOf (r : RecS) : Int × Int × Int := ctlRead r.key.null r.val.null r.key.data r.val.data r.hdrs.length r.off
def BatS.ends (b : BatS) : Int := match b.recs with | [] => 0 | r :: _ => (ctlOf r).2.2
def batErr (b : BatS) : Int :=
  if b.placed = false then 11
  else if b.ctl = true ∧ b.txn = false then 8
  else if b.signed = false then 11
  else if b.ctl = true ∧ b.recs.length ≠ 1 then 10
  else if recsC b.recs ≠ 0 then recsC b.recs
  else if b.ctl = true ∧ b.ends ≠ 0 then b.ends
  else b.rows

end Go.Proofs.Ytombolmicfjjpaa

/- Batches (pure): rows. -/
namespace Go.Proofs.Ytombolmicfjjpaa
open Go.RowKit

def FitB (l : List (RecS × Value)) : Prop := ∀ x ∈ l, x.1.R ∧ HFit x.1.hdrs ∧ x.1.sum ≤ 1000000
theorem sum_hdrs {x : RecS} (h : x.sum ≤ 1000000) : x.hdrs.length ≤ 1000000 := by have := hsum_le x.hdrs; unfold RecS.sum at h; omega
theorem sum_data {x : RecS} (h : x.sum ≤ 1000000) : x.key.data.length ≤ 140737488355328 ∧ x.val.data.length ≤ 140737488355328 := by unfold RecS.sum at h; omega
theorem drop_recs (l : List (RecS × Value)) (k : Nat) (h : k < l.length) (x : RecS) (hx : l[k].1 = x) : (l.map (·.1)).drop k = x :: (l.map (·.1)).drop (k + 1) := by
  subst hx
  rw [List.drop_eq_getElem_cons (by simpa using h), List.getElem_map]
def GOf (r : Except Int Int) : Int := match r with | .ok g => g | .error _ => 0
theorem rowsC_cons (first last : Int) (r : RecS) (t : List RecS) (ah g : Int) : rowsC first last (r :: t) ah g = if r.off ≤ ah ∨ last < r.off then .error 13 else if r.time < -first ∨ 9223372036854775807 - first < r.time then .error 11 else rowsC first last t r.off (max g (first + r.time)) := rfl

end Go.Proofs.Ytombolmicfjjpaa

/- Ends of transactions as batches (pure). -/
namespace Go.Proofs.Ytombolmicfjjpaa
open Go.RowKit

theorem rc_cell_tmp {P : Program} {fn : Func} {p t : Tmp} {ty : TypeId} (h : fn.results = #[.cell p ty, .tmp t]) (tmps : Array Value) (w : World) (b : Nat) (cs : List Value) (d : TypeDesc)
    (hp : tmps.getD p undef = .pointer (some ⟨b, 0, none⟩)) (hc : w.rangeAt b 0 cs) (hu : P.underlying ty = some d) (hd : d.isRow = true) (hi : (P.info? ty).map (·.size) = some cs.length) :
    (results fn tmps).run P w = .ok (.tuple #[.agg cs.toArray, tmps.getD t undef]) w := by
  have hp' : tmps[p]?.getD undef = .pointer (some ⟨b, 0, none⟩) := by simpa using hp
  simp [results, h, hp', asAddr, run_loadVar_mid w b 0 ty cs d hc hu hd hi]
theorem rc_cell_only {P : Program} {fn : Func} {p : Tmp} {ty : TypeId} (h : fn.results = #[.cell p ty]) (tmps : Array Value) (w : World) (b : Nat) (cs : List Value) (d : TypeDesc)
    (hp : tmps.getD p undef = .pointer (some ⟨b, 0, none⟩)) (hc : w.rangeAt b 0 cs) (hu : P.underlying ty = some d) (hd : d.isRow = true) (hi : (P.info? ty).map (·.size) = some cs.length) :
    (results fn tmps).run P w = .ok (.agg cs.toArray) w := by
  have hp' : tmps[p]?.getD undef = .pointer (some ⟨b, 0, none⟩) := by simpa using hp
  simp [results, h, hp', asAddr, run_loadVar_mid w b 0 ty cs d hc hu hd hi]
theorem rc_range {W0 w : World} {K : Know} {L : List Res} {b : Nat} {c : List Value} {T : TypeId} (h : St W0 w K (.raw b c.toArray T :: L)) : w.rangeAt b 0 c := by
  intro j v hv
  rw [Nat.zero_add, h.rawCell j]
  simpa using hv
theorem raw5e {W0 w : World} {K : Know} {L : List Res} {b : Nat} {a0 a1 a2 a3 a4 : Value} {T : TypeId} (h : St W0 w K (.raw b #[a0, a1, a2, a3, a4] T :: L)) :
    (w.cell? ⟨b, 0, none⟩ = some a0 ∧ w.cell? ⟨b, 1, none⟩ = some a1 ∧ w.cell? ⟨b, 2, none⟩ = some a2 ∧ w.cell? ⟨b, 3, none⟩ = some a3 ∧ w.cell? ⟨b, 4, none⟩ = some a4) ∧
    (w.frozen? ⟨b, 0, none⟩ = false ∧ w.frozen? ⟨b, 1, none⟩ = false ∧ w.frozen? ⟨b, 2, none⟩ = false ∧ w.frozen? ⟨b, 3, none⟩ = false ∧ w.frozen? ⟨b, 4, none⟩ = false) :=
  ⟨⟨(h.rawCell 0).trans rfl, (h.rawCell 1).trans rfl, (h.rawCell 2).trans rfl, (h.rawCell 3).trans rfl, (h.rawCell 4).trans rfl⟩, h.rawFree 0, h.rawFree 1, h.rawFree 2, h.rawFree 3, h.rawFree 4⟩
theorem St.sets12 {W0 w : World} {K : Know} {L : List Res} {b : Nat} {T : TypeId} {a0 a1 a2 a3 a4 a5 a6 a7 a8 a9 a10 a11 : Value} (v0 v1 v2 v3 v4 v5 v6 v7 v8 v9 v10 v11 : Value) (h : St W0 w K (.raw b #[a0, a1, a2, a3, a4, a5, a6, a7, a8, a9, a10, a11] T :: L)) : St W0 ((((((((((((w.setCell ⟨b, 0, none⟩ v0).setCell ⟨b, 1, none⟩ v1).setCell ⟨b, 2, none⟩ v2).setCell ⟨b, 3, none⟩ v3).setCell ⟨b, 4, none⟩ v4).setCell ⟨b, 5, none⟩ v5).setCell ⟨b, 6, none⟩ v6).setCell ⟨b, 7, none⟩ v7).setCell ⟨b, 8, none⟩ v8).setCell ⟨b, 9, none⟩ v9).setCell ⟨b, 10, none⟩ v10).setCell ⟨b, 11, none⟩ v11) K (.raw b #[v0, v1, v2, v3, v4, v5, v6, v7, v8, v9, v10, v11] T :: L) := by
  have h : St W0 _ K (.raw b #[v0, a1, a2, a3, a4, a5, a6, a7, a8, a9, a10, a11] T :: L) := h.rawSet 0 v0
  have h : St W0 _ K (.raw b #[v0, v1, a2, a3, a4, a5, a6, a7, a8, a9, a10, a11] T :: L) := h.rawSet 1 v1
  have h : St W0 _ K (.raw b #[v0, v1, v2, a3, a4, a5, a6, a7, a8, a9, a10, a11] T :: L) := h.rawSet 2 v2
  have h : St W0 _ K (.raw b #[v0, v1, v2, v3, a4, a5, a6, a7, a8, a9, a10, a11] T :: L) := h.rawSet 3 v3
  have h : St W0 _ K (.raw b #[v0, v1, v2, v3, v4, a5, a6, a7, a8, a9, a10, a11] T :: L) := h.rawSet 4 v4
  have h : St W0 _ K (.raw b #[v0, v1, v2, v3, v4, v5, a6, a7, a8, a9, a10, a11] T :: L) := h.rawSet 5 v5
  have h : St W0 _ K (.raw b #[v0, v1, v2, v3, v4, v5, v6, a7, a8, a9, a10, a11] T :: L) := h.rawSet 6 v6
  have h : St W0 _ K (.raw b #[v0, v1, v2, v3, v4, v5, v6, v7, a8, a9, a10, a11] T :: L) := h.rawSet 7 v7
  have h : St W0 _ K (.raw b #[v0, v1, v2, v3, v4, v5, v6, v7, v8, a9, a10, a11] T :: L) := h.rawSet 8 v8
  have h : St W0 _ K (.raw b #[v0, v1, v2, v3, v4, v5, v6, v7, v8, v9, a10, a11] T :: L) := h.rawSet 9 v9
  have h : St W0 _ K (.raw b #[v0, v1, v2, v3, v4, v5, v6, v7, v8, v9, v10, a11] T :: L) := h.rawSet 10 v10
  have h : St W0 _ K (.raw b #[v0, v1, v2, v3, v4, v5, v6, v7, v8, v9, v10, v11] T :: L) := h.rawSet 11 v11
  exact h
/-- How a batch ends a transaction: whose, of which epoch, how, when, by whom, and that it does. -/
def endOf (b : BatS) : Int × Int × Int × Int × Int × Bool :=
  if b.ctl = true ∧ batErr b = 0 then match b.recs with
    | x :: _ => (b.prod, b.epoch, (ctlOf x).1, b.first + x.time, (ctlOf x).2.1, true)
    | [] => (0, 0, 0, 0, 0, false)
  else (0, 0, 0, 0, 0, false)
theorem rowsC_time {first last : Int} {x : RecS} {t : List RecS} {ah g g2 : Int} (h : rowsC first last (x :: t) ah g = .ok g2) : -first ≤ x.time ∧ x.time ≤ 9223372036854775807 - first := by
  rw [rowsC_cons] at h
  by_cases c1 : x.off ≤ ah ∨ last < x.off
  · rw [if_pos c1] at h; cases h
  rw [if_neg c1] at h
  by_cases c2 : x.time < -first ∨ 9223372036854775807 - first < x.time
  · rw [if_pos c2] at h; cases h
  omega
theorem batErr_ctl (b : BatS) (h : batErr b = 0) (hc : b.ctl = true) : ∃ x, b.recs = [x] ∧ (ctlOf x).2.2 = 0 ∧ (-b.first ≤ x.time ∧ x.time ≤ 9223372036854775807 - b.first) ∧ 0 ≤ b.first := by
  unfold batErr at h
  by_cases p1 : b.placed = false
  · rw [if_pos p1] at h; cases h
  rw [if_neg p1] at h
  by_cases p2 : b.ctl = true ∧ b.txn = false
  · rw [if_pos p2] at h; cases h
  rw [if_neg p2] at h
  by_cases p3 : b.signed = false
  · rw [if_pos p3] at h; cases h
  rw [if_neg p3] at h
  by_cases p4 : b.ctl = true ∧ b.recs.length ≠ 1
  · rw [if_pos p4] at h; cases h
  rw [if_neg p4] at h
  by_cases p5 : recsC b.recs ≠ 0
  · rw [if_pos p5] at h; exact absurd h p5
  rw [if_neg p5] at h
  by_cases p6 : b.ctl = true ∧ b.ends ≠ 0
  · rw [if_pos p6] at h; exact absurd h p6.2
  rw [if_neg p6] at h
  have hl : b.recs.length = 1 := by
    by_cases hh : b.recs.length = 1
    · exact hh
    · exact absurd ⟨hc, hh⟩ p4
  obtain ⟨x, hx⟩ := List.length_eq_one_iff.1 hl
  have hp : b.placed = true := by cases hh : b.placed with
    | false => exact absurd hh p1
    | true => rfl
  have hp2 := (of_decide_eq_true hp).2.2.2.2.1
  have he : b.ends = 0 := by
    by_cases hh : b.ends = 0
    · exact hh
    · exact absurd ⟨hc, hh⟩ p6
  unfold BatS.ends at he
  rw [hx] at he
  refine ⟨x, hx, he, ?_, hp2⟩
  unfold BatS.rows at h
  rw [hx] at h
  cases hr : rowsC b.first b.last [x] (-1) b.first with
  | error e =>
    rw [hr] at h
    have h : e = 0 := h
    subst h
    rw [rowsC_cons] at hr
    by_cases c1 : x.off ≤ -1 ∨ b.last < x.off
    · rw [if_pos c1] at hr; cases hr
    rw [if_neg c1] at hr
    by_cases c2 : x.time < -b.first ∨ 9223372036854775807 - b.first < x.time
    · rw [if_pos c2] at hr; cases hr
    rw [if_neg c2] at hr
    cases hr
  | ok g => exact rowsC_time hr

end Go.Proofs.Ytombolmicfjjpaa

/- The fields of a value, read. -/
namespace Go.Proofs.Ytombolmicfjjpaa
open Go.RowKit

set_option maxHeartbeats 2000000 in
set_option maxRecDepth 100000 in
theorem val_fields (b : Nat) (i i1 i2 i3 i4 i5 i6 i7 : InS) (p e t s u st : Int) (l : List TopS) (h1 : i.int 8 = (p, i1)) (h2 : i1.int 2 = (e, i2)) (h3 : i2.int 4 = (t, i3)) (h4 : i3.int 1 = (s, i4)) (h5 : i4.tops = (l, i5)) (h6 : i5.int 8 = (u, i6)) (h7 : i6.int 8 = (st, i7)) {W0 w : World} {K : Know} {L : List Res} (h : St W0 w K (.inp b i :: L)) :
    Calls Try.prog 74 #[inPtr b] w fun en w' => ∃ (qt : Option Addr) (capt : Nat) (lr : List (TopS × Value)), en = .returned (.agg #[.int .i64 p, .int .i64 e, .int .i64 t, .int .i64 s, .slice qt lr.length capt, .int .i64 u, .int .i64 st]) ∧ lr.map (·.1) = l ∧ St W0 w' (K.and (Know.tops (.slice qt lr.length capt) lr)) (.inp b i7 :: L) := by
  obtain ⟨rb, hrb⟩ : ∃ b, w.heap.size = b := ⟨_, rfl⟩
  obtain ⟨vb, hvb⟩ : ∃ b, rb + 1 = b := ⟨_, rfl⟩
  have g1 := (h.allocRaw #[.int .i64 0, .int .i64 0, .int .i64 0, .int .i64 0, .slice none 0 0, .int .i64 0, .int .i64 0] 24).allocRaw #[.int .i64 0, .int .i64 0, .int .i64 0, .int .i64 0, .slice none 0 0, .int .i64 0, .int .i64 0] 24
  simp only [World.size_alloc, hrb, hvb] at g1
  obtain ⟨i0, hi0⟩ : ∃ i0, i = i0 := ⟨_, rfl⟩
  subst hi0
  have H := Lib.hid g1.p2
  have H1 := Lib.hid h1
  have H2 := Lib.hid h2
  have H3 := Lib.hid h3
  have H4 := Lib.hid h4
  have H5 := Lib.hid h5
  have H6 := Lib.hid h6
  have H7 := Lib.hid h7
  clear h g1 h1 h2 h3 h4 h5 h6 h7
  go_enter Try.func74, Try.ntmps74
  go_wp2_with (first
    | (go_at_call 72; (with_reducible refine (s_intV b i i1 p 8 H1.out H.out).mono ?_); rintro e_ wn ⟨rfl, h⟩; have f0 := h.p1.rawFree 0; have g0 := h.p1.rawCell 0; simp at g0; have h := (show St W0 (wn.setCell ⟨vb, 0, none⟩ (.int .i64 p)) K (.inp b i1 :: .raw vb #[.int .i64 p, .int .i64 0, .int .i64 0, .int .i64 0, .slice none 0 0, .int .i64 0, .int .i64 0] 24 :: .raw rb #[.int .i64 0, .int .i64 0, .int .i64 0, .int .i64 0, .slice none 0 0, .int .i64 0, .int .i64 0] 24 :: L) from (h.p1.rawSet 0 (.int .i64 p)).p1); replace H := Lib.hid h; clear h)
    | (go_at_call 72; (with_reducible refine (s_intV b i1 i2 e 2 H2.out H.out).mono ?_); rintro e_ wn ⟨rfl, h⟩; have f1 := h.p1.rawFree 1; have g1 := h.p1.rawCell 1; simp at g1; have h := (show St W0 (wn.setCell ⟨vb, 1, none⟩ (.int .i64 e)) K (.inp b i2 :: .raw vb #[.int .i64 p, .int .i64 e, .int .i64 0, .int .i64 0, .slice none 0 0, .int .i64 0, .int .i64 0] 24 :: .raw rb #[.int .i64 0, .int .i64 0, .int .i64 0, .int .i64 0, .slice none 0 0, .int .i64 0, .int .i64 0] 24 :: L) from (h.p1.rawSet 1 (.int .i64 e)).p1); replace H := Lib.hid h; clear h)
    | (go_at_call 72; (with_reducible refine (s_intV b i2 i3 t 4 H3.out H.out).mono ?_); rintro e_ wn ⟨rfl, h⟩; have f2 := h.p1.rawFree 2; have g2 := h.p1.rawCell 2; simp at g2; have h := (show St W0 (wn.setCell ⟨vb, 2, none⟩ (.int .i64 t)) K (.inp b i3 :: .raw vb #[.int .i64 p, .int .i64 e, .int .i64 t, .int .i64 0, .slice none 0 0, .int .i64 0, .int .i64 0] 24 :: .raw rb #[.int .i64 0, .int .i64 0, .int .i64 0, .int .i64 0, .slice none 0 0, .int .i64 0, .int .i64 0] 24 :: L) from (h.p1.rawSet 2 (.int .i64 t)).p1); replace H := Lib.hid h; clear h)
    | (go_at_call 72; (with_reducible refine (s_intV b i3 i4 s 1 H4.out H.out).mono ?_); rintro e_ wn ⟨rfl, h⟩; have f3 := h.p1.rawFree 3; have g3 := h.p1.rawCell 3; simp at g3; have h := (show St W0 (wn.setCell ⟨vb, 3, none⟩ (.int .i64 s)) K (.inp b i4 :: .raw vb #[.int .i64 p, .int .i64 e, .int .i64 t, .int .i64 s, .slice none 0 0, .int .i64 0, .int .i64 0] 24 :: .raw rb #[.int .i64 0, .int .i64 0, .int .i64 0, .int .i64 0, .slice none 0 0, .int .i64 0, .int .i64 0] 24 :: L) from (h.p1.rawSet 3 (.int .i64 s)).p1); replace H := Lib.hid h; clear h)
    | (go_at_call 25; (with_reducible refine (val_topics b i4 i5 l H5.out H.out).mono ?_); rintro e_ wn ⟨tv, lr, rfl, hlr, h⟩; obtain ⟨qt, capt, htv⟩ := tops_form (Know.has_right (Know.has_refl _)) h; subst htv; have HLR := Lib.hid hlr; clear hlr; have f4 := h.p1.rawFree 4; have g4 := h.p1.rawCell 4; simp at g4; have h := (show St W0 (wn.setCell ⟨vb, 4, none⟩ (.slice qt lr.length capt)) (K.and (Know.tops (.slice qt lr.length capt) lr)) (.inp b i5 :: .raw vb #[.int .i64 p, .int .i64 e, .int .i64 t, .int .i64 s, .slice qt lr.length capt, .int .i64 0, .int .i64 0] 24 :: .raw rb #[.int .i64 0, .int .i64 0, .int .i64 0, .int .i64 0, .slice none 0 0, .int .i64 0, .int .i64 0] 24 :: L) from (h.p1.rawSet 4 (.slice qt lr.length capt)).p1); replace H := Lib.hid h; clear h)
    | (go_at_call 72; (with_reducible refine (s_intV b i5 i6 u 8 H6.out H.out).mono ?_); rintro e_ wn ⟨rfl, h⟩; have f5 := h.p1.rawFree 5; have g5 := h.p1.rawCell 5; simp at g5; have h := (show St W0 (wn.setCell ⟨vb, 5, none⟩ (.int .i64 u)) (K.and (Know.tops (.slice qt lr.length capt) lr)) (.inp b i6 :: .raw vb #[.int .i64 p, .int .i64 e, .int .i64 t, .int .i64 s, .slice qt lr.length capt, .int .i64 u, .int .i64 0] 24 :: .raw rb #[.int .i64 0, .int .i64 0, .int .i64 0, .int .i64 0, .slice none 0 0, .int .i64 0, .int .i64 0] 24 :: L) from (h.p1.rawSet 5 (.int .i64 u)).p1); replace H := Lib.hid h; clear h)
    | (go_at_call 72; (with_reducible refine (s_intV b i6 i7 st 8 H7.out H.out).mono ?_); rintro e_ wn ⟨rfl, h⟩; have f6 := h.p1.rawFree 6; have g6 := h.p1.rawCell 6; simp at g6; have h := (show St W0 (wn.setCell ⟨vb, 6, none⟩ (.int .i64 st)) (K.and (Know.tops (.slice qt lr.length capt) lr)) (.inp b i7 :: .raw vb #[.int .i64 p, .int .i64 e, .int .i64 t, .int .i64 s, .slice qt lr.length capt, .int .i64 u, .int .i64 st] 24 :: .raw rb #[.int .i64 0, .int .i64 0, .int .i64 0, .int .i64 0, .slice none 0 0, .int .i64 0, .int .i64 0] 24 :: L) from (h.p1.rawSet 6 (.int .i64 st)).p1); have c0 := h.p1.rawCell 0; have c1 := h.p1.rawCell 1; have c2 := h.p1.rawCell 2; have c3 := h.p1.rawCell 3; have c4 := h.p1.rawCell 4; have c5 := h.p1.rawCell 5; have c6 := h.p1.rawCell 6; have d0 := h.p2.rawCell 0; have r0 := h.p2.rawFree 0; have d1 := h.p2.rawCell 1; have r1 := h.p2.rawFree 1; have d2 := h.p2.rawCell 2; have r2 := h.p2.rawFree 2; have d3 := h.p2.rawCell 3; have r3 := h.p2.rawFree 3; have d4 := h.p2.rawCell 4; have r4 := h.p2.rawFree 4; have d5 := h.p2.rawCell 5; have r5 := h.p2.rawFree 5; have d6 := h.p2.rawCell 6; have r6 := h.p2.rawFree 6; simp at c0 c1 c2 c3 c4 c5 c6 d0 d1 d2 d3 d4 d5 d6; replace H := Lib.hid h; clear h))
  have hz : St W0 _ _ (.raw rb #[.int .i64 p, .int .i64 e, .int .i64 t, .int .i64 s, .slice qt lr.length capt, .int .i64 u, .int .i64 st] 24 :: .inp b i7 :: .raw vb #[.int .i64 p, .int .i64 e, .int .i64 t, .int .i64 s, .slice qt lr.length capt, .int .i64 u, .int .i64 st] 24 :: L) := (((((((H.out.p2).rawSet 0 _).rawSet 1 _).rawSet 2 _).rawSet 3 _).rawSet 4 _).rawSet 5 _).rawSet 6 _
  refine bodyPost_ret (rc_cell_only rfl _ _ rb [.int .i64 p, .int .i64 e, .int .i64 t, .int .i64 s, .slice qt lr.length capt, .int .i64 u, .int .i64 st] _ rfl (rc_range hz) Try.underlying24 rfl (by kernel_rfl)) rfl ?_
  exact ⟨qt, capt, lr, rfl, HLR.out, hz.drop.p1.drop⟩

end Go.Proofs.Ytombolmicfjjpaa

/- Values, decoded. -/
namespace Go.Proofs.Ytombolmicfjjpaa
open Go.RowKit

theorem St.sets7 {W0 w : World} {K : Know} {L : List Res} {b : Nat} {T : TypeId} {a0 a1 a2 a3 a4 a5 a6 : Value} (v0 v1 v2 v3 v4 v5 v6 : Value) (h : St W0 w K (.raw b #[a0, a1, a2, a3, a4, a5, a6] T :: L)) : St W0 (((((((w.setCell ⟨b, 0, none⟩ v0).setCell ⟨b, 1, none⟩ v1).setCell ⟨b, 2, none⟩ v2).setCell ⟨b, 3, none⟩ v3).setCell ⟨b, 4, none⟩ v4).setCell ⟨b, 5, none⟩ v5).setCell ⟨b, 6, none⟩ v6) K (.raw b #[v0, v1, v2, v3, v4, v5, v6] T :: L) := by
  have h : St W0 _ K (.raw b #[v0, a1, a2, a3, a4, a5, a6] T :: L) := h.rawSet 0 v0
  have h : St W0 _ K (.raw b #[v0, v1, a2, a3, a4, a5, a6] T :: L) := h.rawSet 1 v1
  have h : St W0 _ K (.raw b #[v0, v1, v2, a3, a4, a5, a6] T :: L) := h.rawSet 2 v2
  have h : St W0 _ K (.raw b #[v0, v1, v2, v3, a4, a5, a6] T :: L) := h.rawSet 3 v3
  have h : St W0 _ K (.raw b #[v0, v1, v2, v3, v4, a5, a6] T :: L) := h.rawSet 4 v4
  have h : St W0 _ K (.raw b #[v0, v1, v2, v3, v4, v5, a6] T :: L) := h.rawSet 5 v5
  have h : St W0 _ K (.raw b #[v0, v1, v2, v3, v4, v5, v6] T :: L) := h.rawSet 6 v6
  exact h
theorem s_failV (p : Nat) (i j : InS) (e : Int) (hx : i.fail e = j) {W0 w : World} {K : Know} {L : List Res} (h : St W0 w K (.inp p i :: L)) :
    Calls Try.prog 73 #[inPtr p, .int .i64 e] w fun en w' => en = .returned (.tuple #[]) ∧ St W0 w' K (.inp p j :: L) := by
  subst hx; exact s_fail p i e h
theorem s_closeV (p : Nat) (i : InS) (e : Int) (hx : i.close.err = e) {W0 w : World} {K : Know} {L : List Res} (h : St W0 w K (.inp p i :: L)) :
    Calls Try.prog 34 #[inPtr p] w fun en w' => en = .returned (.int .i64 e) ∧ St W0 w' K (.inp p i.close :: L) := by
  subst hx; exact s_close p i h
set_option maxHeartbeats 12000000 in
set_option maxRecDepth 100000 in
theorem val_decode_bad (S : Bs) (hsl : S.length ≤ 1000000) (v : ValS) (E : Int) (hv : valDec S = (v, E)) (h0 : E ≠ 0) {W0 w : World} {K : Know} {L : List Res} (h : St W0 w K L) :
    Calls Try.prog 18 #[.string (bb S)] w fun en w' => en = .returned (.tuple #[.agg #[.int .i64 0, .int .i64 0, .int .i64 0, .int .i64 0, .slice none 0 0, .int .i64 0, .int .i64 0], .int .i64 E]) ∧ St W0 w' K L := by
  obtain ⟨rb, hrb⟩ : ∃ b, w.heap.size = b := ⟨_, rfl⟩
  have g1 := h.allocRaw #[.int .i64 0, .int .i64 0, .int .i64 0, .int .i64 0, .slice none 0 0, .int .i64 0, .int .i64 0] 24
  rw [hrb] at g1
  have H := Lib.hid g1
  have HSL := Lib.hid (show S.length ≤ 140737488355328 by omega)
  obtain ⟨⟨a, j0⟩, ha⟩ : ∃ r, (⟨S, 0, 0⟩ : InS).int 2 = r := ⟨_, rfl⟩
  have HA := Lib.hid ha
  have hat := decI_at S
  obtain ⟨j, hj⟩ : ∃ j, decI S = j := ⟨_, rfl⟩
  have hjj : j = if a = 0 then j0 else j0.fail 7 := by rw [← hj]; unfold decI; rw [ha]
  obtain ⟨⟨p, i1⟩, h1⟩ : ∃ r, j.int 8 = r := ⟨_, rfl⟩
  obtain ⟨⟨e, i2⟩, h2⟩ : ∃ r, i1.int 2 = r := ⟨_, rfl⟩
  obtain ⟨⟨t, i3⟩, h3⟩ : ∃ r, i2.int 4 = r := ⟨_, rfl⟩
  obtain ⟨⟨s, i4⟩, h4⟩ : ∃ r, i3.int 1 = r := ⟨_, rfl⟩
  obtain ⟨⟨l, i5⟩, h5⟩ : ∃ r, i4.tops = r := ⟨_, rfl⟩
  obtain ⟨⟨u, i6⟩, h6⟩ : ∃ r, i5.int 8 = r := ⟨_, rfl⟩
  obtain ⟨⟨st, i7⟩, h7⟩ : ∃ r, i6.int 8 = r := ⟨_, rfl⟩
  have hF := valF_eq h1 h2 h3 h4 h5 h6 h7
  rw [hj] at hat
  have hfl := valF_few hat hsl
  rw [hF] at hfl
  have H1 := Lib.hid h1
  have H2 := Lib.hid h2
  have H3 := Lib.hid h3
  have H4 := Lib.hid h4
  have H5 := Lib.hid h5
  have H6 := Lib.hid h6
  have H7 := Lib.hid h7
  have HFL := Lib.hid (show FewL l from hfl)
  obtain ⟨ec, hec⟩ : ∃ ec, i7.close.err = ec := ⟨_, rfl⟩
  have HEC := Lib.hid hec
  have hde : decE S = ec := by unfold decE; rw [hj, hF]; exact hec
  have hb := valDec_bad hv h0
  rw [hde, hj, hF] at hb
  have gE : (E == 0) = false := by rw [beq_eq_false_iff_ne]; exact h0
  have gE2 : (E != 0) = true := by simp [bne, gE]
  have hdz := fun (hz : ec = 0) => decE_zero (s := S) (by rw [hde]; exact hz)
  rw [ha] at hdz
  rcases hb with hb | ⟨hb1, hb2⟩
  · subst hb
    by_cases ha0 : a = 0
    · as_aux_lemma =>
      rw [if_pos ha0] at hjj
      subst hjj
      subst ha0
      clear h g1 ha hat hj h1 h2 h3 h4 h5 h6 h7 hF hfl hec hde hdz hv hsl h0
      go_enter Try.func18, Try.ntmps18
      go_wp2_with (first
    | (go_at_call 24; (with_reducible refine (s_new S HSL.out H.out).mono ?_); rintro e_ wn ⟨bi, rfl, h⟩; replace H := Lib.hid h; clear h)
    | (go_at_call 72; (with_reducible refine (s_intV bi _ _ _ 2 HA.out H.out).mono ?_); rintro e_ wn ⟨rfl, h⟩; replace H := Lib.hid h; clear h)
    | (go_at_call 74; (with_reducible refine (val_fields bi _ _ _ _ _ _ _ _ p e t s u st l H1.out H2.out H3.out H4.out H5.out H6.out H7.out H.out).mono ?_); rintro e_ wn ⟨qt, capt, lr, rfl, hlr, h⟩; obtain ⟨vb, hvb⟩ : ∃ b, wn.heap.size = b := ⟨_, rfl⟩; have h := h.allocRaw #[.int .i64 p, .int .i64 e, .int .i64 t, .int .i64 s, .slice qt lr.length capt, .int .i64 u, .int .i64 st] 24; rw [hvb] at h; have HLR := Lib.hid hlr; clear hlr; replace H := Lib.hid h; clear h)
    | (go_at_call 34; (with_reducible refine (s_closeV bi _ _ HEC.out H.out.p1).mono ?_); rintro e_ wn ⟨rfl, h⟩; have c0 := h.p1.rawCell 0; have c1 := h.p1.rawCell 1; have c2 := h.p1.rawCell 2; have c3 := h.p1.rawCell 3; have c4 := h.p1.rawCell 4; have c5 := h.p1.rawCell 5; have c6 := h.p1.rawCell 6; simp at c0 c1 c2 c3 c4 c5 c6; have d0 := h.p2.rawCell 0; have r0 := h.p2.rawFree 0; have d1 := h.p2.rawCell 1; have r1 := h.p2.rawFree 1; have d2 := h.p2.rawCell 2; have r2 := h.p2.rawFree 2; have d3 := h.p2.rawCell 3; have r3 := h.p2.rawFree 3; have d4 := h.p2.rawCell 4; have r4 := h.p2.rawFree 4; have d5 := h.p2.rawCell 5; have r5 := h.p2.rawFree 5; have d6 := h.p2.rawCell 6; have r6 := h.p2.rawFree 6; simp at d0 d1 d2 d3 d4 d5 d6; replace H := Lib.hid h; clear h))
      have hz : St W0 _ _ (.raw rb #[.int .i64 0, .int .i64 0, .int .i64 0, .int .i64 0, .slice none 0 0, .int .i64 0, .int .i64 0] 24 :: _) := St.sets7 _ _ _ _ _ _ _ (H.out.p2)
      refine bodyPost_ret (rc_cell_tmp rfl _ _ rb [.int .i64 0, .int .i64 0, .int .i64 0, .int .i64 0, .slice none 0 0, .int .i64 0, .int .i64 0] _ rfl (rc_range hz) Try.underlying24 rfl (by kernel_rfl)) rfl ?_
      exact ⟨rfl, (hz.drop.drop.drop).know (Know.has_left (Know.has_refl _))⟩
    · as_aux_lemma =>
      rw [if_neg ha0] at hjj
      have HJ := Lib.hid hjj.symm
      have ga : (a == 0) = false := by rw [beq_eq_false_iff_ne]; exact ha0
      have ga2 : (a != 0) = true := by simp [bne, ga]
      clear h g1 ha hat hj h1 h2 h3 h4 h5 h6 h7 hF hfl hec hde hdz hv hsl h0 hjj ha0
      go_enter Try.func18, Try.ntmps18
      go_wp2_with (first
    | (go_at_call 24; (with_reducible refine (s_new S HSL.out H.out).mono ?_); rintro e_ wn ⟨bi, rfl, h⟩; replace H := Lib.hid h; clear h)
    | (go_at_call 72; (with_reducible refine (s_intV bi _ _ _ 2 HA.out H.out).mono ?_); rintro e_ wn ⟨rfl, h⟩; replace H := Lib.hid h; clear h)
    | (go_at_call 73; (with_reducible refine (s_failV bi _ _ 7 HJ.out H.out).mono ?_); rintro e_ wn ⟨rfl, h⟩; replace H := Lib.hid h; clear h)
    | (go_at_call 74; (with_reducible refine (val_fields bi _ _ _ _ _ _ _ _ p e t s u st l H1.out H2.out H3.out H4.out H5.out H6.out H7.out H.out).mono ?_); rintro e_ wn ⟨qt, capt, lr, rfl, hlr, h⟩; obtain ⟨vb, hvb⟩ : ∃ b, wn.heap.size = b := ⟨_, rfl⟩; have h := h.allocRaw #[.int .i64 p, .int .i64 e, .int .i64 t, .int .i64 s, .slice qt lr.length capt, .int .i64 u, .int .i64 st] 24; rw [hvb] at h; have HLR := Lib.hid hlr; clear hlr; replace H := Lib.hid h; clear h)
    | (go_at_call 34; (with_reducible refine (s_closeV bi _ _ HEC.out H.out.p1).mono ?_); rintro e_ wn ⟨rfl, h⟩; have c0 := h.p1.rawCell 0; have c1 := h.p1.rawCell 1; have c2 := h.p1.rawCell 2; have c3 := h.p1.rawCell 3; have c4 := h.p1.rawCell 4; have c5 := h.p1.rawCell 5; have c6 := h.p1.rawCell 6; simp at c0 c1 c2 c3 c4 c5 c6; have d0 := h.p2.rawCell 0; have r0 := h.p2.rawFree 0; have d1 := h.p2.rawCell 1; have r1 := h.p2.rawFree 1; have d2 := h.p2.rawCell 2; have r2 := h.p2.rawFree 2; have d3 := h.p2.rawCell 3; have r3 := h.p2.rawFree 3; have d4 := h.p2.rawCell 4; have r4 := h.p2.rawFree 4; have d5 := h.p2.rawCell 5; have r5 := h.p2.rawFree 5; have d6 := h.p2.rawCell 6; have r6 := h.p2.rawFree 6; simp at d0 d1 d2 d3 d4 d5 d6; replace H := Lib.hid h; clear h))
      have hz : St W0 _ _ (.raw rb #[.int .i64 0, .int .i64 0, .int .i64 0, .int .i64 0, .slice none 0 0, .int .i64 0, .int .i64 0] 24 :: _) := St.sets7 _ _ _ _ _ _ _ (H.out.p2)
      refine bodyPost_ret (rc_cell_tmp rfl _ _ rb [.int .i64 0, .int .i64 0, .int .i64 0, .int .i64 0, .slice none 0 0, .int .i64 0, .int .i64 0] _ rfl (rc_range hz) Try.underlying24 rfl (by kernel_rfl)) rfl ?_
      exact ⟨rfl, (hz.drop.drop.drop).know (Know.has_left (Know.has_refl _))⟩
  · as_aux_lemma =>
    have ha0 : a = 0 := hdz hb1
    rw [if_pos ha0] at hjj
    subst hjj
    subst ha0
    subst hb1
    have HE := Lib.hid (show ValS.err ⟨p, e, t, s, l, u, st⟩ = E from hb2)
    clear h g1 ha hat hj h1 h2 h3 h4 h5 h6 h7 hF hfl hec hde hdz hv hsl h0 hb2
    go_enter Try.func18, Try.ntmps18
    go_wp2_with (first
    | (go_at_call 24; (with_reducible refine (s_new S HSL.out H.out).mono ?_); rintro e_ wn ⟨bi, rfl, h⟩; replace H := Lib.hid h; clear h)
    | (go_at_call 72; (with_reducible refine (s_intV bi _ _ _ 2 HA.out H.out).mono ?_); rintro e_ wn ⟨rfl, h⟩; replace H := Lib.hid h; clear h)
    | (go_at_call 74; (with_reducible refine (val_fields bi _ _ _ _ _ _ _ _ p e t s u st l H1.out H2.out H3.out H4.out H5.out H6.out H7.out H.out).mono ?_); rintro e_ wn ⟨qt, capt, lr, rfl, hlr, h⟩; obtain ⟨vb, hvb⟩ : ∃ b, wn.heap.size = b := ⟨_, rfl⟩; have h := h.allocRaw #[.int .i64 p, .int .i64 e, .int .i64 t, .int .i64 s, .slice qt lr.length capt, .int .i64 u, .int .i64 st] 24; rw [hvb] at h; have HLR := Lib.hid hlr; clear hlr; replace H := Lib.hid h; clear h)
    | (go_at_call 34; (with_reducible refine (s_closeV bi _ _ HEC.out H.out.p1).mono ?_); rintro e_ wn ⟨rfl, h⟩; have c0 := h.p1.rawCell 0; have c1 := h.p1.rawCell 1; have c2 := h.p1.rawCell 2; have c3 := h.p1.rawCell 3; have c4 := h.p1.rawCell 4; have c5 := h.p1.rawCell 5; have c6 := h.p1.rawCell 6; simp at c0 c1 c2 c3 c4 c5 c6; have d0 := h.p2.rawCell 0; have r0 := h.p2.rawFree 0; have d1 := h.p2.rawCell 1; have r1 := h.p2.rawFree 1; have d2 := h.p2.rawCell 2; have r2 := h.p2.rawFree 2; have d3 := h.p2.rawCell 3; have r3 := h.p2.rawFree 3; have d4 := h.p2.rawCell 4; have r4 := h.p2.rawFree 4; have d5 := h.p2.rawCell 5; have r5 := h.p2.rawFree 5; have d6 := h.p2.rawCell 6; have r6 := h.p2.rawFree 6; simp at d0 d1 d2 d3 d4 d5 d6; replace H := Lib.hid h; clear h)
    | (go_at_call 17; (with_reducible refine (val_checkV p e t s u st lr _ _ E (by rw [HLR.out]; exact HE.out) (fewT_of (by rw [HLR.out]; exact HFL.out)) (Know.has_right (Know.has_refl _)) H.out).mono ?_); rintro e_ wn ⟨rfl, h⟩; have c0 := h.p1.rawCell 0; have c1 := h.p1.rawCell 1; have c2 := h.p1.rawCell 2; have c3 := h.p1.rawCell 3; have c4 := h.p1.rawCell 4; have c5 := h.p1.rawCell 5; have c6 := h.p1.rawCell 6; simp at c0 c1 c2 c3 c4 c5 c6; have d0 := h.p2.rawCell 0; have r0 := h.p2.rawFree 0; have d1 := h.p2.rawCell 1; have r1 := h.p2.rawFree 1; have d2 := h.p2.rawCell 2; have r2 := h.p2.rawFree 2; have d3 := h.p2.rawCell 3; have r3 := h.p2.rawFree 3; have d4 := h.p2.rawCell 4; have r4 := h.p2.rawFree 4; have d5 := h.p2.rawCell 5; have r5 := h.p2.rawFree 5; have d6 := h.p2.rawCell 6; have r6 := h.p2.rawFree 6; simp at d0 d1 d2 d3 d4 d5 d6; replace H := Lib.hid h; clear h))
    have hz : St W0 _ _ (.raw rb #[.int .i64 0, .int .i64 0, .int .i64 0, .int .i64 0, .slice none 0 0, .int .i64 0, .int .i64 0] 24 :: _) := St.sets7 _ _ _ _ _ _ _ (H.out.p2)
    refine bodyPost_ret (rc_cell_tmp rfl _ _ rb [.int .i64 0, .int .i64 0, .int .i64 0, .int .i64 0, .slice none 0 0, .int .i64 0, .int .i64 0] _ rfl (rc_range hz) Try.underlying24 rfl (by kernel_rfl)) rfl ?_
    exact ⟨rfl, (hz.drop.drop.drop).know (Know.has_left (Know.has_refl _))⟩
set_option maxHeartbeats 12000000 in
set_option maxRecDepth 100000 in
theorem val_decode_ok (S : Bs) (hsl : S.length ≤ 1000000) (v : ValS) (hv : valDec S = (v, 0)) {W0 w : World} {K : Know} {L : List Res} (h : St W0 w K L) :
    Calls Try.prog 18 #[.string (bb S)] w fun en w' => ∃ (qt : Option Addr) (capt : Nat) (lr : List (TopS × Value)), en = .returned (.tuple #[.agg #[.int .i64 v.prod, .int .i64 v.epoch, .int .i64 v.timeout, .int .i64 v.state, .slice qt lr.length capt, .int .i64 v.upd, .int .i64 v.started], .int .i64 0]) ∧ lr.map (·.1) = v.tops ∧ St W0 w' (K.and (Know.tops (.slice qt lr.length capt) lr)) L := by
  obtain ⟨rb, hrb⟩ : ∃ b, w.heap.size = b := ⟨_, rfl⟩
  have g1 := h.allocRaw #[.int .i64 0, .int .i64 0, .int .i64 0, .int .i64 0, .slice none 0 0, .int .i64 0, .int .i64 0] 24
  rw [hrb] at g1
  have H := Lib.hid g1
  have HSL := Lib.hid (show S.length ≤ 140737488355328 by omega)
  obtain ⟨⟨a, j0⟩, ha⟩ : ∃ r, (⟨S, 0, 0⟩ : InS).int 2 = r := ⟨_, rfl⟩
  have HA := Lib.hid ha
  have hat := decI_at S
  obtain ⟨j, hj⟩ : ∃ j, decI S = j := ⟨_, rfl⟩
  have hjj : j = if a = 0 then j0 else j0.fail 7 := by rw [← hj]; unfold decI; rw [ha]
  obtain ⟨⟨p, i1⟩, h1⟩ : ∃ r, j.int 8 = r := ⟨_, rfl⟩
  obtain ⟨⟨e, i2⟩, h2⟩ : ∃ r, i1.int 2 = r := ⟨_, rfl⟩
  obtain ⟨⟨t, i3⟩, h3⟩ : ∃ r, i2.int 4 = r := ⟨_, rfl⟩
  obtain ⟨⟨s, i4⟩, h4⟩ : ∃ r, i3.int 1 = r := ⟨_, rfl⟩
  obtain ⟨⟨l, i5⟩, h5⟩ : ∃ r, i4.tops = r := ⟨_, rfl⟩
  obtain ⟨⟨u, i6⟩, h6⟩ : ∃ r, i5.int 8 = r := ⟨_, rfl⟩
  obtain ⟨⟨st, i7⟩, h7⟩ : ∃ r, i6.int 8 = r := ⟨_, rfl⟩
  have hF := valF_eq h1 h2 h3 h4 h5 h6 h7
  rw [hj] at hat
  have hfl := valF_few hat hsl
  rw [hF] at hfl
  have H1 := Lib.hid h1
  have H2 := Lib.hid h2
  have H3 := Lib.hid h3
  have H4 := Lib.hid h4
  have H5 := Lib.hid h5
  have H6 := Lib.hid h6
  have H7 := Lib.hid h7
  have HFL := Lib.hid (show FewL l from hfl)
  obtain ⟨ec, hec⟩ : ∃ ec, i7.close.err = ec := ⟨_, rfl⟩
  have HEC := Lib.hid hec
  have hde : decE S = ec := by unfold decE; rw [hj, hF]; exact hec
  obtain ⟨hb1, hb2, hb3⟩ := valDec_ok hv (.inr trivial)
  rw [hde] at hb1
  rw [hj, hF] at hb2
  have hdz := decE_zero (s := S) (by rw [hde]; exact hb1)
  rw [ha] at hdz
  have ha0 : a = 0 := hdz
  rw [if_pos ha0] at hjj
  have hb2 : (⟨p, e, t, s, l, u, st⟩ : ValS) = v := hb2
  subst hb2
  subst hjj
  subst ha0
  subst hb1
  have HE := Lib.hid hb3
  clear h g1 ha hat hj h1 h2 h3 h4 h5 h6 h7 hF hfl hec hde hdz hv hsl hb3
  go_enter Try.func18, Try.ntmps18
  go_wp2_with (first
    | (go_at_call 24; (with_reducible refine (s_new S HSL.out H.out).mono ?_); rintro e_ wn ⟨bi, rfl, h⟩; replace H := Lib.hid h; clear h)
    | (go_at_call 72; (with_reducible refine (s_intV bi _ _ _ 2 HA.out H.out).mono ?_); rintro e_ wn ⟨rfl, h⟩; replace H := Lib.hid h; clear h)
    | (go_at_call 74; (with_reducible refine (val_fields bi _ _ _ _ _ _ _ _ p e t s u st l H1.out H2.out H3.out H4.out H5.out H6.out H7.out H.out).mono ?_); rintro e_ wn ⟨qt, capt, lr, rfl, hlr, h⟩; obtain ⟨vb, hvb⟩ : ∃ b, wn.heap.size = b := ⟨_, rfl⟩; have h := h.allocRaw #[.int .i64 p, .int .i64 e, .int .i64 t, .int .i64 s, .slice qt lr.length capt, .int .i64 u, .int .i64 st] 24; rw [hvb] at h; have HLR := Lib.hid hlr; clear hlr; replace H := Lib.hid h; clear h)
    | (go_at_call 34; (with_reducible refine (s_closeV bi _ _ HEC.out H.out.p1).mono ?_); rintro e_ wn ⟨rfl, h⟩; have c0 := h.p1.rawCell 0; have c1 := h.p1.rawCell 1; have c2 := h.p1.rawCell 2; have c3 := h.p1.rawCell 3; have c4 := h.p1.rawCell 4; have c5 := h.p1.rawCell 5; have c6 := h.p1.rawCell 6; simp at c0 c1 c2 c3 c4 c5 c6; have d0 := h.p2.rawCell 0; have r0 := h.p2.rawFree 0; have d1 := h.p2.rawCell 1; have r1 := h.p2.rawFree 1; have d2 := h.p2.rawCell 2; have r2 := h.p2.rawFree 2; have d3 := h.p2.rawCell 3; have r3 := h.p2.rawFree 3; have d4 := h.p2.rawCell 4; have r4 := h.p2.rawFree 4; have d5 := h.p2.rawCell 5; have r5 := h.p2.rawFree 5; have d6 := h.p2.rawCell 6; have r6 := h.p2.rawFree 6; simp at d0 d1 d2 d3 d4 d5 d6; replace H := Lib.hid h; clear h)
    | (go_at_call 17; (with_reducible refine (val_checkV p e t s u st lr _ _ 0 (by rw [HLR.out]; exact HE.out) (fewT_of (by rw [HLR.out]; exact HFL.out)) (Know.has_right (Know.has_refl _)) H.out).mono ?_); rintro e_ wn ⟨rfl, h⟩; have c0 := h.p1.rawCell 0; have c1 := h.p1.rawCell 1; have c2 := h.p1.rawCell 2; have c3 := h.p1.rawCell 3; have c4 := h.p1.rawCell 4; have c5 := h.p1.rawCell 5; have c6 := h.p1.rawCell 6; simp at c0 c1 c2 c3 c4 c5 c6; have d0 := h.p2.rawCell 0; have r0 := h.p2.rawFree 0; have d1 := h.p2.rawCell 1; have r1 := h.p2.rawFree 1; have d2 := h.p2.rawCell 2; have r2 := h.p2.rawFree 2; have d3 := h.p2.rawCell 3; have r3 := h.p2.rawFree 3; have d4 := h.p2.rawCell 4; have r4 := h.p2.rawFree 4; have d5 := h.p2.rawCell 5; have r5 := h.p2.rawFree 5; have d6 := h.p2.rawCell 6; have r6 := h.p2.rawFree 6; simp at d0 d1 d2 d3 d4 d5 d6; replace H := Lib.hid h; clear h))
  have hz : St W0 _ _ (.raw rb #[.int .i64 p, .int .i64 e, .int .i64 t, .int .i64 s, .slice qt lr.length capt, .int .i64 u, .int .i64 st] 24 :: _) := St.sets7 _ _ _ _ _ _ _ (H.out.p2)
  refine bodyPost_ret (rc_cell_tmp rfl _ _ rb [.int .i64 p, .int .i64 e, .int .i64 t, .int .i64 s, .slice qt lr.length capt, .int .i64 u, .int .i64 st] _ rfl (rc_range hz) Try.underlying24 rfl (by kernel_rfl)) rfl ?_
  exact ⟨qt, capt, lr, rfl, HLR.out, hz.drop.drop.drop⟩

end Go.Proofs.Ytombolmicfjjpaa
