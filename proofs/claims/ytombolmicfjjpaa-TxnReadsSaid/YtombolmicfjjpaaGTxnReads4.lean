/- Topics, read by definition (pure). -/
import Derived.Test.YtombolmicfjjpaaGTxnReads2
import Derived.Test.YtombolmicfjjpaaGTxnReads3
import Derived.Test.YtombolmicfjjpaaGTxnReads1
import Derived.Test.YtombolmicfjjpaaBlob1
import Derived.Test.YtombolmicfjjpaaRef04
import Derived.Test.YtombolmicfjjpaaKeyP
/- Values, checked. -/
namespace Go.Proofs.Ytombolmicfjjpaa
open Go.RowKit

theorem tRise_nil : tRise [] = true := rfl
theorem idle_0 : idle 0 = true := rfl
theorem val_check (v : ValS) (l : List (TopS × Value)) (q : Option Addr) (cap : Nat) (hl : l.map (·.1) = v.tops) (E : Int) (he : v.err = E) (hf : FewT l) {W0 w : World} {K : Know} {L : List Res} (hk : K.has (Know.tops (.slice q l.length cap) l)) (h : St W0 w K L) :
    Calls Try.prog 17 #[.agg #[.int .i64 v.prod, .int .i64 v.epoch, .int .i64 v.timeout, .int .i64 v.state, .slice q l.length cap, .int .i64 v.upd, .int .i64 v.started]] w fun en w' => en = .returned (.int .i64 E) ∧ St W0 w' K L := by
  obtain ⟨p, e, t, s, tops, u, st⟩ := v
  simp only at hl ⊢
  subst hl
  unfold ValS.err ValS.ranged at he
  simp only at he
  cases hrg : (decide (0 ≤ p) && (decide (0 ≤ e) && (decide (e ≤ 32767) && (decide (0 ≤ t) && (decide (t ≤ 2147483647) && (decide (0 ≤ u) && decide (-1 ≤ st))))))) with
  | false =>
    rw [if_pos hrg] at he
    subst he
    exact val_check_11 p e t s u st l q cap hrg hf hk h
  | true =>
    rw [if_neg (by rw [hrg]; decide)] at he
    by_cases hs : s < 0 ∨ 7 ≤ s
    · rw [if_pos hs] at he
      subst he
      exact val_check_12 p e t s u st l q cap hrg hs hf hk h
    · rw [if_neg hs] at he
      have s1 : 0 ≤ s := by omega
      have s2 : s < 7 := by omega
      have hemp : (l.map (·.1)).isEmpty = decide (l = []) := by cases l <;> simp
      rw [hemp] at he
      by_cases hem : l = []
      · rw [decide_eq_true hem] at he
        cases hi : idle s with
        | false =>
          rw [if_pos (.inl (by rw [hi]; rfl))] at he
          subst he
          subst hem; exact val_check_10e p e t s u st q cap hrg s1 s2 hi hf hk h
        | true =>
          by_cases h1 : s = 0
          · by_cases h2 : st = -1
            · rw [if_neg (by rw [hi, h1, h2]; decide)] at he
              have htr : tRise (l.map (·.1)) = true := by rw [hem]; rfl
              rw [if_neg (by rw [htr]; decide)] at he
              subst he
              subst hem; exact val_check_e11t p e t s u st q cap hrg s1 s2 hi h1 h2 htr hf hk h
            · rw [if_pos (.inr (by rw [h1, beq_eq_false_iff_ne.2 h2]; rfl))] at he
              subst he
              subst hem; exact val_check_e10 p e t s u st q cap hrg s1 s2 hi h1 h2 hf hk h
          · by_cases h2 : st = -1
            · rw [if_pos (.inr (by rw [h2, beq_eq_false_iff_ne.2 h1]; rfl))] at he
              subst he
              subst hem; exact val_check_e01 p e t s u st q cap hrg s1 s2 hi h1 h2 hf hk h
            · rw [if_neg (by rw [hi, beq_eq_false_iff_ne.2 h1, beq_eq_false_iff_ne.2 h2]; decide)] at he
              have htr : tRise (l.map (·.1)) = true := by rw [hem]; rfl
              rw [if_neg (by rw [htr]; decide)] at he
              subst he
              subst hem; exact val_check_e00t p e t s u st q cap hrg s1 s2 hi h1 h2 htr hf hk h
      · rw [decide_eq_false hem] at he
        cases hi : idle s with
        | true =>
          rw [if_pos (.inl (by rw [hi]; rfl))] at he
          subst he
          exact val_check_10f p e t s u st l q cap hrg s1 s2 hi hem hf hk h
        | false =>
          have h1 : ¬ s = 0 := by rintro rfl; rw [idle_0] at hi; cases hi
          by_cases h2 : st = -1
          · rw [if_pos (.inr (by rw [h2, beq_eq_false_iff_ne.2 h1]; rfl))] at he
            subst he
            exact val_check_f01 p e t s u st l q cap hrg s1 s2 hi hem h1 h2 hf hk h
          · rw [if_neg (by rw [hi, beq_eq_false_iff_ne.2 h1, beq_eq_false_iff_ne.2 h2]; decide)] at he
            cases htr : tRise (l.map (·.1)) with
            | true =>
              rw [if_neg (by rw [htr]; decide)] at he
              subst he
              exact val_check_f00t p e t s u st l q cap hrg s1 s2 hi hem h1 h2 htr hf hk h
            | false =>
              rw [if_pos htr] at he
              subst he
              exact val_check_f00b p e t s u st l q cap hrg s1 s2 hi hem h1 h2 htr hf hk h

end Go.Proofs.Ytombolmicfjjpaa

/- Numbers and texts, written. -/
namespace Go.Proofs.Ytombolmicfjjpaa
open Go.RowKit

theorem fits_rng (n size : Int) (h : fits n size) : -9223372036854775808 ≤ n ∧ n < 9223372036854775808 := by
  obtain ⟨h1, h2, h3, h4⟩ := h
  unfold half at h3 h4
  rcases (by omega : size.toNat - 1 = 0 ∨ size.toNat - 1 = 1 ∨ size.toNat - 1 = 2 ∨ size.toNat - 1 = 3 ∨ size.toNat - 1 = 4 ∨ size.toNat - 1 = 5 ∨ size.toNat - 1 = 6 ∨ size.toNat - 1 = 7) with h | h | h | h | h | h | h | h <;> rw [h] at h3 h4 <;> omega
theorem so_intV (p : Nat) (e e2 : Bs) (n size : Int) (he : e ++ beBytes n size.toNat = e2) (hf : fits n size) (hl : e.length ≤ 100000000000000) {W0 w : World} {K : Know} {L : List Res} (h : St W0 w K (.out p ⟨e, 0⟩ :: L)) :
    Calls Try.prog 69 #[outPtr p, .int .i64 n, .int .i64 size] w fun en w' => en = .returned (.tuple #[]) ∧ St W0 w' K (.out p ⟨e2, 0⟩ :: L) := by
  have h2 := so_int p ⟨e, 0⟩ n size (fits_rng n size hf) h (by unfold OutS.ok; simp only; omega)
  have e3 : (⟨e, 0⟩ : OutS).int n size = ⟨e2, 0⟩ := by unfold OutS.int; rw [if_pos hf, ← he]; rfl
  rw [e3] at h2
  exact h2
theorem blob_putTextV (p : Nat) (e e2 s : Bs) (he : e ++ encF 2 ⟨false, s⟩ = e2) (hs : s.length ≤ 32767) (hl : e.length ≤ 100000000000000) {W0 w : World} {K : Know} {L : List Res} (h : St W0 w K (.out p ⟨e, 0⟩ :: L)) :
    Calls Try.prog 86 #[outPtr p, .string (bb s)] w fun en w' => en = .returned (.tuple #[]) ∧ St W0 w' K (.out p ⟨e2, 0⟩ :: L) := by
  have h2 := blob_putText p ⟨e, 0⟩ s h (by unfold OutS.ok; simp only; omega)
  have hf : fits (⟨false, s⟩ : BlobS).len 2 := vfits2 _ (by show -32768 ≤ (s.length : Int) ∧ (s.length : Int) < 32768; omega)
  have e3 : (⟨e, 0⟩ : OutS).putText s = ⟨e2, 0⟩ := by
    show ((⟨e, 0⟩ : OutS).int (⟨false, s⟩ : BlobS).len 2).putData ⟨false, s⟩ = _
    unfold OutS.int
    rw [if_pos hf, ← he]
    show (⟨(e ++ beBytes (⟨false, s⟩ : BlobS).len 2) ++ s, 0⟩ : OutS) = _
    rw [List.append_assoc]
    rfl
  rw [e3] at h2
  exact h2
theorem sr_bytesV (n size : Int) (k : Nat) (hs : size = k) (hk : k ≤ 8) (r : Bs) (hr : beBytes n k = r) (hn : -9223372036854775808 ≤ n ∧ n < 9223372036854775808) {W0 w : World} {K : Know} {L : List Res} (h : St W0 w K L) :
    Calls Try.prog 75 #[.int .i64 n, .int .i64 size] w fun en w' => en = .returned (.string (bb r)) ∧ St W0 w' K L := by
  subst hr hs
  exact sr_bytes n k (by omega) hn h
theorem ref04_fixedV (s r : Bs) (hr : encF 2 ⟨false, s⟩ = r) (hs : s.length ≤ 32767) {W0 w : World} {K : Know} {L : List Res} (h : St W0 w K L) :
    Calls Try.prog 87 #[.agg #[.bool false, .string (bb s)], .int .i64 2] w fun en w' => en = .returned (.string (bb r)) ∧ St W0 w' K L := by
  subst hr
  exact ref04_fixed ⟨false, s⟩ 2 (by simp only; omega) (by decide) h

end Go.Proofs.Ytombolmicfjjpaa

/- Topics, written. -/
namespace Go.Proofs.Ytombolmicfjjpaa
open Go.RowKit

set_option maxHeartbeats 2000000 in
set_option maxRecDepth 100000 in
theorem val_putTopics (po : Nat) (e e2 : Bs) (l : List (TopS × Value)) (q : Option Addr) (cap : Nat) (he : e ++ encTs (l.map (·.1)) = e2) (hel : e.length ≤ 1000000) (hf : FitTs (l.map (·.1))) {W0 w : World} {K : Know} {L : List Res} (hk : K.has (Know.tops (.slice q l.length cap) l)) (h : St W0 w K (.out po ⟨e, 0⟩ :: L)) :
    Calls Try.prog 31 #[outPtr po, .slice q l.length cap] w fun en w' => en = .returned (.tuple #[]) ∧ St W0 w' K (.out po ⟨e2, 0⟩ :: L) := by
  have H := Lib.hid h
  have HK := Lib.hid hk
  have HE := Lib.hid he
  have HEL := Lib.hid hel
  have HF := Lib.hid hf
  have hni : (l.length : Int) ≤ 1000000 := by have := hf.1; rw [List.length_map] at this; omega
  obtain ⟨A, hA⟩ : ∃ A, e ++ preT (l.map (·.1)) 0 = A := ⟨_, rfl⟩
  have HA := Lib.hid (show e ++ beBytes (l.length : Int) (4 : Int).toNat = A by rw [← hA, preT_zero, List.length_map]; rfl)
  have HFL := Lib.hid (vfits4 (l.length : Int) (by omega))
  have HR0 := Lib.hid (show e.length ≤ 100000000000000 by omega)
  clear h hk he hel hf
  go_enter Try.func31, Try.ntmps31
  go_wp2_with (go_at_call 69; (with_reducible refine (so_intV po _ _ _ _ HA.out HFL.out HR0.out H.out).mono ?_); rintro e_ wn ⟨rfl, h⟩; replace H := Lib.hid h; clear h)
  go_loopw [5, 7, 14, 30] (fun _ _ iv _ wr => ∃ k : Nat, k ≤ l.length ∧ iv = .int .i64 k ∧ St W0 wr K (.out po ⟨e ++ preT (l.map (·.1)) k, 0⟩ :: L)) (fun _ _ iv _ _ => l.length - (intOf iv).toNat)
  case atStart => exact ⟨0, Nat.zero_le _, rfl, by rw [hA]; exact H.out⟩
  case round =>
    obtain ⟨k, hkl, rfl, hst⟩ := hrel
    clear H hA
    have H := Lib.hid hst
    clear hst
    by_cases hlt : k < l.length
    · as_aux_lemma =>
      obtain ⟨b, off, hqq⟩ := tops_at HK.out H.out (by omega)
      subst hqq
      obtain ⟨⟨⟨nm, ps⟩, vx⟩, hx⟩ : ∃ x, l[k] = x := ⟨_, rfl⟩
      obtain ⟨c0, c1⟩ : wr.cell? ⟨b, off + k * 2, none⟩ = some (.string (bb nm)) ∧ wr.cell? ⟨b, off + k * 2 + 1, none⟩ = some vx := tops_cell HK.out H.out k hlt _ hx
      have hmem : ((⟨nm, ps⟩ : TopS), vx) ∈ l := hx ▸ List.getElem_mem hlt
      have hxk : K.has (Know.flat RI vx 1 ps) := tops_parts HK.out hmem
      obtain ⟨qx, capx, hvx⟩ := flat_form hxk H.out
      subst hvx
      have HXK := Lib.hid hxk
      have hmk : k < (l.map (·.1)).length := by rw [List.length_map]; exact hlt
      have hmg : (l.map (·.1))[k] = ⟨nm, ps⟩ := by rw [List.getElem_map, hx]
      have hfx : (⟨nm, ps⟩ : TopS).Fit := HF.out.2 _ (hmg ▸ List.getElem_mem hmk)
      have HNM := Lib.hid hfx.1
      have HPL := Lib.hid hfx.2.1
      have HPS := Lib.hid hfx.2.2
      have hkn : (k : Int) < (l.length : Int) := by omega
      have hnl : (nm.length : Int) ≤ 32767 := by have := hfx.1; simp only at this; omega
      have hpl : (ps.length : Int) ≤ 1000000 := by have := hfx.2.1; simp only at this; omega
      have hst1 := preT_step (l.map (·.1)) k hmk _ hmg
      have hle1 := preT_le (l.map (·.1)) HF.out (k + 1) hmk
      have hln : (l.map (·.1)).length ≤ 1000000 := HF.out.1
      simp only at hst1
      have hel := HEL.out
      obtain ⟨tb, htb⟩ : ∃ b, wr.heap.size = b := ⟨_, rfl⟩
      have h := (H.out.allocRaw #[.string (bb nm), .slice qx ps.length capx] 51).p1
      rw [htb] at h
      have t0 := h.p1.rawCell 0
      have t1 := h.p1.rawCell 1
      simp at t0 t1
      obtain ⟨B0, hB0⟩ : ∃ B, e ++ preT (l.map (·.1)) k = B := ⟨_, rfl⟩
      obtain ⟨B1, hB1⟩ : ∃ B, B0 ++ encF 2 ⟨false, nm⟩ = B := ⟨_, rfl⟩
      obtain ⟨B2, hB2⟩ : ∃ B, B1 ++ beBytes (ps.length : Int) 4 = B := ⟨_, rfl⟩
      have HB3 := Lib.hid (show e ++ preT (l.map (·.1)) (k + 1) = B2 ++ be4s ps by rw [hst1, ← hB2, ← hB1, ← hB0]; simp only [List.append_assoc])
      have hlen : (B2 ++ be4s ps).length ≤ 100000000000000 := by
        rw [← HB3.out, List.length_append]
        omega
      have hl0 : B0.length ≤ 100000000000000 ∧ B1.length ≤ 100000000000000 ∧ B2.length + 4 * ps.length ≤ 100000000000000 := by
        rw [List.length_append, be4s_len] at hlen
        rw [← hB2, List.length_append] at hlen ⊢
        rw [← hB1, List.length_append] at hlen ⊢
        omega
      rw [hB0] at h
      have HB1 := Lib.hid hB1
      have HB2 := Lib.hid (show B1 ++ beBytes (ps.length : Int) (4 : Int).toNat = B2 from hB2)
      have HL0 := Lib.hid hl0
      have HFP := Lib.hid (vfits4 (ps.length : Int) (by omega))
      have hp0 : ps = [] ∨ ∃ pb poff, qx = some ⟨pb, poff, none⟩ := by
        by_cases hps : ps = []
        · exact .inl hps
        · exact .inr (flat_at HXK.out H.out (List.length_pos_iff.2 hps))
      have HP0 := Lib.hid hp0
      clear H
      have H := Lib.hid h
      clear h hx hmem hxk hmk hmg hfx hst1 hle1 hln hel hB0 hB1 hB2 hlen hl0 hp0
      go_wp2_with (first
    | (go_at_call 86; (with_reducible refine (blob_putTextV po B0 B1 nm HB1.out HNM.out HL0.out.1 H.out).mono ?_); rintro e_ wn ⟨rfl, h⟩; have t0 := h.p1.rawCell 0; have t1 := h.p1.rawCell 1; simp at t0 t1; replace H := Lib.hid h; clear h)
    | (go_at_call 69; (with_reducible refine (so_intV po B1 B2 _ _ HB2.out HFP.out HL0.out.2.1 H.out).mono ?_); rintro e_ wn ⟨rfl, h⟩; have t0 := h.p1.rawCell 0; have t1 := h.p1.rawCell 1; simp at t0 t1; replace H := Lib.hid h; clear h))
      clear t0 t1
      go_loopw [7, 30] (fun _ jv wr => ∃ j : Nat, j ≤ ps.length ∧ jv = .int .i64 j ∧ St W0 wr K (.out po ⟨B2 ++ be4s (ps.take j), 0⟩ :: .raw tb #[.string (bb nm), .slice qx ps.length capx] 51 :: L)) (fun _ jv _ => ps.length - (intOf jv).toNat)
      case atStart => exact ⟨0, Nat.zero_le _, rfl, by rw [List.take_zero]; show St W0 _ K (.out po ⟨B2 ++ [], 0⟩ :: _); rw [List.append_nil]; exact H.out⟩
      case round =>
        obtain ⟨j, hjl, rfl, hst⟩ := hrel
        clear H
        have H := Lib.hid hst
        clear hst
        by_cases hlj : j < ps.length
        · have hps : ¬ ps = [] := by rintro rfl; simp at hlj
          rcases HP0.out with hps2 | ⟨pb, poff, hq⟩
          · exact absurd hps2 hps
          subst hq
          have d0 := int_cell HXK.out H.out j hlj
          obtain ⟨x, hx⟩ : ∃ x, ps.getD j 0 = x := ⟨_, rfl⟩
          rw [hx] at d0
          have hxr := HPS.out x (hx ▸ getD_mem ps j hlj)
          have hst := be4s_step ps j hlj x hx
          obtain ⟨C, hC⟩ : ∃ C, B2 ++ be4s (ps.take j) = C := ⟨_, rfl⟩
          have h := H.out
          rw [hC] at h
          have HC2 := Lib.hid (show C ++ beBytes x (4 : Int).toNat = B2 ++ be4s (ps.take (j + 1)) by rw [hst, ← hC, List.append_assoc]; rfl)
          have HCL := Lib.hid (show C.length ≤ 100000000000000 by
            rw [← hC, List.length_append, be4s_len, List.length_take]
            have := HL0.out.2.2
            omega)
          have HFX := Lib.hid (vfits4 x hxr)
          have hji : (j : Int) < (ps.length : Int) := by omega
          clear H
          have H := Lib.hid h
          clear h hC hst hx hps hxr
          go_wp2_with (go_at_call 69; (with_reducible refine (so_intV po C _ x _ HC2.out HFX.out HCL.out H.out).mono ?_); rintro e_ wn ⟨rfl, h⟩; replace H := Lib.hid h; clear h)
          go_roundw
          case rel => exact ⟨j + 1, hlj, by go_num, H.out⟩
          case measure => first | (simp [intOf]; done) | (simp [intOf]; omega)
        · obtain rfl : j = ps.length := by omega
          have h := H.out
          rw [List.take_length, ← HB3.out] at h
          clear H
          have H := Lib.hid h
          clear h
          go_wp2
          go_roundw
          case rel => exact ⟨k + 1, hlt, by go_num, H.out.p1.drop⟩
          case measure => first | (simp [intOf]; done) | (simp [intOf]; omega)
    · obtain rfl : k = l.length := by omega
      have h := H.out
      rw [show preT (l.map (·.1)) l.length = encTs (l.map (·.1)) by rw [← preT_all, List.length_map], HE.out] at h
      clear H
      have H := Lib.hid h
      clear h
      go_wp2
      go_end0
      exact ⟨rfl, H.out⟩

end Go.Proofs.Ytombolmicfjjpaa

/- Values that may be (pure). -/
namespace Go.Proofs.Ytombolmicfjjpaa
open Go.RowKit

theorem ValS.ok_parts (v : ValS) (h : v.err = 0) : v.ranged = true ∧ (0 ≤ v.state ∧ v.state < 7) ∧ idle v.state = v.tops.isEmpty ∧ (v.state == 0) = (v.started == -1) ∧ tRise v.tops = true := by
  unfold ValS.err at h
  by_cases h1 : v.ranged = false
  · rw [if_pos h1] at h; cases h
  · rw [if_neg h1] at h
    by_cases h2 : v.state < 0 ∨ 7 ≤ v.state
    · rw [if_pos h2] at h; cases h
    · rw [if_neg h2] at h
      by_cases h3 : (idle v.state != v.tops.isEmpty) = true ∨ ((v.state == 0) != (v.started == -1)) = true
      · rw [if_pos h3] at h; cases h
      · rw [if_neg h3] at h
        by_cases h4 : tRise v.tops = false
        · rw [if_pos h4] at h; cases h
        · refine ⟨by cases hh : v.ranged with
            | true => rfl
            | false => exact absurd hh h1, by omega, ?_, ?_, by cases hh : tRise v.tops with
            | true => rfl
            | false => exact absurd hh h4⟩
          · have := fun h => h3 (.inl h)
            simpa using this
          · have := fun h => h3 (.inr h)
            simpa using this
theorem ranged_parts (v : ValS) (h : v.ranged = true) : 0 ≤ v.prod ∧ (0 ≤ v.epoch ∧ v.epoch ≤ 32767) ∧ (0 ≤ v.timeout ∧ v.timeout ≤ 2147483647) ∧ 0 ≤ v.upd ∧ -1 ≤ v.started := by
  unfold ValS.ranged at h
  simp only [Bool.and_eq_true, decide_eq_true_eq] at h
  omega
theorem pRise_rng (l : List Int) (h : pRise l = true) : ∀ n ∈ l, 0 ≤ n ∧ n ≤ 2147483647 := by
  intro n hn
  obtain ⟨i, hi, rfl⟩ := List.mem_iff_getElem.1 hn
  have hne : l ≠ [] := by rintro rfl; simp at hi
  rw [pRise_pk l hne] at h
  have h2 := allN_at h i hi
  unfold pk at h2
  rw [Bool.and_eq_true] at h2
  have h3 := of_decide_eq_true h2.1
  rw [List.getD_eq_getElem?_getD, List.getElem?_eq_getElem hi] at h3
  exact h3
theorem fit_of_rise (l : List (TopS × Value)) (hf : FewT l) (h : tRise (l.map (·.1)) = true) : FitTs (l.map (·.1)) := by
  unfold tRise at h
  rw [Bool.and_eq_true] at h
  refine ⟨by rw [List.length_map]; exact hf.1, fun t ht => ?_⟩
  have h2 := List.all_eq_true.1 h.1 t ht
  unfold tOk at h2
  simp only [Bool.and_eq_true, decide_eq_true_eq] at h2
  obtain ⟨x, hx, rfl⟩ := List.mem_map.1 ht
  have h3 := pRise_rng _ h2.2
  exact ⟨h2.1.2, (hf.2 x hx).2, fun n hn => by have := h3 n hn; omega⟩
/-- The numbers of a value are such as there can be. -/
def ValS.R (v : ValS) : Prop := (-9223372036854775808 ≤ v.prod ∧ v.prod < 9223372036854775808) ∧ (-9223372036854775808 ≤ v.epoch ∧ v.epoch < 9223372036854775808) ∧ (-9223372036854775808 ≤ v.timeout ∧ v.timeout < 9223372036854775808) ∧ (-9223372036854775808 ≤ v.state ∧ v.state < 9223372036854775808) ∧ (-9223372036854775808 ≤ v.upd ∧ v.upd < 9223372036854775808) ∧ (-9223372036854775808 ≤ v.started ∧ v.started < 9223372036854775808)
theorem so_textV (p : Nat) (e : Bs) {W0 w : World} {K : Know} {L : List Res} (h : St W0 w K (.out p ⟨e, 0⟩ :: L)) :
    Calls Try.prog 32 #[outPtr p] w fun en w' => en = .returned (.tuple #[.string (bb e), .int .i64 0]) ∧ St W0 w' K (.out p ⟨e, 0⟩ :: L) := so_text p ⟨e, 0⟩ h
theorem val_checkV (p e t s u st : Int) (l : List (TopS × Value)) (q : Option Addr) (cap : Nat) (E : Int) (he : ValS.err ⟨p, e, t, s, l.map (·.1), u, st⟩ = E) (hf : FewT l) {W0 w : World} {K : Know} {L : List Res} (hk : K.has (Know.tops (.slice q l.length cap) l)) (h : St W0 w K L) :
    Calls Try.prog 17 #[.agg #[.int .i64 p, .int .i64 e, .int .i64 t, .int .i64 s, .slice q l.length cap, .int .i64 u, .int .i64 st]] w fun en w' => en = .returned (.int .i64 E) ∧ St W0 w' K L := val_check ⟨p, e, t, s, l.map (·.1), u, st⟩ l q cap rfl E he hf hk h

end Go.Proofs.Ytombolmicfjjpaa

/- Values, read (pure). -/
namespace Go.Proofs.Ytombolmicfjjpaa
open Go.RowKit

def ValS.z : ValS := ⟨0, 0, 0, 0, [], 0, 0⟩
def InS.valF (i : InS) : ValS × InS :=
  let a := i.int 8
  let b := a.2.int 2
  let c := b.2.int 4
  let d := c.2.int 1
  let e := d.2.tops
  let f := e.2.int 8
  let g := f.2.int 8
  (⟨a.1, b.1, c.1, d.1, e.1, f.1, g.1⟩, g.2)
theorem valF_eq {i i1 i2 i3 i4 i5 i6 i7 : InS} {p e t s u st : Int} {l : List TopS} (h1 : i.int 8 = (p, i1)) (h2 : i1.int 2 = (e, i2)) (h3 : i2.int 4 = (t, i3)) (h4 : i3.int 1 = (s, i4)) (h5 : i4.tops = (l, i5)) (h6 : i5.int 8 = (u, i6)) (h7 : i6.int 8 = (st, i7)) : i.valF = (⟨p, e, t, s, l, u, st⟩, i7) := by
  unfold InS.valF
  simp only [h1, h2, h3, h4, h5, h6, h7]
def decI (s : Bs) : InS := if ((⟨s, 0, 0⟩ : InS).int 2).1 = 0 then ((⟨s, 0, 0⟩ : InS).int 2).2 else ((⟨s, 0, 0⟩ : InS).int 2).2.fail 7
def decE (s : Bs) : Int := (decI s).valF.2.close.err
def valDec (s : Bs) : ValS × Int := if decE s ≠ 0 then (ValS.z, decE s) else if (decI s).valF.1.err ≠ 0 then (ValS.z, (decI s).valF.1.err) else ((decI s).valF.1, 0)
/-- Within its bytes. -/
def InS.At (s : Bs) (i : InS) : Prop := i.s = s ∧ i.pos ≤ s.length
theorem At.int {s : Bs} {i : InS} (h : i.At s) (k : Int) : (i.int k).2.At s := by
  obtain ⟨rfl, h⟩ := h
  unfold InS.int
  split
  · unfold InS.fail; split
    · exact ⟨rfl, h⟩
    · exact ⟨rfl, h⟩
  · unfold InS.take
    split
    · exact ⟨rfl, h⟩
    · split
      · exact ⟨rfl, h⟩
      · split
        · exact ⟨rfl, h⟩
        · rename_i h1 h2 h3
          refine ⟨rfl, ?_⟩
          simp only [InS.left] at h3
          show i.pos + k.toNat ≤ i.s.length
          omega
theorem At.fail {s : Bs} {i : InS} (h : i.At s) (e : Int) : (i.fail e).At s := by
  unfold InS.fail
  split
  · exact ⟨h.1, h.2⟩
  · exact h
theorem intsB_len : ∀ (n : Nat) (s : Bs), (intsB n s).length = n
  | 0, _ => rfl
  | n + 1, s => by show (intsB n (s.drop 4)).length + 1 = _; rw [intsB_len n]
def FewL (l : List TopS) : Prop := l.length ≤ 1000000 ∧ ∀ t ∈ l, t.name.length ≤ 140737488355328 ∧ t.parts.length ≤ 1000000
theorem partsP_few {s : Bs} {l : List Int} {n : Nat} (h : partsP s = .ok (l, n)) (hs : s.length ≤ 1000000) : l.length ≤ 1000000 := by
  unfold partsP at h
  cases h1 : cntP 4 s with
  | error e => rw [h1] at h; cases h
  | ok x =>
    rw [h1] at h
    cases h
    have h2 := (cntP_ok (n := x.1) (k := x.2) (by decide) h1).2.1
    rw [intsB_len]
    omega
theorem textP_few {s : Bs} {d : Bs} {n : Nat} (h : textP s = .ok (d, n)) : d.length ≤ s.length := by
  unfold textP at h
  cases h1 : refixed 2 s with
  | error e => rw [h1] at h; cases h
  | ok x =>
    rw [h1] at h
    simp only at h
    split at h
    · cases h
    · cases h
      unfold refixed gotS at h1
      split at h1
      · cases h1
      · split at h1
        · cases h1; simp [BlobS.none]
        · split at h1
          · cases h1
          · split at h1
            · cases h1
            · cases h1
              simp only [List.length_take, List.length_drop]
              omega
theorem topN_few : ∀ (n : Nat) (s : Bs) (l : List TopS) (k : Nat), topN n s = .ok (l, k) → s.length ≤ 1000000 → l.length = n ∧ ∀ t ∈ l, t.name.length ≤ 140737488355328 ∧ t.parts.length ≤ 1000000
  | 0, s, l, k, h, _ => by cases h; exact ⟨rfl, fun t ht => by cases ht⟩
  | n + 1, s, l, k, h, hs => by
    unfold topN at h
    cases h1 : topP s with
    | error e => rw [h1] at h; cases h
    | ok x =>
      rw [h1] at h
      simp only at h
      cases h2 : topN n (s.drop x.2) with
      | error e => rw [h2] at h; cases h
      | ok y =>
        rw [h2] at h
        cases h
        have ih := topN_few n (s.drop x.2) y.1 y.2 h2 (by rw [List.length_drop]; omega)
        refine ⟨by rw [List.length_cons, ih.1], fun t ht => ?_⟩
        rcases List.mem_cons.1 ht with rfl | ht
        · unfold topP at h1
          cases h3 : textP s with
          | error e => rw [h3] at h1; cases h1
          | ok a =>
            rw [h3] at h1
            simp only at h1
            cases h4 : partsP (s.drop a.2) with
            | error e => rw [h4] at h1; cases h1
            | ok b =>
              rw [h4] at h1
              cases h1
              have h5 := textP_few (d := a.1) (n := a.2) h3
              have h6 := partsP_few (l := b.1) (n := b.2) h4 (by rw [List.length_drop]; omega)
              exact ⟨by simp only; omega, h6⟩
        · exact ih.2 t ht
theorem topsP_few {s : Bs} {l : List TopS} {n : Nat} (h : topsP s = .ok (l, n)) (hs : s.length ≤ 1000000) : FewL l := by
  unfold topsP at h
  cases h1 : cntP 6 s with
  | error e => rw [h1] at h; cases h
  | ok x =>
    rw [h1] at h
    simp only at h
    cases h2 : topN x.1 (s.drop 4) with
    | error e => rw [h2] at h; cases h
    | ok y =>
      rw [h2] at h
      cases h
      have h3 := (cntP_ok (n := x.1) (k := x.2) (by decide) h1).2.1
      have h4 := topN_few x.1 (s.drop 4) y.1 y.2 h2 (by rw [List.length_drop]; omega)
      exact ⟨by rw [h4.1]; omega, h4.2⟩
theorem tops_few {s : Bs} {i : InS} (ha : i.At s) (hs : s.length ≤ 1000000) : FewL i.tops.1 := by
  have hn : FewL [] := ⟨by decide, fun t ht => by cases ht⟩
  obtain ⟨s', pos, er⟩ := i
  obtain ⟨h1, h2⟩ := ha
  simp only at h1 h2
  subst h1
  by_cases he : er = 0
  · subst he
    cases h3 : topsP (s'.drop pos) with
    | error e =>
      obtain ⟨_, q, _, h4⟩ := rds_tops.err s' pos e h2 h3
      rw [h4]; exact hn
    | ok x =>
      obtain ⟨_, h4⟩ := rds_tops.ok s' pos x.1 x.2 h2 h3
      rw [h4]
      exact topsP_few (l := x.1) (n := x.2) h3 (by rw [List.length_drop]; omega)
  · rw [rds_tops.stuck ⟨s', pos, er⟩ he]; exact hn
theorem decI_at (s : Bs) : (decI s).At s := by
  have h0 : (⟨s, 0, 0⟩ : InS).At s := ⟨rfl, Nat.zero_le _⟩
  unfold decI
  split
  · exact At.int h0 2
  · exact At.fail (At.int h0 2) 7
theorem valF_few {s : Bs} {i : InS} (h : i.At s) (hs : s.length ≤ 1000000) : FewL i.valF.1.tops := tops_few (At.int (At.int (At.int (At.int h 8) 2) 4) 1) hs
theorem fewT_of {lr : List (TopS × Value)} (h : FewL (lr.map (·.1))) : FewT lr := ⟨by have := h.1; rw [List.length_map] at this; exact this, fun x hx => h.2 x.1 (List.mem_map_of_mem hx)⟩

end Go.Proofs.Ytombolmicfjjpaa

/- Parts of requests of transactions (pure). -/
namespace Go.Proofs.Ytombolmicfjjpaa
open Go.RowKit

/-- Can it be somebody who writes? -/
def who (p e : Int) : Bool := decide (0 ≤ p) && (decide (0 ≤ e) && decide (e ≤ 32767))
theorem who_t {p e : Int} (h : who p e = true) : 0 ≤ p ∧ 0 ≤ e ∧ e ≤ 32767 := by
  unfold who at h; simpa only [Bool.and_eq_true, decide_eq_true_eq] using h
theorem who_f {p e : Int} (h : who p e = false) : p < 0 ∨ e < 0 ∨ 32767 < e := by
  unfold who at h
  by_cases h1 : p < 0
  · exact .inl h1
  · by_cases h2 : e < 0
    · exact .inr (.inl h2)
    · by_cases h3 : 32767 < e
      · exact .inr (.inr h3)
      · rw [decide_eq_true (show 0 ≤ p by omega), decide_eq_true (show 0 ≤ e by omega), decide_eq_true (show e ≤ 32767 by omega)] at h
        cases h
def chkW (id : Bs) (p e : Int) : Int := if keyRight id = false then 4 else if who p e = false then 11 else 0
def InS.boolP (i : InS) : Bool × InS := ((i.int 1).1 == 1, if (i.int 1).1 ≠ 0 ∧ (i.int 1).1 ≠ 1 then (i.int 1).2.fail 11 else (i.int 1).2)
def encO (c : Bool) : Bs := [if c then 1 else 0]
def riseE (l : List TopS) : Int := if l = [] then 10 else if tRise l = false then 13 else 0
theorem riseE_eq (l : List TopS) : ValS.err ⟨0, 0, 0, 1, l, 0, 0⟩ = riseE l := by
  have h1 : ValS.ranged ⟨0, 0, 0, 1, l, 0, 0⟩ = true := by rfl
  unfold ValS.err riseE
  rw [h1]
  cases l with
  | nil => rfl
  | cons a t =>
    have e0 : ¬ (true = false) := by decide
    have e1 : ¬ ((1 : Int) < 0 ∨ 7 ≤ (1 : Int)) := by decide
    have e2 : ¬ ((idle 1 != false) = true ∨ (((1 : Int) == 0) != ((0 : Int) == -1)) = true) := by decide
    exact (if_neg e0).trans ((if_neg e1).trans ((if_neg e2).trans (if_neg (List.cons_ne_nil a t)).symm))

end Go.Proofs.Ytombolmicfjjpaa

/- Ends of transactions as bytes (pure). -/
namespace Go.Proofs.Ytombolmicfjjpaa
open Go.RowKit

def encW (p e : Int) : Bs := beBytes p 8 ++ beBytes e 2
def encEnd (id : Bs) (p e : Int) (c : Bool) : Bs := encF 2 ⟨false, id⟩ ++ (encW p e ++ encO c)

end Go.Proofs.Ytombolmicfjjpaa

/- Contracts of package key. -/
namespace Go.Proofs.Ytombolmicfjjpaa
open Go.RowKit

set_option maxHeartbeats 1000000 in
set_option maxRecDepth 100000 in
theorem key_right (s : Bs) (hs : s.length ≤ 140737488355328) {W0 w : World} {K : Know} {L : List Res} (h : St W0 w K L) :
    Calls Try.prog 89 #[.string (bb s)] w fun en w' => en = .returned (.bool (keyRight s)) ∧ St W0 w' K L := by
  have H := Lib.hid h
  clear h
  cases s with
  | nil =>
    go_enter Try.func89, Try.ntmps89
    go_wp2
    go_ret
    exact ⟨rfl, H.out⟩
  | cons c t =>
    have HS := Lib.hid hs
    clear hs
    go_enter Try.func89, Try.ntmps89
    go_wp2
    go_ret
    refine ⟨ret_bool ?_, H.out⟩
    unfold keyRight
    rw [Bool.eq_iff_iff]
    simp
    omega

set_option maxHeartbeats 1000000 in
set_option maxRecDepth 100000 in
theorem key_encode (s : Bs) (hs : s.length ≤ 40000) {W0 w : World} {K : Know} {L : List Res} (h : St W0 w K L) :
    Calls Try.prog 35 #[.string (bb s)] w fun en w' => en = .returned (.tuple #[.string (bb (keyEnc s).1), .int .i64 (keyEnc s).2]) ∧ St W0 w' K L := by
  have H := Lib.hid h
  have HS := Lib.hid (show s.length ≤ 140737488355328 by omega)
  have HS2 := Lib.hid hs
  clear h hs
  cases hr : keyRight s
  · have e : keyEnc s = ([], 4) := by unfold keyEnc; rw [hr]; rfl
    rw [e]
    have ER := Lib.hid hr
    clear e hr
    go_enter Try.func35, Try.ntmps35
    go_wp2_with (go_at_call 89; refine (key_right s HS.out (by first | (first | with_reducible exact H.out | with_reducible exact H.out.p1 | with_reducible exact H.out.p2 | with_reducible exact H.out.p3 | with_reducible exact H.out.p4 | with_reducible exact H.out.p5) | ((repeat first | with_reducible refine St.drewN ?_ _ | with_reducible refine St.drew ?_ | with_reducible refine St.alloc ?_ _); first | with_reducible exact H.out | with_reducible exact H.out.p1 | with_reducible exact H.out.p2 | with_reducible exact H.out.p3 | with_reducible exact H.out.p4 | with_reducible exact H.out.p5))).mono ?_; (repeat first | rw [ER.out]); rintro e wn ⟨rfl, h⟩; replace H := Lib.hid h; clear h)
    go_ret2
    exact ⟨rfl, H.out⟩
  · have e : keyEnc s = (keyBytes s, 0) := by unfold keyEnc; rw [hr]; rfl
    rw [e]
    have hle : s.length ≤ 32767 := by unfold keyRight at hr; simp at hr; exact hr.2
    have ER := Lib.hid hr
    have E1 := Lib.hid (show (⟨[], 0⟩ : OutS).int 0 2 = ⟨beBytes 0 2, 0⟩ from by decide +kernel)
    have E2 := Lib.hid (show (⟨beBytes 0 2, 0⟩ : OutS).putText s = ⟨keyBytes s, 0⟩ from by
      unfold OutS.putText OutS.putFixed OutS.int OutS.putData
      rw [if_pos (fits_len2 s hle)]
      show (((⟨beBytes 0 2, 0⟩ : OutS).put _).put s) = _
      rw [OutS.put_put]
      unfold keyBytes
      rw [List.append_assoc]
      rfl)
    have E3 := Lib.hid (show (⟨keyBytes s, 0⟩ : OutS).text = (keyBytes s, 0) from rfl)
    clear e hr hle
    go_enter Try.func35, Try.ntmps35
    go_wp2_with (first
      | (go_at_call 89; refine (key_right s HS.out (by first | (first | with_reducible exact H.out | with_reducible exact H.out.p1 | with_reducible exact H.out.p2 | with_reducible exact H.out.p3 | with_reducible exact H.out.p4 | with_reducible exact H.out.p5) | ((repeat first | with_reducible refine St.drewN ?_ _ | with_reducible refine St.drew ?_ | with_reducible refine St.alloc ?_ _); first | with_reducible exact H.out | with_reducible exact H.out.p1 | with_reducible exact H.out.p2 | with_reducible exact H.out.p3 | with_reducible exact H.out.p4 | with_reducible exact H.out.p5))).mono ?_; (repeat first | rw [ER.out]); rintro e wn ⟨rfl, h⟩; replace H := Lib.hid h; clear h; replace H := Lib.hid H.out.allocOut)
      | (go_at_call 69; refine (so_int _ _ 0 2 (by decide) (by first | (first | with_reducible exact H.out | with_reducible exact H.out.p1 | with_reducible exact H.out.p2 | with_reducible exact H.out.p3 | with_reducible exact H.out.p4 | with_reducible exact H.out.p5) | ((repeat first | with_reducible refine St.drewN ?_ _ | with_reducible refine St.drew ?_ | with_reducible refine St.alloc ?_ _); first | with_reducible exact H.out | with_reducible exact H.out.p1 | with_reducible exact H.out.p2 | with_reducible exact H.out.p3 | with_reducible exact H.out.p4 | with_reducible exact H.out.p5)) (by simp [OutS.ok])).mono ?_; (repeat first | rw [E1.out]); rintro e wn ⟨rfl, h⟩; replace H := Lib.hid h; clear h)
      | (go_at_call 86; refine (blob_putText _ _ s (by first | (first | with_reducible exact H.out | with_reducible exact H.out.p1 | with_reducible exact H.out.p2 | with_reducible exact H.out.p3 | with_reducible exact H.out.p4 | with_reducible exact H.out.p5) | ((repeat first | with_reducible refine St.drewN ?_ _ | with_reducible refine St.drew ?_ | with_reducible refine St.alloc ?_ _); first | with_reducible exact H.out | with_reducible exact H.out.p1 | with_reducible exact H.out.p2 | with_reducible exact H.out.p3 | with_reducible exact H.out.p4 | with_reducible exact H.out.p5)) (by have := HS2.out; simp only [OutS.ok, beBytes_length]; omega)).mono ?_; (repeat first | rw [E2.out]); rintro e wn ⟨rfl, h⟩; replace H := Lib.hid h; clear h)
      | (go_at_call 32; refine (so_text _ _ (by first | (first | with_reducible exact H.out | with_reducible exact H.out.p1 | with_reducible exact H.out.p2 | with_reducible exact H.out.p3 | with_reducible exact H.out.p4 | with_reducible exact H.out.p5) | ((repeat first | with_reducible refine St.drewN ?_ _ | with_reducible refine St.drew ?_ | with_reducible refine St.alloc ?_ _); first | with_reducible exact H.out | with_reducible exact H.out.p1 | with_reducible exact H.out.p2 | with_reducible exact H.out.p3 | with_reducible exact H.out.p4 | with_reducible exact H.out.p5))).mono ?_; (repeat first | rw [E3.out]); rintro e wn ⟨rfl, h⟩; replace H := Lib.hid h; clear h))
    go_ret2
    exact ⟨rfl, H.out.drop⟩

theorem keyDec_tuple (s : Bs) : Value.tuple #[.string (bb (keyDec s).1), .int .i64 (keyDec s).2] = if (keyJ s).close.err = 0 then .tuple #[.string (bb (keyI s).text.1), .int .i64 0] else .tuple #[.string (bb []), .int .i64 (keyJ s).close.err] := by
  unfold keyDec; split <;> rfl
set_option maxHeartbeats 1000000 in
set_option maxRecDepth 100000 in
theorem key_decode (s : Bs) (hs : s.length ≤ 40100) {W0 w : World} {K : Know} {L : List Res} (h : St W0 w K L) :
    Calls Try.prog 36 #[.string (bb s)] w fun en w' => en = .returned (.tuple #[.string (bb (keyDec s).1), .int .i64 (keyDec s).2]) ∧ St W0 w' K L := by
  have H := Lib.hid h
  have HS := Lib.hid (show s.length ≤ 140737488355328 by omega)
  clear h hs
  rw [keyDec_tuple]
  obtain ⟨a, ha⟩ : ∃ a, keyA s = a := ⟨_, rfl⟩
  have hI : keyI s = if a.1 = 0 then a.2 else a.2.fail 7 := by unfold keyI; rw [ha]
  obtain ⟨i, hi⟩ : ∃ i, keyI s = i := ⟨_, rfl⟩
  rw [hi] at hI
  obtain ⟨t, ht⟩ : ∃ t, i.text = t := ⟨_, rfl⟩
  have hJ : keyJ s = if t.1 = [] then t.2.fail 4 else t.2 := by unfold keyJ; rw [hi, ht]
  obtain ⟨j, hj⟩ : ∃ j, keyJ s = j := ⟨_, rfl⟩
  rw [hj] at hJ
  obtain ⟨c, hc⟩ : ∃ c, j.close = c := ⟨_, rfl⟩
  rw [hj, hc, hi, ht]
  have EA := Lib.hid (show (⟨s, 0, 0⟩ : InS).int 2 = a from ha)
  have ET := Lib.hid ht
  have EC := Lib.hid hc
  clear ha hi ht hj hc
  by_cases h1 : a.1 = 0 <;> by_cases h2 : t.1 = [] <;> by_cases h3 : c.err = 0
  all_goals
    first | rw [if_pos h1] at hI | rw [if_neg h1] at hI
    first | rw [if_pos h2] at hJ | rw [if_neg h2] at hJ
    first | rw [if_pos h3] | rw [if_neg h3]
    have b1 : (a.1 != 0) = decide (a.1 ≠ 0) := by by_cases h : a.1 = 0 <;> simp [h]
    have b2 : t.1.isEmpty = decide (t.1 = []) := by cases t.1 <;> simp
    have b3 : (c.err != 0) = decide (c.err ≠ 0) := by by_cases h : c.err = 0 <;> simp [h]
    first | rw [decide_eq_true h1] at b1 | rw [decide_eq_false (not_not_intro h1)] at b1
    first | rw [decide_eq_true h2] at b2 | rw [decide_eq_false h2] at b2
    first | rw [decide_eq_true h3] at b3 | rw [decide_eq_false (not_not_intro h3)] at b3
    have EI := Lib.hid hI.symm
    have EJ := Lib.hid hJ.symm
    clear h1 h2 h3 hI hJ
    go_enter Try.func36, Try.ntmps36
    go_wp2_with (first
      | (go_at_call 24; refine (s_new s HS.out (by first | (first | with_reducible exact H.out | with_reducible exact H.out.p1 | with_reducible exact H.out.p2 | with_reducible exact H.out.p3 | with_reducible exact H.out.p4 | with_reducible exact H.out.p5) | ((repeat first | with_reducible refine St.drewN ?_ _ | with_reducible refine St.drew ?_ | with_reducible refine St.alloc ?_ _); first | with_reducible exact H.out | with_reducible exact H.out.p1 | with_reducible exact H.out.p2 | with_reducible exact H.out.p3 | with_reducible exact H.out.p4 | with_reducible exact H.out.p5))).mono ?_; rintro e wn ⟨bi, rfl, h⟩; replace H := Lib.hid h; clear h)
      | (go_at_call 72; refine (s_int _ _ 2 (by first | (first | with_reducible exact H.out | with_reducible exact H.out.p1 | with_reducible exact H.out.p2 | with_reducible exact H.out.p3 | with_reducible exact H.out.p4 | with_reducible exact H.out.p5) | ((repeat first | with_reducible refine St.drewN ?_ _ | with_reducible refine St.drew ?_ | with_reducible refine St.alloc ?_ _); first | with_reducible exact H.out | with_reducible exact H.out.p1 | with_reducible exact H.out.p2 | with_reducible exact H.out.p3 | with_reducible exact H.out.p4 | with_reducible exact H.out.p5))).mono ?_; (repeat first | rw [EA.out]); rintro e wn ⟨rfl, h⟩; replace H := Lib.hid h; clear h; (try rw [EI.out] at H))
      | (go_at_call 73; refine (s_fail _ _ _ (by first | (first | with_reducible exact H.out | with_reducible exact H.out.p1 | with_reducible exact H.out.p2 | with_reducible exact H.out.p3 | with_reducible exact H.out.p4 | with_reducible exact H.out.p5) | ((repeat first | with_reducible refine St.drewN ?_ _ | with_reducible refine St.drew ?_ | with_reducible refine St.alloc ?_ _); first | with_reducible exact H.out | with_reducible exact H.out.p1 | with_reducible exact H.out.p2 | with_reducible exact H.out.p3 | with_reducible exact H.out.p4 | with_reducible exact H.out.p5))).mono ?_; (repeat first | rw [EI.out] | rw [EJ.out]); rintro e wn ⟨rfl, h⟩; replace H := Lib.hid h; clear h)
      | (go_at_call 78; refine (blob_text _ _ (by first | (first | with_reducible exact H.out | with_reducible exact H.out.p1 | with_reducible exact H.out.p2 | with_reducible exact H.out.p3 | with_reducible exact H.out.p4 | with_reducible exact H.out.p5) | ((repeat first | with_reducible refine St.drewN ?_ _ | with_reducible refine St.drew ?_ | with_reducible refine St.alloc ?_ _); first | with_reducible exact H.out | with_reducible exact H.out.p1 | with_reducible exact H.out.p2 | with_reducible exact H.out.p3 | with_reducible exact H.out.p4 | with_reducible exact H.out.p5))).mono ?_; (repeat first | rw [ET.out]); rintro e wn ⟨rfl, h⟩; replace H := Lib.hid h; clear h; (try rw [EJ.out] at H))
      | (go_at_call 34; refine (s_close _ _ (by first | (first | with_reducible exact H.out | with_reducible exact H.out.p1 | with_reducible exact H.out.p2 | with_reducible exact H.out.p3 | with_reducible exact H.out.p4 | with_reducible exact H.out.p5) | ((repeat first | with_reducible refine St.drewN ?_ _ | with_reducible refine St.drew ?_ | with_reducible refine St.alloc ?_ _); first | with_reducible exact H.out | with_reducible exact H.out.p1 | with_reducible exact H.out.p2 | with_reducible exact H.out.p3 | with_reducible exact H.out.p4 | with_reducible exact H.out.p5))).mono ?_; (repeat first | rw [EC.out]); rintro e wn ⟨rfl, h⟩; replace H := Lib.hid h; clear h))
    go_ret2
    exact ⟨rfl, H.out.drop⟩

end Go.Proofs.Ytombolmicfjjpaa

/- Layer 13, walked. -/
namespace Go.Proofs.Ytombolmicfjjpaa
open Go.RowKit

theorem kr1 {s : Bs} (h : s.length < 2) : keyRd s = ([], 1) := if_pos h
theorem kr2 {s : Bs} (h : 2 ≤ s.length) (h2 : (!List.take 2 s == [0, 0]) = true) : keyRd s = ([], 7) := by
  have h2' : s.take 2 ≠ [0, 0] := by simpa using h2
  exact (if_neg (by omega)).trans (if_pos h2')
theorem kr3 {s : Bs} (h : 2 ≤ s.length) (h2 : (!List.take 2 s == [0, 0]) = false) (h3 : s.length < 4) : keyRd s = ([], 1) := by
  have h2' : ¬ s.take 2 ≠ [0, 0] := by simpa using h2
  exact (if_neg (by omega)).trans ((if_neg h2').trans (if_pos h3))
theorem kr4 {s : Bs} (h : 4 ≤ s.length) (h2 : (!List.take 2 s == [0, 0]) = false) (h3 : sInt ((s.drop 2).take 2) ≤ 0) : keyRd s = ([], 4) := by
  have h2' : ¬ s.take 2 ≠ [0, 0] := by simpa using h2
  exact (if_neg (by omega)).trans ((if_neg h2').trans ((if_neg (by omega)).trans (if_pos h3)))
theorem kr5 {s : Bs} (h : 4 ≤ s.length) (h2 : (!List.take 2 s == [0, 0]) = false) (h3 : ¬ sInt ((s.drop 2).take 2) ≤ 0) (h4 : (s.length : Int) - 4 < sInt ((s.drop 2).take 2)) : keyRd s = ([], 1) := by
  have h2' : ¬ s.take 2 ≠ [0, 0] := by simpa using h2
  exact (if_neg (by omega)).trans ((if_neg h2').trans ((if_neg (by omega)).trans ((if_neg h3).trans (if_pos h4))))
theorem kr6 {s : Bs} (h : 4 ≤ s.length) (h2 : (!List.take 2 s == [0, 0]) = false) (h3 : ¬ sInt ((s.drop 2).take 2) ≤ 0) (h4 : sInt ((s.drop 2).take 2) < (s.length : Int) - 4) : keyRd s = ([], 2) := by
  have h2' : ¬ s.take 2 ≠ [0, 0] := by simpa using h2
  exact (if_neg (by omega)).trans ((if_neg h2').trans ((if_neg (by omega)).trans ((if_neg h3).trans ((if_neg (by omega)).trans (if_pos h4)))))
theorem kr7 {s : Bs} (_ : 4 ≤ s.length) (h2 : (!List.take 2 s == [0, 0]) = false) (h3 : ¬ sInt ((s.drop 2).take 2) ≤ 0) (h4 : sInt ((s.drop 2).take 2) = (s.length : Int) - 4) : keyRd s = ((s.drop 4).take (s.length - 4), 0) := by
  rw [List.take_of_length_le (by rw [List.length_drop]; omega)]
  have h2' : ¬ s.take 2 ≠ [0, 0] := by simpa using h2
  exact (if_neg (by omega)).trans ((if_neg h2').trans ((if_neg (by omega)).trans ((if_neg h3).trans ((if_neg (by omega)).trans (if_neg (by omega))))))

theorem key_encode' (s x : Bs) (e : Int) (hs : s.length ≤ 40000) (hx : keyEnc s = (x, e)) {W0 w : World} {K : Know} {L : List Res} (h : St W0 w K L) :
    Calls Try.prog 35 #[.string (bb s)] w fun en w' => en = .returned (.tuple #[.string (bb x), .int .i64 e]) ∧ St W0 w' K L := by
  have := key_encode s hs h
  rw [hx] at this
  exact this
theorem key_decode' (s x : Bs) (e : Int) (hs : s.length ≤ 40100) (hx : keyRd s = (x, e)) {W0 w : World} {K : Know} {L : List Res} (h : St W0 w K L) :
    Calls Try.prog 36 #[.string (bb s)] w fun en w' => en = .returned (.tuple #[.string (bb x), .int .i64 e]) ∧ St W0 w' K L := by
  have := key_decode s hs h
  rw [keyDec_eq, hx] at this
  exact this
theorem keyRd_len (s : Bs) : (keyRd s).1.length ≤ s.length := by
  unfold keyRd
  repeat' split
  all_goals simp
end Go.Proofs.Ytombolmicfjjpaa

/- Layer 13, walked: KeyEncodes. -/
namespace Go.Proofs.Ytombolmicfjjpaa
open Go.RowKit

theorem key_right' (s : Bs) (r : Bool) (hs : s.length ≤ 140737488355328) (hr : keyRight s = r) {W0 w : World} {K : Know} {L : List Res} (h : St W0 w K L) :
    Calls Try.prog 89 #[.string (bb s)] w fun en w' => en = .returned (.bool r) ∧ St W0 w' K L := hr ▸ key_right s hs h
theorem keyRight_iff (s : Bs) : keyRight s = true ↔ 1 ≤ s.length ∧ s.length ≤ 32767 := by
  unfold keyRight
  cases s <;> simp
end Go.Proofs.Ytombolmicfjjpaa

/- Requests of transactions (pure). -/
namespace Go.Proofs.Ytombolmicfjjpaa
open Go.RowKit

def idOk (nl : Bool) (d : Bs) : Bool := if nl then d.isEmpty else keyRight d
def was (v p e : Int) : Bool := (p == -1 && e == -1) || (v == 1 && who p e)
def begE (v : Int) (nl : Bool) (d : Bs) (tm p e : Int) : Int := if idOk nl d = false then 4 else if tm < 0 ∨ 2147483647 < tm then 11 else if was v p e = false then 11 else 0
def addE (d : Bs) (p e : Int) (l : List TopS) : Int := if chkW d p e ≠ 0 then chkW d p e else riseE l
/-- What is wrong with a request of a kind: 22, 24, 26. -/
def reqE (k v : Int) (nl : Bool) (d : Bs) (tm p e : Int) (l : List TopS) : Int :=
  if k = 22 then begE v nl d tm p e else if nl = true then 4 else if k = 24 then addE d p e l else chkW d p e
theorem keyRight_t {d : Bs} (h : keyRight d = true) : (1 : Int) ≤ d.length ∧ (d.length : Int) ≤ 32767 := by
  obtain ⟨h1, h2⟩ := (keyRight_iff d).1 h
  omega
theorem keyRight_f {d : Bs} (h : keyRight d = false) : (d.length : Int) < 1 ∨ 32767 < (d.length : Int) := by
  have : ¬ (1 ≤ d.length ∧ d.length ≤ 32767) := fun h2 => by rw [(keyRight_iff d).2 h2] at h; cases h
  omega

end Go.Proofs.Ytombolmicfjjpaa

/- Requests of transactions as bytes (pure). -/
namespace Go.Proofs.Ytombolmicfjjpaa
open Go.RowKit

def encReq (k v : Int) (nl : Bool) (d : Bs) (tm p e : Int) (l : List TopS) (c : Bool) : Bs :=
  encF 2 ⟨nl, d⟩ ++ (if k = 22 then beBytes tm 4 ++ (if v = 1 then encW p e else []) else encW p e ++ (if k = 24 then encTs l else encO c))
theorem begE_ok {v : Int} {nl : Bool} {d : Bs} {tm p e : Int} (h : begE v nl d tm p e = 0) : idOk nl d = true ∧ (0 ≤ tm ∧ tm ≤ 2147483647) ∧ was v p e = true := by
  unfold begE at h
  by_cases h1 : idOk nl d = false
  · rw [if_pos h1] at h; cases h
  · rw [if_neg h1] at h
    by_cases h2 : tm < 0 ∨ 2147483647 < tm
    · rw [if_pos h2] at h; cases h
    · rw [if_neg h2] at h
      by_cases h3 : was v p e = false
      · rw [if_pos h3] at h; cases h
      · exact ⟨by simpa using h1, by omega, by simpa using h3⟩
theorem idOk_len {nl : Bool} {d : Bs} (h : idOk nl d = true) : d.length ≤ 32767 ∧ (⟨nl, d⟩ : BlobS).right = true ∧ fits (⟨nl, d⟩ : BlobS).len 2 := by
  unfold idOk at h
  cases nl with
  | true =>
    have h2 : d = [] := by simpa using h
    subst h2
    exact ⟨by decide, rfl, vfits2 _ (by decide)⟩
  | false =>
    obtain ⟨h1, h2⟩ := (keyRight_iff d).1 h
    exact ⟨h2, rfl, vfits2 _ (by show -32768 ≤ (d.length : Int) ∧ (d.length : Int) < 32768; omega)⟩
theorem was_rng {v p e : Int} (h : was v p e = true) : -1 ≤ p ∧ -1 ≤ e ∧ e ≤ 32767 := by
  unfold was at h
  rw [Bool.or_eq_true, Bool.and_eq_true, Bool.and_eq_true, beq_iff_eq, beq_iff_eq] at h
  rcases h with ⟨h1, h2⟩ | ⟨_, h2⟩
  · omega
  · have := who_t h2; omega
theorem addE_ok {d : Bs} {p e : Int} {l : List TopS} (h : addE d p e l = 0) : chkW d p e = 0 ∧ riseE l = 0 := by
  unfold addE at h
  by_cases h1 : chkW d p e ≠ 0
  · rw [if_pos h1] at h; exact absurd h h1
  · rw [if_neg h1] at h
    exact ⟨by simpa using h1, h⟩
theorem riseE_ok {l : List TopS} (h : riseE l = 0) : tRise l = true := by
  unfold riseE at h
  by_cases h1 : l = []
  · rw [if_pos h1] at h; cases h
  · rw [if_neg h1] at h
    by_cases h2 : tRise l = false
    · rw [if_pos h2] at h; cases h
    · simpa using h2

end Go.Proofs.Ytombolmicfjjpaa

/- Values, there and back (pure). -/
namespace Go.Proofs.Ytombolmicfjjpaa
open Go.RowKit

theorem sInt_back (n : Int) (k : Nat) (h1 : 1 ≤ k) (hf : fits n k) (R : Bs) : getIntN k (beBytes n k ++ R) = .ok (n, k) := by
  unfold getIntN
  have h4 := beBytes_length n k
  have hfit := hf.2.2
  rw [Int.toNat_natCast] at hfit
  have h5 := (sInt_beBytes_iff n k h1).2 hfit
  rw [if_neg (by rw [List.length_append]; omega), List.take_append_of_le_length (by omega), List.take_of_length_le (by omega), h5]
theorem cntP_back (each n : Nat) (X : Bs) (he : 0 < each) (hn : n < 2147483648) (hl : each * n ≤ X.length) : cntP each (beBytes n 4 ++ X) = .ok (n, 4) := by
  have h4 := beBytes_length (n : Int) 4
  have h5 : sInt (beBytes (n : Int) 4) = n := (sInt_beBytes_iff n 4 (by decide)).2 (vfits4 n (by omega)).2.2
  have h6 : (beBytes (n : Int) 4 ++ X).take 4 = beBytes (n : Int) 4 := by rw [List.take_append_of_le_length (by omega), List.take_of_length_le (by omega)]
  unfold cntP
  rw [h6, h5, if_neg (by rw [List.length_append]; omega), if_neg (by omega), if_neg (by
    rw [List.length_append, h4]
    have e : ((4 + X.length : Nat) : Int) - 4 = (X.length : Int) := by omega
    rw [e]
    have h7 : (n : Int) ≤ (X.length : Int) / (each : Int) := by
      rw [Int.le_ediv_iff_mul_le (by omega)]
      have h8 : (n : Int) * (each : Int) = ((each * n : Nat) : Int) := by rw [Nat.mul_comm]; exact (Int.natCast_mul _ _).symm
      omega
    omega)]
  simp
theorem intsB_back : ∀ (l : List Int) (R : Bs), (∀ n ∈ l, -2147483648 ≤ n ∧ n < 2147483648) → intsB l.length (be4s l ++ R) = l
  | [], R, _ => rfl
  | n :: l, R, h => by
    have h4 := beBytes_length n 4
    have h5 : sInt (beBytes n 4) = n := (sInt_beBytes_iff n 4 (by decide)).2 (vfits4 n (h n (by simp))).2.2
    have e : be4s (n :: l) ++ R = beBytes n 4 ++ (be4s l ++ R) := by
      show (List.flatMap _ (n :: l)) ++ R = _
      rw [List.flatMap_cons, List.append_assoc]
      rfl
    show sInt ((be4s (n :: l) ++ R).take 4) :: intsB l.length ((be4s (n :: l) ++ R).drop 4) = n :: l
    rw [e, List.take_append_of_le_length (by omega), List.take_of_length_le (by omega), h5, List.drop_append_of_le_length (by omega), List.drop_of_length_le (by omega), List.nil_append, intsB_back l R (fun m hm => h m (by simp [hm]))]
theorem partsP_back (l : List Int) (hn : l.length ≤ 1000000) (h : ∀ n ∈ l, -2147483648 ≤ n ∧ n < 2147483648) (R : Bs) : partsP (beBytes l.length 4 ++ be4s l ++ R) = .ok (l, (beBytes l.length 4 ++ be4s l).length) := by
  unfold partsP
  rw [List.append_assoc, cntP_back 4 l.length _ (by decide) (by omega) (by rw [List.length_append, be4s_len]; omega)]
  simp only
  have h4 := beBytes_length (l.length : Int) 4
  rw [List.drop_append_of_le_length (by omega), List.drop_of_length_le (by omega), List.nil_append, intsB_back l R h, List.length_append, h4, be4s_len]
theorem textP_back (d : Bs) (hd : d.length ≤ 32767) (R : Bs) : textP (encF 2 ⟨false, d⟩ ++ R) = .ok (d, (encF 2 ⟨false, d⟩).length) := by
  unfold textP
  rw [refixed_back 2 ⟨false, d⟩ (by simp [BlobS.right]) (vfits2 _ (by simp [BlobS.len]; omega)) R]
  simp
theorem topP_back (t : TopS) (h : t.Fit) (R : Bs) : topP (encT t ++ R) = .ok (t, (encT t).length) := by
  obtain ⟨nm, ps⟩ := t
  obtain ⟨h1, h2, h3⟩ := h
  unfold topP encT
  simp only
  rw [List.append_assoc, textP_back nm h1]
  simp only
  rw [List.drop_append_of_le_length (by omega), List.drop_of_length_le (by omega), List.nil_append, partsP_back ps h2 h3]
  simp only [List.length_append]
theorem topN_back : ∀ (l : List TopS) (R : Bs), (∀ t ∈ l, t.Fit) → topN l.length (l.flatMap encT ++ R) = .ok (l, (l.flatMap encT).length)
  | [], R, _ => rfl
  | t :: l, R, h => by
    have e : (t :: l).flatMap encT ++ R = encT t ++ (l.flatMap encT ++ R) := by rw [List.flatMap_cons, List.append_assoc]
    rw [e]
    show topN (l.length + 1) (encT t ++ (l.flatMap encT ++ R)) = _
    unfold topN
    rw [topP_back t (h t (by simp))]
    simp only
    rw [List.drop_append_of_le_length (by omega), List.drop_of_length_le (by omega), List.nil_append, topN_back l R (fun m hm => h m (by simp [hm]))]
    simp only [List.flatMap_cons, List.length_append]
theorem flat_least (l : List TopS) : 6 * l.length ≤ (l.flatMap encT).length := by
  induction l with
  | nil => simp
  | cons x m ih => rw [List.flatMap_cons, List.length_append, List.length_cons, encT_len]; omega
theorem topsP_back (l : List TopS) (h : FitTs l) (R : Bs) : topsP (encTs l ++ R) = .ok (l, (encTs l).length) := by
  have h4 := beBytes_length (l.length : Int) 4
  have hn := h.1
  have hl := flat_least l
  unfold topsP encTs
  rw [List.append_assoc, cntP_back 6 l.length _ (by decide) (by omega) (by rw [List.length_append]; omega)]
  simp only
  rw [List.drop_append_of_le_length (by omega), List.drop_of_length_le (by omega), List.nil_append, topN_back l R h.2]
  simp only [List.length_append, h4]
theorem step_back {α : Type} {f : InS → α × InS} {p : Bs → Except Int (α × Nat)} {d : α} (h : Rds f p d) (S A X R : Bs) (hS : S = A ++ X ++ R) (a : α) (k : Nat) (hk : X.length = k) (hp : p (X ++ R) = .ok (a, k)) : f ⟨S, A.length, 0⟩ = (a, ⟨S, (A ++ X).length, 0⟩) := by
  subst hS
  have h2 := (h.ok (A ++ X ++ R) A.length a k (by simp) (by rw [List.append_assoc, List.drop_append_of_le_length (by omega), List.drop_of_length_le (by omega), List.nil_append]; exact hp)).2
  rw [h2, List.length_append, hk]
theorem int_stepV (S A R : Bs) (n : Int) (k : Nat) (h1 : 1 ≤ k) (h8 : k ≤ 8) (hf : fits n k) (hS : S = A ++ beBytes n k ++ R) : (⟨S, A.length, 0⟩ : InS).int k = (n, ⟨S, (A ++ beBytes n k).length, 0⟩) :=
  step_back (rds_intN k h1 h8) S A _ R hS n k (beBytes_length n k) (sInt_back n k h1 hf R)
theorem valDec_back (v : ValS) (he : v.err = 0) (hR : v.R) (hf : FitTs v.tops) : valDec v.enc = (v, 0) := by
  obtain ⟨hp, ⟨hs1, hs2⟩, _⟩ := v.ok_parts he
  obtain ⟨q1, ⟨q2, q3⟩, ⟨q4, q5⟩, q6, q7⟩ := ranged_parts v hp
  obtain ⟨r1, r2, r3, r4, r5, r6⟩ := hR
  obtain ⟨S, hS⟩ : ∃ S, v.enc = S := ⟨_, rfl⟩
  obtain ⟨X0, hX0⟩ : ∃ X, beBytes 0 2 = X := ⟨_, rfl⟩
  obtain ⟨X1, hX1⟩ : ∃ X, beBytes v.prod 8 = X := ⟨_, rfl⟩
  obtain ⟨X2, hX2⟩ : ∃ X, beBytes v.epoch 2 = X := ⟨_, rfl⟩
  obtain ⟨X3, hX3⟩ : ∃ X, beBytes v.timeout 4 = X := ⟨_, rfl⟩
  obtain ⟨X4, hX4⟩ : ∃ X, beBytes v.state 1 = X := ⟨_, rfl⟩
  obtain ⟨X5, hX5⟩ : ∃ X, encTs v.tops = X := ⟨_, rfl⟩
  obtain ⟨X6, hX6⟩ : ∃ X, beBytes v.upd 8 = X := ⟨_, rfl⟩
  obtain ⟨X7, hX7⟩ : ∃ X, beBytes v.started 8 = X := ⟨_, rfl⟩
  obtain ⟨A2, hA2⟩ : ∃ A, X0 ++ X1 = A := ⟨_, rfl⟩
  obtain ⟨A3, hA3⟩ : ∃ A, A2 ++ X2 = A := ⟨_, rfl⟩
  obtain ⟨A4, hA4⟩ : ∃ A, A3 ++ X3 = A := ⟨_, rfl⟩
  obtain ⟨A5, hA5⟩ : ∃ A, A4 ++ X4 = A := ⟨_, rfl⟩
  obtain ⟨A6, hA6⟩ : ∃ A, A5 ++ X5 = A := ⟨_, rfl⟩
  obtain ⟨A7, hA7⟩ : ∃ A, A6 ++ X6 = A := ⟨_, rfl⟩
  obtain ⟨A8, hA8⟩ : ∃ A, A7 ++ X7 = A := ⟨_, rfl⟩
  have hSA : S = A8 := by rw [← hS, ← hA8, ← hA7, ← hA6, ← hA5, ← hA4, ← hA3, ← hA2, ← hX0, ← hX1, ← hX2, ← hX3, ← hX4, ← hX5, ← hX6, ← hX7]; rfl
  have e0 : S = ([] : Bs) ++ X0 ++ (X1 ++ (X2 ++ (X3 ++ (X4 ++ (X5 ++ (X6 ++ (X7))))))) := by rw [hSA, ← hA8, ← hA7, ← hA6, ← hA5, ← hA4, ← hA3, ← hA2]; all_goals simp only [List.append_assoc, List.append_nil, List.nil_append]
  have s0 : (⟨S, ([] : Bs).length, 0⟩ : InS).int 2 = (0, ⟨S, (([] : Bs) ++ X0).length, 0⟩) := by
    rw [← hX0] at e0 ⊢
    exact int_stepV S _ _ _ 2 (by decide) (by decide) (vfits2 _ (by omega)) e0
  have e1 : S = X0 ++ X1 ++ (X2 ++ (X3 ++ (X4 ++ (X5 ++ (X6 ++ (X7)))))) := by rw [hSA, ← hA8, ← hA7, ← hA6, ← hA5, ← hA4, ← hA3, ← hA2]; all_goals simp only [List.append_assoc, List.append_nil, List.nil_append]
  have s1 : (⟨S, X0.length, 0⟩ : InS).int 8 = (v.prod, ⟨S, (X0 ++ X1).length, 0⟩) := by
    rw [← hX1] at e1 ⊢
    exact int_stepV S _ _ _ 8 (by decide) (by decide) (vfits8 _ (by omega)) e1
  rw [hA2] at s1
  have e2 : S = A2 ++ X2 ++ (X3 ++ (X4 ++ (X5 ++ (X6 ++ (X7))))) := by rw [hSA, ← hA8, ← hA7, ← hA6, ← hA5, ← hA4, ← hA3, ← hA2]; all_goals simp only [List.append_assoc, List.append_nil, List.nil_append]
  have s2 : (⟨S, A2.length, 0⟩ : InS).int 2 = (v.epoch, ⟨S, (A2 ++ X2).length, 0⟩) := by
    rw [← hX2] at e2 ⊢
    exact int_stepV S _ _ _ 2 (by decide) (by decide) (vfits2 _ (by omega)) e2
  rw [hA3] at s2
  have e3 : S = A3 ++ X3 ++ (X4 ++ (X5 ++ (X6 ++ (X7)))) := by rw [hSA, ← hA8, ← hA7, ← hA6, ← hA5, ← hA4, ← hA3, ← hA2]; all_goals simp only [List.append_assoc, List.append_nil, List.nil_append]
  have s3 : (⟨S, A3.length, 0⟩ : InS).int 4 = (v.timeout, ⟨S, (A3 ++ X3).length, 0⟩) := by
    rw [← hX3] at e3 ⊢
    exact int_stepV S _ _ _ 4 (by decide) (by decide) (vfits4 _ (by omega)) e3
  rw [hA4] at s3
  have e4 : S = A4 ++ X4 ++ (X5 ++ (X6 ++ (X7))) := by rw [hSA, ← hA8, ← hA7, ← hA6, ← hA5, ← hA4, ← hA3, ← hA2]; all_goals simp only [List.append_assoc, List.append_nil, List.nil_append]
  have s4 : (⟨S, A4.length, 0⟩ : InS).int 1 = (v.state, ⟨S, (A4 ++ X4).length, 0⟩) := by
    rw [← hX4] at e4 ⊢
    exact int_stepV S _ _ _ 1 (by decide) (by decide) (vfits1 _ (by omega)) e4
  rw [hA5] at s4
  have e5 : S = A5 ++ X5 ++ (X6 ++ (X7)) := by rw [hSA, ← hA8, ← hA7, ← hA6, ← hA5, ← hA4, ← hA3, ← hA2]; all_goals simp only [List.append_assoc, List.append_nil, List.nil_append]
  have s5 : (⟨S, A5.length, 0⟩ : InS).tops = (v.tops, ⟨S, (A5 ++ X5).length, 0⟩) := by
    rw [← hX5] at e5 ⊢
    exact step_back rds_tops S _ _ _ e5 _ _ rfl (topsP_back _ hf _)
  rw [hA6] at s5
  have e6 : S = A6 ++ X6 ++ (X7) := by rw [hSA, ← hA8, ← hA7, ← hA6, ← hA5, ← hA4, ← hA3, ← hA2]; all_goals simp only [List.append_assoc, List.append_nil, List.nil_append]
  have s6 : (⟨S, A6.length, 0⟩ : InS).int 8 = (v.upd, ⟨S, (A6 ++ X6).length, 0⟩) := by
    rw [← hX6] at e6 ⊢
    exact int_stepV S _ _ _ 8 (by decide) (by decide) (vfits8 _ (by omega)) e6
  rw [hA7] at s6
  have e7 : S = A7 ++ X7 ++ ([]) := by rw [hSA, ← hA8, ← hA7, ← hA6, ← hA5, ← hA4, ← hA3, ← hA2]; all_goals simp only [List.append_assoc, List.append_nil, List.nil_append]
  have s7 : (⟨S, A7.length, 0⟩ : InS).int 8 = (v.started, ⟨S, (A7 ++ X7).length, 0⟩) := by
    rw [← hX7] at e7 ⊢
    exact int_stepV S _ _ _ 8 (by decide) (by decide) (vfits8 _ (by omega)) e7
  rw [hA8] at s7
  rw [List.nil_append] at s0
  have s0 : (⟨S, 0, 0⟩ : InS).int 2 = (0, ⟨S, X0.length, 0⟩) := s0
  have hI : decI S = ⟨S, X0.length, 0⟩ := by unfold decI; rw [s0]; rfl
  have hV := valF_eq s1 s2 s3 s4 s5 s6 s7
  have hL : (⟨S, A8.length, 0⟩ : InS).left = 0 := by
    subst hSA
    exact Nat.sub_self _
  have hC : (⟨S, A8.length, 0⟩ : InS).close = ⟨S, A8.length, 0⟩ := by unfold InS.close; rw [hL]; rfl
  have hE : decE S = 0 := by unfold decE; rw [hI, hV, hC]
  rw [hS]
  unfold valDec
  rw [hE, hI, hV]
  show (if (v.err ≠ 0) then _ else _) = _
  rw [he]
  rfl

end Go.Proofs.Ytombolmicfjjpaa

/- How many topics are looked at (pure). -/
namespace Go.Proofs.Ytombolmicfjjpaa
open Go.RowKit

/-- How much of a topic is looked at. -/
def topW (t : TopS) : Nat := t.name.length + 4 * t.parts.length + 6
def topWs (l : List TopS) : Nat := (l.map topW).sum
theorem topWs_take (l : List TopS) (k : Nat) (hk : k < l.length) (t : TopS) (ht : l[k] = t) : topWs (l.take (k + 1)) = topWs (l.take k) + topW t := by
  unfold topWs
  rw [List.take_succ_eq_append_getElem hk, List.map_append, List.sum_append, ht]
  simp
theorem topWs_le (l : List TopS) (k : Nat) : topWs (l.take k) ≤ topWs l := by
  have h : topWs l = topWs (l.take k) + topWs (l.drop k) := by
    unfold topWs
    rw [← List.sum_append, ← List.map_append, List.take_append_drop]
  omega
theorem topWs_len (l : List TopS) : 6 * l.length ≤ topWs l := by
  unfold topWs
  induction l with
  | nil => simp
  | cons x t ih => rw [List.map_cons, List.sum_cons, List.length_cons]; unfold topW at ih ⊢; omega
theorem topWs_mem (l : List TopS) (t : TopS) (h : t ∈ l) : topW t ≤ topWs l := by
  unfold topWs
  induction l with
  | nil => cases h
  | cons x m ih =>
    rw [List.map_cons, List.sum_cons]
    rcases List.mem_cons.1 h with rfl | h
    · omega
    · have := ih h; omega
def few (l : List TopS) : Int := if topWs l ≤ 1000 then 1 else 0
theorem few_one {l : List TopS} (h : few l = 1) : topWs l ≤ 1000 := by
  unfold few at h
  by_cases hh : topWs l ≤ 1000
  · exact hh
  · rw [if_neg hh] at h; cases h
theorem few_T {l : List (TopS × Value)} (h : topWs (l.map (·.1)) ≤ 1000) : FewT l := by
  have h1 := topWs_len (l.map (·.1))
  rw [List.length_map] at h1
  refine ⟨by omega, fun x hx => ?_⟩
  have h2 := topWs_mem (l.map (·.1)) x.1 (List.mem_map_of_mem hx)
  unfold topW at h2
  exact ⟨by omega, by omega⟩

end Go.Proofs.Ytombolmicfjjpaa

/- Whether two rows of topics are one (pure). -/
namespace Go.Proofs.Ytombolmicfjjpaa
open Go.RowKit

theorem tmap_take_succ (l : List (TopS × Value)) (k : Nat) (h : k < l.length) (x : TopS) (hx : l[k].1 = x) : (l.map (·.1)).take (k + 1) = (l.map (·.1)).take k ++ [x] := by
  have h2 : k < (l.map (·.1)).length := by simpa using h
  rw [List.take_succ_eq_append_getElem h2, List.getElem_map, hx]
theorem tmap_ne_of_get (l m : List (TopS × Value)) (k : Nat) (h1 : k < l.length) (h2 : k < m.length) (x y : TopS) (hx : l[k].1 = x) (hy : m[k].1 = y) (h : x ≠ y) : l.map (·.1) ≠ m.map (·.1) := by
  intro he
  apply h
  have e1 : (l.map (·.1))[k]? = some x := by rw [List.getElem?_map, List.getElem?_eq_getElem h1]; simp [hx]
  have e2 : (m.map (·.1))[k]? = some y := by rw [List.getElem?_map, List.getElem?_eq_getElem h2]; simp [hy]
  rw [he, e2] at e1
  simpa using e1.symm
theorem tmap_len_ne (l m : List (TopS × Value)) (h : l.length ≠ m.length) : l.map (·.1) ≠ m.map (·.1) := fun hh => h (by have := congrArg List.length hh; simpa using this)
/-- What is asked of topics that are laid beside others. -/
def LenT (l : List (TopS × Value)) : Prop := l.length ≤ 140737488355328 ∧ ∀ x ∈ l, x.1.parts.length ≤ 9223372036854775807

end Go.Proofs.Ytombolmicfjjpaa

/- Values, there and back (pure). -/
namespace Go.Proofs.Ytombolmicfjjpaa
open Go.RowKit

theorem flat_topWs (l : List TopS) : (l.flatMap encT).length = topWs l := by
  unfold topWs
  induction l with
  | nil => rfl
  | cons x m ih => rw [List.flatMap_cons, List.length_append, List.map_cons, List.sum_cons, ih, encT_len]; unfold topW; omega
theorem enc_lenV (v : ValS) : v.enc.length = 37 + topWs v.tops := by
  unfold ValS.enc encTs
  simp only [List.length_append, beBytes_length, flat_topWs]
  omega
theorem fewL_map {l : List (TopS × Value)} (h : FewT l) : FewL (l.map (·.1)) := by
  refine ⟨by rw [List.length_map]; exact h.1, fun x hx => ?_⟩
  obtain ⟨y, hy, rfl⟩ := List.mem_map.1 hx
  exact h.2 y hy
theorem fewT_map {l m : List (TopS × Value)} (h : FewT l) (he : m.map (·.1) = l.map (·.1)) : FewT m := fewT_of (by rw [he]; exact fewL_map h)
theorem lenT_of {l : List (TopS × Value)} (h : FewT l) : LenT l := ⟨by have := h.1; omega, fun x hx => by have := (h.2 x hx).2; omega⟩

end Go.Proofs.Ytombolmicfjjpaa

/- Values: one spelling (pure). -/
namespace Go.Proofs.Ytombolmicfjjpaa
open Go.RowKit

theorem sInt_of_take (s : Bs) (k : Nat) (h : k ≤ s.length) : beBytes (sInt (s.take k)) k = s.take k := by
  have h1 := beBytes_sInt (s.take k)
  rw [List.length_take, Nat.min_eq_left h] at h1
  exact h1
theorem getIntN_one {k : Nat} {s : Bs} {n : Int} {m : Nat} (h : getIntN k s = .ok (n, m)) : m = k ∧ k ≤ s.length ∧ s.take k = beBytes n k := by
  unfold getIntN at h
  by_cases h1 : s.length < k
  · rw [if_pos h1] at h; cases h
  · rw [if_neg h1] at h
    cases h
    exact ⟨rfl, by omega, (sInt_of_take s k (by omega)).symm⟩
theorem cntP_one {each : Nat} {s : Bs} {n k : Nat} (he : 0 < each) (h : cntP each s = .ok (n, k)) : k = 4 ∧ 4 + each * n ≤ s.length ∧ s.take 4 = beBytes n 4 := by
  obtain ⟨h1, h2, h3, _⟩ := cntP_ok he h
  refine ⟨h1, h2, ?_⟩
  rw [h3]
  exact (sInt_of_take s 4 (by omega)).symm
theorem intsB_one : ∀ (n : Nat) (s : Bs), 4 * n ≤ s.length → be4s (intsB n s) = s.take (4 * n)
  | 0, s, _ => rfl
  | n + 1, s, h => by
    have ih := intsB_one n (s.drop 4) (by rw [List.length_drop]; omega)
    show be4s (sInt (s.take 4) :: intsB n (s.drop 4)) = _
    have e : be4s (sInt (s.take 4) :: intsB n (s.drop 4)) = beBytes (sInt (s.take 4)) 4 ++ be4s (intsB n (s.drop 4)) := by
      unfold be4s; rw [List.flatMap_cons]
    rw [e, ih, sInt_of_take s 4 (by omega), show 4 * (n + 1) = 4 + 4 * n by omega, List.take_add]
theorem partsP_one {s : Bs} {l : List Int} {k : Nat} (h : partsP s = .ok (l, k)) : k ≤ s.length ∧ s.take k = beBytes l.length 4 ++ be4s l := by
  unfold partsP at h
  cases h1 : cntP 4 s with
  | error e => rw [h1] at h; cases h
  | ok x =>
    rw [h1] at h
    cases h
    obtain ⟨c1, c2, c3⟩ := cntP_one (n := x.1) (k := x.2) (by decide) h1
    refine ⟨by omega, ?_⟩
    rw [intsB_len, intsB_one x.1 (s.drop 4) (by rw [List.length_drop]; omega), List.take_add, c3]
theorem textP_one {s : Bs} {d : Bs} {k : Nat} (h : textP s = .ok (d, k)) : k ≤ s.length ∧ s.take k = encF 2 ⟨false, d⟩ := by
  unfold textP at h
  cases h1 : refixed 2 s with
  | error e => rw [h1] at h; cases h
  | ok x =>
    rw [h1] at h
    simp only at h
    by_cases hn : x.1.null = true
    · rw [if_pos hn] at h; cases h
    · rw [if_neg hn] at h
      cases h
      unfold refixed at h1
      by_cases h2 : s.length < 2
      · rw [if_pos h2] at h1; cases h1
      rw [if_neg h2] at h1
      unfold gotS at h1
      by_cases h3 : sInt (s.take 2) = -1
      · rw [if_pos h3] at h1; cases h1; exact absurd rfl hn
      rw [if_neg h3] at h1
      by_cases h4 : sInt (s.take 2) < 0
      · rw [if_pos h4] at h1; cases h1
      rw [if_neg h4] at h1
      by_cases h5 : (s.length : Int) - (2 : Nat) < sInt (s.take 2)
      · rw [if_pos h5] at h1; cases h1
      rw [if_neg h5] at h1
      cases h1
      simp only
      have hl : ((s.drop 2).take (sInt (s.take 2)).toNat).length = (sInt (s.take 2)).toNat := by
        rw [List.length_take, List.length_drop]; omega
      refine ⟨by omega, ?_⟩
      unfold encF
      have hL : (⟨false, (s.drop 2).take (sInt (s.take 2)).toNat⟩ : BlobS).len = sInt (s.take 2) := by
        show (((s.drop 2).take (sInt (s.take 2)).toNat).length : Int) = _
        rw [hl]; omega
      rw [hL, sInt_of_take s 2 (by omega), List.take_add]
theorem topP_one {s : Bs} {t : TopS} {k : Nat} (h : topP s = .ok (t, k)) : k ≤ s.length ∧ s.take k = encT t := by
  unfold topP at h
  cases h1 : textP s with
  | error e => rw [h1] at h; cases h
  | ok x =>
    rw [h1] at h
    simp only at h
    cases h2 : partsP (s.drop x.2) with
    | error e => rw [h2] at h; cases h
    | ok y =>
      rw [h2] at h
      cases h
      obtain ⟨a1, a2⟩ := textP_one (d := x.1) (k := x.2) h1
      obtain ⟨b1, b2⟩ := partsP_one (l := y.1) (k := y.2) h2
      rw [List.length_drop] at b1
      refine ⟨by omega, ?_⟩
      unfold encT
      rw [List.take_add, a2, b2]
theorem topN_one : ∀ (n : Nat) (s : Bs) (l : List TopS) (k : Nat), topN n s = .ok (l, k) → l.length = n ∧ k ≤ s.length ∧ s.take k = l.flatMap encT
  | 0, s, l, k, h => by cases h; exact ⟨rfl, Nat.zero_le _, rfl⟩
  | n + 1, s, l, k, h => by
    unfold topN at h
    cases h1 : topP s with
    | error e => rw [h1] at h; cases h
    | ok x =>
      rw [h1] at h
      simp only at h
      cases h2 : topN n (s.drop x.2) with
      | error e => rw [h2] at h; cases h
      | ok y =>
        rw [h2] at h
        cases h
        obtain ⟨a1, a2⟩ := topP_one (t := x.1) (k := x.2) h1
        obtain ⟨b0, b1, b2⟩ := topN_one n (s.drop x.2) y.1 y.2 h2
        rw [List.length_drop] at b1
        refine ⟨by rw [List.length_cons, b0], by omega, ?_⟩
        rw [List.take_add, a2, b2, List.flatMap_cons]
theorem topsP_one {s : Bs} {l : List TopS} {k : Nat} (h : topsP s = .ok (l, k)) : k ≤ s.length ∧ s.take k = encTs l := by
  unfold topsP at h
  cases h1 : cntP 6 s with
  | error e => rw [h1] at h; cases h
  | ok x =>
    rw [h1] at h
    simp only at h
    cases h2 : topN x.1 (s.drop 4) with
    | error e => rw [h2] at h; cases h
    | ok y =>
      rw [h2] at h
      cases h
      obtain ⟨c1, c2, c3⟩ := cntP_one (n := x.1) (k := x.2) (by decide) h1
      obtain ⟨b0, b1, b2⟩ := topN_one _ _ y.1 y.2 h2
      rw [List.length_drop] at b1
      refine ⟨by omega, ?_⟩
      unfold encTs
      rw [List.take_add, c3, b2, b0]
/-- A read that went well, and what stood ahead of it. -/
theorem Rds.inv {α : Type} {f : InS → α × InS} {p : Bs → Except Int (α × Nat)} {d : α} (h : Rds f p d) {i j : InS} {a : α} (hf : f i = (a, j)) (he : j.err = 0) (hp : i.pos ≤ i.s.length) : i.err = 0 ∧ ∃ k, p (i.s.drop i.pos) = .ok (a, k) ∧ j = ⟨i.s, i.pos + k, 0⟩ ∧ i.pos + k ≤ i.s.length := by
  by_cases h0 : i.err = 0
  · refine ⟨h0, ?_⟩
    obtain ⟨s, pos, er⟩ := i
    simp only at h0 hp ⊢
    subst h0
    cases hq : p (s.drop pos) with
    | error e =>
      obtain ⟨e0, q, _, g⟩ := h.err s pos e hp hq
      rw [g] at hf
      cases hf
      exact absurd he e0
    | ok x =>
      obtain ⟨g1, g2⟩ := h.ok s pos x.1 x.2 hp hq
      rw [g2] at hf
      cases hf
      exact ⟨x.2, rfl, rfl, g1⟩
  · exfalso
    rw [h.stuck i h0] at hf
    cases hf
    exact h0 he
theorem int_inv {i j : InS} {n : Int} (k : Nat) (h1 : 1 ≤ k) (h8 : k ≤ 8) (hf : i.int k = (n, j)) (he : j.err = 0) (hp : i.pos ≤ i.s.length) : i.err = 0 ∧ j = ⟨i.s, i.pos + k, 0⟩ ∧ i.pos + k ≤ i.s.length ∧ i.s.take (i.pos + k) = i.s.take i.pos ++ beBytes n k := by
  obtain ⟨a, m, b, c, d⟩ := (rds_intN k h1 h8).inv hf he hp
  obtain ⟨e1, e2, e3⟩ := getIntN_one b
  subst e1
  exact ⟨a, c, d, by rw [List.take_add, e3]⟩
theorem tops_inv {i j : InS} {l : List TopS} (hf : i.tops = (l, j)) (he : j.err = 0) (hp : i.pos ≤ i.s.length) : i.err = 0 ∧ ∃ k, j = ⟨i.s, i.pos + k, 0⟩ ∧ i.pos + k ≤ i.s.length ∧ i.s.take (i.pos + k) = i.s.take i.pos ++ encTs l := by
  obtain ⟨a, m, b, c, d⟩ := rds_tops.inv hf he hp
  exact ⟨a, m, c, d, by rw [List.take_add, (topsP_one b).2]⟩

end Go.Proofs.Ytombolmicfjjpaa

/- Requests of transactions, there and back (pure). -/
namespace Go.Proofs.Ytombolmicfjjpaa
open Go.RowKit

theorem was_0 {p e : Int} (h : was 0 p e = true) : p = -1 ∧ e = -1 := by
  unfold was at h
  rw [Bool.or_eq_true, Bool.and_eq_true, Bool.and_eq_true, beq_iff_eq, beq_iff_eq] at h
  rcases h with h | ⟨h1, _⟩
  · exact h
  · simp at h1
theorem encO_len (c : Bool) : (encO c).length = 1 := rfl
theorem encO_by (c : Bool) : encO c = beBytes (if c then 1 else 0) 1 := by cases c <;> rfl
theorem fixed_stepT (S A R : Bs) (nl : Bool) (d : Bs) (h : idOk nl d = true) (hS : S = A ++ encF 2 ⟨nl, d⟩ ++ R) : (⟨S, A.length, 0⟩ : InS).fixed 2 = (⟨nl, d⟩, ⟨S, (A ++ encF 2 ⟨nl, d⟩).length, 0⟩) := by
  obtain ⟨_, h2, h3⟩ := idOk_len h
  exact step_back (rds_fixed 2 (by decide) (by decide)) S A _ R hS ⟨nl, d⟩ _ rfl (refixed_back 2 ⟨nl, d⟩ h2 h3 R)
theorem text_stepT (S A R : Bs) (d : Bs) (h : d.length ≤ 32767) (hS : S = A ++ encF 2 ⟨false, d⟩ ++ R) : (⟨S, A.length, 0⟩ : InS).text = (d, ⟨S, (A ++ encF 2 ⟨false, d⟩).length, 0⟩) :=
  step_back rds_text S A _ R hS d _ rfl (textP_back d h R)
theorem tops_stepT (S A R : Bs) (l : List TopS) (h : FitTs l) (hS : S = A ++ encTs l ++ R) : (⟨S, A.length, 0⟩ : InS).tops = (l, ⟨S, (A ++ encTs l).length, 0⟩) :=
  step_back rds_tops S A _ R hS l _ rfl (topsP_back l h R)
theorem bool_stepT (S A R : Bs) (c : Bool) (hS : S = A ++ encO c ++ R) : (⟨S, A.length, 0⟩ : InS).boolP = (c, ⟨S, (A ++ encO c).length, 0⟩) := by
  have h := int_stepV S A R (if c then 1 else 0) 1 (by decide) (by decide) (vfits1 _ (by cases c <;> decide)) (by rw [← encO_by]; exact hS)
  have h2 : (⟨S, A.length, 0⟩ : InS).int 1 = (if c then 1 else 0, ⟨S, (A ++ encO c).length, 0⟩) := by rw [encO_by]; exact h
  unfold InS.boolP
  rw [h2]
  cases c <;> rfl
theorem back_220 (S : Bs) (nl : Bool) (d : Bs) (tm : Int) (hi : idOk nl d = true) (ht : 0 ≤ tm ∧ tm ≤ 2147483647) (hS : encReq 22 0 nl d tm (-1) (-1) [] false = S) : ∃ i1, (⟨S, 0, 0⟩ : InS).fixed 2 = (⟨nl, d⟩, i1) ∧ i1.int 4 = (tm, ⟨S, S.length, 0⟩) := by
  have hS2 : S = encF 2 ⟨nl, d⟩ ++ beBytes tm 4 := by rw [← hS]; simp [encReq]
  have a := fixed_stepT S [] (beBytes tm 4) nl d hi (by rw [hS2]; rfl)
  have b := int_stepV S (encF 2 ⟨nl, d⟩) [] tm 4 (by decide) (by decide) (vfits4 tm (by omega)) (by rw [hS2, List.append_nil])
  rw [← hS2] at b
  exact ⟨_, a, b⟩
theorem back_221 (S : Bs) (nl : Bool) (d : Bs) (tm p e : Int) (hi : idOk nl d = true) (ht : 0 ≤ tm ∧ tm ≤ 2147483647) (hp : -1 ≤ p ∧ p < 9223372036854775808) (he : -1 ≤ e ∧ e ≤ 32767) (hS : encReq 22 1 nl d tm p e [] false = S) : ∃ i1 i2 i3, (⟨S, 0, 0⟩ : InS).fixed 2 = (⟨nl, d⟩, i1) ∧ i1.int 4 = (tm, i2) ∧ i2.int 8 = (p, i3) ∧ i3.int 2 = (e, ⟨S, S.length, 0⟩) := by
  have hS2 : S = encF 2 ⟨nl, d⟩ ++ (beBytes tm 4 ++ (beBytes p 8 ++ beBytes e 2)) := by rw [← hS]; simp [encReq, encW]
  have a := fixed_stepT S [] _ nl d hi (by rw [List.nil_append]; exact hS2)
  have b := int_stepV S (encF 2 ⟨nl, d⟩) (beBytes p 8 ++ beBytes e 2) tm 4 (by decide) (by decide) (vfits4 tm (by omega)) (by rw [hS2]; simp only [List.append_assoc])
  have c := int_stepV S (encF 2 ⟨nl, d⟩ ++ beBytes tm 4) (beBytes e 2) p 8 (by decide) (by decide) (vfits8 p (by omega)) (by rw [hS2]; simp only [List.append_assoc])
  have f := int_stepV S (encF 2 ⟨nl, d⟩ ++ beBytes tm 4 ++ beBytes p 8) [] e 2 (by decide) (by decide) (vfits2 e (by omega)) (by rw [hS2]; simp only [List.append_assoc, List.append_nil])
  rw [show encF 2 ⟨nl, d⟩ ++ beBytes tm 4 ++ beBytes p 8 ++ beBytes e 2 = S by rw [hS2]; simp only [List.append_assoc]] at f
  exact ⟨_, _, _, a, b, c, f⟩
theorem back_24 (S : Bs) (v : Int) (d : Bs) (p e : Int) (l : List TopS) (hd : d.length ≤ 32767) (hp : 0 ≤ p ∧ p < 9223372036854775808) (he : 0 ≤ e ∧ e ≤ 32767) (hf : FitTs l) (hS : encReq 24 v false d 0 p e l false = S) : ∃ i1 i2 i3, (⟨S, 0, 0⟩ : InS).text = (d, i1) ∧ i1.int 8 = (p, i2) ∧ i2.int 2 = (e, i3) ∧ i3.tops = (l, ⟨S, S.length, 0⟩) := by
  have hS2 : S = encF 2 ⟨false, d⟩ ++ (beBytes p 8 ++ (beBytes e 2 ++ encTs l)) := by rw [← hS]; simp [encReq, encW]
  have a := text_stepT S [] _ d hd (by rw [List.nil_append]; exact hS2)
  have b := int_stepV S (encF 2 ⟨false, d⟩) (beBytes e 2 ++ encTs l) p 8 (by decide) (by decide) (vfits8 p (by omega)) (by rw [hS2]; simp only [List.append_assoc])
  have c := int_stepV S (encF 2 ⟨false, d⟩ ++ beBytes p 8) (encTs l) e 2 (by decide) (by decide) (vfits2 e (by omega)) (by rw [hS2]; simp only [List.append_assoc])
  have f := tops_stepT S (encF 2 ⟨false, d⟩ ++ beBytes p 8 ++ beBytes e 2) [] l hf (by rw [hS2]; simp only [List.append_assoc, List.append_nil])
  rw [show encF 2 ⟨false, d⟩ ++ beBytes p 8 ++ beBytes e 2 ++ encTs l = S by rw [hS2]; simp only [List.append_assoc]] at f
  exact ⟨_, _, _, a, b, c, f⟩
theorem back_26 (S : Bs) (v : Int) (d : Bs) (p e : Int) (c : Bool) (hd : d.length ≤ 32767) (hp : 0 ≤ p ∧ p < 9223372036854775808) (he : 0 ≤ e ∧ e ≤ 32767) (hS : encReq 26 v false d 0 p e [] c = S) : ∃ i1 i2 i3, (⟨S, 0, 0⟩ : InS).text = (d, i1) ∧ i1.int 8 = (p, i2) ∧ i2.int 2 = (e, i3) ∧ i3.boolP = (c, ⟨S, S.length, 0⟩) := by
  have hS2 : S = encF 2 ⟨false, d⟩ ++ (beBytes p 8 ++ (beBytes e 2 ++ encO c)) := by rw [← hS]; simp [encReq, encW]
  have a := text_stepT S [] _ d hd (by rw [List.nil_append]; exact hS2)
  have b := int_stepV S (encF 2 ⟨false, d⟩) (beBytes e 2 ++ encO c) p 8 (by decide) (by decide) (vfits8 p (by omega)) (by rw [hS2]; simp only [List.append_assoc])
  have f := int_stepV S (encF 2 ⟨false, d⟩ ++ beBytes p 8) (encO c) e 2 (by decide) (by decide) (vfits2 e (by omega)) (by rw [hS2]; simp only [List.append_assoc])
  have g := bool_stepT S (encF 2 ⟨false, d⟩ ++ beBytes p 8 ++ beBytes e 2) [] c (by rw [hS2]; simp only [List.append_assoc, List.append_nil])
  rw [show encF 2 ⟨false, d⟩ ++ beBytes p 8 ++ beBytes e 2 ++ encO c = S by rw [hS2]; simp only [List.append_assoc]] at g
  exact ⟨_, _, _, a, b, f, g⟩
theorem err_endT (s : Bs) : (⟨s, s.length, 0⟩ : InS).err = 0 := rfl
theorem close_endT (s : Bs) : (⟨s, s.length, 0⟩ : InS).close.err = 0 := by
  unfold InS.close
  rw [if_neg (show ¬ 0 < InS.left ⟨s, s.length, 0⟩ by unfold InS.left; simp only; omega)]
theorem encReq_len (k v : Int) (nl : Bool) (d : Bs) (tm p e : Int) (l : List TopS) (c : Bool) (hl : topWs l ≤ 1000) (hd : d.length ≤ 32767) : (encReq k v nl d tm p e l c).length ≤ 100000 := by
  have h1 : (encF 2 ⟨nl, d⟩).length = 2 + d.length := by unfold encF; rw [List.length_append, beBytes_length]
  have h2 : (encW p e).length = 10 := by unfold encW; rw [List.length_append, beBytes_length, beBytes_length]
  have h3 : (encTs l).length = 4 + topWs l := by unfold encTs; rw [List.length_append, beBytes_length, flat_topWs]
  have h4 : (encO c).length = 1 := rfl
  unfold encReq
  rw [List.length_append]
  split
  · rw [List.length_append, beBytes_length]
    split
    · omega
    · simp only [List.length_nil]; omega
  · rw [List.length_append]
    split <;> omega

end Go.Proofs.Ytombolmicfjjpaa

/- How many, by definition (pure). -/
namespace Go.Proofs.Ytombolmicfjjpaa
open Go.RowKit

def cntR (each : Nat) (s : Bs) : Nat × Int := match cntP each s with
  | .ok x => (x.1, 0)
  | .error e => (0, e)
theorem cntR_short {each : Nat} {s : Bs} (h : s.length < 4) : cntR each s = (0, 1) := by
  unfold cntR cntP; rw [if_pos h]
theorem cntR_neg {each : Nat} {s : Bs} (h : ¬ s.length < 4) (h2 : sInt (s.take 4) < 0) : cntR each s = (0, 4) := by
  unfold cntR cntP; rw [if_neg h, if_pos h2]
theorem cntR_more {each : Nat} {s : Bs} (h : ¬ s.length < 4) (h2 : ¬ sInt (s.take 4) < 0) (h3 : ((s.length : Int) - 4) / each < sInt (s.take 4)) : cntR each s = (0, 1) := by
  unfold cntR cntP; rw [if_neg h, if_neg h2, if_pos h3]
theorem cntR_ok {each : Nat} {s : Bs} (h : ¬ s.length < 4) (h2 : ¬ sInt (s.take 4) < 0) (h3 : ¬ ((s.length : Int) - 4) / each < sInt (s.take 4)) : cntR each s = ((sInt (s.take 4)).toNat, 0) := by
  unfold cntR cntP; rw [if_neg h, if_neg h2, if_neg h3]

end Go.Proofs.Ytombolmicfjjpaa

/- Topics, read by definition (pure). -/
namespace Go.Proofs.Ytombolmicfjjpaa
open Go.RowKit

def topsR (s : Bs) : List TopS × Nat × Int := match topsP s with
  | .ok x => (x.1, x.2, 0)
  | .error e => ([], 0, e)
def stepR (acc : List TopS) (p : Nat) (r : Except Int (List TopS × Nat)) : List TopS × Nat × Int := match r with
  | .ok x => (acc ++ x.1, p + x.2, 0)
  | .error e => ([], 0, e)
theorem cntP_err {each : Nat} {s : Bs} {e : Int} (h : cntP each s = .error e) : e ≠ 0 := by
  unfold cntP at h
  split at h
  · cases h; decide
  · split at h
    · cases h; decide
    · split at h
      · cases h; decide
      · cases h
theorem cntR_zero {each : Nat} {s : Bs} {n : Nat} (he : 0 < each) (h : cntR each s = (n, 0)) : cntP each s = .ok (n, 4) ∧ 4 + each * n ≤ s.length := by
  unfold cntR at h
  cases h1 : cntP each s with
  | error e => rw [h1] at h; cases h; exact absurd rfl (cntP_err h1)
  | ok x =>
    rw [h1] at h
    cases h
    obtain ⟨c1, c2, _, _⟩ := cntP_ok (n := x.1) (k := x.2) he h1
    refine ⟨?_, c2⟩
    rw [← c1]
theorem cntR_bad {each : Nat} {s : Bs} {n : Nat} {e : Int} (h : cntR each s = (n, e)) (h0 : e ≠ 0) : cntP each s = .error e := by
  unfold cntR at h
  cases h1 : cntP each s with
  | error e2 => rw [h1] at h; cases h; rfl
  | ok x => rw [h1] at h; cases h; exact absurd rfl h0
theorem topsR_bad {s : Bs} {n : Nat} {e : Int} (h : cntR 6 s = (n, e)) (h0 : e ≠ 0) : topsR s = ([], 0, e) := by
  unfold topsR topsP
  rw [cntR_bad h h0]
theorem topsR_go {s : Bs} {n : Nat} (h : cntR 6 s = (n, 0)) : topsR s = stepR [] 4 (topN n (s.drop 4)) ∧ 4 + 6 * n ≤ s.length := by
  obtain ⟨h1, h2⟩ := cntR_zero (by decide) h
  refine ⟨?_, h2⟩
  unfold topsR topsP
  rw [h1]
  cases h3 : topN n (s.drop 4) with
  | error e => simp only [h3]; rfl
  | ok y => simp only [h3, stepR, List.nil_append]
theorem stepR_zero (acc : List TopS) (p : Nat) (x : Bs) : stepR acc p (topN 0 x) = (acc, p, 0) := by
  show (acc ++ [], p + 0, (0 : Int)) = _
  rw [List.append_nil]; rfl
theorem stepR_err {acc : List TopS} {p n : Nat} {s : Bs} {e : Int} (h : refixed 2 (s.drop p) = .error e) : stepR acc p (topN (n + 1) (s.drop p)) = ([], 0, e) := by
  unfold topN topP textP
  rw [h]
  rfl
theorem stepR_null {acc : List TopS} {p n : Nat} {s : Bs} {b : BlobS} {k : Nat} (h : refixed 2 (s.drop p) = .ok (b, k)) (hn : b.null = true) : stepR acc p (topN (n + 1) (s.drop p)) = ([], 0, 4) := by
  unfold topN topP textP
  rw [h]
  simp only [hn, if_true]
  rfl
theorem textP_of {t : Bs} {b : BlobS} {k : Nat} (h : refixed 2 t = .ok (b, k)) (hn : b.null = false) : textP t = .ok (b.data, k) := by
  unfold textP
  rw [h]
  simp [hn]
theorem stepR_cnt {acc : List TopS} {p n : Nat} {s : Bs} {b : BlobS} {k m : Nat} {f : Int} (h : refixed 2 (s.drop p) = .ok (b, k)) (hn : b.null = false) (hc : cntR 4 (s.drop (p + k)) = (m, f)) (h0 : f ≠ 0) : stepR acc p (topN (n + 1) (s.drop p)) = ([], 0, f) := by
  unfold topN topP
  rw [textP_of h hn]
  simp only
  rw [List.drop_drop]
  unfold partsP
  rw [cntR_bad hc h0]
  rfl
theorem stepR_next {acc : List TopS} {p n : Nat} {s : Bs} {b : BlobS} {k m : Nat} (h : refixed 2 (s.drop p) = .ok (b, k)) (hn : b.null = false) (hc : cntR 4 (s.drop (p + k)) = (m, 0)) :
    stepR acc p (topN (n + 1) (s.drop p)) = stepR (acc ++ [⟨b.data, intsB m (s.drop (p + k + 4))⟩]) (p + k + 4 + 4 * m) (topN n (s.drop (p + k + 4 + 4 * m))) := by
  obtain ⟨h1, h2⟩ := cntR_zero (by decide) hc
  have e1 : topP (s.drop p) = .ok (⟨b.data, intsB m (s.drop (p + k + 4))⟩, k + (4 + 4 * m)) := by
    unfold topP
    rw [textP_of h hn]
    simp only
    rw [List.drop_drop]
    unfold partsP
    rw [h1]
    simp only
    rw [List.drop_drop]
  have e2 : (s.drop p).drop (k + (4 + 4 * m)) = s.drop (p + k + 4 + 4 * m) := by rw [List.drop_drop]; congr 1; omega
  show stepR acc p (match topP (s.drop p) with | .error e => .error e | .ok x => match topN n ((s.drop p).drop x.2) with | .error e => .error e | .ok y => .ok (x.1 :: y.1, x.2 + y.2)) = _
  rw [e1]
  simp only
  rw [e2]
  cases h3 : topN n (s.drop (p + k + 4 + 4 * m)) with
  | error e => rfl
  | ok y =>
    simp only
    unfold stepR
    simp only [List.append_assoc, List.singleton_append, Prod.mk.injEq, true_and, and_true]
    omega
theorem refixed_le {t : Bs} {b : BlobS} {k : Nat} (h : refixed 2 t = .ok (b, k)) : 2 ≤ k ∧ k ≤ t.length := by
  unfold refixed at h
  split at h
  · cases h
  · unfold gotS at h
    split at h
    · cases h; omega
    · split at h
      · cases h
      · split at h
        · cases h
        · cases h; omega
theorem gotV_errT {t : Bs} {e : Int} (h : refixed 2 t = .error e) : gotV (refixed 2 t) = .agg #[.bool false, .string ⟨#[]⟩, .int .i64 0, .int .i64 e] := by rw [h]; rfl
theorem gotV_okT {t : Bs} {b : BlobS} {k : Nat} (h : refixed 2 t = .ok (b, k)) : gotV (refixed 2 t) = .agg #[.bool b.null, .string (bb b.data), .int .i64 k, .int .i64 0] := by rw [h]; rfl
theorem refixed_err {t : Bs} {e : Int} (h : refixed 2 t = .error e) : e ≠ 0 := by
  unfold refixed at h
  split at h
  · cases h; decide
  · unfold gotS at h
    split at h
    · cases h
    · split at h
      · cases h; decide
      · split at h
        · cases h; decide
        · cases h

end Go.Proofs.Ytombolmicfjjpaa
