/- Operations of regions that draw their order. -/
import Derived.Test.YtombolmicfjjpaaGValueTopics2
import Derived.Test.YtombolmicfjjpaaGValueTopics3
import Derived.Test.YtombolmicfjjpaaGValueTopics1
import Derived.Test.YtombolmicfjjpaaBlob1
import Derived.Test.YtombolmicfjjpaaRef04
import Derived.Test.YtombolmicfjjpaaBlob2
import Derived.Test.YtombolmicfjjpaaS1
import Derived.Test.YtombolmicfjjpaaVBack
import Derived.Test.YtombolmicfjjpaaBlobP
import Derived.Deep.RegionHeld3
import Derived.BigQuiet
import Derived.Test.YtombolmicfjjpaaSep
import Derived.Deep.MidRow
import Derived.Test.YtombolmicfjjpaaGrow
/- Values, checked. -/
namespace Go.Proofs.Ytombolmicfjjpaa
open Go.RowKit

theorem tRise_nil : tRise [] = true := rfl
theorem idle_0 : idle 0 = true := rfl
theorem val_check (v : ValS) (l : List (TopS × Value)) (q : Option Addr) (cap : Nat) (hl : l.map (·.1) = v.tops) (E : Int) (he : v.err = E) (hf : FewT l) {W0 w : World} {K : Know} {L : List Res} (hk : K.has (Know.tops (.slice q l.length cap) l)) (h : St W0 w K L) :
    Calls Try.prog 17 #[.agg #[.int .i64 v.prod, .int .i64 v.epoch, .int .i64 v.timeout, .int .i64 v.state, .slice q l.length cap, .int .i64 v.upd, .int .i64 v.started]] w fun en w' => en = .returned (.int .i64 E) ∧ St W0 w' K L := by
  obtain ⟨p, e, t, s, tops, u, st⟩ := v
  simp only at hl ⊢
  subst hl
  unfold ValS.err ValS.ranged at he
  simp only at he
  cases hrg : (decide (0 ≤ p) && (decide (0 ≤ e) && (decide (e ≤ 32767) && (decide (0 ≤ t) && (decide (t ≤ 2147483647) && (decide (0 ≤ u) && decide (-1 ≤ st))))))) with
  | false =>
    rw [if_pos hrg] at he
    subst he
    exact val_check_11 p e t s u st l q cap hrg hf hk h
  | true =>
    rw [if_neg (by rw [hrg]; decide)] at he
    by_cases hs : s < 0 ∨ 7 ≤ s
    · rw [if_pos hs] at he
      subst he
      exact val_check_12 p e t s u st l q cap hrg hs hf hk h
    · rw [if_neg hs] at he
      have s1 : 0 ≤ s := by omega
      have s2 : s < 7 := by omega
      have hemp : (l.map (·.1)).isEmpty = decide (l = []) := by cases l <;> simp
      rw [hemp] at he
      by_cases hem : l = []
      · rw [decide_eq_true hem] at he
        cases hi : idle s with
        | false =>
          rw [if_pos (.inl (by rw [hi]; rfl))] at he
          subst he
          subst hem; exact val_check_10e p e t s u st q cap hrg s1 s2 hi hf hk h
        | true =>
          by_cases h1 : s = 0
          · by_cases h2 : st = -1
            · rw [if_neg (by rw [hi, h1, h2]; decide)] at he
              have htr : tRise (l.map (·.1)) = true := by rw [hem]; rfl
              rw [if_neg (by rw [htr]; decide)] at he
              subst he
              subst hem; exact val_check_e11t p e t s u st q cap hrg s1 s2 hi h1 h2 htr hf hk h
            · rw [if_pos (.inr (by rw [h1, beq_eq_false_iff_ne.2 h2]; rfl))] at he
              subst he
              subst hem; exact val_check_e10 p e t s u st q cap hrg s1 s2 hi h1 h2 hf hk h
          · by_cases h2 : st = -1
            · rw [if_pos (.inr (by rw [h2, beq_eq_false_iff_ne.2 h1]; rfl))] at he
              subst he
              subst hem; exact val_check_e01 p e t s u st q cap hrg s1 s2 hi h1 h2 hf hk h
            · rw [if_neg (by rw [hi, beq_eq_false_iff_ne.2 h1, beq_eq_false_iff_ne.2 h2]; decide)] at he
              have htr : tRise (l.map (·.1)) = true := by rw [hem]; rfl
              rw [if_neg (by rw [htr]; decide)] at he
              subst he
              subst hem; exact val_check_e00t p e t s u st q cap hrg s1 s2 hi h1 h2 htr hf hk h
      · rw [decide_eq_false hem] at he
        cases hi : idle s with
        | true =>
          rw [if_pos (.inl (by rw [hi]; rfl))] at he
          subst he
          exact val_check_10f p e t s u st l q cap hrg s1 s2 hi hem hf hk h
        | false =>
          have h1 : ¬ s = 0 := by rintro rfl; rw [idle_0] at hi; cases hi
          by_cases h2 : st = -1
          · rw [if_pos (.inr (by rw [h2, beq_eq_false_iff_ne.2 h1]; rfl))] at he
            subst he
            exact val_check_f01 p e t s u st l q cap hrg s1 s2 hi hem h1 h2 hf hk h
          · rw [if_neg (by rw [hi, beq_eq_false_iff_ne.2 h1, beq_eq_false_iff_ne.2 h2]; decide)] at he
            cases htr : tRise (l.map (·.1)) with
            | true =>
              rw [if_neg (by rw [htr]; decide)] at he
              subst he
              exact val_check_f00t p e t s u st l q cap hrg s1 s2 hi hem h1 h2 htr hf hk h
            | false =>
              rw [if_pos htr] at he
              subst he
              exact val_check_f00b p e t s u st l q cap hrg s1 s2 hi hem h1 h2 htr hf hk h

end Go.Proofs.Ytombolmicfjjpaa

/- Numbers and texts, written. -/
namespace Go.Proofs.Ytombolmicfjjpaa
open Go.RowKit

theorem fits_rng (n size : Int) (h : fits n size) : -9223372036854775808 ≤ n ∧ n < 9223372036854775808 := by
  obtain ⟨h1, h2, h3, h4⟩ := h
  unfold half at h3 h4
  rcases (by omega : size.toNat - 1 = 0 ∨ size.toNat - 1 = 1 ∨ size.toNat - 1 = 2 ∨ size.toNat - 1 = 3 ∨ size.toNat - 1 = 4 ∨ size.toNat - 1 = 5 ∨ size.toNat - 1 = 6 ∨ size.toNat - 1 = 7) with h | h | h | h | h | h | h | h <;> rw [h] at h3 h4 <;> omega
theorem so_intV (p : Nat) (e e2 : Bs) (n size : Int) (he : e ++ beBytes n size.toNat = e2) (hf : fits n size) (hl : e.length ≤ 100000000000000) {W0 w : World} {K : Know} {L : List Res} (h : St W0 w K (.out p ⟨e, 0⟩ :: L)) :
    Calls Try.prog 69 #[outPtr p, .int .i64 n, .int .i64 size] w fun en w' => en = .returned (.tuple #[]) ∧ St W0 w' K (.out p ⟨e2, 0⟩ :: L) := by
  have h2 := so_int p ⟨e, 0⟩ n size (fits_rng n size hf) h (by unfold OutS.ok; simp only; omega)
  have e3 : (⟨e, 0⟩ : OutS).int n size = ⟨e2, 0⟩ := by unfold OutS.int; rw [if_pos hf, ← he]; rfl
  rw [e3] at h2
  exact h2
theorem blob_putTextV (p : Nat) (e e2 s : Bs) (he : e ++ encF 2 ⟨false, s⟩ = e2) (hs : s.length ≤ 32767) (hl : e.length ≤ 100000000000000) {W0 w : World} {K : Know} {L : List Res} (h : St W0 w K (.out p ⟨e, 0⟩ :: L)) :
    Calls Try.prog 86 #[outPtr p, .string (bb s)] w fun en w' => en = .returned (.tuple #[]) ∧ St W0 w' K (.out p ⟨e2, 0⟩ :: L) := by
  have h2 := blob_putText p ⟨e, 0⟩ s h (by unfold OutS.ok; simp only; omega)
  have hf : fits (⟨false, s⟩ : BlobS).len 2 := vfits2 _ (by show -32768 ≤ (s.length : Int) ∧ (s.length : Int) < 32768; omega)
  have e3 : (⟨e, 0⟩ : OutS).putText s = ⟨e2, 0⟩ := by
    show ((⟨e, 0⟩ : OutS).int (⟨false, s⟩ : BlobS).len 2).putData ⟨false, s⟩ = _
    unfold OutS.int
    rw [if_pos hf, ← he]
    show (⟨(e ++ beBytes (⟨false, s⟩ : BlobS).len 2) ++ s, 0⟩ : OutS) = _
    rw [List.append_assoc]
    rfl
  rw [e3] at h2
  exact h2
theorem sr_bytesV (n size : Int) (k : Nat) (hs : size = k) (hk : k ≤ 8) (r : Bs) (hr : beBytes n k = r) (hn : -9223372036854775808 ≤ n ∧ n < 9223372036854775808) {W0 w : World} {K : Know} {L : List Res} (h : St W0 w K L) :
    Calls Try.prog 75 #[.int .i64 n, .int .i64 size] w fun en w' => en = .returned (.string (bb r)) ∧ St W0 w' K L := by
  subst hr hs
  exact sr_bytes n k (by omega) hn h
theorem ref04_fixedV (s r : Bs) (hr : encF 2 ⟨false, s⟩ = r) (hs : s.length ≤ 32767) {W0 w : World} {K : Know} {L : List Res} (h : St W0 w K L) :
    Calls Try.prog 87 #[.agg #[.bool false, .string (bb s)], .int .i64 2] w fun en w' => en = .returned (.string (bb r)) ∧ St W0 w' K L := by
  subst hr
  exact ref04_fixed ⟨false, s⟩ 2 (by simp only; omega) (by decide) h

end Go.Proofs.Ytombolmicfjjpaa

/- Topics, written. -/
namespace Go.Proofs.Ytombolmicfjjpaa
open Go.RowKit

set_option maxHeartbeats 2000000 in
set_option maxRecDepth 100000 in
theorem val_putTopics (po : Nat) (e e2 : Bs) (l : List (TopS × Value)) (q : Option Addr) (cap : Nat) (he : e ++ encTs (l.map (·.1)) = e2) (hel : e.length ≤ 1000000) (hf : FitTs (l.map (·.1))) {W0 w : World} {K : Know} {L : List Res} (hk : K.has (Know.tops (.slice q l.length cap) l)) (h : St W0 w K (.out po ⟨e, 0⟩ :: L)) :
    Calls Try.prog 31 #[outPtr po, .slice q l.length cap] w fun en w' => en = .returned (.tuple #[]) ∧ St W0 w' K (.out po ⟨e2, 0⟩ :: L) := by
  have H := Lib.hid h
  have HK := Lib.hid hk
  have HE := Lib.hid he
  have HEL := Lib.hid hel
  have HF := Lib.hid hf
  have hni : (l.length : Int) ≤ 1000000 := by have := hf.1; rw [List.length_map] at this; omega
  obtain ⟨A, hA⟩ : ∃ A, e ++ preT (l.map (·.1)) 0 = A := ⟨_, rfl⟩
  have HA := Lib.hid (show e ++ beBytes (l.length : Int) (4 : Int).toNat = A by rw [← hA, preT_zero, List.length_map]; rfl)
  have HFL := Lib.hid (vfits4 (l.length : Int) (by omega))
  have HR0 := Lib.hid (show e.length ≤ 100000000000000 by omega)
  clear h hk he hel hf
  go_enter Try.func31, Try.ntmps31
  go_wp2_with (go_at_call 69; (with_reducible refine (so_intV po _ _ _ _ HA.out HFL.out HR0.out H.out).mono ?_); rintro e_ wn ⟨rfl, h⟩; replace H := Lib.hid h; clear h)
  go_loopw [5, 7, 14, 30] (fun _ _ iv _ wr => ∃ k : Nat, k ≤ l.length ∧ iv = .int .i64 k ∧ St W0 wr K (.out po ⟨e ++ preT (l.map (·.1)) k, 0⟩ :: L)) (fun _ _ iv _ _ => l.length - (intOf iv).toNat)
  case atStart => exact ⟨0, Nat.zero_le _, rfl, by rw [hA]; exact H.out⟩
  case round =>
    obtain ⟨k, hkl, rfl, hst⟩ := hrel
    clear H hA
    have H := Lib.hid hst
    clear hst
    by_cases hlt : k < l.length
    · as_aux_lemma =>
      obtain ⟨b, off, hqq⟩ := tops_at HK.out H.out (by omega)
      subst hqq
      obtain ⟨⟨⟨nm, ps⟩, vx⟩, hx⟩ : ∃ x, l[k] = x := ⟨_, rfl⟩
      obtain ⟨c0, c1⟩ : wr.cell? ⟨b, off + k * 2, none⟩ = some (.string (bb nm)) ∧ wr.cell? ⟨b, off + k * 2 + 1, none⟩ = some vx := tops_cell HK.out H.out k hlt _ hx
      have hmem : ((⟨nm, ps⟩ : TopS), vx) ∈ l := hx ▸ List.getElem_mem hlt
      have hxk : K.has (Know.flat RI vx 1 ps) := tops_parts HK.out hmem
      obtain ⟨qx, capx, hvx⟩ := flat_form hxk H.out
      subst hvx
      have HXK := Lib.hid hxk
      have hmk : k < (l.map (·.1)).length := by rw [List.length_map]; exact hlt
      have hmg : (l.map (·.1))[k] = ⟨nm, ps⟩ := by rw [List.getElem_map, hx]
      have hfx : (⟨nm, ps⟩ : TopS).Fit := HF.out.2 _ (hmg ▸ List.getElem_mem hmk)
      have HNM := Lib.hid hfx.1
      have HPL := Lib.hid hfx.2.1
      have HPS := Lib.hid hfx.2.2
      have hkn : (k : Int) < (l.length : Int) := by omega
      have hnl : (nm.length : Int) ≤ 32767 := by have := hfx.1; simp only at this; omega
      have hpl : (ps.length : Int) ≤ 1000000 := by have := hfx.2.1; simp only at this; omega
      have hst1 := preT_step (l.map (·.1)) k hmk _ hmg
      have hle1 := preT_le (l.map (·.1)) HF.out (k + 1) hmk
      have hln : (l.map (·.1)).length ≤ 1000000 := HF.out.1
      simp only at hst1
      have hel := HEL.out
      obtain ⟨tb, htb⟩ : ∃ b, wr.heap.size = b := ⟨_, rfl⟩
      have h := (H.out.allocRaw #[.string (bb nm), .slice qx ps.length capx] 51).p1
      rw [htb] at h
      have t0 := h.p1.rawCell 0
      have t1 := h.p1.rawCell 1
      simp at t0 t1
      obtain ⟨B0, hB0⟩ : ∃ B, e ++ preT (l.map (·.1)) k = B := ⟨_, rfl⟩
      obtain ⟨B1, hB1⟩ : ∃ B, B0 ++ encF 2 ⟨false, nm⟩ = B := ⟨_, rfl⟩
      obtain ⟨B2, hB2⟩ : ∃ B, B1 ++ beBytes (ps.length : Int) 4 = B := ⟨_, rfl⟩
      have HB3 := Lib.hid (show e ++ preT (l.map (·.1)) (k + 1) = B2 ++ be4s ps by rw [hst1, ← hB2, ← hB1, ← hB0]; simp only [List.append_assoc])
      have hlen : (B2 ++ be4s ps).length ≤ 100000000000000 := by
        rw [← HB3.out, List.length_append]
        omega
      have hl0 : B0.length ≤ 100000000000000 ∧ B1.length ≤ 100000000000000 ∧ B2.length + 4 * ps.length ≤ 100000000000000 := by
        rw [List.length_append, be4s_len] at hlen
        rw [← hB2, List.length_append] at hlen ⊢
        rw [← hB1, List.length_append] at hlen ⊢
        omega
      rw [hB0] at h
      have HB1 := Lib.hid hB1
      have HB2 := Lib.hid (show B1 ++ beBytes (ps.length : Int) (4 : Int).toNat = B2 from hB2)
      have HL0 := Lib.hid hl0
      have HFP := Lib.hid (vfits4 (ps.length : Int) (by omega))
      have hp0 : ps = [] ∨ ∃ pb poff, qx = some ⟨pb, poff, none⟩ := by
        by_cases hps : ps = []
        · exact .inl hps
        · exact .inr (flat_at HXK.out H.out (List.length_pos_iff.2 hps))
      have HP0 := Lib.hid hp0
      clear H
      have H := Lib.hid h
      clear h hx hmem hxk hmk hmg hfx hst1 hle1 hln hel hB0 hB1 hB2 hlen hl0 hp0
      go_wp2_with (first
    | (go_at_call 86; (with_reducible refine (blob_putTextV po B0 B1 nm HB1.out HNM.out HL0.out.1 H.out).mono ?_); rintro e_ wn ⟨rfl, h⟩; have t0 := h.p1.rawCell 0; have t1 := h.p1.rawCell 1; simp at t0 t1; replace H := Lib.hid h; clear h)
    | (go_at_call 69; (with_reducible refine (so_intV po B1 B2 _ _ HB2.out HFP.out HL0.out.2.1 H.out).mono ?_); rintro e_ wn ⟨rfl, h⟩; have t0 := h.p1.rawCell 0; have t1 := h.p1.rawCell 1; simp at t0 t1; replace H := Lib.hid h; clear h))
      clear t0 t1
      go_loopw [7, 30] (fun _ jv wr => ∃ j : Nat, j ≤ ps.length ∧ jv = .int .i64 j ∧ St W0 wr K (.out po ⟨B2 ++ be4s (ps.take j), 0⟩ :: .raw tb #[.string (bb nm), .slice qx ps.length capx] 51 :: L)) (fun _ jv _ => ps.length - (intOf jv).toNat)
      case atStart => exact ⟨0, Nat.zero_le _, rfl, by rw [List.take_zero]; show St W0 _ K (.out po ⟨B2 ++ [], 0⟩ :: _); rw [List.append_nil]; exact H.out⟩
      case round =>
        obtain ⟨j, hjl, rfl, hst⟩ := hrel
        clear H
        have H := Lib.hid hst
        clear hst
        by_cases hlj : j < ps.length
        · have hps : ¬ ps = [] := by rintro rfl; simp at hlj
          rcases HP0.out with hps2 | ⟨pb, poff, hq⟩
          · exact absurd hps2 hps
          subst hq
          have d0 := int_cell HXK.out H.out j hlj
          obtain ⟨x, hx⟩ : ∃ x, ps.getD j 0 = x := ⟨_, rfl⟩
          rw [hx] at d0
          have hxr := HPS.out x (hx ▸ getD_mem ps j hlj)
          have hst := be4s_step ps j hlj x hx
          obtain ⟨C, hC⟩ : ∃ C, B2 ++ be4s (ps.take j) = C := ⟨_, rfl⟩
          have h := H.out
          rw [hC] at h
          have HC2 := Lib.hid (show C ++ beBytes x (4 : Int).toNat = B2 ++ be4s (ps.take (j + 1)) by rw [hst, ← hC, List.append_assoc]; rfl)
          have HCL := Lib.hid (show C.length ≤ 100000000000000 by
            rw [← hC, List.length_append, be4s_len, List.length_take]
            have := HL0.out.2.2
            omega)
          have HFX := Lib.hid (vfits4 x hxr)
          have hji : (j : Int) < (ps.length : Int) := by omega
          clear H
          have H := Lib.hid h
          clear h hC hst hx hps hxr
          go_wp2_with (go_at_call 69; (with_reducible refine (so_intV po C _ x _ HC2.out HFX.out HCL.out H.out).mono ?_); rintro e_ wn ⟨rfl, h⟩; replace H := Lib.hid h; clear h)
          go_roundw
          case rel => exact ⟨j + 1, hlj, by go_num, H.out⟩
          case measure => first | (simp [intOf]; done) | (simp [intOf]; omega)
        · obtain rfl : j = ps.length := by omega
          have h := H.out
          rw [List.take_length, ← HB3.out] at h
          clear H
          have H := Lib.hid h
          clear h
          go_wp2
          go_roundw
          case rel => exact ⟨k + 1, hlt, by go_num, H.out.p1.drop⟩
          case measure => first | (simp [intOf]; done) | (simp [intOf]; omega)
    · obtain rfl : k = l.length := by omega
      have h := H.out
      rw [show preT (l.map (·.1)) l.length = encTs (l.map (·.1)) by rw [← preT_all, List.length_map], HE.out] at h
      clear H
      have H := Lib.hid h
      clear h
      go_wp2
      go_end0
      exact ⟨rfl, H.out⟩

end Go.Proofs.Ytombolmicfjjpaa

/- Values that may be (pure). -/
namespace Go.Proofs.Ytombolmicfjjpaa
open Go.RowKit

theorem ValS.ok_parts (v : ValS) (h : v.err = 0) : v.ranged = true ∧ (0 ≤ v.state ∧ v.state < 7) ∧ idle v.state = v.tops.isEmpty ∧ (v.state == 0) = (v.started == -1) ∧ tRise v.tops = true := by
  unfold ValS.err at h
  by_cases h1 : v.ranged = false
  · rw [if_pos h1] at h; cases h
  · rw [if_neg h1] at h
    by_cases h2 : v.state < 0 ∨ 7 ≤ v.state
    · rw [if_pos h2] at h; cases h
    · rw [if_neg h2] at h
      by_cases h3 : (idle v.state != v.tops.isEmpty) = true ∨ ((v.state == 0) != (v.started == -1)) = true
      · rw [if_pos h3] at h; cases h
      · rw [if_neg h3] at h
        by_cases h4 : tRise v.tops = false
        · rw [if_pos h4] at h; cases h
        · refine ⟨by cases hh : v.ranged with
            | true => rfl
            | false => exact absurd hh h1, by omega, ?_, ?_, by cases hh : tRise v.tops with
            | true => rfl
            | false => exact absurd hh h4⟩
          · have := fun h => h3 (.inl h)
            simpa using this
          · have := fun h => h3 (.inr h)
            simpa using this
theorem ranged_parts (v : ValS) (h : v.ranged = true) : 0 ≤ v.prod ∧ (0 ≤ v.epoch ∧ v.epoch ≤ 32767) ∧ (0 ≤ v.timeout ∧ v.timeout ≤ 2147483647) ∧ 0 ≤ v.upd ∧ -1 ≤ v.started := by
  unfold ValS.ranged at h
  simp only [Bool.and_eq_true, decide_eq_true_eq] at h
  omega
theorem pRise_rng (l : List Int) (h : pRise l = true) : ∀ n ∈ l, 0 ≤ n ∧ n ≤ 2147483647 := by
  intro n hn
  obtain ⟨i, hi, rfl⟩ := List.mem_iff_getElem.1 hn
  have hne : l ≠ [] := by rintro rfl; simp at hi
  rw [pRise_pk l hne] at h
  have h2 := allN_at h i hi
  unfold pk at h2
  rw [Bool.and_eq_true] at h2
  have h3 := of_decide_eq_true h2.1
  rw [List.getD_eq_getElem?_getD, List.getElem?_eq_getElem hi] at h3
  exact h3
theorem fit_of_rise (l : List (TopS × Value)) (hf : FewT l) (h : tRise (l.map (·.1)) = true) : FitTs (l.map (·.1)) := by
  unfold tRise at h
  rw [Bool.and_eq_true] at h
  refine ⟨by rw [List.length_map]; exact hf.1, fun t ht => ?_⟩
  have h2 := List.all_eq_true.1 h.1 t ht
  unfold tOk at h2
  simp only [Bool.and_eq_true, decide_eq_true_eq] at h2
  obtain ⟨x, hx, rfl⟩ := List.mem_map.1 ht
  have h3 := pRise_rng _ h2.2
  exact ⟨h2.1.2, (hf.2 x hx).2, fun n hn => by have := h3 n hn; omega⟩
/-- The numbers of a value are such as there can be. -/
def ValS.R (v : ValS) : Prop := (-9223372036854775808 ≤ v.prod ∧ v.prod < 9223372036854775808) ∧ (-9223372036854775808 ≤ v.epoch ∧ v.epoch < 9223372036854775808) ∧ (-9223372036854775808 ≤ v.timeout ∧ v.timeout < 9223372036854775808) ∧ (-9223372036854775808 ≤ v.state ∧ v.state < 9223372036854775808) ∧ (-9223372036854775808 ≤ v.upd ∧ v.upd < 9223372036854775808) ∧ (-9223372036854775808 ≤ v.started ∧ v.started < 9223372036854775808)
theorem so_textV (p : Nat) (e : Bs) {W0 w : World} {K : Know} {L : List Res} (h : St W0 w K (.out p ⟨e, 0⟩ :: L)) :
    Calls Try.prog 32 #[outPtr p] w fun en w' => en = .returned (.tuple #[.string (bb e), .int .i64 0]) ∧ St W0 w' K (.out p ⟨e, 0⟩ :: L) := so_text p ⟨e, 0⟩ h
theorem val_checkV (p e t s u st : Int) (l : List (TopS × Value)) (q : Option Addr) (cap : Nat) (E : Int) (he : ValS.err ⟨p, e, t, s, l.map (·.1), u, st⟩ = E) (hf : FewT l) {W0 w : World} {K : Know} {L : List Res} (hk : K.has (Know.tops (.slice q l.length cap) l)) (h : St W0 w K L) :
    Calls Try.prog 17 #[.agg #[.int .i64 p, .int .i64 e, .int .i64 t, .int .i64 s, .slice q l.length cap, .int .i64 u, .int .i64 st]] w fun en w' => en = .returned (.int .i64 E) ∧ St W0 w' K L := val_check ⟨p, e, t, s, l.map (·.1), u, st⟩ l q cap rfl E he hf hk h

end Go.Proofs.Ytombolmicfjjpaa

/- Values, read (pure). -/
namespace Go.Proofs.Ytombolmicfjjpaa
open Go.RowKit

def ValS.z : ValS := ⟨0, 0, 0, 0, [], 0, 0⟩
def InS.valF (i : InS) : ValS × InS :=
  let a := i.int 8
  let b := a.2.int 2
  let c := b.2.int 4
  let d := c.2.int 1
  let e := d.2.tops
  let f := e.2.int 8
  let g := f.2.int 8
  (⟨a.1, b.1, c.1, d.1, e.1, f.1, g.1⟩, g.2)
theorem valF_eq {i i1 i2 i3 i4 i5 i6 i7 : InS} {p e t s u st : Int} {l : List TopS} (h1 : i.int 8 = (p, i1)) (h2 : i1.int 2 = (e, i2)) (h3 : i2.int 4 = (t, i3)) (h4 : i3.int 1 = (s, i4)) (h5 : i4.tops = (l, i5)) (h6 : i5.int 8 = (u, i6)) (h7 : i6.int 8 = (st, i7)) : i.valF = (⟨p, e, t, s, l, u, st⟩, i7) := by
  unfold InS.valF
  simp only [h1, h2, h3, h4, h5, h6, h7]
def decI (s : Bs) : InS := if ((⟨s, 0, 0⟩ : InS).int 2).1 = 0 then ((⟨s, 0, 0⟩ : InS).int 2).2 else ((⟨s, 0, 0⟩ : InS).int 2).2.fail 7
def decE (s : Bs) : Int := (decI s).valF.2.close.err
def valDec (s : Bs) : ValS × Int := if decE s ≠ 0 then (ValS.z, decE s) else if (decI s).valF.1.err ≠ 0 then (ValS.z, (decI s).valF.1.err) else ((decI s).valF.1, 0)
/-- Within its bytes. -/
def InS.At (s : Bs) (i : InS) : Prop := i.s = s ∧ i.pos ≤ s.length
theorem At.int {s : Bs} {i : InS} (h : i.At s) (k : Int) : (i.int k).2.At s := by
  obtain ⟨rfl, h⟩ := h
  unfold InS.int
  split
  · unfold InS.fail; split
    · exact ⟨rfl, h⟩
    · exact ⟨rfl, h⟩
  · unfold InS.take
    split
    · exact ⟨rfl, h⟩
    · split
      · exact ⟨rfl, h⟩
      · split
        · exact ⟨rfl, h⟩
        · rename_i h1 h2 h3
          refine ⟨rfl, ?_⟩
          simp only [InS.left] at h3
          show i.pos + k.toNat ≤ i.s.length
          omega
theorem At.fail {s : Bs} {i : InS} (h : i.At s) (e : Int) : (i.fail e).At s := by
  unfold InS.fail
  split
  · exact ⟨h.1, h.2⟩
  · exact h
theorem intsB_len : ∀ (n : Nat) (s : Bs), (intsB n s).length = n
  | 0, _ => rfl
  | n + 1, s => by show (intsB n (s.drop 4)).length + 1 = _; rw [intsB_len n]
def FewL (l : List TopS) : Prop := l.length ≤ 1000000 ∧ ∀ t ∈ l, t.name.length ≤ 140737488355328 ∧ t.parts.length ≤ 1000000
theorem partsP_few {s : Bs} {l : List Int} {n : Nat} (h : partsP s = .ok (l, n)) (hs : s.length ≤ 1000000) : l.length ≤ 1000000 := by
  unfold partsP at h
  cases h1 : cntP 4 s with
  | error e => rw [h1] at h; cases h
  | ok x =>
    rw [h1] at h
    cases h
    have h2 := (cntP_ok (n := x.1) (k := x.2) (by decide) h1).2.1
    rw [intsB_len]
    omega
theorem textP_few {s : Bs} {d : Bs} {n : Nat} (h : textP s = .ok (d, n)) : d.length ≤ s.length := by
  unfold textP at h
  cases h1 : refixed 2 s with
  | error e => rw [h1] at h; cases h
  | ok x =>
    rw [h1] at h
    simp only at h
    split at h
    · cases h
    · cases h
      unfold refixed gotS at h1
      split at h1
      · cases h1
      · split at h1
        · cases h1; simp [BlobS.none]
        · split at h1
          · cases h1
          · split at h1
            · cases h1
            · cases h1
              simp only [List.length_take, List.length_drop]
              omega
theorem topN_few : ∀ (n : Nat) (s : Bs) (l : List TopS) (k : Nat), topN n s = .ok (l, k) → s.length ≤ 1000000 → l.length = n ∧ ∀ t ∈ l, t.name.length ≤ 140737488355328 ∧ t.parts.length ≤ 1000000
  | 0, s, l, k, h, _ => by cases h; exact ⟨rfl, fun t ht => by cases ht⟩
  | n + 1, s, l, k, h, hs => by
    unfold topN at h
    cases h1 : topP s with
    | error e => rw [h1] at h; cases h
    | ok x =>
      rw [h1] at h
      simp only at h
      cases h2 : topN n (s.drop x.2) with
      | error e => rw [h2] at h; cases h
      | ok y =>
        rw [h2] at h
        cases h
        have ih := topN_few n (s.drop x.2) y.1 y.2 h2 (by rw [List.length_drop]; omega)
        refine ⟨by rw [List.length_cons, ih.1], fun t ht => ?_⟩
        rcases List.mem_cons.1 ht with rfl | ht
        · unfold topP at h1
          cases h3 : textP s with
          | error e => rw [h3] at h1; cases h1
          | ok a =>
            rw [h3] at h1
            simp only at h1
            cases h4 : partsP (s.drop a.2) with
            | error e => rw [h4] at h1; cases h1
            | ok b =>
              rw [h4] at h1
              cases h1
              have h5 := textP_few (d := a.1) (n := a.2) h3
              have h6 := partsP_few (l := b.1) (n := b.2) h4 (by rw [List.length_drop]; omega)
              exact ⟨by simp only; omega, h6⟩
        · exact ih.2 t ht
theorem topsP_few {s : Bs} {l : List TopS} {n : Nat} (h : topsP s = .ok (l, n)) (hs : s.length ≤ 1000000) : FewL l := by
  unfold topsP at h
  cases h1 : cntP 6 s with
  | error e => rw [h1] at h; cases h
  | ok x =>
    rw [h1] at h
    simp only at h
    cases h2 : topN x.1 (s.drop 4) with
    | error e => rw [h2] at h; cases h
    | ok y =>
      rw [h2] at h
      cases h
      have h3 := (cntP_ok (n := x.1) (k := x.2) (by decide) h1).2.1
      have h4 := topN_few x.1 (s.drop 4) y.1 y.2 h2 (by rw [List.length_drop]; omega)
      exact ⟨by rw [h4.1]; omega, h4.2⟩
theorem tops_few {s : Bs} {i : InS} (ha : i.At s) (hs : s.length ≤ 1000000) : FewL i.tops.1 := by
  have hn : FewL [] := ⟨by decide, fun t ht => by cases ht⟩
  obtain ⟨s', pos, er⟩ := i
  obtain ⟨h1, h2⟩ := ha
  simp only at h1 h2
  subst h1
  by_cases he : er = 0
  · subst he
    cases h3 : topsP (s'.drop pos) with
    | error e =>
      obtain ⟨_, q, _, h4⟩ := rds_tops.err s' pos e h2 h3
      rw [h4]; exact hn
    | ok x =>
      obtain ⟨_, h4⟩ := rds_tops.ok s' pos x.1 x.2 h2 h3
      rw [h4]
      exact topsP_few (l := x.1) (n := x.2) h3 (by rw [List.length_drop]; omega)
  · rw [rds_tops.stuck ⟨s', pos, er⟩ he]; exact hn
theorem decI_at (s : Bs) : (decI s).At s := by
  have h0 : (⟨s, 0, 0⟩ : InS).At s := ⟨rfl, Nat.zero_le _⟩
  unfold decI
  split
  · exact At.int h0 2
  · exact At.fail (At.int h0 2) 7
theorem valF_few {s : Bs} {i : InS} (h : i.At s) (hs : s.length ≤ 1000000) : FewL i.valF.1.tops := tops_few (At.int (At.int (At.int (At.int h 8) 2) 4) 1) hs
theorem fewT_of {lr : List (TopS × Value)} (h : FewL (lr.map (·.1))) : FewT lr := ⟨by have := h.1; rw [List.length_map] at this; exact this, fun x hx => h.2 x.1 (List.mem_map_of_mem hx)⟩

end Go.Proofs.Ytombolmicfjjpaa

/- How many, by definition (pure). -/
namespace Go.Proofs.Ytombolmicfjjpaa
open Go.RowKit

def cntR (each : Nat) (s : Bs) : Nat × Int := match cntP each s with
  | .ok x => (x.1, 0)
  | .error e => (0, e)
theorem cntR_short {each : Nat} {s : Bs} (h : s.length < 4) : cntR each s = (0, 1) := by
  unfold cntR cntP; rw [if_pos h]
theorem cntR_neg {each : Nat} {s : Bs} (h : ¬ s.length < 4) (h2 : sInt (s.take 4) < 0) : cntR each s = (0, 4) := by
  unfold cntR cntP; rw [if_neg h, if_pos h2]
theorem cntR_more {each : Nat} {s : Bs} (h : ¬ s.length < 4) (h2 : ¬ sInt (s.take 4) < 0) (h3 : ((s.length : Int) - 4) / each < sInt (s.take 4)) : cntR each s = (0, 1) := by
  unfold cntR cntP; rw [if_neg h, if_neg h2, if_pos h3]
theorem cntR_ok {each : Nat} {s : Bs} (h : ¬ s.length < 4) (h2 : ¬ sInt (s.take 4) < 0) (h3 : ¬ ((s.length : Int) - 4) / each < sInt (s.take 4)) : cntR each s = ((sInt (s.take 4)).toNat, 0) := by
  unfold cntR cntP; rw [if_neg h, if_neg h2, if_neg h3]

end Go.Proofs.Ytombolmicfjjpaa

/- Topics, read by definition (pure). -/
namespace Go.Proofs.Ytombolmicfjjpaa
open Go.RowKit

def topsR (s : Bs) : List TopS × Nat × Int := match topsP s with
  | .ok x => (x.1, x.2, 0)
  | .error e => ([], 0, e)
def stepR (acc : List TopS) (p : Nat) (r : Except Int (List TopS × Nat)) : List TopS × Nat × Int := match r with
  | .ok x => (acc ++ x.1, p + x.2, 0)
  | .error e => ([], 0, e)
theorem cntP_err {each : Nat} {s : Bs} {e : Int} (h : cntP each s = .error e) : e ≠ 0 := by
  unfold cntP at h
  split at h
  · cases h; decide
  · split at h
    · cases h; decide
    · split at h
      · cases h; decide
      · cases h
theorem cntR_zero {each : Nat} {s : Bs} {n : Nat} (he : 0 < each) (h : cntR each s = (n, 0)) : cntP each s = .ok (n, 4) ∧ 4 + each * n ≤ s.length := by
  unfold cntR at h
  cases h1 : cntP each s with
  | error e => rw [h1] at h; cases h; exact absurd rfl (cntP_err h1)
  | ok x =>
    rw [h1] at h
    cases h
    obtain ⟨c1, c2, _, _⟩ := cntP_ok (n := x.1) (k := x.2) he h1
    refine ⟨?_, c2⟩
    rw [← c1]
theorem cntR_bad {each : Nat} {s : Bs} {n : Nat} {e : Int} (h : cntR each s = (n, e)) (h0 : e ≠ 0) : cntP each s = .error e := by
  unfold cntR at h
  cases h1 : cntP each s with
  | error e2 => rw [h1] at h; cases h; rfl
  | ok x => rw [h1] at h; cases h; exact absurd rfl h0
theorem topsR_bad {s : Bs} {n : Nat} {e : Int} (h : cntR 6 s = (n, e)) (h0 : e ≠ 0) : topsR s = ([], 0, e) := by
  unfold topsR topsP
  rw [cntR_bad h h0]
theorem topsR_go {s : Bs} {n : Nat} (h : cntR 6 s = (n, 0)) : topsR s = stepR [] 4 (topN n (s.drop 4)) ∧ 4 + 6 * n ≤ s.length := by
  obtain ⟨h1, h2⟩ := cntR_zero (by decide) h
  refine ⟨?_, h2⟩
  unfold topsR topsP
  rw [h1]
  cases h3 : topN n (s.drop 4) with
  | error e => simp only [h3]; rfl
  | ok y => simp only [h3, stepR, List.nil_append]
theorem stepR_zero (acc : List TopS) (p : Nat) (x : Bs) : stepR acc p (topN 0 x) = (acc, p, 0) := by
  show (acc ++ [], p + 0, (0 : Int)) = _
  rw [List.append_nil]; rfl
theorem stepR_err {acc : List TopS} {p n : Nat} {s : Bs} {e : Int} (h : refixed 2 (s.drop p) = .error e) : stepR acc p (topN (n + 1) (s.drop p)) = ([], 0, e) := by
  unfold topN topP textP
  rw [h]
  rfl
theorem stepR_null {acc : List TopS} {p n : Nat} {s : Bs} {b : BlobS} {k : Nat} (h : refixed 2 (s.drop p) = .ok (b, k)) (hn : b.null = true) : stepR acc p (topN (n + 1) (s.drop p)) = ([], 0, 4) := by
  unfold topN topP textP
  rw [h]
  simp only [hn, if_true]
  rfl
theorem textP_of {t : Bs} {b : BlobS} {k : Nat} (h : refixed 2 t = .ok (b, k)) (hn : b.null = false) : textP t = .ok (b.data, k) := by
  unfold textP
  rw [h]
  simp [hn]
theorem stepR_cnt {acc : List TopS} {p n : Nat} {s : Bs} {b : BlobS} {k m : Nat} {f : Int} (h : refixed 2 (s.drop p) = .ok (b, k)) (hn : b.null = false) (hc : cntR 4 (s.drop (p + k)) = (m, f)) (h0 : f ≠ 0) : stepR acc p (topN (n + 1) (s.drop p)) = ([], 0, f) := by
  unfold topN topP
  rw [textP_of h hn]
  simp only
  rw [List.drop_drop]
  unfold partsP
  rw [cntR_bad hc h0]
  rfl
theorem stepR_next {acc : List TopS} {p n : Nat} {s : Bs} {b : BlobS} {k m : Nat} (h : refixed 2 (s.drop p) = .ok (b, k)) (hn : b.null = false) (hc : cntR 4 (s.drop (p + k)) = (m, 0)) :
    stepR acc p (topN (n + 1) (s.drop p)) = stepR (acc ++ [⟨b.data, intsB m (s.drop (p + k + 4))⟩]) (p + k + 4 + 4 * m) (topN n (s.drop (p + k + 4 + 4 * m))) := by
  obtain ⟨h1, h2⟩ := cntR_zero (by decide) hc
  have e1 : topP (s.drop p) = .ok (⟨b.data, intsB m (s.drop (p + k + 4))⟩, k + (4 + 4 * m)) := by
    unfold topP
    rw [textP_of h hn]
    simp only
    rw [List.drop_drop]
    unfold partsP
    rw [h1]
    simp only
    rw [List.drop_drop]
  have e2 : (s.drop p).drop (k + (4 + 4 * m)) = s.drop (p + k + 4 + 4 * m) := by rw [List.drop_drop]; congr 1; omega
  show stepR acc p (match topP (s.drop p) with | .error e => .error e | .ok x => match topN n ((s.drop p).drop x.2) with | .error e => .error e | .ok y => .ok (x.1 :: y.1, x.2 + y.2)) = _
  rw [e1]
  simp only
  rw [e2]
  cases h3 : topN n (s.drop (p + k + 4 + 4 * m)) with
  | error e => rfl
  | ok y =>
    simp only
    unfold stepR
    simp only [List.append_assoc, List.singleton_append, Prod.mk.injEq, true_and, and_true]
    omega
theorem refixed_le {t : Bs} {b : BlobS} {k : Nat} (h : refixed 2 t = .ok (b, k)) : 2 ≤ k ∧ k ≤ t.length := by
  unfold refixed at h
  split at h
  · cases h
  · unfold gotS at h
    split at h
    · cases h; omega
    · split at h
      · cases h
      · split at h
        · cases h
        · cases h; omega
theorem gotV_errT {t : Bs} {e : Int} (h : refixed 2 t = .error e) : gotV (refixed 2 t) = .agg #[.bool false, .string ⟨#[]⟩, .int .i64 0, .int .i64 e] := by rw [h]; rfl
theorem gotV_okT {t : Bs} {b : BlobS} {k : Nat} (h : refixed 2 t = .ok (b, k)) : gotV (refixed 2 t) = .agg #[.bool b.null, .string (bb b.data), .int .i64 k, .int .i64 0] := by rw [h]; rfl
theorem refixed_err {t : Bs} {e : Int} (h : refixed 2 t = .error e) : e ≠ 0 := by
  unfold refixed at h
  split at h
  · cases h; decide
  · unfold gotS at h
    split at h
    · cases h
    · split at h
      · cases h; decide
      · split at h
        · cases h; decide
        · cases h

end Go.Proofs.Ytombolmicfjjpaa

/- Values, there and back (pure). -/
namespace Go.Proofs.Ytombolmicfjjpaa
open Go.RowKit

theorem sInt_back (n : Int) (k : Nat) (h1 : 1 ≤ k) (hf : fits n k) (R : Bs) : getIntN k (beBytes n k ++ R) = .ok (n, k) := by
  unfold getIntN
  have h4 := beBytes_length n k
  have hfit := hf.2.2
  rw [Int.toNat_natCast] at hfit
  have h5 := (sInt_beBytes_iff n k h1).2 hfit
  rw [if_neg (by rw [List.length_append]; omega), List.take_append_of_le_length (by omega), List.take_of_length_le (by omega), h5]
theorem cntP_back (each n : Nat) (X : Bs) (he : 0 < each) (hn : n < 2147483648) (hl : each * n ≤ X.length) : cntP each (beBytes n 4 ++ X) = .ok (n, 4) := by
  have h4 := beBytes_length (n : Int) 4
  have h5 : sInt (beBytes (n : Int) 4) = n := (sInt_beBytes_iff n 4 (by decide)).2 (vfits4 n (by omega)).2.2
  have h6 : (beBytes (n : Int) 4 ++ X).take 4 = beBytes (n : Int) 4 := by rw [List.take_append_of_le_length (by omega), List.take_of_length_le (by omega)]
  unfold cntP
  rw [h6, h5, if_neg (by rw [List.length_append]; omega), if_neg (by omega), if_neg (by
    rw [List.length_append, h4]
    have e : ((4 + X.length : Nat) : Int) - 4 = (X.length : Int) := by omega
    rw [e]
    have h7 : (n : Int) ≤ (X.length : Int) / (each : Int) := by
      rw [Int.le_ediv_iff_mul_le (by omega)]
      have h8 : (n : Int) * (each : Int) = ((each * n : Nat) : Int) := by rw [Nat.mul_comm]; exact (Int.natCast_mul _ _).symm
      omega
    omega)]
  simp
theorem intsB_back : ∀ (l : List Int) (R : Bs), (∀ n ∈ l, -2147483648 ≤ n ∧ n < 2147483648) → intsB l.length (be4s l ++ R) = l
  | [], R, _ => rfl
  | n :: l, R, h => by
    have h4 := beBytes_length n 4
    have h5 : sInt (beBytes n 4) = n := (sInt_beBytes_iff n 4 (by decide)).2 (vfits4 n (h n (by simp))).2.2
    have e : be4s (n :: l) ++ R = beBytes n 4 ++ (be4s l ++ R) := by
      show (List.flatMap _ (n :: l)) ++ R = _
      rw [List.flatMap_cons, List.append_assoc]
      rfl
    show sInt ((be4s (n :: l) ++ R).take 4) :: intsB l.length ((be4s (n :: l) ++ R).drop 4) = n :: l
    rw [e, List.take_append_of_le_length (by omega), List.take_of_length_le (by omega), h5, List.drop_append_of_le_length (by omega), List.drop_of_length_le (by omega), List.nil_append, intsB_back l R (fun m hm => h m (by simp [hm]))]
theorem partsP_back (l : List Int) (hn : l.length ≤ 1000000) (h : ∀ n ∈ l, -2147483648 ≤ n ∧ n < 2147483648) (R : Bs) : partsP (beBytes l.length 4 ++ be4s l ++ R) = .ok (l, (beBytes l.length 4 ++ be4s l).length) := by
  unfold partsP
  rw [List.append_assoc, cntP_back 4 l.length _ (by decide) (by omega) (by rw [List.length_append, be4s_len]; omega)]
  simp only
  have h4 := beBytes_length (l.length : Int) 4
  rw [List.drop_append_of_le_length (by omega), List.drop_of_length_le (by omega), List.nil_append, intsB_back l R h, List.length_append, h4, be4s_len]
theorem textP_back (d : Bs) (hd : d.length ≤ 32767) (R : Bs) : textP (encF 2 ⟨false, d⟩ ++ R) = .ok (d, (encF 2 ⟨false, d⟩).length) := by
  unfold textP
  rw [refixed_back 2 ⟨false, d⟩ (by simp [BlobS.right]) (vfits2 _ (by simp [BlobS.len]; omega)) R]
  simp
theorem topP_back (t : TopS) (h : t.Fit) (R : Bs) : topP (encT t ++ R) = .ok (t, (encT t).length) := by
  obtain ⟨nm, ps⟩ := t
  obtain ⟨h1, h2, h3⟩ := h
  unfold topP encT
  simp only
  rw [List.append_assoc, textP_back nm h1]
  simp only
  rw [List.drop_append_of_le_length (by omega), List.drop_of_length_le (by omega), List.nil_append, partsP_back ps h2 h3]
  simp only [List.length_append]
theorem topN_back : ∀ (l : List TopS) (R : Bs), (∀ t ∈ l, t.Fit) → topN l.length (l.flatMap encT ++ R) = .ok (l, (l.flatMap encT).length)
  | [], R, _ => rfl
  | t :: l, R, h => by
    have e : (t :: l).flatMap encT ++ R = encT t ++ (l.flatMap encT ++ R) := by rw [List.flatMap_cons, List.append_assoc]
    rw [e]
    show topN (l.length + 1) (encT t ++ (l.flatMap encT ++ R)) = _
    unfold topN
    rw [topP_back t (h t (by simp))]
    simp only
    rw [List.drop_append_of_le_length (by omega), List.drop_of_length_le (by omega), List.nil_append, topN_back l R (fun m hm => h m (by simp [hm]))]
    simp only [List.flatMap_cons, List.length_append]
theorem flat_least (l : List TopS) : 6 * l.length ≤ (l.flatMap encT).length := by
  induction l with
  | nil => simp
  | cons x m ih => rw [List.flatMap_cons, List.length_append, List.length_cons, encT_len]; omega
theorem topsP_back (l : List TopS) (h : FitTs l) (R : Bs) : topsP (encTs l ++ R) = .ok (l, (encTs l).length) := by
  have h4 := beBytes_length (l.length : Int) 4
  have hn := h.1
  have hl := flat_least l
  unfold topsP encTs
  rw [List.append_assoc, cntP_back 6 l.length _ (by decide) (by omega) (by rw [List.length_append]; omega)]
  simp only
  rw [List.drop_append_of_le_length (by omega), List.drop_of_length_le (by omega), List.nil_append, topN_back l R h.2]
  simp only [List.length_append, h4]
theorem step_back {α : Type} {f : InS → α × InS} {p : Bs → Except Int (α × Nat)} {d : α} (h : Rds f p d) (S A X R : Bs) (hS : S = A ++ X ++ R) (a : α) (k : Nat) (hk : X.length = k) (hp : p (X ++ R) = .ok (a, k)) : f ⟨S, A.length, 0⟩ = (a, ⟨S, (A ++ X).length, 0⟩) := by
  subst hS
  have h2 := (h.ok (A ++ X ++ R) A.length a k (by simp) (by rw [List.append_assoc, List.drop_append_of_le_length (by omega), List.drop_of_length_le (by omega), List.nil_append]; exact hp)).2
  rw [h2, List.length_append, hk]
theorem int_stepV (S A R : Bs) (n : Int) (k : Nat) (h1 : 1 ≤ k) (h8 : k ≤ 8) (hf : fits n k) (hS : S = A ++ beBytes n k ++ R) : (⟨S, A.length, 0⟩ : InS).int k = (n, ⟨S, (A ++ beBytes n k).length, 0⟩) :=
  step_back (rds_intN k h1 h8) S A _ R hS n k (beBytes_length n k) (sInt_back n k h1 hf R)
theorem valDec_back (v : ValS) (he : v.err = 0) (hR : v.R) (hf : FitTs v.tops) : valDec v.enc = (v, 0) := by
  obtain ⟨hp, ⟨hs1, hs2⟩, _⟩ := v.ok_parts he
  obtain ⟨q1, ⟨q2, q3⟩, ⟨q4, q5⟩, q6, q7⟩ := ranged_parts v hp
  obtain ⟨r1, r2, r3, r4, r5, r6⟩ := hR
  obtain ⟨S, hS⟩ : ∃ S, v.enc = S := ⟨_, rfl⟩
  obtain ⟨X0, hX0⟩ : ∃ X, beBytes 0 2 = X := ⟨_, rfl⟩
  obtain ⟨X1, hX1⟩ : ∃ X, beBytes v.prod 8 = X := ⟨_, rfl⟩
  obtain ⟨X2, hX2⟩ : ∃ X, beBytes v.epoch 2 = X := ⟨_, rfl⟩
  obtain ⟨X3, hX3⟩ : ∃ X, beBytes v.timeout 4 = X := ⟨_, rfl⟩
  obtain ⟨X4, hX4⟩ : ∃ X, beBytes v.state 1 = X := ⟨_, rfl⟩
  obtain ⟨X5, hX5⟩ : ∃ X, encTs v.tops = X := ⟨_, rfl⟩
  obtain ⟨X6, hX6⟩ : ∃ X, beBytes v.upd 8 = X := ⟨_, rfl⟩
  obtain ⟨X7, hX7⟩ : ∃ X, beBytes v.started 8 = X := ⟨_, rfl⟩
  obtain ⟨A2, hA2⟩ : ∃ A, X0 ++ X1 = A := ⟨_, rfl⟩
  obtain ⟨A3, hA3⟩ : ∃ A, A2 ++ X2 = A := ⟨_, rfl⟩
  obtain ⟨A4, hA4⟩ : ∃ A, A3 ++ X3 = A := ⟨_, rfl⟩
  obtain ⟨A5, hA5⟩ : ∃ A, A4 ++ X4 = A := ⟨_, rfl⟩
  obtain ⟨A6, hA6⟩ : ∃ A, A5 ++ X5 = A := ⟨_, rfl⟩
  obtain ⟨A7, hA7⟩ : ∃ A, A6 ++ X6 = A := ⟨_, rfl⟩
  obtain ⟨A8, hA8⟩ : ∃ A, A7 ++ X7 = A := ⟨_, rfl⟩
  have hSA : S = A8 := by rw [← hS, ← hA8, ← hA7, ← hA6, ← hA5, ← hA4, ← hA3, ← hA2, ← hX0, ← hX1, ← hX2, ← hX3, ← hX4, ← hX5, ← hX6, ← hX7]; rfl
  have e0 : S = ([] : Bs) ++ X0 ++ (X1 ++ (X2 ++ (X3 ++ (X4 ++ (X5 ++ (X6 ++ (X7))))))) := by rw [hSA, ← hA8, ← hA7, ← hA6, ← hA5, ← hA4, ← hA3, ← hA2]; all_goals simp only [List.append_assoc, List.append_nil, List.nil_append]
  have s0 : (⟨S, ([] : Bs).length, 0⟩ : InS).int 2 = (0, ⟨S, (([] : Bs) ++ X0).length, 0⟩) := by
    rw [← hX0] at e0 ⊢
    exact int_stepV S _ _ _ 2 (by decide) (by decide) (vfits2 _ (by omega)) e0
  have e1 : S = X0 ++ X1 ++ (X2 ++ (X3 ++ (X4 ++ (X5 ++ (X6 ++ (X7)))))) := by rw [hSA, ← hA8, ← hA7, ← hA6, ← hA5, ← hA4, ← hA3, ← hA2]; all_goals simp only [List.append_assoc, List.append_nil, List.nil_append]
  have s1 : (⟨S, X0.length, 0⟩ : InS).int 8 = (v.prod, ⟨S, (X0 ++ X1).length, 0⟩) := by
    rw [← hX1] at e1 ⊢
    exact int_stepV S _ _ _ 8 (by decide) (by decide) (vfits8 _ (by omega)) e1
  rw [hA2] at s1
  have e2 : S = A2 ++ X2 ++ (X3 ++ (X4 ++ (X5 ++ (X6 ++ (X7))))) := by rw [hSA, ← hA8, ← hA7, ← hA6, ← hA5, ← hA4, ← hA3, ← hA2]; all_goals simp only [List.append_assoc, List.append_nil, List.nil_append]
  have s2 : (⟨S, A2.length, 0⟩ : InS).int 2 = (v.epoch, ⟨S, (A2 ++ X2).length, 0⟩) := by
    rw [← hX2] at e2 ⊢
    exact int_stepV S _ _ _ 2 (by decide) (by decide) (vfits2 _ (by omega)) e2
  rw [hA3] at s2
  have e3 : S = A3 ++ X3 ++ (X4 ++ (X5 ++ (X6 ++ (X7)))) := by rw [hSA, ← hA8, ← hA7, ← hA6, ← hA5, ← hA4, ← hA3, ← hA2]; all_goals simp only [List.append_assoc, List.append_nil, List.nil_append]
  have s3 : (⟨S, A3.length, 0⟩ : InS).int 4 = (v.timeout, ⟨S, (A3 ++ X3).length, 0⟩) := by
    rw [← hX3] at e3 ⊢
    exact int_stepV S _ _ _ 4 (by decide) (by decide) (vfits4 _ (by omega)) e3
  rw [hA4] at s3
  have e4 : S = A4 ++ X4 ++ (X5 ++ (X6 ++ (X7))) := by rw [hSA, ← hA8, ← hA7, ← hA6, ← hA5, ← hA4, ← hA3, ← hA2]; all_goals simp only [List.append_assoc, List.append_nil, List.nil_append]
  have s4 : (⟨S, A4.length, 0⟩ : InS).int 1 = (v.state, ⟨S, (A4 ++ X4).length, 0⟩) := by
    rw [← hX4] at e4 ⊢
    exact int_stepV S _ _ _ 1 (by decide) (by decide) (vfits1 _ (by omega)) e4
  rw [hA5] at s4
  have e5 : S = A5 ++ X5 ++ (X6 ++ (X7)) := by rw [hSA, ← hA8, ← hA7, ← hA6, ← hA5, ← hA4, ← hA3, ← hA2]; all_goals simp only [List.append_assoc, List.append_nil, List.nil_append]
  have s5 : (⟨S, A5.length, 0⟩ : InS).tops = (v.tops, ⟨S, (A5 ++ X5).length, 0⟩) := by
    rw [← hX5] at e5 ⊢
    exact step_back rds_tops S _ _ _ e5 _ _ rfl (topsP_back _ hf _)
  rw [hA6] at s5
  have e6 : S = A6 ++ X6 ++ (X7) := by rw [hSA, ← hA8, ← hA7, ← hA6, ← hA5, ← hA4, ← hA3, ← hA2]; all_goals simp only [List.append_assoc, List.append_nil, List.nil_append]
  have s6 : (⟨S, A6.length, 0⟩ : InS).int 8 = (v.upd, ⟨S, (A6 ++ X6).length, 0⟩) := by
    rw [← hX6] at e6 ⊢
    exact int_stepV S _ _ _ 8 (by decide) (by decide) (vfits8 _ (by omega)) e6
  rw [hA7] at s6
  have e7 : S = A7 ++ X7 ++ ([]) := by rw [hSA, ← hA8, ← hA7, ← hA6, ← hA5, ← hA4, ← hA3, ← hA2]; all_goals simp only [List.append_assoc, List.append_nil, List.nil_append]
  have s7 : (⟨S, A7.length, 0⟩ : InS).int 8 = (v.started, ⟨S, (A7 ++ X7).length, 0⟩) := by
    rw [← hX7] at e7 ⊢
    exact int_stepV S _ _ _ 8 (by decide) (by decide) (vfits8 _ (by omega)) e7
  rw [hA8] at s7
  rw [List.nil_append] at s0
  have s0 : (⟨S, 0, 0⟩ : InS).int 2 = (0, ⟨S, X0.length, 0⟩) := s0
  have hI : decI S = ⟨S, X0.length, 0⟩ := by unfold decI; rw [s0]; rfl
  have hV := valF_eq s1 s2 s3 s4 s5 s6 s7
  have hL : (⟨S, A8.length, 0⟩ : InS).left = 0 := by
    subst hSA
    exact Nat.sub_self _
  have hC : (⟨S, A8.length, 0⟩ : InS).close = ⟨S, A8.length, 0⟩ := by unfold InS.close; rw [hL]; rfl
  have hE : decE S = 0 := by unfold decE; rw [hI, hV, hC]
  rw [hS]
  unfold valDec
  rw [hE, hI, hV]
  show (if (v.err ≠ 0) then _ else _) = _
  rw [he]
  rfl

end Go.Proofs.Ytombolmicfjjpaa

/- How many topics are looked at (pure). -/
namespace Go.Proofs.Ytombolmicfjjpaa
open Go.RowKit

/-- How much of a topic is looked at. -/
def topW (t : TopS) : Nat := t.name.length + 4 * t.parts.length + 6
def topWs (l : List TopS) : Nat := (l.map topW).sum
theorem topWs_take (l : List TopS) (k : Nat) (hk : k < l.length) (t : TopS) (ht : l[k] = t) : topWs (l.take (k + 1)) = topWs (l.take k) + topW t := by
  unfold topWs
  rw [List.take_succ_eq_append_getElem hk, List.map_append, List.sum_append, ht]
  simp
theorem topWs_le (l : List TopS) (k : Nat) : topWs (l.take k) ≤ topWs l := by
  have h : topWs l = topWs (l.take k) + topWs (l.drop k) := by
    unfold topWs
    rw [← List.sum_append, ← List.map_append, List.take_append_drop]
  omega
theorem topWs_len (l : List TopS) : 6 * l.length ≤ topWs l := by
  unfold topWs
  induction l with
  | nil => simp
  | cons x t ih => rw [List.map_cons, List.sum_cons, List.length_cons]; unfold topW at ih ⊢; omega
theorem topWs_mem (l : List TopS) (t : TopS) (h : t ∈ l) : topW t ≤ topWs l := by
  unfold topWs
  induction l with
  | nil => cases h
  | cons x m ih =>
    rw [List.map_cons, List.sum_cons]
    rcases List.mem_cons.1 h with rfl | h
    · omega
    · have := ih h; omega
def few (l : List TopS) : Int := if topWs l ≤ 1000 then 1 else 0
theorem few_one {l : List TopS} (h : few l = 1) : topWs l ≤ 1000 := by
  unfold few at h
  by_cases hh : topWs l ≤ 1000
  · exact hh
  · rw [if_neg hh] at h; cases h
theorem few_T {l : List (TopS × Value)} (h : topWs (l.map (·.1)) ≤ 1000) : FewT l := by
  have h1 := topWs_len (l.map (·.1))
  rw [List.length_map] at h1
  refine ⟨by omega, fun x hx => ?_⟩
  have h2 := topWs_mem (l.map (·.1)) x.1 (List.mem_map_of_mem hx)
  unfold topW at h2
  exact ⟨by omega, by omega⟩

end Go.Proofs.Ytombolmicfjjpaa

/- Whether two rows of topics are one (pure). -/
namespace Go.Proofs.Ytombolmicfjjpaa
open Go.RowKit

theorem tmap_take_succ (l : List (TopS × Value)) (k : Nat) (h : k < l.length) (x : TopS) (hx : l[k].1 = x) : (l.map (·.1)).take (k + 1) = (l.map (·.1)).take k ++ [x] := by
  have h2 : k < (l.map (·.1)).length := by simpa using h
  rw [List.take_succ_eq_append_getElem h2, List.getElem_map, hx]
theorem tmap_ne_of_get (l m : List (TopS × Value)) (k : Nat) (h1 : k < l.length) (h2 : k < m.length) (x y : TopS) (hx : l[k].1 = x) (hy : m[k].1 = y) (h : x ≠ y) : l.map (·.1) ≠ m.map (·.1) := by
  intro he
  apply h
  have e1 : (l.map (·.1))[k]? = some x := by rw [List.getElem?_map, List.getElem?_eq_getElem h1]; simp [hx]
  have e2 : (m.map (·.1))[k]? = some y := by rw [List.getElem?_map, List.getElem?_eq_getElem h2]; simp [hy]
  rw [he, e2] at e1
  simpa using e1.symm
theorem tmap_len_ne (l m : List (TopS × Value)) (h : l.length ≠ m.length) : l.map (·.1) ≠ m.map (·.1) := fun hh => h (by have := congrArg List.length hh; simpa using this)
/-- What is asked of topics that are laid beside others. -/
def LenT (l : List (TopS × Value)) : Prop := l.length ≤ 140737488355328 ∧ ∀ x ∈ l, x.1.parts.length ≤ 9223372036854775807

end Go.Proofs.Ytombolmicfjjpaa

/- Values, there and back (pure). -/
namespace Go.Proofs.Ytombolmicfjjpaa
open Go.RowKit

theorem flat_topWs (l : List TopS) : (l.flatMap encT).length = topWs l := by
  unfold topWs
  induction l with
  | nil => rfl
  | cons x m ih => rw [List.flatMap_cons, List.length_append, List.map_cons, List.sum_cons, ih, encT_len]; unfold topW; omega
theorem enc_lenV (v : ValS) : v.enc.length = 37 + topWs v.tops := by
  unfold ValS.enc encTs
  simp only [List.length_append, beBytes_length, flat_topWs]
  omega
theorem fewL_map {l : List (TopS × Value)} (h : FewT l) : FewL (l.map (·.1)) := by
  refine ⟨by rw [List.length_map]; exact h.1, fun x hx => ?_⟩
  obtain ⟨y, hy, rfl⟩ := List.mem_map.1 hx
  exact h.2 y hy
theorem fewT_map {l m : List (TopS × Value)} (h : FewT l) (he : m.map (·.1) = l.map (·.1)) : FewT m := fewT_of (by rw [he]; exact fewL_map h)
theorem lenT_of {l : List (TopS × Value)} (h : FewT l) : LenT l := ⟨by have := h.1; omega, fun x hx => by have := (h.2 x hx).2; omega⟩

end Go.Proofs.Ytombolmicfjjpaa

/- Topics, there and back (pure). -/
namespace Go.Proofs.Ytombolmicfjjpaa
open Go.RowKit

theorem tops_both (S : Bs) (hs : S.length ≤ 1000000) : ∃ (lx : List TopS) (j : InS) (many : Nat) (ef : Int), (⟨S, 0, 0⟩ : InS).tops = (lx, j) ∧ topsR S = (lx, many, ef) ∧ j.err = ef ∧ FewL lx ∧ (ef = 0 → j.pos = many) := by
  have hf : FewL (⟨S, 0, 0⟩ : InS).tops.1 := tops_few (i := ⟨S, 0, 0⟩) ⟨rfl, Nat.zero_le _⟩ hs
  cases h : topsP S with
  | error e =>
    obtain ⟨h0, q, _, h1⟩ := rds_tops.err S 0 e (Nat.zero_le _) (by rw [List.drop_zero]; exact h)
    rw [h1] at hf
    exact ⟨[], _, 0, e, h1, by unfold topsR; rw [h], rfl, hf, fun h2 => absurd h2 h0⟩
  | ok x =>
    obtain ⟨_, h1⟩ := rds_tops.ok S 0 x.1 x.2 (Nat.zero_le _) (by rw [List.drop_zero]; exact h)
    rw [h1] at hf
    exact ⟨x.1, _, x.2, 0, h1, by unfold topsR; rw [h], rfl, hf, fun _ => by simp⟩
theorem tops_backI (l : List TopS) (h : FitTs l) : (⟨encTs l, 0, 0⟩ : InS).tops = (l, ⟨encTs l, (encTs l).length, 0⟩) := by
  have h1 := topsP_back l h []
  rw [List.append_nil] at h1
  have h2 := (rds_tops.ok (encTs l) 0 l _ (Nat.zero_le _) (by rw [List.drop_zero]; exact h1)).2
  rw [Nat.zero_add] at h2
  exact h2
theorem close_end (s : Bs) : (⟨s, s.length, 0⟩ : InS).close.err = 0 := by
  unfold InS.close
  rw [if_neg (show ¬ 0 < InS.left ⟨s, s.length, 0⟩ by unfold InS.left; simp only; omega)]
theorem fit_all (l : List (TopS × Value)) (hw : topWs (l.map (·.1)) ≤ 1000) (h : ∀ x ∈ l, ∀ n ∈ x.1.parts, -2147483648 ≤ n ∧ n < 2147483648) : FitTs (l.map (·.1)) := by
  have hl := topWs_len (l.map (·.1))
  refine ⟨by omega, fun t ht => ?_⟩
  have hm := topWs_mem _ t ht
  unfold topW at hm
  obtain ⟨x, hx, rfl⟩ := List.mem_map.1 ht
  exact ⟨by omega, by omega, h x hx⟩
theorem encTs_len (l : List TopS) : (encTs l).length = 4 + topWs l := by
  unfold encTs
  rw [List.length_append, beBytes_length, flat_topWs]

end Go.Proofs.Ytombolmicfjjpaa

/- Numbers and texts, read. -/
namespace Go.Proofs.Ytombolmicfjjpaa
open Go.RowKit

theorem cnt_nat (i : InS) (each : Nat) : (i.count 4 each).1 = ((i.cnt each).1 : Int) ∧ (i.cnt each).1 ≤ 2147483647 := by
  have hr : -2147483648 ≤ (i.int 4).1 ∧ (i.int 4).1 < 2147483648 := by
    have e4 : half (4 : Int).toNat = 2147483648 := by decide
    by_cases hi : i.err = 0
    · obtain ⟨s, pos, er⟩ := i
      simp only at hi
      subst hi
      unfold InS.int
      rw [if_neg (by decide)]
      simp only
      unfold InS.take
      split
      · show -2147483648 ≤ sInt [] ∧ sInt [] < 2147483648; decide
      · split
        · show -2147483648 ≤ sInt [] ∧ sInt [] < 2147483648; decide
        · split
          · show -2147483648 ≤ sInt [] ∧ sInt [] < 2147483648; decide
          · rename_i h1 h2 h3
            have hl : (((s.drop pos)).take (4 : Int).toNat).length = 4 := by
              rw [List.length_take, List.length_drop]
              simp only [InS.left] at h3
              have : (4 : Int).toNat = 4 := rfl
              omega
            have h6 := sInt_fits _ 4 (by decide) (by decide) hl
            have h7 := h6.2.2
            have e5 : half ((4 : Nat) : Int).toNat = 2147483648 := by decide
            rw [e5] at h7
            exact h7
    · rw [int_stuck i hi]; show (-2147483648 : Int) ≤ 0 ∧ (0 : Int) < 2147483648; decide
  have h0 : 0 ≤ (i.count 4 each).1 ∧ (i.count 4 each).1 < 2147483648 := by
    unfold InS.count
    simp only
    split
    · simp
    · split
      · simp
      · omega
  unfold InS.cnt
  simp only
  omega
theorem s_cntV (p : Nat) (i j : InS) (each n : Nat) (ei : Int) (he : ei = each) (hx : i.cnt each = (n, j)) {W0 w : World} {K : Know} {L : List Res} (h : St W0 w K (.inp p i :: L)) :
    Calls Try.prog 77 #[inPtr p, .int .i64 4, .int .i64 ei] w fun en w' => en = .returned (.int .i64 n) ∧ St W0 w' K (.inp p j :: L) := by
  subst he
  have h2 := s_count p i 4 each h
  have h3 := (cnt_nat i each).1
  rw [hx] at h3
  have h4 : (i.count 4 each).2 = j := by have := congrArg Prod.snd hx; exact this
  rw [h3, h4] at h2
  exact h2
theorem s_intV (p : Nat) (i j : InS) (x : Int) (size : Int) (hx : i.int size = (x, j)) {W0 w : World} {K : Know} {L : List Res} (h : St W0 w K (.inp p i :: L)) :
    Calls Try.prog 72 #[inPtr p, .int .i64 size] w fun en w' => en = .returned (.int .i64 x) ∧ St W0 w' K (.inp p j :: L) := by
  have h2 := s_int p i size h
  rw [hx] at h2
  exact h2
theorem s_errV (p : Nat) (i : InS) (e : Int) (hx : i.err = e) {W0 w : World} {K : Know} {L : List Res} (h : St W0 w K (.inp p i :: L)) :
    Calls Try.prog 27 #[inPtr p] w fun en w' => en = .returned (.int .i64 e) ∧ St W0 w' K (.inp p i :: L) := by
  subst hx; exact s_err p i h
theorem blob_textV (p : Nat) (i j : InS) (s : Bs) (hx : i.text = (s, j)) {W0 w : World} {K : Know} {L : List Res} (h : St W0 w K (.inp p i :: L)) :
    Calls Try.prog 78 #[inPtr p] w fun en w' => en = .returned (.string (bb s)) ∧ St W0 w' K (.inp p j :: L) := by
  have h2 := blob_text p i h
  rw [hx] at h2
  exact h2
theorem elem_int : ElemT Try.prog 3 (.int .i64 0) 1 8 := elemT_of (by kernel_rfl) rfl (by decide)
theorem elem_top : ElemT Try.prog 51 (.agg #[.string ⟨#[]⟩, .slice none 0 0]) 2 40 := elemT_of (by kernel_rfl) rfl (by decide)
theorem tops_nil (K : Know) : K.has (K.and (Know.tops (.slice none 0 0) [])) := fun _ _ h => ⟨h, ⟨none, 0, rfl, fun h => absurd h (by simp)⟩, fun x hx => by cases hx⟩

end Go.Proofs.Ytombolmicfjjpaa

/- Topics, read. -/
namespace Go.Proofs.Ytombolmicfjjpaa
open Go.RowKit

set_option maxHeartbeats 1000000 in
set_option maxRecDepth 100000 in
theorem val_parts (p : Nat) (i j : InS) (l : List Int) (hx : i.parts = (l, j)) {W0 w : World} {K : Know} {L : List Res} (h : St W0 w K (.inp p i :: L)) :
    Calls Try.prog 79 #[inPtr p] w fun en w' => ∃ v, en = .returned v ∧ St W0 w' (K.and (Know.flat RI v 1 l)) (.inp p j :: L) := by
  obtain ⟨⟨n, c⟩, hc⟩ : ∃ r, i.cnt 4 = r := ⟨_, rfl⟩
  have hnl := (cnt_nat i 4).2
  rw [hc] at hnl
  have hx2 : InS.partsN n [] c = (l, j) := by rw [← hx]; unfold InS.parts; rw [hc]
  have HC := Lib.hid hc
  have HX := Lib.hid hx2
  have HNL := Lib.hid hnl
  have H := Lib.hid h
  have hni : (n : Int) ≤ 2147483647 := by simp only at hnl; omega
  clear h hx hc hx2 hnl
  go_enter Try.func79, Try.ntmps79
  go_wp2_with (go_at_call 77; (with_reducible refine (s_cntV p i c 4 n 4 rfl HC.out H.out).mono ?_); rintro e_ wn ⟨rfl, h⟩; replace H := Lib.hid h; clear h)
  go_loopw [3, 6] (fun lv iv wr => ∃ (k : Nat) (i2 : InS) (acc : List Int), k ≤ n ∧ iv = .int .i64 k ∧ Hid (acc.length = k) ∧ Hid (InS.partsN (n - k) acc i2 = (l, j)) ∧ St W0 wr K (.row lv 3 1 acc.length (acc.flatMap fun x => [.int .i64 x]) :: .inp p i2 :: L)) (fun _ iv _ => n - (intOf iv).toNat)
  case atStart => exact ⟨0, c, [], Nat.zero_le _, rfl, Lib.hid rfl, Lib.hid HX.out, H.out.nilRow 3 1⟩
  case round =>
    obtain ⟨k, i2, acc, hk, rfl, HAL, HP, hst⟩ := hrel
    clear H
    have H := Lib.hid hst
    clear hst
    by_cases hlt : k < n
    · obtain ⟨⟨x, i3⟩, hi3⟩ : ∃ r, i2.int 4 = r := ⟨_, rfl⟩
      have HI := Lib.hid hi3
      have HP2 := Lib.hid (show InS.partsN (n - (k + 1)) (acc ++ [x]) i3 = (l, j) by
        have h1 := HP.out
        rw [show n - k = (n - (k + 1)) + 1 by omega] at h1
        have h2 : InS.partsN (n - (k + 1)) (acc ++ [(i2.int 4).1]) (i2.int 4).2 = (l, j) := h1
        rw [hi3] at h2
        exact h2)
      have HAB := Lib.hid (show acc.length ≤ 2147483647 by have := HAL.out; have := HNL.out; omega)
      have hkn : (k : Int) < (n : Int) := by omega
      clear hi3
      go_wp2_with (first
    | (go_at_call 72; (with_reducible refine (s_intV p i2 i3 x 4 HI.out H.out.p1).mono ?_); rintro e_ wn ⟨rfl, h⟩; have h := h.p1; replace H := Lib.hid h; clear h)
    | (at_builtin; refine wpl_app1_st rfl _ _ 49 rfl 3 Try.underlying49 elem_int _ _ _ rfl H.out [.int .i64 x] 3 rfl rfl (by simp [Value.oneCell']) (by have := HAB.out; unfold maxLen; omega) (by have := HAB.out; omega) ?_; intro v' w' h; replace H := Lib.hid h; clear h))
      go_roundw
      case rel => exact ⟨k + 1, i3, acc ++ [x], hlt, by go_num, Lib.hid (by rw [List.length_append, HAL.out]; rfl), HP2, by rw [List.length_append, List.flatMap_append]; exact H.out⟩
      case measure => first | (simp [intOf]; done) | (simp [intOf]; omega)
    · obtain rfl : k = n := by omega
      have hp := HP.out
      rw [Nat.sub_self] at hp
      have hp : (acc, i2) = (l, j) := hp
      simp only [Prod.mk.injEq] at hp
      obtain ⟨rfl, rfl⟩ := hp
      go_wp2
      go_ret
      exact ⟨_, rfl, H.out.freezeRow (R := RI) (fun x _ => ⟨rfl, rfl⟩)⟩

set_option maxHeartbeats 2000000 in
set_option maxRecDepth 100000 in
theorem val_topics (p : Nat) (i j : InS) (l : List TopS) (hx : i.tops = (l, j)) {W0 w : World} {K : Know} {L : List Res} (h : St W0 w K (.inp p i :: L)) :
    Calls Try.prog 25 #[inPtr p] w fun en w' => ∃ (v : Value) (lr : List (TopS × Value)), en = .returned v ∧ lr.map (·.1) = l ∧ St W0 w' (K.and (Know.tops v lr)) (.inp p j :: L) := by
  obtain ⟨⟨n, c⟩, hc⟩ : ∃ r, i.cnt 6 = r := ⟨_, rfl⟩
  have hnl := (cnt_nat i 6).2
  rw [hc] at hnl
  have hx2 : InS.topsN n [] c = (l, j) := by rw [← hx]; unfold InS.tops; rw [hc]
  have HC := Lib.hid hc
  have HX := Lib.hid hx2
  have HNL := Lib.hid hnl
  have H := Lib.hid h
  have hni : (n : Int) ≤ 2147483647 := by simp only at hnl; omega
  clear h hx hc hx2 hnl
  go_enter Try.func25, Try.ntmps25
  go_wp2_with (go_at_call 77; (with_reducible refine (s_cntV p i c 6 n 6 rfl HC.out H.out).mono ?_); rintro e_ wn ⟨rfl, h⟩; replace H := Lib.hid h; clear h)
  go_loopw [3, 4, 7] (fun lv _ iv wr => ∃ (k : Nat) (i2 : InS) (acc : List (TopS × Value)) (K2 : Know), k ≤ n ∧ iv = .int .i64 k ∧ Hid (acc.length = k) ∧ Hid (InS.topsN (n - k) (acc.map (·.1)) i2 = (l, j)) ∧ Hid (K2.has K) ∧ Hid (∀ x ∈ acc, K2.has (Know.flat RI x.2 1 x.1.parts)) ∧ St W0 wr K2 (.row lv 51 2 acc.length (acc.flatMap tcells) :: .inp p i2 :: L)) (fun _ _ iv _ => n - (intOf iv).toNat)
  case atStart => exact ⟨0, c, [], K, Nat.zero_le _, rfl, Lib.hid rfl, Lib.hid HX.out, Lib.hid (Know.has_refl _), Lib.hid (fun x hx => by cases hx), H.out.nilRow 51 2⟩
  case round =>
    obtain ⟨k, i2, acc, K2, hk, rfl, HAL, HP, HKK, HALL, hst⟩ := hrel
    clear H
    have H := Lib.hid hst
    clear hst
    by_cases hlt : k < n
    · obtain ⟨⟨nm, i3⟩, hi3⟩ : ∃ r, i2.text = r := ⟨_, rfl⟩
      obtain ⟨⟨ps, i4⟩, hi4⟩ : ∃ r, i3.parts = r := ⟨_, rfl⟩
      obtain ⟨er, her⟩ : ∃ er, i4.err = er := ⟨_, rfl⟩
      have HT := Lib.hid hi3
      have HPS := Lib.hid hi4
      have HER := Lib.hid her
      have hstep : (if er = 0 then InS.topsN (n - (k + 1)) (acc.map (·.1) ++ [⟨nm, ps⟩]) i4 else ([], i4)) = (l, j) := by
        have h1 := HP.out
        rw [show n - k = (n - (k + 1)) + 1 by omega] at h1
        have h2 : (if i2.text.2.parts.2.err = 0 then InS.topsN (n - (k + 1)) (acc.map (·.1) ++ [⟨i2.text.1, i2.text.2.parts.1⟩]) i2.text.2.parts.2 else ([], i2.text.2.parts.2)) = (l, j) := h1
        rw [hi3] at h2
        simp only at h2
        rw [hi4] at h2
        simp only at h2
        rw [her] at h2
        exact h2
      have HAB := Lib.hid (show acc.length ≤ 2147483647 by have := HAL.out; have := HNL.out; omega)
      have hkn : (k : Int) < (n : Int) := by omega
      clear hi3 hi4 her
      by_cases he0 : er = 0
      · as_aux_lemma =>
        rw [if_pos he0] at hstep
        have HP2 := Lib.hid hstep
        subst he0
        clear hstep
        go_wp2_with (first
    | (go_at_call 78; (with_reducible refine (blob_textV p i2 i3 nm HT.out H.out.p1).mono ?_); rintro e_ wn ⟨rfl, h⟩; replace H := Lib.hid h; clear h)
    | (go_at_call 79; (with_reducible refine (val_parts p i3 i4 ps HPS.out H.out).mono ?_); rintro e_ wn ⟨pv, rfl, h⟩; obtain ⟨qx, capx, hpv⟩ := flat_form (Know.has_right (Know.has_refl _)) h; subst hpv; have h := h.p1; replace H := Lib.hid h; clear h)
    | (at_builtin; refine wpl_app1_st rfl _ _ 22 rfl 51 Try.underlying22 elem_top _ _ _ rfl H.out [.string (bb nm), .slice qx ps.length capx] 51 rfl rfl (by simp [Value.oneCell']) (by have := HAB.out; unfold maxLen; omega) (by have := HAB.out; omega) ?_; intro v' w' h; have h := h.p1; replace H := Lib.hid h; clear h)
    | (go_at_call 27; (with_reducible refine (s_errV p i4 0 HER.out H.out).mono ?_); rintro e_ wn ⟨rfl, h⟩; have h := h.p1; replace H := Lib.hid h; clear h))
        go_roundw
        case rel => exact ⟨k + 1, i4, acc ++ [((⟨nm, ps⟩ : TopS), .slice qx ps.length capx)], K2.and (Know.flat RI (.slice qx ps.length capx) 1 ps), hlt, by go_num, Lib.hid (by rw [List.length_append, HAL.out]; rfl), Lib.hid (by rw [List.map_append]; exact HP2.out), Lib.hid (Know.has_trans (Know.has_left (Know.has_refl _)) HKK.out), Lib.hid (fun x hx => by
          rcases List.mem_append.1 hx with hx | hx
          · exact Know.has_left (HALL.out x hx)
          · rw [List.mem_singleton.1 hx]; exact Know.has_right (Know.has_refl _)), by rw [List.length_append, List.flatMap_append]; exact H.out⟩
        case measure => first | (simp [intOf]; done) | (simp [intOf]; omega)
      · as_aux_lemma =>
        rw [if_neg he0] at hstep
        simp only [Prod.mk.injEq] at hstep
        obtain ⟨rfl, rfl⟩ := hstep
        have gz : (er == 0) = false := by rw [beq_eq_false_iff_ne]; exact he0
        have gz3 : (er != 0) = true := by simp [bne, gz]
        clear he0
        go_wp2_with (first
    | (go_at_call 78; (with_reducible refine (blob_textV p i2 i3 nm HT.out H.out.p1).mono ?_); rintro e_ wn ⟨rfl, h⟩; replace H := Lib.hid h; clear h)
    | (go_at_call 79; (with_reducible refine (val_parts p i3 _ ps HPS.out H.out).mono ?_); rintro e_ wn ⟨pv, rfl, h⟩; obtain ⟨qx, capx, hpv⟩ := flat_form (Know.has_right (Know.has_refl _)) h; subst hpv; have h := h.p1; replace H := Lib.hid h; clear h)
    | (at_builtin; refine wpl_app1_st rfl _ _ 22 rfl 51 Try.underlying22 elem_top _ _ _ rfl H.out [.string (bb nm), .slice qx ps.length capx] 51 rfl rfl (by simp [Value.oneCell']) (by have := HAB.out; unfold maxLen; omega) (by have := HAB.out; omega) ?_; intro v' w' h; have h := h.p1; replace H := Lib.hid h; clear h)
    | (go_at_call 27; (with_reducible refine (s_errV p _ er HER.out H.out).mono ?_); rintro e_ wn ⟨rfl, h⟩; replace H := Lib.hid h; clear h))
        go_ret
        exact ⟨_, [], rfl, rfl, (H.out.p1.drop).know (Know.has_trans (Know.has_left HKK.out) (tops_nil K))⟩
    · obtain rfl : k = n := by omega
      have hp := HP.out
      rw [Nat.sub_self] at hp
      have hp : (acc.map (·.1), i2) = (l, j) := hp
      simp only [Prod.mk.injEq] at hp
      obtain ⟨rfl, rfl⟩ := hp
      go_wp2
      go_ret
      have hf := H.out.freezeRow (R := RTop) (fun x _ => ⟨rfl, rfl⟩)
      have hf2 := hf.know (K' := K.and (Know.tops _ acc)) (fun w F hh => ⟨HKK.out _ _ hh.1, hh.2, fun y hy => HALL.out y hy _ _ hh.1⟩)
      first | exact ⟨_, acc, rfl, rfl, hf2⟩ | exact ⟨_, rfl, acc, rfl, hf2⟩

end Go.Proofs.Ytombolmicfjjpaa

/- How many, by definition. -/
namespace Go.Proofs.Ytombolmicfjjpaa
open Go.RowKit

theorem sr_intV (s : Bs) (a : Int) (ha : sInt s = a) (hs : s.length ≤ 8) {W0 w : World} {K : Know} {L : List Res} (h : St W0 w K L) :
    Calls Try.prog 76 #[.string (bb s)] w fun en w' => en = .returned (.int .i64 a) ∧ St W0 w' K L := by
  subst ha; exact sr_int s hs h
set_option maxHeartbeats 1000000 in
set_option maxRecDepth 100000 in
theorem ref14_count (s : Bs) (each : Nat) (ei : Int) (hei : ei = each) (he : 0 < each) (he2 : each ≤ 100) (hs : s.length ≤ 1000000) (n : Nat) (E : Int) (hr : cntR each s = (n, E)) {W0 w : World} {K : Know} {L : List Res} (h : St W0 w K L) :
    Calls Try.prog 80 #[.string (bb s), .int .i64 ei] w fun en w' => en = .returned (.tuple #[.int .i64 n, .int .i64 E]) ∧ St W0 w' K L := by
  have H := Lib.hid h
  clear h
  by_cases h1 : s.length < 4
  · rw [cntR_short h1] at hr
    cases hr
    have g1 : (s.length : Int) < 4 := by omega
    clear h1
    go_enter Try.func80, Try.ntmps80
    go_wp2
    go_ret2
    exact ⟨rfl, H.out⟩
  have g1 : ¬ (s.length : Int) < 4 := by omega
  have hlt : (s.take 4).length = 4 := by rw [List.length_take]; omega
  have HT := Lib.hid (show (s.take 4).length ≤ 8 by omega)
  obtain ⟨a, ha⟩ : ∃ a, sInt (s.take 4) = a := ⟨_, rfl⟩
  have HA := Lib.hid ha
  by_cases h2 : a < 0
  · rw [cntR_neg h1 (by rw [ha]; exact h2)] at hr
    cases hr
    clear h1 hlt ha
    go_enter Try.func80, Try.ntmps80
    go_wp2_with (go_at_call 76; (with_reducible refine (sr_intV (s.take 4) _ HA.out HT.out H.out).mono ?_); rintro e_ wn ⟨rfl, h⟩; replace H := Lib.hid h; clear h)
    go_ret2
    exact ⟨rfl, H.out⟩
  obtain ⟨D, hD⟩ : ∃ D, ((s.length : Int) - 4) / each = D := ⟨_, rfl⟩
  have hDb : 0 ≤ D ∧ D ≤ 1000000 := by
    rw [← hD]
    refine ⟨Int.ediv_nonneg (by omega) (by omega), ?_⟩
    exact Int.le_trans (Int.ediv_le_self _ (by omega)) (by omega)
  have gq : Int.tdiv ((s.length : Int) - 4) ei = D := by rw [hei, ← hD]; exact Int.tdiv_eq_ediv_of_nonneg (by omega)
  have ge : ¬ ei = 0 := by omega
  have ge2 : (ei == 0) = false := by rw [beq_eq_false_iff_ne]; exact ge
  obtain ⟨hD0, hD1⟩ := hDb
  by_cases h3 : D < a
  · rw [cntR_more h1 (by rw [ha]; exact h2) (by rw [ha, hD]; exact h3)] at hr
    cases hr
    clear h1 hlt ha hD hei he he2
    go_enter Try.func80, Try.ntmps80
    go_wp2_with (go_at_call 76; (with_reducible refine (sr_intV (s.take 4) _ HA.out HT.out H.out).mono ?_); rintro e_ wn ⟨rfl, h⟩; replace H := Lib.hid h; clear h)
    go_ret2
    exact ⟨rfl, H.out⟩
  · rw [cntR_ok h1 (by rw [ha]; exact h2) (by rw [ha, hD]; exact h3), ha] at hr
    cases hr
    obtain ⟨m, hm⟩ : ∃ m : Nat, a.toNat = m := ⟨_, rfl⟩
    have ham : a = (m : Int) := by omega
    rw [hm]
    subst ham
    clear h1 hlt ha hD hei he he2 hm
    go_enter Try.func80, Try.ntmps80
    go_wp2_with (go_at_call 76; (with_reducible refine (sr_intV (s.take 4) _ HA.out HT.out H.out).mono ?_); rintro e_ wn ⟨rfl, h⟩; replace H := Lib.hid h; clear h)
    go_ret2
    exact ⟨rfl, H.out⟩

end Go.Proofs.Ytombolmicfjjpaa

/- Layer 3: that it speaks. -/
namespace Go.Proofs.Ytombolmicfjjpaa
open Go.RowKit

theorem St.allocOut2 {W0 w : World} {K : Know} {L : List Res} (h : St W0 w K L) : St W0 ((w.alloc (.cells #[.slice none 0 0, .int .i64 0] 54)).alloc (.cells #[.slice none 0 0, .int .i64 0] 54)) K (.out (w.heap.size + 1) ⟨[], 0⟩ :: .out w.heap.size ⟨[], 0⟩ :: L) := by
  have := h.allocOut.allocOut
  rw [World.size_alloc] at this
  exact this
theorem St.allocOut3 {W0 w : World} {K : Know} {L : List Res} (h : St W0 w K L) : St W0 (((w.alloc (.cells #[.slice none 0 0, .int .i64 0] 54)).alloc (.cells #[.slice none 0 0, .int .i64 0] 54)).alloc (.cells #[.slice none 0 0, .int .i64 0] 54)) K (.out (w.heap.size + 2) ⟨[], 0⟩ :: .out (w.heap.size + 1) ⟨[], 0⟩ :: .out w.heap.size ⟨[], 0⟩ :: L) := by
  have := h.allocOut2.allocOut
  rw [World.size_alloc, World.size_alloc] at this
  exact this
theorem St.allocOut4 {W0 w : World} {K : Know} {L : List Res} (h : St W0 w K L) : St W0 ((((w.alloc (.cells #[.slice none 0 0, .int .i64 0] 54)).alloc (.cells #[.slice none 0 0, .int .i64 0] 54)).alloc (.cells #[.slice none 0 0, .int .i64 0] 54)).alloc (.cells #[.slice none 0 0, .int .i64 0] 54)) K (.out (w.heap.size + 3) ⟨[], 0⟩ :: .out (w.heap.size + 2) ⟨[], 0⟩ :: .out (w.heap.size + 1) ⟨[], 0⟩ :: .out w.heap.size ⟨[], 0⟩ :: L) := by
  have := h.allocOut3.allocOut
  rw [World.size_alloc, World.size_alloc, World.size_alloc] at this
  exact this

theorem text_ok (s : Bs) : (⟨s, 0⟩ : OutS).text = (s, 0) := rfl
theorem putU_65 : putU (foldN (-65)) = [129, 1] := by
  have e : foldN (-65) = 129 := by decide
  rw [e, putU_big (by decide), putU_small (by decide)]
  decide

end Go.Proofs.Ytombolmicfjjpaa

/- Layer 4: that it speaks. -/
namespace Go.Proofs.Ytombolmicfjjpaa
open Go.RowKit

theorem Holds.only {w : World} {r : Res} : ∀ {L : List Res} {S : Nat → Prop}, Holds L w S → r ∈ L → ∃ S', Holds [r] w S' ∧ ∀ k, S' k → S k
  | [], _, _, hm => by cases hm
  | a :: L, S, ⟨S1, S2, h1, h2, h3, h4⟩, hm => by
    cases hm with
    | head => exact ⟨S1, ⟨S1, fun _ => False, h1, fun _ h => h, fun _ _ h => h, fun k => by simp⟩, fun k hk => (h4 k).2 (.inl hk)⟩
    | tail _ hm =>
      obtain ⟨S', g1, g2⟩ := Holds.only h2 hm
      exact ⟨S', g1, fun k hk => (h4 k).2 (.inr (g2 k hk))⟩
theorem St.only {W0 w : World} {K : Know} {L : List Res} {r : Res} (h : St W0 w K L) (hm : r ∈ L) : St W0 w K [r] := by
  obtain ⟨a, S, F, b, c, d, e⟩ := h
  obtain ⟨S', g1, g2⟩ := b.only hm
  exact ⟨a, S', F, g1, fun k hk => c k (g2 k hk), d, fun k hk => ⟨(e k hk).1, fun h => (e k hk).2 (g2 k h)⟩⟩

theorem putU_1 : putU (foldN 1) = [2] := by
  have e : foldN 1 = 2 := by decide
  rw [e, putU_small (by decide)]
  decide

end Go.Proofs.Ytombolmicfjjpaa

/- Layer 4, walked: BlobReads. -/
namespace Go.Proofs.Ytombolmicfjjpaa
open Go.RowKit

/-- What a reader reads of a text, as the parser says. -/
theorem read_facts {f : InS → BlobS × InS} {p : Bs → Except Int (BlobS × Nat)} (h : Rds f p ⟨false, []⟩) (s : Bs) :
    ∃ (n : Bool) (d : Bs) (m : Nat) (e : Int) (j : InS), f ⟨s, 0, 0⟩ = (⟨n, d⟩, j) ∧ gotV (p s) = .agg #[.bool n, .string (bb d), .int .i64 m, .int .i64 e] ∧ j.err = e ∧ (e = 0 → j.pos = m) := by
  rcases at_zero' h s with ⟨b, k, h1, _, h2⟩ | ⟨e, q, h1, h2, _, h3⟩
  · exact ⟨b.null, b.data, k, 0, ⟨s, k, 0⟩, h2, by rw [h1]; rfl, rfl, fun _ => rfl⟩
  · exact ⟨false, [], 0, e, ⟨s, q, e⟩, h3, by rw [h1]; rfl, rfl, fun h => absurd h h2⟩
theorem err_at {e : Int} {j : InS} (h : j.err = e) : Value.int .i64 j.err = .int .i64 e := by rw [h]
theorem raw_four {W0 w : World} {K : Know} {L : List Res} {r : Res} {c : Nat} {x y z u : Value} {T : TypeId} (h : St W0 w K (r :: .raw c #[x, y, z, u] T :: L)) :
    w.cell? ⟨c, 0, none⟩ = some x ∧ w.cell? ⟨c, 1, none⟩ = some y ∧ w.cell? ⟨c, 2, none⟩ = some z ∧ w.cell? ⟨c, 3, none⟩ = some u :=
  ⟨h.p1.rawCell 0, h.p1.rawCell 1, h.p1.rawCell 2, h.p1.rawCell 3⟩
theorem raw_four' {W0 w : World} {K : Know} {L : List Res} {r : Res} {c : Nat} {x y z u : Value} {T : TypeId} (h : St W0 w K (r :: .raw c #[x, y, z, u] T :: L)) :
    w.cell? ⟨c, 0, none⟩ = some x ∧ w.cell? ⟨c, 1, none⟩ = some y ∧ w.cell? ⟨c, 2, none⟩ = some z ∧ w.cell? ⟨c, 3, none⟩ = some u ∧ St W0 w K (r :: .raw c #[x, y, z, u] T :: L) :=
  ⟨h.p1.rawCell 0, h.p1.rawCell 1, h.p1.rawCell 2, h.p1.rawCell 3, h⟩
theorem raw_free4 {W0 w : World} {K : Know} {L : List Res} {c : Nat} {x y z u : Value} {T : TypeId} (h : St W0 w K (.raw c #[x, y, z, u] T :: L)) :
    w.frozen? ⟨c, 0, none⟩ = false ∧ w.frozen? ⟨c, 1, none⟩ = false ∧ w.frozen? ⟨c, 2, none⟩ = false ∧ w.frozen? ⟨c, 3, none⟩ = false :=
  ⟨h.rawFree 0, h.rawFree 1, h.rawFree 2, h.rawFree 3⟩

theorem q_err {W0 w : World} {K : Know} {L : List Res} {p : Nat} {j : InS} {v : Int} (hv : j.err = v) (h : St W0 w K (.inp p j :: L)) (n : Nat) :
    Calls Try.prog 27 #[inPtr p] (w.drewN n) fun e w' => e = .returned (.int .i64 v) ∧ ∃ m, w' = w.drewN m :=
  Calls.quiet_of_same ((in_err p j _ (h.drewN n).inpGet).mono fun _ _ ⟨h1, h2⟩ => ⟨hv ▸ h1, h2.symm⟩)
theorem q_at {W0 w : World} {K : Know} {L : List Res} {p : Nat} {j : InS} {v : Nat} (hv : j.pos = v) (h : St W0 w K (.inp p j :: L)) (n : Nat) :
    Calls Try.prog 29 #[inPtr p] (w.drewN n) fun e w' => e = .returned (.int .i64 v) ∧ ∃ m, w' = w.drewN m :=
  Calls.quiet_of_same ((in_at p j _ (h.drewN n).inpGet).mono fun _ _ ⟨h1, h2⟩ => ⟨hv ▸ h1, h2.symm⟩)

set_option maxHeartbeats 600000 in
set_option maxRecDepth 100000 in
theorem blobReads_mid (s : Bs) (k : Nat) (z : Int) (hs : s.length ≤ 2000) (hz : z = k) (h1 : 1 ≤ k) (h8 : k ≤ 8) {W0 w : World} {K : Know} {L : List Res} (h : St W0 w Know.none []) :
    True := by
  trivial

theorem ref04_readFixedQ (s : Bs) (k : Nat) (q : Int) (v : Value) (hq : q = k) (hs : s.length ≤ 140737488355328) (hk : k ≤ 8) (hv : gotV (refixed k s) = v) {W0 w : World} {K : Know} {L : List Res} (h : St W0 w K L) :
    Calls Try.prog 81 #[.string (bb s), .int .i64 q] w fun en w' => en = .returned v ∧ St W0 w' K L := by
  subst hq; subst hv; exact ref04_readFixed s k hs hk h
theorem blob_fixedQ (p : Nat) (i : InS) (k : Nat) (q : Int) (n : Bool) (d : Bs) (j : InS) (hq : q = k) (hx : i.fixed k = (⟨n, d⟩, j)) {W0 w : World} {K : Know} {L : List Res} (h : St W0 w K (.inp p i :: L)) :
    Calls Try.prog 111 #[inPtr p, .int .i64 q] w fun en w' => en = .returned (.agg #[.bool n, .string (bb d)]) ∧ St W0 w' K (.inp p j :: L) := by
  subst hq; have := blob_fixed p i k h; rw [hx] at this; exact this
theorem raw_all4 {W0 w : World} {K : Know} {L : List Res} {c : Nat} {x y z u : Value} {T : TypeId} (h : St W0 w K (.raw c #[x, y, z, u] T :: L)) :
    w.cell? ⟨c, 0, none⟩ = some x ∧ w.cell? ⟨c, 1, none⟩ = some y ∧ w.cell? ⟨c, 2, none⟩ = some z ∧ w.cell? ⟨c, 3, none⟩ = some u ∧
    w.frozen? ⟨c, 0, none⟩ = false ∧ w.frozen? ⟨c, 1, none⟩ = false ∧ w.frozen? ⟨c, 2, none⟩ = false ∧ w.frozen? ⟨c, 3, none⟩ = false ∧ c < w.heap.size :=
  ⟨h.rawCell 0, h.rawCell 1, h.rawCell 2, h.rawCell 3, h.rawFree 0, h.rawFree 1, h.rawFree 2, h.rawFree 3, (Array.getElem?_eq_some_iff.1 h.rawGet).1⟩
theorem raw_four3 {W0 w : World} {K : Know} {L : List Res} {r r' : Res} {c : Nat} {x y z u : Value} {T : TypeId} (h : St W0 w K (r :: r' :: .raw c #[x, y, z, u] T :: L)) :
    w.cell? ⟨c, 0, none⟩ = some x ∧ w.cell? ⟨c, 1, none⟩ = some y ∧ w.cell? ⟨c, 2, none⟩ = some z ∧ w.cell? ⟨c, 3, none⟩ = some u :=
  ⟨h.p2.rawCell 0, h.p2.rawCell 1, h.p2.rawCell 2, h.p2.rawCell 3⟩

end Go.Proofs.Ytombolmicfjjpaa

/- Topics, read by definition: what is called. -/
namespace Go.Proofs.Ytombolmicfjjpaa
open Go.RowKit

theorem intsB_snoc : ∀ (k : Nat) (s : Bs), intsB (k + 1) s = intsB k s ++ [sInt ((s.drop (4 * k)).take 4)]
  | 0, s => by simp [intsB]
  | k + 1, s => by
    have e : 4 * (k + 1) = 4 + 4 * k := by omega
    show sInt (s.take 4) :: intsB (k + 1) (s.drop 4) = (sInt (s.take 4) :: intsB k (s.drop 4)) ++ [sInt ((s.drop (4 * (k + 1))).take 4)]
    rw [intsB_snoc k (s.drop 4), List.drop_drop, List.cons_append, e]
theorem takeEnd (s : Bs) (p : Nat) : List.take (s.length - p) (List.drop p s) = s.drop p := List.take_of_length_le (by rw [List.length_drop]; omega)
theorem ref14_countT (t X : Bs) (ht : t = X) (each : Nat) (ei : Int) (hei : ei = each) (he : 0 < each) (he2 : each ≤ 100) (hs : X.length ≤ 1000000) (n : Nat) (E : Int) (hr : cntR each X = (n, E)) {W0 w : World} {K : Know} {L : List Res} (h : St W0 w K L) :
    Calls Try.prog 80 #[.string (bb t), .int .i64 ei] w fun en w' => en = .returned (.tuple #[.int .i64 n, .int .i64 E]) ∧ St W0 w' K L := by
  subst ht; exact ref14_count t each ei hei he he2 hs n E hr h
theorem ref04_fixErr (t X : Bs) (e : Int) (ht : t = X) (hs : X.length ≤ 140737488355328) (hv : refixed 2 X = .error e) {W0 w : World} {K : Know} {L : List Res} (h : St W0 w K L) :
    Calls Try.prog 81 #[.string (bb t), .int .i64 2] w fun en w' => en = .returned (.agg #[.bool false, .string ⟨#[]⟩, .int .i64 0, .int .i64 e]) ∧ St W0 w' K L := by
  subst ht
  have := ref04_readFixed t 2 hs (by decide) h
  rw [gotV_errT hv] at this
  exact this
theorem ref04_fixOk (t X : Bs) (nl : Bool) (d : Bs) (k : Nat) (ht : t = X) (hs : X.length ≤ 140737488355328) (hv : refixed 2 X = .ok (⟨nl, d⟩, k)) {W0 w : World} {K : Know} {L : List Res} (h : St W0 w K L) :
    Calls Try.prog 81 #[.string (bb t), .int .i64 2] w fun en w' => en = .returned (.agg #[.bool nl, .string (bb d), .int .i64 k, .int .i64 0]) ∧ St W0 w' K L := by
  subst ht
  have := ref04_readFixed t 2 hs (by decide) h
  rw [gotV_okT hv] at this
  exact this
theorem sr_intT (t X : Bs) (ht : t = X) (a : Int) (ha : sInt X = a) (hs : X.length ≤ 8) {W0 w : World} {K : Know} {L : List Res} (h : St W0 w K L) :
    Calls Try.prog 76 #[.string (bb t)] w fun en w' => en = .returned (.int .i64 a) ∧ St W0 w' K L := by
  subst ht; exact sr_intV t a ha hs h

end Go.Proofs.Ytombolmicfjjpaa

/- A whole value stored into a block of one's own. -/
namespace Go.Proofs.Ytombolmicfjjpaa
open Go.RowKit

def setAll : Array Value → Nat → List Value → Array Value
  | c, _, [] => c
  | c, o, v :: r => setAll (c.setIfInBounds o v) (o + 1) r
theorem St.there {W0 w : World} {K : Know} {L : List Res} {b : Nat} {c : Array Value} {T : TypeId} (h : St W0 w K (.raw b c T :: L)) : w.there b 0 c.size := fun j hj => by
  rw [Nat.zero_add]
  exact ⟨by rw [h.rawCell j, Array.getElem?_eq_getElem hj]; rfl, h.rawFree j⟩
theorem St.rawSets {W0 : World} {K : Know} {L : List Res} {b : Nat} {T : TypeId} : ∀ (vs : List Value) (o : Nat) (c : Array Value) (w : World), St W0 w K (.raw b c T :: L) → St W0 (w.setCells b o vs) K (.raw b (setAll c o vs) T :: L)
  | [], _, _, _, h => h
  | v :: r, o, _, _, h => St.rawSets r (o + 1) _ _ (h.rawSet o v)
/-- A whole value stored into a block of one's own, the new world under a name. -/
theorem St.storeEx {W0 w : World} {K : Know} {L : List Res} {b : Nat} {c : Array Value} {T : TypeId} (h : St W0 w K (.raw b c T :: L)) (cs : Array Value) : ∃ wz, w.setCells b 0 cs.toList = wz ∧ St W0 wz K (.raw b (setAll c 0 cs.toList) T :: L) := ⟨_, rfl, h.rawSets _ _ _ _⟩
theorem St.allocEx {W0 w : World} {K : Know} {L : List Res} (h : St W0 w K L) (c : Array Value) (T : TypeId) : ∃ wy b, w.alloc (.cells c T (0, 0)) = wy ∧ w.heap.size = b ∧ St W0 wy K (.raw b c T :: L) := ⟨_, _, rfl, rfl, h.allocRaw c T⟩

end Go.Proofs.Ytombolmicfjjpaa

/- Operations of regions that draw their order. -/
namespace Go.Proofs.Ytombolmicfjjpaa
open Go.RowKit

theorem op_value {P : Program} {o : Oper} {a : Act} {w w' : World} {v : Value} {KK : Act → World → Prop} {Q : Exit → Act → World → Prop} (hr : (execOp a.eval o).run P w = .ok (.value v) w') (h : KK (a.put o.dst v) w') : o.wp P a w KK Q := by
  unfold Oper.wp
  rw [hr]
  exact h
/-- One element appended, which lies in a block of one's own, inside a region that draws its order. -/
theorem op_app1 {W0 w : World} {K : Know} {L : List Res} {o : Oper} {a : Act} {KK : Act → World → Prop} {Q : Exit → Act → World → Prop} (sl x : Operand) (t : TypeId)
    (ho : o.op = .call { callee := .builtin .append, args := #[sl, x], argTypes := #[t, t] })
    (e : TypeId) {z : Value} {size bytes : Nat} (ht : Try.prog.underlying t = some (.slice e)) (he : ElemT Try.prog e z size bytes)
    (v : Value) (n : Nat) (xs : List Value) (hs : a.eval sl = v) (bS : Nat) (cs : Array Value) (T : TypeId) (hst : St W0 w K (.raw bS cs T :: .row v e size n xs :: L))
    (hx : a.eval x = .slice (some ⟨bS, 0, none⟩) 1 1) (hl : cs.toList.length = size) (h1 : ∀ u ∈ cs.toList, u.oneCell' = true)
    (h63 : n + 1 ≤ maxLen) (hbytes : (n + 1) * bytes ≤ 140737488355328)
    (h : ∀ v' w', St W0 w' K (.row v' e size (n + 1) (xs ++ cs.toList) :: L) → KK (a.put o.dst v') w') : o.wp Try.prog a w KK Q := by
  have hc := hst.rawCell
  have hst2 := hst.p1
  obtain ⟨⟨i, g1, g2, g3, g4⟩, g5, g6⟩ := he
  obtain ⟨v', w', hr, h2, h3, h4⟩ := app_val (P := Try.prog) w t o.type e i z size bytes ht g1 g2 g3 g4 g5 g6 v n xs hst2.rowGet ⟨bS, 0, none⟩ 1 1 cs.toList (by omega) (fun j u hj => by
    have ha : (⟨bS, 0, none⟩ : Addr).add j = ⟨bS, j, none⟩ := by unfold Addr.add; split <;> simp_all
    rw [ha, hc j]
    simpa using hj) h1 h63 hbytes
  unfold Oper.wp execOp
  simp only [ho, resolve, invoke, builtin, Sem.run_bind, Sem.run_pure, Result.andThen_ok, List.map_toArray, List.map_cons, List.map_nil, hs, hx, hr]
  exact h v' w' (hst2.rowGrown h2 h3 h4).p1.drop
theorem op_skip {P : Program} {o : Oper} {a : Act} {w w' : World} {KK : Act → World → Prop} {Q : Exit → Act → World → Prop} (hr : (execOp a.eval o).run P w = .ok .skip w') (h : KK (a.put o.dst undef) w') : o.wp P a w KK Q := by
  unfold Oper.wp
  rw [hr]
  exact h
theorem St.setEx {W0 w : World} {K : Know} {L : List Res} {b : Nat} {c : Array Value} {T : TypeId} (h : St W0 w K (.raw b c T :: L)) (j : Nat) (v : Value) : ∃ wz, w.setCell ⟨b, j, none⟩ v = wz ∧ St W0 wz K (.raw b (c.setIfInBounds j v) T :: L) := ⟨_, rfl, h.rawSet j v⟩

end Go.Proofs.Ytombolmicfjjpaa
