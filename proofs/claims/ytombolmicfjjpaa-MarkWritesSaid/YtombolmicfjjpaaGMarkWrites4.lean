/- Batches (pure): rows. -/
import Derived.Test.YtombolmicfjjpaaGMarkWrites2
import Derived.Test.YtombolmicfjjpaaGMarkWrites3
import Derived.Test.YtombolmicfjjpaaGMarkWrites1
import Derived.Test.YtombolmicfjjpaaBlob1
import Derived.Test.YtombolmicfjjpaaRef04
import Derived.Test.YtombolmicfjjpaaKeyP
import Derived.Test.YtombolmicfjjpaaBlob2
import Derived.Test.YtombolmicfjjpaaBlobP
import Derived.Test.YtombolmicfjjpaaRec1
import Derived.Test.YtombolmicfjjpaaRecP
/- Values, checked. -/
namespace Go.Proofs.Ytombolmicfjjpaa
open Go.RowKit

theorem tRise_nil : tRise [] = true := rfl
theorem idle_0 : idle 0 = true := rfl
theorem val_check (v : ValS) (l : List (TopS × Value)) (q : Option Addr) (cap : Nat) (hl : l.map (·.1) = v.tops) (E : Int) (he : v.err = E) (hf : FewT l) {W0 w : World} {K : Know} {L : List Res} (hk : K.has (Know.tops (.slice q l.length cap) l)) (h : St W0 w K L) :
    Calls Try.prog 17 #[.agg #[.int .i64 v.prod, .int .i64 v.epoch, .int .i64 v.timeout, .int .i64 v.state, .slice q l.length cap, .int .i64 v.upd, .int .i64 v.started]] w fun en w' => en = .returned (.int .i64 E) ∧ St W0 w' K L := by
  obtain ⟨p, e, t, s, tops, u, st⟩ := v
  simp only at hl ⊢
  subst hl
  unfold ValS.err ValS.ranged at he
  simp only at he
  cases hrg : (decide (0 ≤ p) && (decide (0 ≤ e) && (decide (e ≤ 32767) && (decide (0 ≤ t) && (decide (t ≤ 2147483647) && (decide (0 ≤ u) && decide (-1 ≤ st))))))) with
  | false =>
    rw [if_pos hrg] at he
    subst he
    exact val_check_11 p e t s u st l q cap hrg hf hk h
  | true =>
    rw [if_neg (by rw [hrg]; decide)] at he
    by_cases hs : s < 0 ∨ 7 ≤ s
    · rw [if_pos hs] at he
      subst he
      exact val_check_12 p e t s u st l q cap hrg hs hf hk h
    · rw [if_neg hs] at he
      have s1 : 0 ≤ s := by omega
      have s2 : s < 7 := by omega
      have hemp : (l.map (·.1)).isEmpty = decide (l = []) := by cases l <;> simp
      rw [hemp] at he
      by_cases hem : l = []
      · rw [decide_eq_true hem] at he
        cases hi : idle s with
        | false =>
          rw [if_pos (.inl (by rw [hi]; rfl))] at he
          subst he
          subst hem; exact val_check_10e p e t s u st q cap hrg s1 s2 hi hf hk h
        | true =>
          by_cases h1 : s = 0
          · by_cases h2 : st = -1
            · rw [if_neg (by rw [hi, h1, h2]; decide)] at he
              have htr : tRise (l.map (·.1)) = true := by rw [hem]; rfl
              rw [if_neg (by rw [htr]; decide)] at he
              subst he
              subst hem; exact val_check_e11t p e t s u st q cap hrg s1 s2 hi h1 h2 htr hf hk h
            · rw [if_pos (.inr (by rw [h1, beq_eq_false_iff_ne.2 h2]; rfl))] at he
              subst he
              subst hem; exact val_check_e10 p e t s u st q cap hrg s1 s2 hi h1 h2 hf hk h
          · by_cases h2 : st = -1
            · rw [if_pos (.inr (by rw [h2, beq_eq_false_iff_ne.2 h1]; rfl))] at he
              subst he
              subst hem; exact val_check_e01 p e t s u st q cap hrg s1 s2 hi h1 h2 hf hk h
            · rw [if_neg (by rw [hi, beq_eq_false_iff_ne.2 h1, beq_eq_false_iff_ne.2 h2]; decide)] at he
              have htr : tRise (l.map (·.1)) = true := by rw [hem]; rfl
              rw [if_neg (by rw [htr]; decide)] at he
              subst he
              subst hem; exact val_check_e00t p e t s u st q cap hrg s1 s2 hi h1 h2 htr hf hk h
      · rw [decide_eq_false hem] at he
        cases hi : idle s with
        | true =>
          rw [if_pos (.inl (by rw [hi]; rfl))] at he
          subst he
          exact val_check_10f p e t s u st l q cap hrg s1 s2 hi hem hf hk h
        | false =>
          have h1 : ¬ s = 0 := by rintro rfl; rw [idle_0] at hi; cases hi
          by_cases h2 : st = -1
          · rw [if_pos (.inr (by rw [h2, beq_eq_false_iff_ne.2 h1]; rfl))] at he
            subst he
            exact val_check_f01 p e t s u st l q cap hrg s1 s2 hi hem h1 h2 hf hk h
          · rw [if_neg (by rw [hi, beq_eq_false_iff_ne.2 h1, beq_eq_false_iff_ne.2 h2]; decide)] at he
            cases htr : tRise (l.map (·.1)) with
            | true =>
              rw [if_neg (by rw [htr]; decide)] at he
              subst he
              exact val_check_f00t p e t s u st l q cap hrg s1 s2 hi hem h1 h2 htr hf hk h
            | false =>
              rw [if_pos htr] at he
              subst he
              exact val_check_f00b p e t s u st l q cap hrg s1 s2 hi hem h1 h2 htr hf hk h

end Go.Proofs.Ytombolmicfjjpaa

/- Numbers and texts, written. -/
namespace Go.Proofs.Ytombolmicfjjpaa
open Go.RowKit

theorem fits_rng (n size : Int) (h : fits n size) : -9223372036854775808 ≤ n ∧ n < 9223372036854775808 := by
  obtain ⟨h1, h2, h3, h4⟩ := h
  unfold half at h3 h4
  rcases (by omega : size.toNat - 1 = 0 ∨ size.toNat - 1 = 1 ∨ size.toNat - 1 = 2 ∨ size.toNat - 1 = 3 ∨ size.toNat - 1 = 4 ∨ size.toNat - 1 = 5 ∨ size.toNat - 1 = 6 ∨ size.toNat - 1 = 7) with h | h | h | h | h | h | h | h <;> rw [h] at h3 h4 <;> omega
theorem so_intV (p : Nat) (e e2 : Bs) (n size : Int) (he : e ++ beBytes n size.toNat = e2) (hf : fits n size) (hl : e.length ≤ 100000000000000) {W0 w : World} {K : Know} {L : List Res} (h : St W0 w K (.out p ⟨e, 0⟩ :: L)) :
    Calls Try.prog 69 #[outPtr p, .int .i64 n, .int .i64 size] w fun en w' => en = .returned (.tuple #[]) ∧ St W0 w' K (.out p ⟨e2, 0⟩ :: L) := by
  have h2 := so_int p ⟨e, 0⟩ n size (fits_rng n size hf) h (by unfold OutS.ok; simp only; omega)
  have e3 : (⟨e, 0⟩ : OutS).int n size = ⟨e2, 0⟩ := by unfold OutS.int; rw [if_pos hf, ← he]; rfl
  rw [e3] at h2
  exact h2
theorem blob_putTextV (p : Nat) (e e2 s : Bs) (he : e ++ encF 2 ⟨false, s⟩ = e2) (hs : s.length ≤ 32767) (hl : e.length ≤ 100000000000000) {W0 w : World} {K : Know} {L : List Res} (h : St W0 w K (.out p ⟨e, 0⟩ :: L)) :
    Calls Try.prog 86 #[outPtr p, .string (bb s)] w fun en w' => en = .returned (.tuple #[]) ∧ St W0 w' K (.out p ⟨e2, 0⟩ :: L) := by
  have h2 := blob_putText p ⟨e, 0⟩ s h (by unfold OutS.ok; simp only; omega)
  have hf : fits (⟨false, s⟩ : BlobS).len 2 := vfits2 _ (by show -32768 ≤ (s.length : Int) ∧ (s.length : Int) < 32768; omega)
  have e3 : (⟨e, 0⟩ : OutS).putText s = ⟨e2, 0⟩ := by
    show ((⟨e, 0⟩ : OutS).int (⟨false, s⟩ : BlobS).len 2).putData ⟨false, s⟩ = _
    unfold OutS.int
    rw [if_pos hf, ← he]
    show (⟨(e ++ beBytes (⟨false, s⟩ : BlobS).len 2) ++ s, 0⟩ : OutS) = _
    rw [List.append_assoc]
    rfl
  rw [e3] at h2
  exact h2
theorem sr_bytesV (n size : Int) (k : Nat) (hs : size = k) (hk : k ≤ 8) (r : Bs) (hr : beBytes n k = r) (hn : -9223372036854775808 ≤ n ∧ n < 9223372036854775808) {W0 w : World} {K : Know} {L : List Res} (h : St W0 w K L) :
    Calls Try.prog 75 #[.int .i64 n, .int .i64 size] w fun en w' => en = .returned (.string (bb r)) ∧ St W0 w' K L := by
  subst hr hs
  exact sr_bytes n k (by omega) hn h
theorem ref04_fixedV (s r : Bs) (hr : encF 2 ⟨false, s⟩ = r) (hs : s.length ≤ 32767) {W0 w : World} {K : Know} {L : List Res} (h : St W0 w K L) :
    Calls Try.prog 87 #[.agg #[.bool false, .string (bb s)], .int .i64 2] w fun en w' => en = .returned (.string (bb r)) ∧ St W0 w' K L := by
  subst hr
  exact ref04_fixed ⟨false, s⟩ 2 (by simp only; omega) (by decide) h

end Go.Proofs.Ytombolmicfjjpaa

/- Topics, written. -/
namespace Go.Proofs.Ytombolmicfjjpaa
open Go.RowKit

set_option maxHeartbeats 2000000 in
set_option maxRecDepth 100000 in
theorem val_putTopics (po : Nat) (e e2 : Bs) (l : List (TopS × Value)) (q : Option Addr) (cap : Nat) (he : e ++ encTs (l.map (·.1)) = e2) (hel : e.length ≤ 1000000) (hf : FitTs (l.map (·.1))) {W0 w : World} {K : Know} {L : List Res} (hk : K.has (Know.tops (.slice q l.length cap) l)) (h : St W0 w K (.out po ⟨e, 0⟩ :: L)) :
    Calls Try.prog 31 #[outPtr po, .slice q l.length cap] w fun en w' => en = .returned (.tuple #[]) ∧ St W0 w' K (.out po ⟨e2, 0⟩ :: L) := by
  have H := Lib.hid h
  have HK := Lib.hid hk
  have HE := Lib.hid he
  have HEL := Lib.hid hel
  have HF := Lib.hid hf
  have hni : (l.length : Int) ≤ 1000000 := by have := hf.1; rw [List.length_map] at this; omega
  obtain ⟨A, hA⟩ : ∃ A, e ++ preT (l.map (·.1)) 0 = A := ⟨_, rfl⟩
  have HA := Lib.hid (show e ++ beBytes (l.length : Int) (4 : Int).toNat = A by rw [← hA, preT_zero, List.length_map]; rfl)
  have HFL := Lib.hid (vfits4 (l.length : Int) (by omega))
  have HR0 := Lib.hid (show e.length ≤ 100000000000000 by omega)
  clear h hk he hel hf
  go_enter Try.func31, Try.ntmps31
  go_wp2_with (go_at_call 69; (with_reducible refine (so_intV po _ _ _ _ HA.out HFL.out HR0.out H.out).mono ?_); rintro e_ wn ⟨rfl, h⟩; replace H := Lib.hid h; clear h)
  go_loopw [5, 7, 14, 30] (fun _ _ iv _ wr => ∃ k : Nat, k ≤ l.length ∧ iv = .int .i64 k ∧ St W0 wr K (.out po ⟨e ++ preT (l.map (·.1)) k, 0⟩ :: L)) (fun _ _ iv _ _ => l.length - (intOf iv).toNat)
  case atStart => exact ⟨0, Nat.zero_le _, rfl, by rw [hA]; exact H.out⟩
  case round =>
    obtain ⟨k, hkl, rfl, hst⟩ := hrel
    clear H hA
    have H := Lib.hid hst
    clear hst
    by_cases hlt : k < l.length
    · as_aux_lemma =>
      obtain ⟨b, off, hqq⟩ := tops_at HK.out H.out (by omega)
      subst hqq
      obtain ⟨⟨⟨nm, ps⟩, vx⟩, hx⟩ : ∃ x, l[k] = x := ⟨_, rfl⟩
      obtain ⟨c0, c1⟩ : wr.cell? ⟨b, off + k * 2, none⟩ = some (.string (bb nm)) ∧ wr.cell? ⟨b, off + k * 2 + 1, none⟩ = some vx := tops_cell HK.out H.out k hlt _ hx
      have hmem : ((⟨nm, ps⟩ : TopS), vx) ∈ l := hx ▸ List.getElem_mem hlt
      have hxk : K.has (Know.flat RI vx 1 ps) := tops_parts HK.out hmem
      obtain ⟨qx, capx, hvx⟩ := flat_form hxk H.out
      subst hvx
      have HXK := Lib.hid hxk
      have hmk : k < (l.map (·.1)).length := by rw [List.length_map]; exact hlt
      have hmg : (l.map (·.1))[k] = ⟨nm, ps⟩ := by rw [List.getElem_map, hx]
      have hfx : (⟨nm, ps⟩ : TopS).Fit := HF.out.2 _ (hmg ▸ List.getElem_mem hmk)
      have HNM := Lib.hid hfx.1
      have HPL := Lib.hid hfx.2.1
      have HPS := Lib.hid hfx.2.2
      have hkn : (k : Int) < (l.length : Int) := by omega
      have hnl : (nm.length : Int) ≤ 32767 := by have := hfx.1; simp only at this; omega
      have hpl : (ps.length : Int) ≤ 1000000 := by have := hfx.2.1; simp only at this; omega
      have hst1 := preT_step (l.map (·.1)) k hmk _ hmg
      have hle1 := preT_le (l.map (·.1)) HF.out (k + 1) hmk
      have hln : (l.map (·.1)).length ≤ 1000000 := HF.out.1
      simp only at hst1
      have hel := HEL.out
      obtain ⟨tb, htb⟩ : ∃ b, wr.heap.size = b := ⟨_, rfl⟩
      have h := (H.out.allocRaw #[.string (bb nm), .slice qx ps.length capx] 51).p1
      rw [htb] at h
      have t0 := h.p1.rawCell 0
      have t1 := h.p1.rawCell 1
      simp at t0 t1
      obtain ⟨B0, hB0⟩ : ∃ B, e ++ preT (l.map (·.1)) k = B := ⟨_, rfl⟩
      obtain ⟨B1, hB1⟩ : ∃ B, B0 ++ encF 2 ⟨false, nm⟩ = B := ⟨_, rfl⟩
      obtain ⟨B2, hB2⟩ : ∃ B, B1 ++ beBytes (ps.length : Int) 4 = B := ⟨_, rfl⟩
      have HB3 := Lib.hid (show e ++ preT (l.map (·.1)) (k + 1) = B2 ++ be4s ps by rw [hst1, ← hB2, ← hB1, ← hB0]; simp only [List.append_assoc])
      have hlen : (B2 ++ be4s ps).length ≤ 100000000000000 := by
        rw [← HB3.out, List.length_append]
        omega
      have hl0 : B0.length ≤ 100000000000000 ∧ B1.length ≤ 100000000000000 ∧ B2.length + 4 * ps.length ≤ 100000000000000 := by
        rw [List.length_append, be4s_len] at hlen
        rw [← hB2, List.length_append] at hlen ⊢
        rw [← hB1, List.length_append] at hlen ⊢
        omega
      rw [hB0] at h
      have HB1 := Lib.hid hB1
      have HB2 := Lib.hid (show B1 ++ beBytes (ps.length : Int) (4 : Int).toNat = B2 from hB2)
      have HL0 := Lib.hid hl0
      have HFP := Lib.hid (vfits4 (ps.length : Int) (by omega))
      have hp0 : ps = [] ∨ ∃ pb poff, qx = some ⟨pb, poff, none⟩ := by
        by_cases hps : ps = []
        · exact .inl hps
        · exact .inr (flat_at HXK.out H.out (List.length_pos_iff.2 hps))
      have HP0 := Lib.hid hp0
      clear H
      have H := Lib.hid h
      clear h hx hmem hxk hmk hmg hfx hst1 hle1 hln hel hB0 hB1 hB2 hlen hl0 hp0
      go_wp2_with (first
    | (go_at_call 86; (with_reducible refine (blob_putTextV po B0 B1 nm HB1.out HNM.out HL0.out.1 H.out).mono ?_); rintro e_ wn ⟨rfl, h⟩; have t0 := h.p1.rawCell 0; have t1 := h.p1.rawCell 1; simp at t0 t1; replace H := Lib.hid h; clear h)
    | (go_at_call 69; (with_reducible refine (so_intV po B1 B2 _ _ HB2.out HFP.out HL0.out.2.1 H.out).mono ?_); rintro e_ wn ⟨rfl, h⟩; have t0 := h.p1.rawCell 0; have t1 := h.p1.rawCell 1; simp at t0 t1; replace H := Lib.hid h; clear h))
      clear t0 t1
      go_loopw [7, 30] (fun _ jv wr => ∃ j : Nat, j ≤ ps.length ∧ jv = .int .i64 j ∧ St W0 wr K (.out po ⟨B2 ++ be4s (ps.take j), 0⟩ :: .raw tb #[.string (bb nm), .slice qx ps.length capx] 51 :: L)) (fun _ jv _ => ps.length - (intOf jv).toNat)
      case atStart => exact ⟨0, Nat.zero_le _, rfl, by rw [List.take_zero]; show St W0 _ K (.out po ⟨B2 ++ [], 0⟩ :: _); rw [List.append_nil]; exact H.out⟩
      case round =>
        obtain ⟨j, hjl, rfl, hst⟩ := hrel
        clear H
        have H := Lib.hid hst
        clear hst
        by_cases hlj : j < ps.length
        · have hps : ¬ ps = [] := by rintro rfl; simp at hlj
          rcases HP0.out with hps2 | ⟨pb, poff, hq⟩
          · exact absurd hps2 hps
          subst hq
          have d0 := int_cell HXK.out H.out j hlj
          obtain ⟨x, hx⟩ : ∃ x, ps.getD j 0 = x := ⟨_, rfl⟩
          rw [hx] at d0
          have hxr := HPS.out x (hx ▸ getD_mem ps j hlj)
          have hst := be4s_step ps j hlj x hx
          obtain ⟨C, hC⟩ : ∃ C, B2 ++ be4s (ps.take j) = C := ⟨_, rfl⟩
          have h := H.out
          rw [hC] at h
          have HC2 := Lib.hid (show C ++ beBytes x (4 : Int).toNat = B2 ++ be4s (ps.take (j + 1)) by rw [hst, ← hC, List.append_assoc]; rfl)
          have HCL := Lib.hid (show C.length ≤ 100000000000000 by
            rw [← hC, List.length_append, be4s_len, List.length_take]
            have := HL0.out.2.2
            omega)
          have HFX := Lib.hid (vfits4 x hxr)
          have hji : (j : Int) < (ps.length : Int) := by omega
          clear H
          have H := Lib.hid h
          clear h hC hst hx hps hxr
          go_wp2_with (go_at_call 69; (with_reducible refine (so_intV po C _ x _ HC2.out HFX.out HCL.out H.out).mono ?_); rintro e_ wn ⟨rfl, h⟩; replace H := Lib.hid h; clear h)
          go_roundw
          case rel => exact ⟨j + 1, hlj, by go_num, H.out⟩
          case measure => first | (simp [intOf]; done) | (simp [intOf]; omega)
        · obtain rfl : j = ps.length := by omega
          have h := H.out
          rw [List.take_length, ← HB3.out] at h
          clear H
          have H := Lib.hid h
          clear h
          go_wp2
          go_roundw
          case rel => exact ⟨k + 1, hlt, by go_num, H.out.p1.drop⟩
          case measure => first | (simp [intOf]; done) | (simp [intOf]; omega)
    · obtain rfl : k = l.length := by omega
      have h := H.out
      rw [show preT (l.map (·.1)) l.length = encTs (l.map (·.1)) by rw [← preT_all, List.length_map], HE.out] at h
      clear H
      have H := Lib.hid h
      clear h
      go_wp2
      go_end0
      exact ⟨rfl, H.out⟩

end Go.Proofs.Ytombolmicfjjpaa

/- Values that may be (pure). -/
namespace Go.Proofs.Ytombolmicfjjpaa
open Go.RowKit

theorem ValS.ok_parts (v : ValS) (h : v.err = 0) : v.ranged = true ∧ (0 ≤ v.state ∧ v.state < 7) ∧ idle v.state = v.tops.isEmpty ∧ (v.state == 0) = (v.started == -1) ∧ tRise v.tops = true := by
  unfold ValS.err at h
  by_cases h1 : v.ranged = false
  · rw [if_pos h1] at h; cases h
  · rw [if_neg h1] at h
    by_cases h2 : v.state < 0 ∨ 7 ≤ v.state
    · rw [if_pos h2] at h; cases h
    · rw [if_neg h2] at h
      by_cases h3 : (idle v.state != v.tops.isEmpty) = true ∨ ((v.state == 0) != (v.started == -1)) = true
      · rw [if_pos h3] at h; cases h
      · rw [if_neg h3] at h
        by_cases h4 : tRise v.tops = false
        · rw [if_pos h4] at h; cases h
        · refine ⟨by cases hh : v.ranged with
            | true => rfl
            | false => exact absurd hh h1, by omega, ?_, ?_, by cases hh : tRise v.tops with
            | true => rfl
            | false => exact absurd hh h4⟩
          · have := fun h => h3 (.inl h)
            simpa using this
          · have := fun h => h3 (.inr h)
            simpa using this
theorem ranged_parts (v : ValS) (h : v.ranged = true) : 0 ≤ v.prod ∧ (0 ≤ v.epoch ∧ v.epoch ≤ 32767) ∧ (0 ≤ v.timeout ∧ v.timeout ≤ 2147483647) ∧ 0 ≤ v.upd ∧ -1 ≤ v.started := by
  unfold ValS.ranged at h
  simp only [Bool.and_eq_true, decide_eq_true_eq] at h
  omega
theorem pRise_rng (l : List Int) (h : pRise l = true) : ∀ n ∈ l, 0 ≤ n ∧ n ≤ 2147483647 := by
  intro n hn
  obtain ⟨i, hi, rfl⟩ := List.mem_iff_getElem.1 hn
  have hne : l ≠ [] := by rintro rfl; simp at hi
  rw [pRise_pk l hne] at h
  have h2 := allN_at h i hi
  unfold pk at h2
  rw [Bool.and_eq_true] at h2
  have h3 := of_decide_eq_true h2.1
  rw [List.getD_eq_getElem?_getD, List.getElem?_eq_getElem hi] at h3
  exact h3
theorem fit_of_rise (l : List (TopS × Value)) (hf : FewT l) (h : tRise (l.map (·.1)) = true) : FitTs (l.map (·.1)) := by
  unfold tRise at h
  rw [Bool.and_eq_true] at h
  refine ⟨by rw [List.length_map]; exact hf.1, fun t ht => ?_⟩
  have h2 := List.all_eq_true.1 h.1 t ht
  unfold tOk at h2
  simp only [Bool.and_eq_true, decide_eq_true_eq] at h2
  obtain ⟨x, hx, rfl⟩ := List.mem_map.1 ht
  have h3 := pRise_rng _ h2.2
  exact ⟨h2.1.2, (hf.2 x hx).2, fun n hn => by have := h3 n hn; omega⟩
/-- The numbers of a value are such as there can be. -/
def ValS.R (v : ValS) : Prop := (-9223372036854775808 ≤ v.prod ∧ v.prod < 9223372036854775808) ∧ (-9223372036854775808 ≤ v.epoch ∧ v.epoch < 9223372036854775808) ∧ (-9223372036854775808 ≤ v.timeout ∧ v.timeout < 9223372036854775808) ∧ (-9223372036854775808 ≤ v.state ∧ v.state < 9223372036854775808) ∧ (-9223372036854775808 ≤ v.upd ∧ v.upd < 9223372036854775808) ∧ (-9223372036854775808 ≤ v.started ∧ v.started < 9223372036854775808)
theorem so_textV (p : Nat) (e : Bs) {W0 w : World} {K : Know} {L : List Res} (h : St W0 w K (.out p ⟨e, 0⟩ :: L)) :
    Calls Try.prog 32 #[outPtr p] w fun en w' => en = .returned (.tuple #[.string (bb e), .int .i64 0]) ∧ St W0 w' K (.out p ⟨e, 0⟩ :: L) := so_text p ⟨e, 0⟩ h
theorem val_checkV (p e t s u st : Int) (l : List (TopS × Value)) (q : Option Addr) (cap : Nat) (E : Int) (he : ValS.err ⟨p, e, t, s, l.map (·.1), u, st⟩ = E) (hf : FewT l) {W0 w : World} {K : Know} {L : List Res} (hk : K.has (Know.tops (.slice q l.length cap) l)) (h : St W0 w K L) :
    Calls Try.prog 17 #[.agg #[.int .i64 p, .int .i64 e, .int .i64 t, .int .i64 s, .slice q l.length cap, .int .i64 u, .int .i64 st]] w fun en w' => en = .returned (.int .i64 E) ∧ St W0 w' K L := val_check ⟨p, e, t, s, l.map (·.1), u, st⟩ l q cap rfl E he hf hk h

end Go.Proofs.Ytombolmicfjjpaa

/- Values, read (pure). -/
namespace Go.Proofs.Ytombolmicfjjpaa
open Go.RowKit

def ValS.z : ValS := ⟨0, 0, 0, 0, [], 0, 0⟩
def InS.valF (i : InS) : ValS × InS :=
  let a := i.int 8
  let b := a.2.int 2
  let c := b.2.int 4
  let d := c.2.int 1
  let e := d.2.tops
  let f := e.2.int 8
  let g := f.2.int 8
  (⟨a.1, b.1, c.1, d.1, e.1, f.1, g.1⟩, g.2)
theorem valF_eq {i i1 i2 i3 i4 i5 i6 i7 : InS} {p e t s u st : Int} {l : List TopS} (h1 : i.int 8 = (p, i1)) (h2 : i1.int 2 = (e, i2)) (h3 : i2.int 4 = (t, i3)) (h4 : i3.int 1 = (s, i4)) (h5 : i4.tops = (l, i5)) (h6 : i5.int 8 = (u, i6)) (h7 : i6.int 8 = (st, i7)) : i.valF = (⟨p, e, t, s, l, u, st⟩, i7) := by
  unfold InS.valF
  simp only [h1, h2, h3, h4, h5, h6, h7]
def decI (s : Bs) : InS := if ((⟨s, 0, 0⟩ : InS).int 2).1 = 0 then ((⟨s, 0, 0⟩ : InS).int 2).2 else ((⟨s, 0, 0⟩ : InS).int 2).2.fail 7
def decE (s : Bs) : Int := (decI s).valF.2.close.err
def valDec (s : Bs) : ValS × Int := if decE s ≠ 0 then (ValS.z, decE s) else if (decI s).valF.1.err ≠ 0 then (ValS.z, (decI s).valF.1.err) else ((decI s).valF.1, 0)
/-- Within its bytes. -/
def InS.At (s : Bs) (i : InS) : Prop := i.s = s ∧ i.pos ≤ s.length
theorem At.int {s : Bs} {i : InS} (h : i.At s) (k : Int) : (i.int k).2.At s := by
  obtain ⟨rfl, h⟩ := h
  unfold InS.int
  split
  · unfold InS.fail; split
    · exact ⟨rfl, h⟩
    · exact ⟨rfl, h⟩
  · unfold InS.take
    split
    · exact ⟨rfl, h⟩
    · split
      · exact ⟨rfl, h⟩
      · split
        · exact ⟨rfl, h⟩
        · rename_i h1 h2 h3
          refine ⟨rfl, ?_⟩
          simp only [InS.left] at h3
          show i.pos + k.toNat ≤ i.s.length
          omega
theorem At.fail {s : Bs} {i : InS} (h : i.At s) (e : Int) : (i.fail e).At s := by
  unfold InS.fail
  split
  · exact ⟨h.1, h.2⟩
  · exact h
theorem intsB_len : ∀ (n : Nat) (s : Bs), (intsB n s).length = n
  | 0, _ => rfl
  | n + 1, s => by show (intsB n (s.drop 4)).length + 1 = _; rw [intsB_len n]
def FewL (l : List TopS) : Prop := l.length ≤ 1000000 ∧ ∀ t ∈ l, t.name.length ≤ 140737488355328 ∧ t.parts.length ≤ 1000000
theorem partsP_few {s : Bs} {l : List Int} {n : Nat} (h : partsP s = .ok (l, n)) (hs : s.length ≤ 1000000) : l.length ≤ 1000000 := by
  unfold partsP at h
  cases h1 : cntP 4 s with
  | error e => rw [h1] at h; cases h
  | ok x =>
    rw [h1] at h
    cases h
    have h2 := (cntP_ok (n := x.1) (k := x.2) (by decide) h1).2.1
    rw [intsB_len]
    omega
theorem textP_few {s : Bs} {d : Bs} {n : Nat} (h : textP s = .ok (d, n)) : d.length ≤ s.length := by
  unfold textP at h
  cases h1 : refixed 2 s with
  | error e => rw [h1] at h; cases h
  | ok x =>
    rw [h1] at h
    simp only at h
    split at h
    · cases h
    · cases h
      unfold refixed gotS at h1
      split at h1
      · cases h1
      · split at h1
        · cases h1; simp [BlobS.none]
        · split at h1
          · cases h1
          · split at h1
            · cases h1
            · cases h1
              simp only [List.length_take, List.length_drop]
              omega
theorem topN_few : ∀ (n : Nat) (s : Bs) (l : List TopS) (k : Nat), topN n s = .ok (l, k) → s.length ≤ 1000000 → l.length = n ∧ ∀ t ∈ l, t.name.length ≤ 140737488355328 ∧ t.parts.length ≤ 1000000
  | 0, s, l, k, h, _ => by cases h; exact ⟨rfl, fun t ht => by cases ht⟩
  | n + 1, s, l, k, h, hs => by
    unfold topN at h
    cases h1 : topP s with
    | error e => rw [h1] at h; cases h
    | ok x =>
      rw [h1] at h
      simp only at h
      cases h2 : topN n (s.drop x.2) with
      | error e => rw [h2] at h; cases h
      | ok y =>
        rw [h2] at h
        cases h
        have ih := topN_few n (s.drop x.2) y.1 y.2 h2 (by rw [List.length_drop]; omega)
        refine ⟨by rw [List.length_cons, ih.1], fun t ht => ?_⟩
        rcases List.mem_cons.1 ht with rfl | ht
        · unfold topP at h1
          cases h3 : textP s with
          | error e => rw [h3] at h1; cases h1
          | ok a =>
            rw [h3] at h1
            simp only at h1
            cases h4 : partsP (s.drop a.2) with
            | error e => rw [h4] at h1; cases h1
            | ok b =>
              rw [h4] at h1
              cases h1
              have h5 := textP_few (d := a.1) (n := a.2) h3
              have h6 := partsP_few (l := b.1) (n := b.2) h4 (by rw [List.length_drop]; omega)
              exact ⟨by simp only; omega, h6⟩
        · exact ih.2 t ht
theorem topsP_few {s : Bs} {l : List TopS} {n : Nat} (h : topsP s = .ok (l, n)) (hs : s.length ≤ 1000000) : FewL l := by
  unfold topsP at h
  cases h1 : cntP 6 s with
  | error e => rw [h1] at h; cases h
  | ok x =>
    rw [h1] at h
    simp only at h
    cases h2 : topN x.1 (s.drop 4) with
    | error e => rw [h2] at h; cases h
    | ok y =>
      rw [h2] at h
      cases h
      have h3 := (cntP_ok (n := x.1) (k := x.2) (by decide) h1).2.1
      have h4 := topN_few x.1 (s.drop 4) y.1 y.2 h2 (by rw [List.length_drop]; omega)
      exact ⟨by rw [h4.1]; omega, h4.2⟩
theorem tops_few {s : Bs} {i : InS} (ha : i.At s) (hs : s.length ≤ 1000000) : FewL i.tops.1 := by
  have hn : FewL [] := ⟨by decide, fun t ht => by cases ht⟩
  obtain ⟨s', pos, er⟩ := i
  obtain ⟨h1, h2⟩ := ha
  simp only at h1 h2
  subst h1
  by_cases he : er = 0
  · subst he
    cases h3 : topsP (s'.drop pos) with
    | error e =>
      obtain ⟨_, q, _, h4⟩ := rds_tops.err s' pos e h2 h3
      rw [h4]; exact hn
    | ok x =>
      obtain ⟨_, h4⟩ := rds_tops.ok s' pos x.1 x.2 h2 h3
      rw [h4]
      exact topsP_few (l := x.1) (n := x.2) h3 (by rw [List.length_drop]; omega)
  · rw [rds_tops.stuck ⟨s', pos, er⟩ he]; exact hn
theorem decI_at (s : Bs) : (decI s).At s := by
  have h0 : (⟨s, 0, 0⟩ : InS).At s := ⟨rfl, Nat.zero_le _⟩
  unfold decI
  split
  · exact At.int h0 2
  · exact At.fail (At.int h0 2) 7
theorem valF_few {s : Bs} {i : InS} (h : i.At s) (hs : s.length ≤ 1000000) : FewL i.valF.1.tops := tops_few (At.int (At.int (At.int (At.int h 8) 2) 4) 1) hs
theorem fewT_of {lr : List (TopS × Value)} (h : FewL (lr.map (·.1))) : FewT lr := ⟨by have := h.1; rw [List.length_map] at this; exact this, fun x hx => h.2 x.1 (List.mem_map_of_mem hx)⟩

end Go.Proofs.Ytombolmicfjjpaa

/- Parts of requests of transactions (pure). -/
namespace Go.Proofs.Ytombolmicfjjpaa
open Go.RowKit

/-- Can it be somebody who writes? -/
def who (p e : Int) : Bool := decide (0 ≤ p) && (decide (0 ≤ e) && decide (e ≤ 32767))
theorem who_t {p e : Int} (h : who p e = true) : 0 ≤ p ∧ 0 ≤ e ∧ e ≤ 32767 := by
  unfold who at h; simpa only [Bool.and_eq_true, decide_eq_true_eq] using h
theorem who_f {p e : Int} (h : who p e = false) : p < 0 ∨ e < 0 ∨ 32767 < e := by
  unfold who at h
  by_cases h1 : p < 0
  · exact .inl h1
  · by_cases h2 : e < 0
    · exact .inr (.inl h2)
    · by_cases h3 : 32767 < e
      · exact .inr (.inr h3)
      · rw [decide_eq_true (show 0 ≤ p by omega), decide_eq_true (show 0 ≤ e by omega), decide_eq_true (show e ≤ 32767 by omega)] at h
        cases h
def chkW (id : Bs) (p e : Int) : Int := if keyRight id = false then 4 else if who p e = false then 11 else 0
def InS.boolP (i : InS) : Bool × InS := ((i.int 1).1 == 1, if (i.int 1).1 ≠ 0 ∧ (i.int 1).1 ≠ 1 then (i.int 1).2.fail 11 else (i.int 1).2)
def encO (c : Bool) : Bs := [if c then 1 else 0]
def riseE (l : List TopS) : Int := if l = [] then 10 else if tRise l = false then 13 else 0
theorem riseE_eq (l : List TopS) : ValS.err ⟨0, 0, 0, 1, l, 0, 0⟩ = riseE l := by
  have h1 : ValS.ranged ⟨0, 0, 0, 1, l, 0, 0⟩ = true := by rfl
  unfold ValS.err riseE
  rw [h1]
  cases l with
  | nil => rfl
  | cons a t =>
    have e0 : ¬ (true = false) := by decide
    have e1 : ¬ ((1 : Int) < 0 ∨ 7 ≤ (1 : Int)) := by decide
    have e2 : ¬ ((idle 1 != false) = true ∨ (((1 : Int) == 0) != ((0 : Int) == -1)) = true) := by decide
    exact (if_neg e0).trans ((if_neg e1).trans ((if_neg e2).trans (if_neg (List.cons_ne_nil a t)).symm))

end Go.Proofs.Ytombolmicfjjpaa

/- Ends of transactions as bytes (pure). -/
namespace Go.Proofs.Ytombolmicfjjpaa
open Go.RowKit

def encW (p e : Int) : Bs := beBytes p 8 ++ beBytes e 2
def encEnd (id : Bs) (p e : Int) (c : Bool) : Bs := encF 2 ⟨false, id⟩ ++ (encW p e ++ encO c)

end Go.Proofs.Ytombolmicfjjpaa

/- Contracts of package key. -/
namespace Go.Proofs.Ytombolmicfjjpaa
open Go.RowKit

set_option maxHeartbeats 1000000 in
set_option maxRecDepth 100000 in
theorem key_right (s : Bs) (hs : s.length ≤ 140737488355328) {W0 w : World} {K : Know} {L : List Res} (h : St W0 w K L) :
    Calls Try.prog 89 #[.string (bb s)] w fun en w' => en = .returned (.bool (keyRight s)) ∧ St W0 w' K L := by
  have H := Lib.hid h
  clear h
  cases s with
  | nil =>
    go_enter Try.func89, Try.ntmps89
    go_wp2
    go_ret
    exact ⟨rfl, H.out⟩
  | cons c t =>
    have HS := Lib.hid hs
    clear hs
    go_enter Try.func89, Try.ntmps89
    go_wp2
    go_ret
    refine ⟨ret_bool ?_, H.out⟩
    unfold keyRight
    rw [Bool.eq_iff_iff]
    simp
    omega

set_option maxHeartbeats 1000000 in
set_option maxRecDepth 100000 in
theorem key_encode (s : Bs) (hs : s.length ≤ 40000) {W0 w : World} {K : Know} {L : List Res} (h : St W0 w K L) :
    Calls Try.prog 35 #[.string (bb s)] w fun en w' => en = .returned (.tuple #[.string (bb (keyEnc s).1), .int .i64 (keyEnc s).2]) ∧ St W0 w' K L := by
  have H := Lib.hid h
  have HS := Lib.hid (show s.length ≤ 140737488355328 by omega)
  have HS2 := Lib.hid hs
  clear h hs
  cases hr : keyRight s
  · have e : keyEnc s = ([], 4) := by unfold keyEnc; rw [hr]; rfl
    rw [e]
    have ER := Lib.hid hr
    clear e hr
    go_enter Try.func35, Try.ntmps35
    go_wp2_with (go_at_call 89; refine (key_right s HS.out (by first | (first | with_reducible exact H.out | with_reducible exact H.out.p1 | with_reducible exact H.out.p2 | with_reducible exact H.out.p3 | with_reducible exact H.out.p4 | with_reducible exact H.out.p5) | ((repeat first | with_reducible refine St.drewN ?_ _ | with_reducible refine St.drew ?_ | with_reducible refine St.alloc ?_ _); first | with_reducible exact H.out | with_reducible exact H.out.p1 | with_reducible exact H.out.p2 | with_reducible exact H.out.p3 | with_reducible exact H.out.p4 | with_reducible exact H.out.p5))).mono ?_; (repeat first | rw [ER.out]); rintro e wn ⟨rfl, h⟩; replace H := Lib.hid h; clear h)
    go_ret2
    exact ⟨rfl, H.out⟩
  · have e : keyEnc s = (keyBytes s, 0) := by unfold keyEnc; rw [hr]; rfl
    rw [e]
    have hle : s.length ≤ 32767 := by unfold keyRight at hr; simp at hr; exact hr.2
    have ER := Lib.hid hr
    have E1 := Lib.hid (show (⟨[], 0⟩ : OutS).int 0 2 = ⟨beBytes 0 2, 0⟩ from by decide +kernel)
    have E2 := Lib.hid (show (⟨beBytes 0 2, 0⟩ : OutS).putText s = ⟨keyBytes s, 0⟩ from by
      unfold OutS.putText OutS.putFixed OutS.int OutS.putData
      rw [if_pos (fits_len2 s hle)]
      show (((⟨beBytes 0 2, 0⟩ : OutS).put _).put s) = _
      rw [OutS.put_put]
      unfold keyBytes
      rw [List.append_assoc]
      rfl)
    have E3 := Lib.hid (show (⟨keyBytes s, 0⟩ : OutS).text = (keyBytes s, 0) from rfl)
    clear e hr hle
    go_enter Try.func35, Try.ntmps35
    go_wp2_with (first
      | (go_at_call 89; refine (key_right s HS.out (by first | (first | with_reducible exact H.out | with_reducible exact H.out.p1 | with_reducible exact H.out.p2 | with_reducible exact H.out.p3 | with_reducible exact H.out.p4 | with_reducible exact H.out.p5) | ((repeat first | with_reducible refine St.drewN ?_ _ | with_reducible refine St.drew ?_ | with_reducible refine St.alloc ?_ _); first | with_reducible exact H.out | with_reducible exact H.out.p1 | with_reducible exact H.out.p2 | with_reducible exact H.out.p3 | with_reducible exact H.out.p4 | with_reducible exact H.out.p5))).mono ?_; (repeat first | rw [ER.out]); rintro e wn ⟨rfl, h⟩; replace H := Lib.hid h; clear h; replace H := Lib.hid H.out.allocOut)
      | (go_at_call 69; refine (so_int _ _ 0 2 (by decide) (by first | (first | with_reducible exact H.out | with_reducible exact H.out.p1 | with_reducible exact H.out.p2 | with_reducible exact H.out.p3 | with_reducible exact H.out.p4 | with_reducible exact H.out.p5) | ((repeat first | with_reducible refine St.drewN ?_ _ | with_reducible refine St.drew ?_ | with_reducible refine St.alloc ?_ _); first | with_reducible exact H.out | with_reducible exact H.out.p1 | with_reducible exact H.out.p2 | with_reducible exact H.out.p3 | with_reducible exact H.out.p4 | with_reducible exact H.out.p5)) (by simp [OutS.ok])).mono ?_; (repeat first | rw [E1.out]); rintro e wn ⟨rfl, h⟩; replace H := Lib.hid h; clear h)
      | (go_at_call 86; refine (blob_putText _ _ s (by first | (first | with_reducible exact H.out | with_reducible exact H.out.p1 | with_reducible exact H.out.p2 | with_reducible exact H.out.p3 | with_reducible exact H.out.p4 | with_reducible exact H.out.p5) | ((repeat first | with_reducible refine St.drewN ?_ _ | with_reducible refine St.drew ?_ | with_reducible refine St.alloc ?_ _); first | with_reducible exact H.out | with_reducible exact H.out.p1 | with_reducible exact H.out.p2 | with_reducible exact H.out.p3 | with_reducible exact H.out.p4 | with_reducible exact H.out.p5)) (by have := HS2.out; simp only [OutS.ok, beBytes_length]; omega)).mono ?_; (repeat first | rw [E2.out]); rintro e wn ⟨rfl, h⟩; replace H := Lib.hid h; clear h)
      | (go_at_call 32; refine (so_text _ _ (by first | (first | with_reducible exact H.out | with_reducible exact H.out.p1 | with_reducible exact H.out.p2 | with_reducible exact H.out.p3 | with_reducible exact H.out.p4 | with_reducible exact H.out.p5) | ((repeat first | with_reducible refine St.drewN ?_ _ | with_reducible refine St.drew ?_ | with_reducible refine St.alloc ?_ _); first | with_reducible exact H.out | with_reducible exact H.out.p1 | with_reducible exact H.out.p2 | with_reducible exact H.out.p3 | with_reducible exact H.out.p4 | with_reducible exact H.out.p5))).mono ?_; (repeat first | rw [E3.out]); rintro e wn ⟨rfl, h⟩; replace H := Lib.hid h; clear h))
    go_ret2
    exact ⟨rfl, H.out.drop⟩

theorem keyDec_tuple (s : Bs) : Value.tuple #[.string (bb (keyDec s).1), .int .i64 (keyDec s).2] = if (keyJ s).close.err = 0 then .tuple #[.string (bb (keyI s).text.1), .int .i64 0] else .tuple #[.string (bb []), .int .i64 (keyJ s).close.err] := by
  unfold keyDec; split <;> rfl
set_option maxHeartbeats 1000000 in
set_option maxRecDepth 100000 in
theorem key_decode (s : Bs) (hs : s.length ≤ 40100) {W0 w : World} {K : Know} {L : List Res} (h : St W0 w K L) :
    Calls Try.prog 36 #[.string (bb s)] w fun en w' => en = .returned (.tuple #[.string (bb (keyDec s).1), .int .i64 (keyDec s).2]) ∧ St W0 w' K L := by
  have H := Lib.hid h
  have HS := Lib.hid (show s.length ≤ 140737488355328 by omega)
  clear h hs
  rw [keyDec_tuple]
  obtain ⟨a, ha⟩ : ∃ a, keyA s = a := ⟨_, rfl⟩
  have hI : keyI s = if a.1 = 0 then a.2 else a.2.fail 7 := by unfold keyI; rw [ha]
  obtain ⟨i, hi⟩ : ∃ i, keyI s = i := ⟨_, rfl⟩
  rw [hi] at hI
  obtain ⟨t, ht⟩ : ∃ t, i.text = t := ⟨_, rfl⟩
  have hJ : keyJ s = if t.1 = [] then t.2.fail 4 else t.2 := by unfold keyJ; rw [hi, ht]
  obtain ⟨j, hj⟩ : ∃ j, keyJ s = j := ⟨_, rfl⟩
  rw [hj] at hJ
  obtain ⟨c, hc⟩ : ∃ c, j.close = c := ⟨_, rfl⟩
  rw [hj, hc, hi, ht]
  have EA := Lib.hid (show (⟨s, 0, 0⟩ : InS).int 2 = a from ha)
  have ET := Lib.hid ht
  have EC := Lib.hid hc
  clear ha hi ht hj hc
  by_cases h1 : a.1 = 0 <;> by_cases h2 : t.1 = [] <;> by_cases h3 : c.err = 0
  all_goals
    first | rw [if_pos h1] at hI | rw [if_neg h1] at hI
    first | rw [if_pos h2] at hJ | rw [if_neg h2] at hJ
    first | rw [if_pos h3] | rw [if_neg h3]
    have b1 : (a.1 != 0) = decide (a.1 ≠ 0) := by by_cases h : a.1 = 0 <;> simp [h]
    have b2 : t.1.isEmpty = decide (t.1 = []) := by cases t.1 <;> simp
    have b3 : (c.err != 0) = decide (c.err ≠ 0) := by by_cases h : c.err = 0 <;> simp [h]
    first | rw [decide_eq_true h1] at b1 | rw [decide_eq_false (not_not_intro h1)] at b1
    first | rw [decide_eq_true h2] at b2 | rw [decide_eq_false h2] at b2
    first | rw [decide_eq_true h3] at b3 | rw [decide_eq_false (not_not_intro h3)] at b3
    have EI := Lib.hid hI.symm
    have EJ := Lib.hid hJ.symm
    clear h1 h2 h3 hI hJ
    go_enter Try.func36, Try.ntmps36
    go_wp2_with (first
      | (go_at_call 24; refine (s_new s HS.out (by first | (first | with_reducible exact H.out | with_reducible exact H.out.p1 | with_reducible exact H.out.p2 | with_reducible exact H.out.p3 | with_reducible exact H.out.p4 | with_reducible exact H.out.p5) | ((repeat first | with_reducible refine St.drewN ?_ _ | with_reducible refine St.drew ?_ | with_reducible refine St.alloc ?_ _); first | with_reducible exact H.out | with_reducible exact H.out.p1 | with_reducible exact H.out.p2 | with_reducible exact H.out.p3 | with_reducible exact H.out.p4 | with_reducible exact H.out.p5))).mono ?_; rintro e wn ⟨bi, rfl, h⟩; replace H := Lib.hid h; clear h)
      | (go_at_call 72; refine (s_int _ _ 2 (by first | (first | with_reducible exact H.out | with_reducible exact H.out.p1 | with_reducible exact H.out.p2 | with_reducible exact H.out.p3 | with_reducible exact H.out.p4 | with_reducible exact H.out.p5) | ((repeat first | with_reducible refine St.drewN ?_ _ | with_reducible refine St.drew ?_ | with_reducible refine St.alloc ?_ _); first | with_reducible exact H.out | with_reducible exact H.out.p1 | with_reducible exact H.out.p2 | with_reducible exact H.out.p3 | with_reducible exact H.out.p4 | with_reducible exact H.out.p5))).mono ?_; (repeat first | rw [EA.out]); rintro e wn ⟨rfl, h⟩; replace H := Lib.hid h; clear h; (try rw [EI.out] at H))
      | (go_at_call 73; refine (s_fail _ _ _ (by first | (first | with_reducible exact H.out | with_reducible exact H.out.p1 | with_reducible exact H.out.p2 | with_reducible exact H.out.p3 | with_reducible exact H.out.p4 | with_reducible exact H.out.p5) | ((repeat first | with_reducible refine St.drewN ?_ _ | with_reducible refine St.drew ?_ | with_reducible refine St.alloc ?_ _); first | with_reducible exact H.out | with_reducible exact H.out.p1 | with_reducible exact H.out.p2 | with_reducible exact H.out.p3 | with_reducible exact H.out.p4 | with_reducible exact H.out.p5))).mono ?_; (repeat first | rw [EI.out] | rw [EJ.out]); rintro e wn ⟨rfl, h⟩; replace H := Lib.hid h; clear h)
      | (go_at_call 78; refine (blob_text _ _ (by first | (first | with_reducible exact H.out | with_reducible exact H.out.p1 | with_reducible exact H.out.p2 | with_reducible exact H.out.p3 | with_reducible exact H.out.p4 | with_reducible exact H.out.p5) | ((repeat first | with_reducible refine St.drewN ?_ _ | with_reducible refine St.drew ?_ | with_reducible refine St.alloc ?_ _); first | with_reducible exact H.out | with_reducible exact H.out.p1 | with_reducible exact H.out.p2 | with_reducible exact H.out.p3 | with_reducible exact H.out.p4 | with_reducible exact H.out.p5))).mono ?_; (repeat first | rw [ET.out]); rintro e wn ⟨rfl, h⟩; replace H := Lib.hid h; clear h; (try rw [EJ.out] at H))
      | (go_at_call 34; refine (s_close _ _ (by first | (first | with_reducible exact H.out | with_reducible exact H.out.p1 | with_reducible exact H.out.p2 | with_reducible exact H.out.p3 | with_reducible exact H.out.p4 | with_reducible exact H.out.p5) | ((repeat first | with_reducible refine St.drewN ?_ _ | with_reducible refine St.drew ?_ | with_reducible refine St.alloc ?_ _); first | with_reducible exact H.out | with_reducible exact H.out.p1 | with_reducible exact H.out.p2 | with_reducible exact H.out.p3 | with_reducible exact H.out.p4 | with_reducible exact H.out.p5))).mono ?_; (repeat first | rw [EC.out]); rintro e wn ⟨rfl, h⟩; replace H := Lib.hid h; clear h))
    go_ret2
    exact ⟨rfl, H.out.drop⟩

end Go.Proofs.Ytombolmicfjjpaa

/- Layer 13, walked. -/
namespace Go.Proofs.Ytombolmicfjjpaa
open Go.RowKit

theorem kr1 {s : Bs} (h : s.length < 2) : keyRd s = ([], 1) := if_pos h
theorem kr2 {s : Bs} (h : 2 ≤ s.length) (h2 : (!List.take 2 s == [0, 0]) = true) : keyRd s = ([], 7) := by
  have h2' : s.take 2 ≠ [0, 0] := by simpa using h2
  exact (if_neg (by omega)).trans (if_pos h2')
theorem kr3 {s : Bs} (h : 2 ≤ s.length) (h2 : (!List.take 2 s == [0, 0]) = false) (h3 : s.length < 4) : keyRd s = ([], 1) := by
  have h2' : ¬ s.take 2 ≠ [0, 0] := by simpa using h2
  exact (if_neg (by omega)).trans ((if_neg h2').trans (if_pos h3))
theorem kr4 {s : Bs} (h : 4 ≤ s.length) (h2 : (!List.take 2 s == [0, 0]) = false) (h3 : sInt ((s.drop 2).take 2) ≤ 0) : keyRd s = ([], 4) := by
  have h2' : ¬ s.take 2 ≠ [0, 0] := by simpa using h2
  exact (if_neg (by omega)).trans ((if_neg h2').trans ((if_neg (by omega)).trans (if_pos h3)))
theorem kr5 {s : Bs} (h : 4 ≤ s.length) (h2 : (!List.take 2 s == [0, 0]) = false) (h3 : ¬ sInt ((s.drop 2).take 2) ≤ 0) (h4 : (s.length : Int) - 4 < sInt ((s.drop 2).take 2)) : keyRd s = ([], 1) := by
  have h2' : ¬ s.take 2 ≠ [0, 0] := by simpa using h2
  exact (if_neg (by omega)).trans ((if_neg h2').trans ((if_neg (by omega)).trans ((if_neg h3).trans (if_pos h4))))
theorem kr6 {s : Bs} (h : 4 ≤ s.length) (h2 : (!List.take 2 s == [0, 0]) = false) (h3 : ¬ sInt ((s.drop 2).take 2) ≤ 0) (h4 : sInt ((s.drop 2).take 2) < (s.length : Int) - 4) : keyRd s = ([], 2) := by
  have h2' : ¬ s.take 2 ≠ [0, 0] := by simpa using h2
  exact (if_neg (by omega)).trans ((if_neg h2').trans ((if_neg (by omega)).trans ((if_neg h3).trans ((if_neg (by omega)).trans (if_pos h4)))))
theorem kr7 {s : Bs} (_ : 4 ≤ s.length) (h2 : (!List.take 2 s == [0, 0]) = false) (h3 : ¬ sInt ((s.drop 2).take 2) ≤ 0) (h4 : sInt ((s.drop 2).take 2) = (s.length : Int) - 4) : keyRd s = ((s.drop 4).take (s.length - 4), 0) := by
  rw [List.take_of_length_le (by rw [List.length_drop]; omega)]
  have h2' : ¬ s.take 2 ≠ [0, 0] := by simpa using h2
  exact (if_neg (by omega)).trans ((if_neg h2').trans ((if_neg (by omega)).trans ((if_neg h3).trans ((if_neg (by omega)).trans (if_neg (by omega))))))

theorem key_encode' (s x : Bs) (e : Int) (hs : s.length ≤ 40000) (hx : keyEnc s = (x, e)) {W0 w : World} {K : Know} {L : List Res} (h : St W0 w K L) :
    Calls Try.prog 35 #[.string (bb s)] w fun en w' => en = .returned (.tuple #[.string (bb x), .int .i64 e]) ∧ St W0 w' K L := by
  have := key_encode s hs h
  rw [hx] at this
  exact this
theorem key_decode' (s x : Bs) (e : Int) (hs : s.length ≤ 40100) (hx : keyRd s = (x, e)) {W0 w : World} {K : Know} {L : List Res} (h : St W0 w K L) :
    Calls Try.prog 36 #[.string (bb s)] w fun en w' => en = .returned (.tuple #[.string (bb x), .int .i64 e]) ∧ St W0 w' K L := by
  have := key_decode s hs h
  rw [keyDec_eq, hx] at this
  exact this
theorem keyRd_len (s : Bs) : (keyRd s).1.length ≤ s.length := by
  unfold keyRd
  repeat' split
  all_goals simp
end Go.Proofs.Ytombolmicfjjpaa

/- Layer 13, walked: KeyEncodes. -/
namespace Go.Proofs.Ytombolmicfjjpaa
open Go.RowKit

theorem key_right' (s : Bs) (r : Bool) (hs : s.length ≤ 140737488355328) (hr : keyRight s = r) {W0 w : World} {K : Know} {L : List Res} (h : St W0 w K L) :
    Calls Try.prog 89 #[.string (bb s)] w fun en w' => en = .returned (.bool r) ∧ St W0 w' K L := hr ▸ key_right s hs h
theorem keyRight_iff (s : Bs) : keyRight s = true ↔ 1 ≤ s.length ∧ s.length ≤ 32767 := by
  unfold keyRight
  cases s <;> simp
end Go.Proofs.Ytombolmicfjjpaa

/- Requests of transactions (pure). -/
namespace Go.Proofs.Ytombolmicfjjpaa
open Go.RowKit

def idOk (nl : Bool) (d : Bs) : Bool := if nl then d.isEmpty else keyRight d
def was (v p e : Int) : Bool := (p == -1 && e == -1) || (v == 1 && who p e)
def begE (v : Int) (nl : Bool) (d : Bs) (tm p e : Int) : Int := if idOk nl d = false then 4 else if tm < 0 ∨ 2147483647 < tm then 11 else if was v p e = false then 11 else 0
def addE (d : Bs) (p e : Int) (l : List TopS) : Int := if chkW d p e ≠ 0 then chkW d p e else riseE l
/-- What is wrong with a request of a kind: 22, 24, 26. -/
def reqE (k v : Int) (nl : Bool) (d : Bs) (tm p e : Int) (l : List TopS) : Int :=
  if k = 22 then begE v nl d tm p e else if nl = true then 4 else if k = 24 then addE d p e l else chkW d p e
theorem keyRight_t {d : Bs} (h : keyRight d = true) : (1 : Int) ≤ d.length ∧ (d.length : Int) ≤ 32767 := by
  obtain ⟨h1, h2⟩ := (keyRight_iff d).1 h
  omega
theorem keyRight_f {d : Bs} (h : keyRight d = false) : (d.length : Int) < 1 ∨ 32767 < (d.length : Int) := by
  have : ¬ (1 ≤ d.length ∧ d.length ≤ 32767) := fun h2 => by rw [(keyRight_iff d).2 h2] at h; cases h
  omega

end Go.Proofs.Ytombolmicfjjpaa

/- Marks (pure). -/
namespace Go.Proofs.Ytombolmicfjjpaa
open Go.RowKit

/-- How a transaction ended. -/
structure MarkS where
  prod : Int
  epoch : Int
  commit : Bool
  tops : List TopS
  coord : Int
deriving DecidableEq
/-- A mark, and where its topics lie. -/
structure MarkR where
  m : MarkS
  l : List (TopS × Value)
  q : Option Addr
  cap : Nat
def RMark (cs : List Value) (x : MarkR) : Prop := cs = [.int .i64 x.m.prod, .int .i64 x.m.epoch, .bool x.m.commit, .slice x.q x.l.length x.cap, .int .i64 x.m.coord]
def MarkS.R (m : MarkS) : Prop := (-9223372036854775808 ≤ m.prod ∧ m.prod < 9223372036854775808) ∧ (-9223372036854775808 ≤ m.epoch ∧ m.epoch < 9223372036854775808) ∧ (-9223372036854775808 ≤ m.coord ∧ m.coord < 9223372036854775808)
def Know.marks (v : Value) (l : List MarkR) : Know := (Know.flat RMark v 5 l).and (Know.all l fun x => Know.tops (.slice x.q x.l.length x.cap) x.l)
theorem marks_flat {K : Know} {v : Value} {l : List MarkR} (h : K.has (Know.marks v l)) : K.has (Know.flat RMark v 5 l) := fun w F x => (h w F x).1
theorem marks_tops {K : Know} {v : Value} {l : List MarkR} (h : K.has (Know.marks v l)) {x : MarkR} (hx : x ∈ l) : K.has (Know.tops (.slice x.q x.l.length x.cap) x.l) := fun w F y => (h w F y).2 x hx
theorem marks_form {W0 w : World} {K : Know} {L : List Res} {v : Value} {l : List MarkR} (hk : K.has (Know.marks v l)) (h : St W0 w K L) : ∃ q cap, v = .slice q l.length cap := by
  obtain ⟨F, hF, _⟩ := h.get
  obtain ⟨q, cap, hv, _⟩ := (marks_flat hk _ _ hF).at
  exact ⟨q, cap, hv⟩
theorem marks_at {W0 w : World} {K : Know} {L : List Res} {q : Option Addr} {n cap : Nat} {l : List MarkR} (hk : K.has (Know.marks (.slice q n cap) l)) (h : St W0 w K L) (h0 : 0 < l.length) : ∃ b off, q = some ⟨b, off, none⟩ := by
  obtain ⟨F, hF, _⟩ := h.get
  obtain ⟨q2, cap2, hv, hr⟩ := (marks_flat hk _ _ hF).at
  obtain ⟨b, off, hq, _⟩ := hr h0
  simp at hv
  exact ⟨b, off, hv.1.trans hq⟩
theorem marks_cell {W0 w : World} {K : Know} {L : List Res} {b off n cap : Nat} {l : List MarkR} (hk : K.has (Know.marks (.slice (some ⟨b, off, none⟩) n cap) l)) (h : St W0 w K L) (i : Nat) (hi : i < l.length) (x : MarkR) (hx : l[i] = x) :
    w.cell? ⟨b, off + i * 5, none⟩ = some (.int .i64 x.m.prod) ∧ w.cell? ⟨b, off + i * 5 + 1, none⟩ = some (.int .i64 x.m.epoch) ∧ w.cell? ⟨b, off + i * 5 + 2, none⟩ = some (.bool x.m.commit) ∧ w.cell? ⟨b, off + i * 5 + 3, none⟩ = some (.slice x.q x.l.length x.cap) ∧ w.cell? ⟨b, off + i * 5 + 4, none⟩ = some (.int .i64 x.m.coord) := by
  subst hx
  obtain ⟨F, hF, _⟩ := h.get
  obtain ⟨q2, cap2, hv, hr⟩ := (marks_flat hk _ _ hF).at
  obtain ⟨b2, off2, hq, hc⟩ := hr (by omega)
  rw [hq] at hv
  simp at hv
  obtain ⟨⟨rfl, rfl⟩, _, _⟩ := hv
  obtain ⟨cs, _, hR, hcs⟩ := hc i hi
  unfold RMark at hR
  subst hR
  refine ⟨?_, ?_, ?_, ?_, ?_⟩
  · exact hcs 0 _ rfl
  · rw [Nat.add_assoc]; exact hcs 1 _ rfl
  · rw [Nat.add_assoc]; exact hcs 2 _ rfl
  · rw [Nat.add_assoc]; exact hcs 3 _ rfl
  · rw [Nat.add_assoc]; exact hcs 4 _ rfl
def mErr (v : Int) (p e : Int) (l : List TopS) (co : Int) : Int :=
  if who p e = false then 11 else if co < 0 ∨ 2147483647 < co then 11 else if v = 0 ∧ co ≠ 0 then 11 else riseE l
def MarkS.err (v : Int) (m : MarkS) : Int := mErr v m.prod m.epoch m.tops m.coord
def msE (v : Int) : List MarkS → Int
  | [] => 0
  | m :: t => if m.err v ≠ 0 then m.err v else msE v t
def marksErr (v : Int) (l : List MarkS) : Int := if l = [] then 10 else msE v l
/-- Fits what is looked at. -/
def MarkR.Fit (x : MarkR) : Prop := x.l.map (·.1) = x.m.tops ∧ FewT x.l ∧ x.m.R
theorem msE_cons (v : Int) (m : MarkS) (t : List MarkS) : msE v (m :: t) = if m.err v ≠ 0 then m.err v else msE v t := rfl
theorem msE_step (v : Int) (l : List MarkS) (k : Nat) (hk : k < l.length) (h : l[k].err v = 0) : msE v (l.drop k) = msE v (l.drop (k + 1)) := by
  rw [List.drop_eq_getElem_cons hk, msE_cons, if_neg (by rw [h]; decide)]
theorem msE_bad (v : Int) (l : List MarkS) (k : Nat) (hk : k < l.length) (h : l[k].err v ≠ 0) : msE v (l.drop k) = l[k].err v := by
  rw [List.drop_eq_getElem_cons hk, msE_cons, if_pos h]

end Go.Proofs.Ytombolmicfjjpaa

/- Requests of transactions as bytes (pure). -/
namespace Go.Proofs.Ytombolmicfjjpaa
open Go.RowKit

def encReq (k v : Int) (nl : Bool) (d : Bs) (tm p e : Int) (l : List TopS) (c : Bool) : Bs :=
  encF 2 ⟨nl, d⟩ ++ (if k = 22 then beBytes tm 4 ++ (if v = 1 then encW p e else []) else encW p e ++ (if k = 24 then encTs l else encO c))
theorem begE_ok {v : Int} {nl : Bool} {d : Bs} {tm p e : Int} (h : begE v nl d tm p e = 0) : idOk nl d = true ∧ (0 ≤ tm ∧ tm ≤ 2147483647) ∧ was v p e = true := by
  unfold begE at h
  by_cases h1 : idOk nl d = false
  · rw [if_pos h1] at h; cases h
  · rw [if_neg h1] at h
    by_cases h2 : tm < 0 ∨ 2147483647 < tm
    · rw [if_pos h2] at h; cases h
    · rw [if_neg h2] at h
      by_cases h3 : was v p e = false
      · rw [if_pos h3] at h; cases h
      · exact ⟨by simpa using h1, by omega, by simpa using h3⟩
theorem idOk_len {nl : Bool} {d : Bs} (h : idOk nl d = true) : d.length ≤ 32767 ∧ (⟨nl, d⟩ : BlobS).right = true ∧ fits (⟨nl, d⟩ : BlobS).len 2 := by
  unfold idOk at h
  cases nl with
  | true =>
    have h2 : d = [] := by simpa using h
    subst h2
    exact ⟨by decide, rfl, vfits2 _ (by decide)⟩
  | false =>
    obtain ⟨h1, h2⟩ := (keyRight_iff d).1 h
    exact ⟨h2, rfl, vfits2 _ (by show -32768 ≤ (d.length : Int) ∧ (d.length : Int) < 32768; omega)⟩
theorem was_rng {v p e : Int} (h : was v p e = true) : -1 ≤ p ∧ -1 ≤ e ∧ e ≤ 32767 := by
  unfold was at h
  rw [Bool.or_eq_true, Bool.and_eq_true, Bool.and_eq_true, beq_iff_eq, beq_iff_eq] at h
  rcases h with ⟨h1, h2⟩ | ⟨_, h2⟩
  · omega
  · have := who_t h2; omega
theorem addE_ok {d : Bs} {p e : Int} {l : List TopS} (h : addE d p e l = 0) : chkW d p e = 0 ∧ riseE l = 0 := by
  unfold addE at h
  by_cases h1 : chkW d p e ≠ 0
  · rw [if_pos h1] at h; exact absurd h h1
  · rw [if_neg h1] at h
    exact ⟨by simpa using h1, h⟩
theorem riseE_ok {l : List TopS} (h : riseE l = 0) : tRise l = true := by
  unfold riseE at h
  by_cases h1 : l = []
  · rw [if_pos h1] at h; cases h
  · rw [if_neg h1] at h
    by_cases h2 : tRise l = false
    · rw [if_pos h2] at h; cases h
    · simpa using h2

end Go.Proofs.Ytombolmicfjjpaa

/- How many topics are looked at (pure). -/
namespace Go.Proofs.Ytombolmicfjjpaa
open Go.RowKit

/-- How much of a topic is looked at. -/
def topW (t : TopS) : Nat := t.name.length + 4 * t.parts.length + 6
def topWs (l : List TopS) : Nat := (l.map topW).sum
theorem topWs_take (l : List TopS) (k : Nat) (hk : k < l.length) (t : TopS) (ht : l[k] = t) : topWs (l.take (k + 1)) = topWs (l.take k) + topW t := by
  unfold topWs
  rw [List.take_succ_eq_append_getElem hk, List.map_append, List.sum_append, ht]
  simp
theorem topWs_le (l : List TopS) (k : Nat) : topWs (l.take k) ≤ topWs l := by
  have h : topWs l = topWs (l.take k) + topWs (l.drop k) := by
    unfold topWs
    rw [← List.sum_append, ← List.map_append, List.take_append_drop]
  omega
theorem topWs_len (l : List TopS) : 6 * l.length ≤ topWs l := by
  unfold topWs
  induction l with
  | nil => simp
  | cons x t ih => rw [List.map_cons, List.sum_cons, List.length_cons]; unfold topW at ih ⊢; omega
theorem topWs_mem (l : List TopS) (t : TopS) (h : t ∈ l) : topW t ≤ topWs l := by
  unfold topWs
  induction l with
  | nil => cases h
  | cons x m ih =>
    rw [List.map_cons, List.sum_cons]
    rcases List.mem_cons.1 h with rfl | h
    · omega
    · have := ih h; omega
def few (l : List TopS) : Int := if topWs l ≤ 1000 then 1 else 0
theorem few_one {l : List TopS} (h : few l = 1) : topWs l ≤ 1000 := by
  unfold few at h
  by_cases hh : topWs l ≤ 1000
  · exact hh
  · rw [if_neg hh] at h; cases h
theorem few_T {l : List (TopS × Value)} (h : topWs (l.map (·.1)) ≤ 1000) : FewT l := by
  have h1 := topWs_len (l.map (·.1))
  rw [List.length_map] at h1
  refine ⟨by omega, fun x hx => ?_⟩
  have h2 := topWs_mem (l.map (·.1)) x.1 (List.mem_map_of_mem hx)
  unfold topW at h2
  exact ⟨by omega, by omega⟩

end Go.Proofs.Ytombolmicfjjpaa

/- Marks as bytes, and how many are looked at (pure). -/
namespace Go.Proofs.Ytombolmicfjjpaa
open Go.RowKit

/-- A mark as bytes. -/
def encM (v : Int) (m : MarkS) : Bs := (((beBytes m.prod (8 : Int).toNat ++ beBytes m.epoch (2 : Int).toNat) ++ encO m.commit) ++ encTs m.tops) ++ (if v = 1 then beBytes m.coord (4 : Int).toNat else [])
def preM (v : Int) (l : List MarkS) (k : Nat) : Bs := beBytes (l.length : Int) (4 : Int).toNat ++ (l.take k).flatMap (encM v)
def encMs (v : Int) (l : List MarkS) : Bs := beBytes (l.length : Int) (4 : Int).toNat ++ l.flatMap (encM v)
theorem preM_zero (v : Int) (l : List MarkS) : preM v l 0 = beBytes (l.length : Int) (4 : Int).toNat := by unfold preM; rw [List.take_zero, List.flatMap_nil, List.append_nil]
theorem preM_all (v : Int) (l : List MarkS) : preM v l l.length = encMs v l := by unfold preM encMs; rw [List.take_length]
theorem preM_step (v : Int) (l : List MarkS) (k : Nat) (hk : k < l.length) (m : MarkS) (hm : l[k] = m) : preM v l (k + 1) = preM v l k ++ encM v m := by
  unfold preM
  rw [List.take_succ_eq_append_getElem hk, List.flatMap_append, hm, List.flatMap_cons, List.flatMap_nil, List.append_nil, List.append_assoc]
theorem preM_le (v : Int) (l : List MarkS) (k : Nat) (hk : k ≤ l.length) (hl : l.length ≤ 20) (h : ∀ m ∈ l, (encM v m).length ≤ 2000) : (preM v l k).length ≤ 40004 := by
  unfold preM
  rw [List.length_append, beBytes_length]
  have : ∀ (m : List MarkS), (∀ t ∈ m, (encM v t).length ≤ 2000) → (m.flatMap (encM v)).length ≤ 2000 * m.length := by
    intro m
    induction m with
    | nil => intro _; simp
    | cons x t ih =>
      intro hm
      have h1 := ih (fun y hy => hm y (by simp [hy]))
      have h2 := hm x (by simp)
      rw [List.flatMap_cons, List.length_append, List.length_cons]
      omega
  have h1 := this (l.take k) (fun t ht => h t (List.mem_of_mem_take ht))
  rw [List.length_take] at h1
  have e : min k l.length = k := by omega
  rw [e] at h1
  show 4 + _ ≤ _
  omega
/-- No more than are looked at. -/
def fewG : List MarkS → Int
  | [] => 1
  | m :: t => if few m.tops = 0 then 0 else fewG t
def fewMs (l : List MarkS) : Int := if 20 < l.length then 0 else fewG l
theorem fewG_cons (m : MarkS) (t : List MarkS) : fewG (m :: t) = if few m.tops = 0 then 0 else fewG t := rfl
theorem fewG_step (l : List MarkS) (k : Nat) (hk : k < l.length) (h : few l[k].tops = 1) : fewG (l.drop k) = fewG (l.drop (k + 1)) := by
  rw [List.drop_eq_getElem_cons hk, fewG_cons, if_neg (by rw [h]; decide)]
theorem fewG_bad (l : List MarkS) (k : Nat) (hk : k < l.length) (h : few l[k].tops = 0) : fewG (l.drop k) = 0 := by
  rw [List.drop_eq_getElem_cons hk, fewG_cons, if_pos h]
theorem fewG_mem {l : List MarkS} (h : fewG l = 1) : ∀ m ∈ l, topWs m.tops ≤ 1000 := by
  induction l with
  | nil => intro m hm; cases hm
  | cons x t ih =>
    rw [fewG_cons] at h
    by_cases hx : few x.tops = 0
    · rw [if_pos hx] at h; cases h
    · rw [if_neg hx] at h
      intro m hm
      rcases List.mem_cons.1 hm with rfl | hm
      · apply few_one
        unfold few at hx ⊢
        by_cases hh : topWs m.tops ≤ 1000
        · rw [if_pos hh]
        · rw [if_neg hh] at hx; exact absurd rfl hx
      · exact ih h m hm
theorem few_cases (l : List TopS) : few l = 0 ∨ few l = 1 := by
  unfold few
  by_cases h : topWs l ≤ 1000
  · exact .inr (if_pos h)
  · exact .inl (if_neg h)
theorem mErr_ok {v p e : Int} {l : List TopS} {co : Int} (h : mErr v p e l co = 0) : who p e = true ∧ (0 ≤ co ∧ co ≤ 2147483647) ∧ ¬ (v = 0 ∧ co ≠ 0) ∧ riseE l = 0 := by
  unfold mErr at h
  by_cases h1 : who p e = false
  · rw [if_pos h1] at h; cases h
  · rw [if_neg h1] at h
    by_cases h2 : co < 0 ∨ 2147483647 < co
    · rw [if_pos h2] at h; cases h
    · rw [if_neg h2] at h
      by_cases h3 : v = 0 ∧ co ≠ 0
      · rw [if_pos h3] at h; cases h
      · rw [if_neg h3] at h
        exact ⟨by simpa using h1, by omega, h3, h⟩
theorem msE_ok {v : Int} {l : List MarkS} (h : msE v l = 0) : ∀ m ∈ l, m.err v = 0 := by
  induction l with
  | nil => intro m hm; cases hm
  | cons x t ih =>
    rw [msE_cons] at h
    by_cases hx : x.err v ≠ 0
    · rw [if_pos hx] at h; exact absurd h hx
    · rw [if_neg hx] at h
      intro m hm
      rcases List.mem_cons.1 hm with rfl | hm
      · simpa using hx
      · exact ih h m hm
theorem marksErr_ok {v : Int} {l : List MarkS} (h : marksErr v l = 0) : ¬ l = [] ∧ ∀ m ∈ l, m.err v = 0 := by
  unfold marksErr at h
  by_cases h1 : l = []
  · rw [if_pos h1] at h; cases h
  · rw [if_neg h1] at h; exact ⟨h1, msE_ok h⟩

end Go.Proofs.Ytombolmicfjjpaa

/- Values, decoded (pure). -/
namespace Go.Proofs.Ytombolmicfjjpaa
open Go.RowKit

theorem close_st {i : InS} (h : i.err ≠ 0) : i.close.err = i.err := by
  unfold InS.close
  split
  · unfold InS.fail; rw [if_neg h]
  · rfl
theorem valF_stuck {i : InS} (h : i.err ≠ 0) : i.valF = (ValS.z, i) := by
  have r8 : i.int 8 = (0, i) := (rds_intN 8 (by decide) (by decide)).stuck i h
  have r2 : i.int 2 = (0, i) := (rds_intN 2 (by decide) (by decide)).stuck i h
  have r4 : i.int 4 = (0, i) := (rds_intN 4 (by decide) (by decide)).stuck i h
  have r1 : i.int 1 = (0, i) := (rds_intN 1 (by decide) (by decide)).stuck i h
  have rt : i.tops = ([], i) := rds_tops.stuck i h
  exact valF_eq r8 r2 r4 r1 rt r8 r8
theorem decE_zero {s : Bs} (h : decE s = 0) : ((⟨s, 0, 0⟩ : InS).int 2).1 = 0 := by
  by_cases ha : ((⟨s, 0, 0⟩ : InS).int 2).1 = 0
  · exact ha
  · exfalso
    have hj : (decI s).err ≠ 0 := by
      unfold decI
      rw [if_neg ha]
      unfold InS.fail
      split
      · show (7 : Int) ≠ 0; decide
      · assumption
    unfold decE at h
    rw [valF_stuck hj, close_st hj] at h
    exact hj h
theorem valDec_ok {s : Bs} {v : ValS} (h : valDec s = (v, 0)) (hz : v ≠ ValS.z ∨ True) : decE s = 0 ∧ (decI s).valF.1 = v ∧ v.err = 0 := by
  unfold valDec at h
  by_cases h1 : decE s ≠ 0
  · rw [if_pos h1] at h
    simp only [Prod.mk.injEq] at h
    exact absurd h.2 h1
  · rw [if_neg h1] at h
    by_cases h2 : (decI s).valF.1.err ≠ 0
    · rw [if_pos h2] at h
      simp only [Prod.mk.injEq] at h
      exact absurd h.2 h2
    · rw [if_neg h2] at h
      simp only [Prod.mk.injEq] at h
      refine ⟨Classical.not_not.1 h1, h.1, ?_⟩
      rw [← h.1]
      exact Classical.not_not.1 h2
theorem valDec_bad {s : Bs} {v : ValS} {E : Int} (h : valDec s = (v, E)) (h0 : E ≠ 0) : (decE s = E) ∨ (decE s = 0 ∧ (decI s).valF.1.err = E) := by
  unfold valDec at h
  by_cases h1 : decE s ≠ 0
  · rw [if_pos h1] at h
    simp only [Prod.mk.injEq] at h
    exact .inl h.2
  · rw [if_neg h1] at h
    have h1 := Classical.not_not.1 h1
    by_cases h2 : (decI s).valF.1.err ≠ 0
    · rw [if_pos h2] at h
      simp only [Prod.mk.injEq] at h
      exact .inr ⟨h1, h.2⟩
    · rw [if_neg h2] at h
      simp only [Prod.mk.injEq] at h
      exact absurd h.2.symm h0

end Go.Proofs.Ytombolmicfjjpaa

/- Numbers and texts, read. -/
namespace Go.Proofs.Ytombolmicfjjpaa
open Go.RowKit

theorem cnt_nat (i : InS) (each : Nat) : (i.count 4 each).1 = ((i.cnt each).1 : Int) ∧ (i.cnt each).1 ≤ 2147483647 := by
  have hr : -2147483648 ≤ (i.int 4).1 ∧ (i.int 4).1 < 2147483648 := by
    have e4 : half (4 : Int).toNat = 2147483648 := by decide
    by_cases hi : i.err = 0
    · obtain ⟨s, pos, er⟩ := i
      simp only at hi
      subst hi
      unfold InS.int
      rw [if_neg (by decide)]
      simp only
      unfold InS.take
      split
      · show -2147483648 ≤ sInt [] ∧ sInt [] < 2147483648; decide
      · split
        · show -2147483648 ≤ sInt [] ∧ sInt [] < 2147483648; decide
        · split
          · show -2147483648 ≤ sInt [] ∧ sInt [] < 2147483648; decide
          · rename_i h1 h2 h3
            have hl : (((s.drop pos)).take (4 : Int).toNat).length = 4 := by
              rw [List.length_take, List.length_drop]
              simp only [InS.left] at h3
              have : (4 : Int).toNat = 4 := rfl
              omega
            have h6 := sInt_fits _ 4 (by decide) (by decide) hl
            have h7 := h6.2.2
            have e5 : half ((4 : Nat) : Int).toNat = 2147483648 := by decide
            rw [e5] at h7
            exact h7
    · rw [int_stuck i hi]; show (-2147483648 : Int) ≤ 0 ∧ (0 : Int) < 2147483648; decide
  have h0 : 0 ≤ (i.count 4 each).1 ∧ (i.count 4 each).1 < 2147483648 := by
    unfold InS.count
    simp only
    split
    · simp
    · split
      · simp
      · omega
  unfold InS.cnt
  simp only
  omega
theorem s_cntV (p : Nat) (i j : InS) (each n : Nat) (ei : Int) (he : ei = each) (hx : i.cnt each = (n, j)) {W0 w : World} {K : Know} {L : List Res} (h : St W0 w K (.inp p i :: L)) :
    Calls Try.prog 77 #[inPtr p, .int .i64 4, .int .i64 ei] w fun en w' => en = .returned (.int .i64 n) ∧ St W0 w' K (.inp p j :: L) := by
  subst he
  have h2 := s_count p i 4 each h
  have h3 := (cnt_nat i each).1
  rw [hx] at h3
  have h4 : (i.count 4 each).2 = j := by have := congrArg Prod.snd hx; exact this
  rw [h3, h4] at h2
  exact h2
theorem s_intV (p : Nat) (i j : InS) (x : Int) (size : Int) (hx : i.int size = (x, j)) {W0 w : World} {K : Know} {L : List Res} (h : St W0 w K (.inp p i :: L)) :
    Calls Try.prog 72 #[inPtr p, .int .i64 size] w fun en w' => en = .returned (.int .i64 x) ∧ St W0 w' K (.inp p j :: L) := by
  have h2 := s_int p i size h
  rw [hx] at h2
  exact h2
theorem s_errV (p : Nat) (i : InS) (e : Int) (hx : i.err = e) {W0 w : World} {K : Know} {L : List Res} (h : St W0 w K (.inp p i :: L)) :
    Calls Try.prog 27 #[inPtr p] w fun en w' => en = .returned (.int .i64 e) ∧ St W0 w' K (.inp p i :: L) := by
  subst hx; exact s_err p i h
theorem blob_textV (p : Nat) (i j : InS) (s : Bs) (hx : i.text = (s, j)) {W0 w : World} {K : Know} {L : List Res} (h : St W0 w K (.inp p i :: L)) :
    Calls Try.prog 78 #[inPtr p] w fun en w' => en = .returned (.string (bb s)) ∧ St W0 w' K (.inp p j :: L) := by
  have h2 := blob_text p i h
  rw [hx] at h2
  exact h2
theorem elem_int : ElemT Try.prog 3 (.int .i64 0) 1 8 := elemT_of (by kernel_rfl) rfl (by decide)
theorem elem_top : ElemT Try.prog 51 (.agg #[.string ⟨#[]⟩, .slice none 0 0]) 2 40 := elemT_of (by kernel_rfl) rfl (by decide)
theorem tops_nil (K : Know) : K.has (K.and (Know.tops (.slice none 0 0) [])) := fun _ _ h => ⟨h, ⟨none, 0, rfl, fun h => absurd h (by simp)⟩, fun x hx => by cases hx⟩

end Go.Proofs.Ytombolmicfjjpaa

/- Topics, read. -/
namespace Go.Proofs.Ytombolmicfjjpaa
open Go.RowKit

set_option maxHeartbeats 1000000 in
set_option maxRecDepth 100000 in
theorem val_parts (p : Nat) (i j : InS) (l : List Int) (hx : i.parts = (l, j)) {W0 w : World} {K : Know} {L : List Res} (h : St W0 w K (.inp p i :: L)) :
    Calls Try.prog 79 #[inPtr p] w fun en w' => ∃ v, en = .returned v ∧ St W0 w' (K.and (Know.flat RI v 1 l)) (.inp p j :: L) := by
  obtain ⟨⟨n, c⟩, hc⟩ : ∃ r, i.cnt 4 = r := ⟨_, rfl⟩
  have hnl := (cnt_nat i 4).2
  rw [hc] at hnl
  have hx2 : InS.partsN n [] c = (l, j) := by rw [← hx]; unfold InS.parts; rw [hc]
  have HC := Lib.hid hc
  have HX := Lib.hid hx2
  have HNL := Lib.hid hnl
  have H := Lib.hid h
  have hni : (n : Int) ≤ 2147483647 := by simp only at hnl; omega
  clear h hx hc hx2 hnl
  go_enter Try.func79, Try.ntmps79
  go_wp2_with (go_at_call 77; (with_reducible refine (s_cntV p i c 4 n 4 rfl HC.out H.out).mono ?_); rintro e_ wn ⟨rfl, h⟩; replace H := Lib.hid h; clear h)
  go_loopw [3, 6] (fun lv iv wr => ∃ (k : Nat) (i2 : InS) (acc : List Int), k ≤ n ∧ iv = .int .i64 k ∧ Hid (acc.length = k) ∧ Hid (InS.partsN (n - k) acc i2 = (l, j)) ∧ St W0 wr K (.row lv 3 1 acc.length (acc.flatMap fun x => [.int .i64 x]) :: .inp p i2 :: L)) (fun _ iv _ => n - (intOf iv).toNat)
  case atStart => exact ⟨0, c, [], Nat.zero_le _, rfl, Lib.hid rfl, Lib.hid HX.out, H.out.nilRow 3 1⟩
  case round =>
    obtain ⟨k, i2, acc, hk, rfl, HAL, HP, hst⟩ := hrel
    clear H
    have H := Lib.hid hst
    clear hst
    by_cases hlt : k < n
    · obtain ⟨⟨x, i3⟩, hi3⟩ : ∃ r, i2.int 4 = r := ⟨_, rfl⟩
      have HI := Lib.hid hi3
      have HP2 := Lib.hid (show InS.partsN (n - (k + 1)) (acc ++ [x]) i3 = (l, j) by
        have h1 := HP.out
        rw [show n - k = (n - (k + 1)) + 1 by omega] at h1
        have h2 : InS.partsN (n - (k + 1)) (acc ++ [(i2.int 4).1]) (i2.int 4).2 = (l, j) := h1
        rw [hi3] at h2
        exact h2)
      have HAB := Lib.hid (show acc.length ≤ 2147483647 by have := HAL.out; have := HNL.out; omega)
      have hkn : (k : Int) < (n : Int) := by omega
      clear hi3
      go_wp2_with (first
    | (go_at_call 72; (with_reducible refine (s_intV p i2 i3 x 4 HI.out H.out.p1).mono ?_); rintro e_ wn ⟨rfl, h⟩; have h := h.p1; replace H := Lib.hid h; clear h)
    | (at_builtin; refine wpl_app1_st rfl _ _ 49 rfl 3 Try.underlying49 elem_int _ _ _ rfl H.out [.int .i64 x] 3 rfl rfl (by simp [Value.oneCell']) (by have := HAB.out; unfold maxLen; omega) (by have := HAB.out; omega) ?_; intro v' w' h; replace H := Lib.hid h; clear h))
      go_roundw
      case rel => exact ⟨k + 1, i3, acc ++ [x], hlt, by go_num, Lib.hid (by rw [List.length_append, HAL.out]; rfl), HP2, by rw [List.length_append, List.flatMap_append]; exact H.out⟩
      case measure => first | (simp [intOf]; done) | (simp [intOf]; omega)
    · obtain rfl : k = n := by omega
      have hp := HP.out
      rw [Nat.sub_self] at hp
      have hp : (acc, i2) = (l, j) := hp
      simp only [Prod.mk.injEq] at hp
      obtain ⟨rfl, rfl⟩ := hp
      go_wp2
      go_ret
      exact ⟨_, rfl, H.out.freezeRow (R := RI) (fun x _ => ⟨rfl, rfl⟩)⟩

set_option maxHeartbeats 2000000 in
set_option maxRecDepth 100000 in
theorem val_topics (p : Nat) (i j : InS) (l : List TopS) (hx : i.tops = (l, j)) {W0 w : World} {K : Know} {L : List Res} (h : St W0 w K (.inp p i :: L)) :
    Calls Try.prog 25 #[inPtr p] w fun en w' => ∃ (v : Value) (lr : List (TopS × Value)), en = .returned v ∧ lr.map (·.1) = l ∧ St W0 w' (K.and (Know.tops v lr)) (.inp p j :: L) := by
  obtain ⟨⟨n, c⟩, hc⟩ : ∃ r, i.cnt 6 = r := ⟨_, rfl⟩
  have hnl := (cnt_nat i 6).2
  rw [hc] at hnl
  have hx2 : InS.topsN n [] c = (l, j) := by rw [← hx]; unfold InS.tops; rw [hc]
  have HC := Lib.hid hc
  have HX := Lib.hid hx2
  have HNL := Lib.hid hnl
  have H := Lib.hid h
  have hni : (n : Int) ≤ 2147483647 := by simp only at hnl; omega
  clear h hx hc hx2 hnl
  go_enter Try.func25, Try.ntmps25
  go_wp2_with (go_at_call 77; (with_reducible refine (s_cntV p i c 6 n 6 rfl HC.out H.out).mono ?_); rintro e_ wn ⟨rfl, h⟩; replace H := Lib.hid h; clear h)
  go_loopw [3, 4, 7] (fun lv _ iv wr => ∃ (k : Nat) (i2 : InS) (acc : List (TopS × Value)) (K2 : Know), k ≤ n ∧ iv = .int .i64 k ∧ Hid (acc.length = k) ∧ Hid (InS.topsN (n - k) (acc.map (·.1)) i2 = (l, j)) ∧ Hid (K2.has K) ∧ Hid (∀ x ∈ acc, K2.has (Know.flat RI x.2 1 x.1.parts)) ∧ St W0 wr K2 (.row lv 51 2 acc.length (acc.flatMap tcells) :: .inp p i2 :: L)) (fun _ _ iv _ => n - (intOf iv).toNat)
  case atStart => exact ⟨0, c, [], K, Nat.zero_le _, rfl, Lib.hid rfl, Lib.hid HX.out, Lib.hid (Know.has_refl _), Lib.hid (fun x hx => by cases hx), H.out.nilRow 51 2⟩
  case round =>
    obtain ⟨k, i2, acc, K2, hk, rfl, HAL, HP, HKK, HALL, hst⟩ := hrel
    clear H
    have H := Lib.hid hst
    clear hst
    by_cases hlt : k < n
    · obtain ⟨⟨nm, i3⟩, hi3⟩ : ∃ r, i2.text = r := ⟨_, rfl⟩
      obtain ⟨⟨ps, i4⟩, hi4⟩ : ∃ r, i3.parts = r := ⟨_, rfl⟩
      obtain ⟨er, her⟩ : ∃ er, i4.err = er := ⟨_, rfl⟩
      have HT := Lib.hid hi3
      have HPS := Lib.hid hi4
      have HER := Lib.hid her
      have hstep : (if er = 0 then InS.topsN (n - (k + 1)) (acc.map (·.1) ++ [⟨nm, ps⟩]) i4 else ([], i4)) = (l, j) := by
        have h1 := HP.out
        rw [show n - k = (n - (k + 1)) + 1 by omega] at h1
        have h2 : (if i2.text.2.parts.2.err = 0 then InS.topsN (n - (k + 1)) (acc.map (·.1) ++ [⟨i2.text.1, i2.text.2.parts.1⟩]) i2.text.2.parts.2 else ([], i2.text.2.parts.2)) = (l, j) := h1
        rw [hi3] at h2
        simp only at h2
        rw [hi4] at h2
        simp only at h2
        rw [her] at h2
        exact h2
      have HAB := Lib.hid (show acc.length ≤ 2147483647 by have := HAL.out; have := HNL.out; omega)
      have hkn : (k : Int) < (n : Int) := by omega
      clear hi3 hi4 her
      by_cases he0 : er = 0
      · as_aux_lemma =>
        rw [if_pos he0] at hstep
        have HP2 := Lib.hid hstep
        subst he0
        clear hstep
        go_wp2_with (first
    | (go_at_call 78; (with_reducible refine (blob_textV p i2 i3 nm HT.out H.out.p1).mono ?_); rintro e_ wn ⟨rfl, h⟩; replace H := Lib.hid h; clear h)
    | (go_at_call 79; (with_reducible refine (val_parts p i3 i4 ps HPS.out H.out).mono ?_); rintro e_ wn ⟨pv, rfl, h⟩; obtain ⟨qx, capx, hpv⟩ := flat_form (Know.has_right (Know.has_refl _)) h; subst hpv; have h := h.p1; replace H := Lib.hid h; clear h)
    | (at_builtin; refine wpl_app1_st rfl _ _ 22 rfl 51 Try.underlying22 elem_top _ _ _ rfl H.out [.string (bb nm), .slice qx ps.length capx] 51 rfl rfl (by simp [Value.oneCell']) (by have := HAB.out; unfold maxLen; omega) (by have := HAB.out; omega) ?_; intro v' w' h; have h := h.p1; replace H := Lib.hid h; clear h)
    | (go_at_call 27; (with_reducible refine (s_errV p i4 0 HER.out H.out).mono ?_); rintro e_ wn ⟨rfl, h⟩; have h := h.p1; replace H := Lib.hid h; clear h))
        go_roundw
        case rel => exact ⟨k + 1, i4, acc ++ [((⟨nm, ps⟩ : TopS), .slice qx ps.length capx)], K2.and (Know.flat RI (.slice qx ps.length capx) 1 ps), hlt, by go_num, Lib.hid (by rw [List.length_append, HAL.out]; rfl), Lib.hid (by rw [List.map_append]; exact HP2.out), Lib.hid (Know.has_trans (Know.has_left (Know.has_refl _)) HKK.out), Lib.hid (fun x hx => by
          rcases List.mem_append.1 hx with hx | hx
          · exact Know.has_left (HALL.out x hx)
          · rw [List.mem_singleton.1 hx]; exact Know.has_right (Know.has_refl _)), by rw [List.length_append, List.flatMap_append]; exact H.out⟩
        case measure => first | (simp [intOf]; done) | (simp [intOf]; omega)
      · as_aux_lemma =>
        rw [if_neg he0] at hstep
        simp only [Prod.mk.injEq] at hstep
        obtain ⟨rfl, rfl⟩ := hstep
        have gz : (er == 0) = false := by rw [beq_eq_false_iff_ne]; exact he0
        have gz3 : (er != 0) = true := by simp [bne, gz]
        clear he0
        go_wp2_with (first
    | (go_at_call 78; (with_reducible refine (blob_textV p i2 i3 nm HT.out H.out.p1).mono ?_); rintro e_ wn ⟨rfl, h⟩; replace H := Lib.hid h; clear h)
    | (go_at_call 79; (with_reducible refine (val_parts p i3 _ ps HPS.out H.out).mono ?_); rintro e_ wn ⟨pv, rfl, h⟩; obtain ⟨qx, capx, hpv⟩ := flat_form (Know.has_right (Know.has_refl _)) h; subst hpv; have h := h.p1; replace H := Lib.hid h; clear h)
    | (at_builtin; refine wpl_app1_st rfl _ _ 22 rfl 51 Try.underlying22 elem_top _ _ _ rfl H.out [.string (bb nm), .slice qx ps.length capx] 51 rfl rfl (by simp [Value.oneCell']) (by have := HAB.out; unfold maxLen; omega) (by have := HAB.out; omega) ?_; intro v' w' h; have h := h.p1; replace H := Lib.hid h; clear h)
    | (go_at_call 27; (with_reducible refine (s_errV p _ er HER.out H.out).mono ?_); rintro e_ wn ⟨rfl, h⟩; replace H := Lib.hid h; clear h))
        go_ret
        exact ⟨_, [], rfl, rfl, (H.out.p1.drop).know (Know.has_trans (Know.has_left HKK.out) (tops_nil K))⟩
    · obtain rfl : k = n := by omega
      have hp := HP.out
      rw [Nat.sub_self] at hp
      have hp : (acc.map (·.1), i2) = (l, j) := hp
      simp only [Prod.mk.injEq] at hp
      obtain ⟨rfl, rfl⟩ := hp
      go_wp2
      go_ret
      have hf := H.out.freezeRow (R := RTop) (fun x _ => ⟨rfl, rfl⟩)
      have hf2 := hf.know (K' := K.and (Know.tops _ acc)) (fun w F hh => ⟨HKK.out _ _ hh.1, hh.2, fun y hy => HALL.out y hy _ _ hh.1⟩)
      first | exact ⟨_, acc, rfl, rfl, hf2⟩ | exact ⟨_, rfl, acc, rfl, hf2⟩

end Go.Proofs.Ytombolmicfjjpaa

/- The bytes of control records (pure). -/
namespace Go.Proofs.Ytombolmicfjjpaa
open Go.RowKit

/-- A number of so many bytes, behind the version. -/
def verB (n : Int) (k : Nat) : Bs := beBytes 0 2 ++ beBytes n k
def ctlKey (k : Int) : Bs × Int := if k = 0 ∨ k = 1 then (verB k 2, 0) else ([], 12)
def ctlVal (n : Int) : Bs × Int := if 0 ≤ n ∧ n < 2147483648 then (verB n 4, 0) else ([], 11)
/-- Of bytes the number behind the version. -/
def verRd (k : Nat) (ok : Int → Bool) (e : Int) (s : Bs) : Int × Int :=
  if s.length < 2 then (0, 1) else if sInt (s.take 2) ≠ 0 then (0, 7) else if s.length < 2 + k then (0, 1)
  else if ok (sInt ((s.drop 2).take k)) = false then (0, e) else if 2 + k < s.length then (0, 2) else (sInt ((s.drop 2).take k), 0)
def verA (s : Bs) : Int × InS := (⟨s, 0, 0⟩ : InS).int 2
def verI (s : Bs) : InS := if (verA s).1 = 0 then (verA s).2 else (verA s).2.fail 7
def verJ (k : Nat) (ok : Int → Bool) (e : Int) (s : Bs) : InS := if ok ((verI s).int k).1 = true then ((verI s).int k).2 else ((verI s).int k).2.fail e
def verD (k : Nat) (ok : Int → Bool) (e : Int) (s : Bs) : Int × Int := if (verJ k ok e s).close.err = 0 then (((verI s).int k).1, 0) else (0, (verJ k ok e s).close.err)
theorem close_stuckC {i : InS} (h : i.err ≠ 0) : i.close = i := by
  unfold InS.close
  split
  · exact if_neg h
  · rfl
theorem verD_bad {k : Nat} {ok : Int → Bool} {e x : Int} {s : Bs} (hx : x ≠ 0) (h : (verJ k ok e s).err = x) : verD k ok e s = (0, x) := by
  subst h
  unfold verD
  rw [close_stuckC hx, if_neg hx]
theorem verJ_stuck {k : Nat} {ok : Int → Bool} {e x : Int} {s : Bs} (h1 : 1 ≤ k) (h8 : k ≤ 8) (hx : x ≠ 0) (h : (verI s).err = x) : (verJ k ok e s).err = x := by
  subst h
  have h2 : (verI s).int k = (0, verI s) := (rds_intN k h1 h8).stuck (verI s) hx
  unfold verJ
  rw [h2]
  split
  · rfl
  · rw [show (verI s).fail e = verI s from if_neg hx]
theorem verD_eq (k : Nat) (ok : Int → Bool) (e : Int) (h1 : 1 ≤ k) (h8 : k ≤ 8) (he : e ≠ 0) (s : Bs) : verD k ok e s = verRd k ok e s := by
  have hi := rds_intN 2 (by decide) (by decide)
  have hk := rds_intN k h1 h8
  unfold verRd
  by_cases c1 : s.length < 2
  · rw [if_pos c1]
    obtain ⟨_, q, _, h3⟩ := hi.err s 0 1 (Nat.zero_le _) (by simp [getIntN, c1])
    have h4 : verA s = (0, ⟨s, q, 1⟩) := h3
    refine verD_bad (by decide) (verJ_stuck h1 h8 (by decide) ?_)
    unfold verI
    rw [h4]
    rfl
  rw [if_neg c1]
  obtain ⟨_, h3⟩ := hi.ok s 0 (sInt (s.take 2)) 2 (Nat.zero_le _) (by simp [getIntN, c1])
  have h4 : verA s = (sInt (s.take 2), ⟨s, 2, 0⟩) := h3
  by_cases c2 : sInt (s.take 2) ≠ 0
  · rw [if_pos c2]
    refine verD_bad (by decide) (verJ_stuck h1 h8 (by decide) ?_)
    unfold verI
    rw [h4, if_neg c2]
    rfl
  rw [if_neg c2]
  have hI : verI s = ⟨s, 2, 0⟩ := by unfold verI; rw [h4, if_pos (by simpa using c2)]
  by_cases c3 : s.length < 2 + k
  · rw [if_pos c3]
    obtain ⟨_, q, _, h7⟩ := hk.err s 2 1 (by omega) (by unfold getIntN; rw [if_pos (by rw [List.length_drop]; omega)])
    have h7 : (verI s).int k = (0, ⟨s, q, 1⟩) := by rw [hI]; exact h7
    refine verD_bad (by decide) ?_
    unfold verJ
    rw [h7]
    split
    · rfl
    · rfl
  rw [if_neg c3]
  obtain ⟨_, h7⟩ := hk.ok s 2 (sInt ((s.drop 2).take k)) k (by omega) (by unfold getIntN; rw [if_neg (by rw [List.length_drop]; omega)])
  have h7 : (verI s).int k = (sInt ((s.drop 2).take k), ⟨s, 2 + k, 0⟩) := by rw [hI]; exact h7
  by_cases c4 : ok (sInt ((s.drop 2).take k)) = false
  · rw [if_pos c4]
    refine verD_bad he ?_
    unfold verJ
    rw [h7]
    rw [if_neg (by rw [c4]; decide)]
    rfl
  rw [if_neg c4]
  have hJ : verJ k ok e s = ⟨s, 2 + k, 0⟩ := by unfold verJ; rw [h7, if_pos (by simpa using c4)]
  by_cases c5 : 2 + k < s.length
  · have hc : (⟨s, 2 + k, 0⟩ : InS).close = ⟨s, 2 + k, 2⟩ := by
      unfold InS.close
      rw [if_pos (show 0 < (⟨s, 2 + k, 0⟩ : InS).left by simp only [InS.left]; omega)]
      rfl
    unfold verD
    rw [if_pos c5, hJ, hc, if_neg (by simp only; decide)]
  · have hc : (⟨s, 2 + k, 0⟩ : InS).close = ⟨s, 2 + k, 0⟩ := by
      unfold InS.close
      rw [if_neg (show ¬ 0 < (⟨s, 2 + k, 0⟩ : InS).left by simp only [InS.left]; omega)]
    unfold verD
    rw [if_neg c5, hJ, hc, if_pos rfl, h7]
def way (n : Int) : Bool := n == 0 || n == 1
def time0 (n : Int) : Bool := decide (0 ≤ n)
theorem verB_len (n : Int) (k : Nat) : (verB n k).length = 2 + k := by unfold verB; simp [beBytes_length]
theorem verB_take (n : Int) (k : Nat) : (verB n k).take 2 = beBytes 0 2 := by unfold verB; rw [List.take_left' (by simp [beBytes_length])]
theorem verB_drop (n : Int) (k : Nat) : (verB n k).drop 2 = beBytes n k := by unfold verB; rw [List.drop_left' (by simp [beBytes_length])]
theorem verRd_back (n : Int) (k : Nat) (ok : Int → Bool) (e : Int) (h1 : 1 ≤ k) (h8 : k ≤ 8) (hf : fits n k) (ho : ok n = true) : verRd k ok e (verB n k) = (n, 0) := by
  have h2 : sInt (beBytes n k) = n := (sInt_beBytes_iff n k h1).2 ⟨hf.2.2.1, hf.2.2.2⟩
  have h3 : (verB n k).length = 2 + k := verB_len n k
  have h4 : ((verB n k).drop 2).take k = beBytes n k := by rw [verB_drop, List.take_of_length_le (by simp [beBytes_length])]
  unfold verRd
  rw [if_neg (by omega), verB_take, if_neg (by decide), if_neg (by omega), h4, h2, if_neg (by rw [ho]; decide), if_neg (by omega)]
theorem ver_text (n : Int) (k : Nat) (h : fits n k) : ((⟨beBytes 0 2, 0⟩ : OutS).int n k).text = (verB n k, 0) := by
  unfold OutS.int
  rw [if_pos h]
  rfl
theorem ver_textN (n : Int) (k : Nat) (h : ¬ fits n k) : ((⟨beBytes 0 2, 0⟩ : OutS).int n k).text = ([], 11) := by
  unfold OutS.int
  rw [if_neg h]
  rfl
theorem half2 : half 2 = 32768 := by decide
theorem half4 : half 4 = 2147483648 := by decide
theorem fits2 (n : Int) (h : -32768 ≤ n ∧ n < 32768) : fits n 2 := ⟨by decide, by decide, by have := half2; show -half 2 ≤ n; omega, by have := half2; show n < half 2; omega⟩
theorem fits4 (n : Int) : fits n 4 ↔ (-2147483648 ≤ n ∧ n < 2147483648) := by
  have := half4
  constructor
  · intro h
    have h3 : -half 4 ≤ n := h.2.2.1
    have h4 : n < half 4 := h.2.2.2
    omega
  · intro h
    exact ⟨by decide, by decide, by show -half 4 ≤ n; omega, by show n < half 4; omega⟩

end Go.Proofs.Ytombolmicfjjpaa

/- Contracts of package control. -/
namespace Go.Proofs.Ytombolmicfjjpaa
open Go.RowKit

end Go.Proofs.Ytombolmicfjjpaa

/- Contracts of cursitorref08. -/
namespace Go.Proofs.Ytombolmicfjjpaa
open Go.RowKit

theorem sr_bytes2 (n : Int) (hn : -9223372036854775808 ≤ n ∧ n < 9223372036854775808) {W0 w : World} {K : Know} {L : List Res} (h : St W0 w K L) :
    Calls Try.prog 75 #[.int .i64 n, .int .i64 2] w fun en w' => en = .returned (.string (bb (beBytes n 2))) ∧ St W0 w' K L := sr_bytes n 2 (by decide) hn h
theorem sr_bytes4 (n : Int) (hn : -9223372036854775808 ≤ n ∧ n < 9223372036854775808) {W0 w : World} {K : Know} {L : List Res} (h : St W0 w K L) :
    Calls Try.prog 75 #[.int .i64 n, .int .i64 4] w fun en w' => en = .returned (.string (bb (beBytes n 4))) ∧ St W0 w' K L := sr_bytes n 4 (by decide) hn h
end Go.Proofs.Ytombolmicfjjpaa

/- Contracts: control records. -/
namespace Go.Proofs.Ytombolmicfjjpaa
open Go.RowKit

theorem know_nil0 {α : Type} (R : List Value → α → Prop) (sz : Nat) (K : Know) : K.has (Know.flat R (.slice none 0 0) sz []) := fun _ _ _ => ⟨none, 0, rfl, fun h => absurd h (by simp)⟩

def ctlRead (n1 n2 : Bool) (d1 d2 : Bs) (many o : Int) : Int × Int × Int :=
  if n1 = true ∨ n2 = true ∨ many ≠ 0 ∨ o ≠ 0 then (0, 0, 12)
  else if (verRd 2 way 12 d1).2 ≠ 0 then (0, 0, (verRd 2 way 12 d1).2)
  else if (verRd 4 time0 11 d2).2 ≠ 0 then (0, 0, (verRd 4 time0 11 d2).2)
  else ((verRd 2 way 12 d1).1, (verRd 4 time0 11 d2).1, 0)

end Go.Proofs.Ytombolmicfjjpaa

/- Batches (pure): which may be. -/
namespace Go.Proofs.Ytombolmicfjjpaa
open Go.RowKit

structure BatS where
  base : Int
  leader : Int
  app : Bool
  txn : Bool
  ctl : Bool
  last : Int
  first : Int
  maxt : Int
  prod : Int
  epoch : Int
  seq : Int
  recs : List RecS
deriving DecidableEq
def BatS.zero : BatS := ⟨0, 0, false, false, false, 0, 0, 0, 0, 0, 0, []⟩
def Rn (n : Int) : Prop := -9223372036854775808 ≤ n ∧ n < 9223372036854775808
def BatS.R (b : BatS) : Prop := Rn b.base ∧ Rn b.leader ∧ Rn b.last ∧ Rn b.first ∧ Rn b.maxt ∧ Rn b.prod ∧ Rn b.epoch ∧ Rn b.seq
def BatS.placed (b : BatS) : Bool := decide (0 ≤ b.base ∧ (-1 ≤ b.leader ∧ b.leader ≤ 2147483647) ∧ (0 ≤ b.last ∧ b.last ≤ 2147483647) ∧ b.base ≤ 9223372036854775807 - b.last ∧ 0 ≤ b.first ∧ 0 ≤ b.maxt)
def BatS.signed (b : BatS) : Bool :=
  if b.prod = -1 then decide (b.epoch = -1 ∧ b.seq = -1 ∧ b.txn = false)
  else if b.prod < 0 ∨ ¬ (0 ≤ b.epoch ∧ b.epoch ≤ 32767) then false
  else if b.ctl then decide (b.seq = -1)
  else decide (0 ≤ b.seq ∧ b.seq ≤ 2147483647)
/-- The greatest time of records behind a first one, or why their places and times may not be. -/
def rowsC (first last : Int) : List RecS → Int → Int → Except Int Int
  | [], _, g => .ok g
  | r :: t, ah, g => if r.off ≤ ah ∨ last < r.off then .error 13 else if r.time < -first ∨ 9223372036854775807 - first < r.time then .error 11 else rowsC first last t r.off (max g (first + r.time))
def rowsE (app : Bool) (maxt : Int) (r : Except Int Int) : Int := match r with
  | .error e => e
  | .ok g => if app = false ∧ maxt ≠ g then 11 else 0
def BatS.rows (b : BatS) : Int := rowsE b.app b.maxt (rowsC b.first b.last b.recs (-1) b.first)
def recsC : List RecS → Int
  | [] => 0
  | r :: t => if recOk r = 0 then recsC t else recOk r
def ctlOf (r : RecS) : Int × Int × Int := ctlRead r.key.null r.val.null r.key.data r.val.data r.hdrs.length r.off
def BatS.ends (b : BatS) : Int := match b.recs with | [] => 0 | r :: _ => (ctlOf r).2.2
def batErr (b : BatS) : Int :=
  if b.placed = false then 11
  else if b.ctl = true ∧ b.txn = false then 8
  else if b.signed = false then 11
  else if b.ctl = true ∧ b.recs.length ≠ 1 then 10
  else if recsC b.recs ≠ 0 then recsC b.recs
  else if b.ctl = true ∧ b.ends ≠ 0 then b.ends
  else b.rows

end Go.Proofs.Ytombolmicfjjpaa

/- Batches (pure): rows. -/
namespace Go.Proofs.Ytombolmicfjjpaa
open Go.RowKit

def FitB (l : List (RecS × Value)) : Prop := ∀ x ∈ l, x.1.R ∧ HFit x.1.hdrs ∧ x.1.sum ≤ 1000000
theorem sum_hdrs {x : RecS} (h : x.sum ≤ 1000000) : x.hdrs.length ≤ 1000000 := by have := hsum_le x.hdrs; unfold RecS.sum at h; omega
theorem sum_data {x : RecS} (h : x.sum ≤ 1000000) : x.key.data.length ≤ 140737488355328 ∧ x.val.data.length ≤ 140737488355328 := by unfold RecS.sum at h; omega
theorem drop_recs (l : List (RecS × Value)) (k : Nat) (h : k < l.length) (x : RecS) (hx : l[k].1 = x) : (l.map (·.1)).drop k = x :: (l.map (·.1)).drop (k + 1) := by
  subst hx
  rw [List.drop_eq_getElem_cons (by simpa using h), List.getElem_map]
def GOf (r : Except Int Int) : Int := match r with | .ok g => g | .error _ => 0
theorem rowsC_cons (first last : Int) (r : RecS) (t : List RecS) (ah g : Int) : rowsC first last (r :: t) ah g = if r.off ≤ ah ∨ last < r.off then .error 13 else if r.time < -first ∨ 9223372036854775807 - first < r.time then .error 11 else rowsC first last t r.off (max g (first + r.time)) := rfl

end Go.Proofs.Ytombolmicfjjpaa
