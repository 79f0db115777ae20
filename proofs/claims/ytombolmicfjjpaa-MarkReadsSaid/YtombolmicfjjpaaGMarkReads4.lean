/- Contracts: control records. -/
import Derived.Test.YtombolmicfjjpaaGMarkReads2
import Derived.Test.YtombolmicfjjpaaGMarkReads3
import Derived.Test.YtombolmicfjjpaaGMarkReads1
import Derived.Test.YtombolmicfjjpaaBlob1
import Derived.Test.YtombolmicfjjpaaRef04
import Derived.Test.YtombolmicfjjpaaKeyP
import Derived.Test.YtombolmicfjjpaaSep
import Derived.Deep.MidRow
import Derived.RegionTactic
import Derived.Deep.DeepCutAuto
import Derived.Test.YtombolmicfjjpaaBlobP
import Derived.Test.YtombolmicfjjpaaIntsP
import Derived.Test.YtombolmicfjjpaaBlob2
import Derived.Test.YtombolmicfjjpaaRec1
/- Values, checked. -/
namespace Go.Proofs.Ytombolmicfjjpaa
open Go.RowKit

theorem idle_0 : idle 0 = true := rfl
theorem val_check (v : ValS) (l : List (TopS × Value)) (q : Option Addr) (cap : Nat) (hl : l.map (·.1) = v.tops) (E : Int) (he : v.err = E) (hf : FewT l) {W0 w : World} {K : Know} {L : List Res} (hk : K.has (Know.tops (.slice q l.length cap) l)) (h : St W0 w K L) :
    Calls Try.prog 17 #[.agg #[.int .i64 v.prod, .int .i64 v.epoch, .int .i64 v.timeout, .int .i64 v.state, .slice q l.length cap, .int .i64 v.upd, .int .i64 v.started]] w fun en w' => en = .returned (.int .i64 E) ∧ St W0 w' K L := by
  obtain ⟨p, e, t, s, tops, u, st⟩ := v
  simp only at hl ⊢
  subst hl
  unfold ValS.err ValS.ranged at he
  simp only at he
  cases hrg : (decide (0 ≤ p) && (decide (0 ≤ e) && (decide (e ≤ 32767) && (decide (0 ≤ t) && (decide (t ≤ 2147483647) && (decide (0 ≤ u) && decide (-1 ≤ st))))))) with
  | false =>
    rw [if_pos hrg] at he
    subst he
    exact val_check_11 p e t s u st l q cap hrg hf hk h
  | true =>
    rw [if_neg (by rw [hrg]; decide)] at he
    by_cases hs : s < 0 ∨ 7 ≤ s
    · rw [if_pos hs] at he
      subst he
      exact val_check_12 p e t s u st l q cap hrg hs hf hk h
    · rw [if_neg hs] at he
      have s1 : 0 ≤ s := by omega
      have s2 : s < 7 := by omega
      have hemp : (l.map (·.1)).isEmpty = decide (l = []) := by cases l <;> simp
      rw [hemp] at he
      by_cases hem : l = []
      · rw [decide_eq_true hem] at he
        cases hi : idle s with
        | false =>
          rw [if_pos (.inl (by rw [hi]; rfl))] at he
          subst he
          subst hem; exact val_check_10e p e t s u st q cap hrg s1 s2 hi hf hk h
        | true =>
          by_cases h1 : s = 0
          · by_cases h2 : st = -1
            · rw [if_neg (by rw [hi, h1, h2]; decide)] at he
              have htr : tRise (l.map (·.1)) = true := by rw [hem]; rfl
              rw [if_neg (by rw [htr]; decide)] at he
              subst he
              subst hem; exact val_check_e11t p e t s u st q cap hrg s1 s2 hi h1 h2 htr hf hk h
            · rw [if_pos (.inr (by rw [h1, beq_eq_false_iff_ne.2 h2]; rfl))] at he
              subst he
              subst hem; exact val_check_e10 p e t s u st q cap hrg s1 s2 hi h1 h2 hf hk h
          · by_cases h2 : st = -1
            · rw [if_pos (.inr (by rw [h2, beq_eq_false_iff_ne.2 h1]; rfl))] at he
              subst he
              subst hem; exact val_check_e01 p e t s u st q cap hrg s1 s2 hi h1 h2 hf hk h
            · rw [if_neg (by rw [hi, beq_eq_false_iff_ne.2 h1, beq_eq_false_iff_ne.2 h2]; decide)] at he
              have htr : tRise (l.map (·.1)) = true := by rw [hem]; rfl
              rw [if_neg (by rw [htr]; decide)] at he
              subst he
              subst hem; exact val_check_e00t p e t s u st q cap hrg s1 s2 hi h1 h2 htr hf hk h
      · rw [decide_eq_false hem] at he
        cases hi : idle s with
        | true =>
          rw [if_pos (.inl (by rw [hi]; rfl))] at he
          subst he
          exact val_check_10f p e t s u st l q cap hrg s1 s2 hi hem hf hk h
        | false =>
          have h1 : ¬ s = 0 := by rintro rfl; rw [idle_0] at hi; cases hi
          by_cases h2 : st = -1
          · rw [if_pos (.inr (by rw [h2, beq_eq_false_iff_ne.2 h1]; rfl))] at he
            subst he
            exact val_check_f01 p e t s u st l q cap hrg s1 s2 hi hem h1 h2 hf hk h
          · rw [if_neg (by rw [hi, beq_eq_false_iff_ne.2 h1, beq_eq_false_iff_ne.2 h2]; decide)] at he
            cases htr : tRise (l.map (·.1)) with
            | true =>
              rw [if_neg (by rw [htr]; decide)] at he
              subst he
              exact val_check_f00t p e t s u st l q cap hrg s1 s2 hi hem h1 h2 htr hf hk h
            | false =>
              rw [if_pos htr] at he
              subst he
              exact val_check_f00b p e t s u st l q cap hrg s1 s2 hi hem h1 h2 htr hf hk h

end Go.Proofs.Ytombolmicfjjpaa

/- Numbers and texts, written. -/
namespace Go.Proofs.Ytombolmicfjjpaa
open Go.RowKit

theorem fits_rng (n size : Int) (h : fits n size) : -9223372036854775808 ≤ n ∧ n < 9223372036854775808 := by
  obtain ⟨h1, h2, h3, h4⟩ := h
  unfold half at h3 h4
  rcases (by omega : size.toNat - 1 = 0 ∨ size.toNat - 1 = 1 ∨ size.toNat - 1 = 2 ∨ size.toNat - 1 = 3 ∨ size.toNat - 1 = 4 ∨ size.toNat - 1 = 5 ∨ size.toNat - 1 = 6 ∨ size.toNat - 1 = 7) with h | h | h | h | h | h | h | h <;> rw [h] at h3 h4 <;> omega
theorem so_intV (p : Nat) (e e2 : Bs) (n size : Int) (he : e ++ beBytes n size.toNat = e2) (hf : fits n size) (hl : e.length ≤ 100000000000000) {W0 w : World} {K : Know} {L : List Res} (h : St W0 w K (.out p ⟨e, 0⟩ :: L)) :
    Calls Try.prog 69 #[outPtr p, .int .i64 n, .int .i64 size] w fun en w' => en = .returned (.tuple #[]) ∧ St W0 w' K (.out p ⟨e2, 0⟩ :: L) := by
  have h2 := so_int p ⟨e, 0⟩ n size (fits_rng n size hf) h (by unfold OutS.ok; simp only; omega)
  have e3 : (⟨e, 0⟩ : OutS).int n size = ⟨e2, 0⟩ := by unfold OutS.int; rw [if_pos hf, ← he]; rfl
  rw [e3] at h2
  exact h2
theorem blob_putTextV (p : Nat) (e e2 s : Bs) (he : e ++ encF 2 ⟨false, s⟩ = e2) (hs : s.length ≤ 32767) (hl : e.length ≤ 100000000000000) {W0 w : World} {K : Know} {L : List Res} (h : St W0 w K (.out p ⟨e, 0⟩ :: L)) :
    Calls Try.prog 86 #[outPtr p, .string (bb s)] w fun en w' => en = .returned (.tuple #[]) ∧ St W0 w' K (.out p ⟨e2, 0⟩ :: L) := by
  have h2 := blob_putText p ⟨e, 0⟩ s h (by unfold OutS.ok; simp only; omega)
  have hf : fits (⟨false, s⟩ : BlobS).len 2 := vfits2 _ (by show -32768 ≤ (s.length : Int) ∧ (s.length : Int) < 32768; omega)
  have e3 : (⟨e, 0⟩ : OutS).putText s = ⟨e2, 0⟩ := by
    show ((⟨e, 0⟩ : OutS).int (⟨false, s⟩ : BlobS).len 2).putData ⟨false, s⟩ = _
    unfold OutS.int
    rw [if_pos hf, ← he]
    show (⟨(e ++ beBytes (⟨false, s⟩ : BlobS).len 2) ++ s, 0⟩ : OutS) = _
    rw [List.append_assoc]
    rfl
  rw [e3] at h2
  exact h2
theorem sr_bytesV (n size : Int) (k : Nat) (hs : size = k) (hk : k ≤ 8) (r : Bs) (hr : beBytes n k = r) (hn : -9223372036854775808 ≤ n ∧ n < 9223372036854775808) {W0 w : World} {K : Know} {L : List Res} (h : St W0 w K L) :
    Calls Try.prog 75 #[.int .i64 n, .int .i64 size] w fun en w' => en = .returned (.string (bb r)) ∧ St W0 w' K L := by
  subst hr hs
  exact sr_bytes n k (by omega) hn h
theorem ref04_fixedV (s r : Bs) (hr : encF 2 ⟨false, s⟩ = r) (hs : s.length ≤ 32767) {W0 w : World} {K : Know} {L : List Res} (h : St W0 w K L) :
    Calls Try.prog 87 #[.agg #[.bool false, .string (bb s)], .int .i64 2] w fun en w' => en = .returned (.string (bb r)) ∧ St W0 w' K L := by
  subst hr
  exact ref04_fixed ⟨false, s⟩ 2 (by simp only; omega) (by decide) h

end Go.Proofs.Ytombolmicfjjpaa

/- Topics, written. -/
namespace Go.Proofs.Ytombolmicfjjpaa
open Go.RowKit

set_option maxHeartbeats 2000000 in
set_option maxRecDepth 100000 in
theorem val_putTopics (po : Nat) (e e2 : Bs) (l : List (TopS × Value)) (q : Option Addr) (cap : Nat) (he : e ++ encTs (l.map (·.1)) = e2) (hel : e.length ≤ 1000000) (hf : FitTs (l.map (·.1))) {W0 w : World} {K : Know} {L : List Res} (hk : K.has (Know.tops (.slice q l.length cap) l)) (h : St W0 w K (.out po ⟨e, 0⟩ :: L)) :
    Calls Try.prog 31 #[outPtr po, .slice q l.length cap] w fun en w' => en = .returned (.tuple #[]) ∧ St W0 w' K (.out po ⟨e2, 0⟩ :: L) := by
  have H := Lib.hid h
  have HK := Lib.hid hk
  have HE := Lib.hid he
  have HEL := Lib.hid hel
  have HF := Lib.hid hf
  have hni : (l.length : Int) ≤ 1000000 := by have := hf.1; rw [List.length_map] at this; omega
  obtain ⟨A, hA⟩ : ∃ A, e ++ preT (l.map (·.1)) 0 = A := ⟨_, rfl⟩
  have HA := Lib.hid (show e ++ beBytes (l.length : Int) (4 : Int).toNat = A by rw [← hA, preT_zero, List.length_map]; rfl)
  have HFL := Lib.hid (vfits4 (l.length : Int) (by omega))
  have HR0 := Lib.hid (show e.length ≤ 100000000000000 by omega)
  clear h hk he hel hf
  go_enter Try.func31, Try.ntmps31
  go_wp2_with (go_at_call 69; (with_reducible refine (so_intV po _ _ _ _ HA.out HFL.out HR0.out H.out).mono ?_); rintro e_ wn ⟨rfl, h⟩; replace H := Lib.hid h; clear h)
  go_loopw [5, 7, 14, 30] (fun _ _ iv _ wr => ∃ k : Nat, k ≤ l.length ∧ iv = .int .i64 k ∧ St W0 wr K (.out po ⟨e ++ preT (l.map (·.1)) k, 0⟩ :: L)) (fun _ _ iv _ _ => l.length - (intOf iv).toNat)
  case atStart => exact ⟨0, Nat.zero_le _, rfl, by rw [hA]; exact H.out⟩
  case round =>
    obtain ⟨k, hkl, rfl, hst⟩ := hrel
    clear H hA
    have H := Lib.hid hst
    clear hst
    by_cases hlt : k < l.length
    · as_aux_lemma =>
      obtain ⟨b, off, hqq⟩ := tops_at HK.out H.out (by omega)
      subst hqq
      obtain ⟨⟨⟨nm, ps⟩, vx⟩, hx⟩ : ∃ x, l[k] = x := ⟨_, rfl⟩
      obtain ⟨c0, c1⟩ : wr.cell? ⟨b, off + k * 2, none⟩ = some (.string (bb nm)) ∧ wr.cell? ⟨b, off + k * 2 + 1, none⟩ = some vx := tops_cell HK.out H.out k hlt _ hx
      have hmem : ((⟨nm, ps⟩ : TopS), vx) ∈ l := hx ▸ List.getElem_mem hlt
      have hxk : K.has (Know.flat RI vx 1 ps) := tops_parts HK.out hmem
      obtain ⟨qx, capx, hvx⟩ := flat_form hxk H.out
      subst hvx
      have HXK := Lib.hid hxk
      have hmk : k < (l.map (·.1)).length := by rw [List.length_map]; exact hlt
      have hmg : (l.map (·.1))[k] = ⟨nm, ps⟩ := by rw [List.getElem_map, hx]
      have hfx : (⟨nm, ps⟩ : TopS).Fit := HF.out.2 _ (hmg ▸ List.getElem_mem hmk)
      have HNM := Lib.hid hfx.1
      have HPL := Lib.hid hfx.2.1
      have HPS := Lib.hid hfx.2.2
      have hkn : (k : Int) < (l.length : Int) := by omega
      have hnl : (nm.length : Int) ≤ 32767 := by have := hfx.1; simp only at this; omega
      have hpl : (ps.length : Int) ≤ 1000000 := by have := hfx.2.1; simp only at this; omega
      have hst1 := preT_step (l.map (·.1)) k hmk _ hmg
      have hle1 := preT_le (l.map (·.1)) HF.out (k + 1) hmk
      have hln : (l.map (·.1)).length ≤ 1000000 := HF.out.1
      simp only at hst1
      have hel := HEL.out
      obtain ⟨tb, htb⟩ : ∃ b, wr.heap.size = b := ⟨_, rfl⟩
      have h := (H.out.allocRaw #[.string (bb nm), .slice qx ps.length capx] 51).p1
      rw [htb] at h
      have t0 := h.p1.rawCell 0
      have t1 := h.p1.rawCell 1
      simp at t0 t1
      obtain ⟨B0, hB0⟩ : ∃ B, e ++ preT (l.map (·.1)) k = B := ⟨_, rfl⟩
      obtain ⟨B1, hB1⟩ : ∃ B, B0 ++ encF 2 ⟨false, nm⟩ = B := ⟨_, rfl⟩
      obtain ⟨B2, hB2⟩ : ∃ B, B1 ++ beBytes (ps.length : Int) 4 = B := ⟨_, rfl⟩
      have HB3 := Lib.hid (show e ++ preT (l.map (·.1)) (k + 1) = B2 ++ be4s ps by rw [hst1, ← hB2, ← hB1, ← hB0]; simp only [List.append_assoc])
      have hlen : (B2 ++ be4s ps).length ≤ 100000000000000 := by
        rw [← HB3.out, List.length_append]
        omega
      have hl0 : B0.length ≤ 100000000000000 ∧ B1.length ≤ 100000000000000 ∧ B2.length + 4 * ps.length ≤ 100000000000000 := by
        rw [List.length_append, be4s_len] at hlen
        rw [← hB2, List.length_append] at hlen ⊢
        rw [← hB1, List.length_append] at hlen ⊢
        omega
      rw [hB0] at h
      have HB1 := Lib.hid hB1
      have HB2 := Lib.hid (show B1 ++ beBytes (ps.length : Int) (4 : Int).toNat = B2 from hB2)
      have HL0 := Lib.hid hl0
      have HFP := Lib.hid (vfits4 (ps.length : Int) (by omega))
      have hp0 : ps = [] ∨ ∃ pb poff, qx = some ⟨pb, poff, none⟩ := by
        by_cases hps : ps = []
        · exact .inl hps
        · exact .inr (flat_at HXK.out H.out (List.length_pos_iff.2 hps))
      have HP0 := Lib.hid hp0
      clear H
      have H := Lib.hid h
      clear h hx hmem hxk hmk hmg hfx hst1 hle1 hln hel hB0 hB1 hB2 hlen hl0 hp0
      go_wp2_with (first
    | (go_at_call 86; (with_reducible refine (blob_putTextV po B0 B1 nm HB1.out HNM.out HL0.out.1 H.out).mono ?_); rintro e_ wn ⟨rfl, h⟩; have t0 := h.p1.rawCell 0; have t1 := h.p1.rawCell 1; simp at t0 t1; replace H := Lib.hid h; clear h)
    | (go_at_call 69; (with_reducible refine (so_intV po B1 B2 _ _ HB2.out HFP.out HL0.out.2.1 H.out).mono ?_); rintro e_ wn ⟨rfl, h⟩; have t0 := h.p1.rawCell 0; have t1 := h.p1.rawCell 1; simp at t0 t1; replace H := Lib.hid h; clear h))
      clear t0 t1
      go_loopw [7, 30] (fun _ jv wr => ∃ j : Nat, j ≤ ps.length ∧ jv = .int .i64 j ∧ St W0 wr K (.out po ⟨B2 ++ be4s (ps.take j), 0⟩ :: .raw tb #[.string (bb nm), .slice qx ps.length capx] 51 :: L)) (fun _ jv _ => ps.length - (intOf jv).toNat)
      case atStart => exact ⟨0, Nat.zero_le _, rfl, by rw [List.take_zero]; show St W0 _ K (.out po ⟨B2 ++ [], 0⟩ :: _); rw [List.append_nil]; exact H.out⟩
      case round =>
        obtain ⟨j, hjl, rfl, hst⟩ := hrel
        clear H
        have H := Lib.hid hst
        clear hst
        by_cases hlj : j < ps.length
        · have hps : ¬ ps = [] := by rintro rfl; simp at hlj
          rcases HP0.out with hps2 | ⟨pb, poff, hq⟩
          · exact absurd hps2 hps
          subst hq
          have d0 := int_cell HXK.out H.out j hlj
          obtain ⟨x, hx⟩ : ∃ x, ps.getD j 0 = x := ⟨_, rfl⟩
          rw [hx] at d0
          have hxr := HPS.out x (hx ▸ getD_mem ps j hlj)
          have hst := be4s_step ps j hlj x hx
          obtain ⟨C, hC⟩ : ∃ C, B2 ++ be4s (ps.take j) = C := ⟨_, rfl⟩
          have h := H.out
          rw [hC] at h
          have HC2 := Lib.hid (show C ++ beBytes x (4 : Int).toNat = B2 ++ be4s (ps.take (j + 1)) by rw [hst, ← hC, List.append_assoc]; rfl)
          have HCL := Lib.hid (show C.length ≤ 100000000000000 by
            rw [← hC, List.length_append, be4s_len, List.length_take]
            have := HL0.out.2.2
            omega)
          have HFX := Lib.hid (vfits4 x hxr)
          have hji : (j : Int) < (ps.length : Int) := by omega
          clear H
          have H := Lib.hid h
          clear h hC hst hx hps hxr
          go_wp2_with (go_at_call 69; (with_reducible refine (so_intV po C _ x _ HC2.out HFX.out HCL.out H.out).mono ?_); rintro e_ wn ⟨rfl, h⟩; replace H := Lib.hid h; clear h)
          go_roundw
          case rel => exact ⟨j + 1, hlj, by go_num, H.out⟩
          case measure => first | (simp [intOf]; done) | (simp [intOf]; omega)
        · obtain rfl : j = ps.length := by omega
          have h := H.out
          rw [List.take_length, ← HB3.out] at h
          clear H
          have H := Lib.hid h
          clear h
          go_wp2
          go_roundw
          case rel => exact ⟨k + 1, hlt, by go_num, H.out.p1.drop⟩
          case measure => first | (simp [intOf]; done) | (simp [intOf]; omega)
    · obtain rfl : k = l.length := by omega
      have h := H.out
      rw [show preT (l.map (·.1)) l.length = encTs (l.map (·.1)) by rw [← preT_all, List.length_map], HE.out] at h
      clear H
      have H := Lib.hid h
      clear h
      go_wp2
      go_end0
      exact ⟨rfl, H.out⟩

end Go.Proofs.Ytombolmicfjjpaa

/- Values that may be (pure). -/
namespace Go.Proofs.Ytombolmicfjjpaa
open Go.RowKit

theorem pRise_rng (l : List Int) (h : pRise l = true) : ∀ n ∈ l, 0 ≤ n ∧ n ≤ 2147483647 := by
  intro n hn
  obtain ⟨i, hi, rfl⟩ := List.mem_iff_getElem.1 hn
  have hne : l ≠ [] := by rintro rfl; simp at hi
  rw [pRise_pk l hne] at h
  have h2 := allN_at h i hi
  unfold pk at h2
  rw [Bool.and_eq_true] at h2
  have h3 := of_decide_eq_true h2.1
  rw [List.getD_eq_getElem?_getD, List.getElem?_eq_getElem hi] at h3
  exact h3
theorem fit_of_rise (l : List (TopS × Value)) (hf : FewT l) (h : tRise (l.map (·.1)) = true) : FitTs (l.map (·.1)) := by
  unfold tRise at h
  rw [Bool.and_eq_true] at h
  refine ⟨by rw [List.length_map]; exact hf.1, fun t ht => ?_⟩
  have h2 := List.all_eq_true.1 h.1 t ht
  unfold tOk at h2
  simp only [Bool.and_eq_true, decide_eq_true_eq] at h2
  obtain ⟨x, hx, rfl⟩ := List.mem_map.1 ht
  have h3 := pRise_rng _ h2.2
  exact ⟨h2.1.2, (hf.2 x hx).2, fun n hn => by have := h3 n hn; omega⟩
/-- The numbers of a value are such as there can be. -/
def ValS.R (v : ValS) : Prop := (-9223372036854775808 ≤ v.prod ∧ v.prod < 9223372036854775808) ∧ (-9223372036854775808 ≤ v.epoch ∧ v.epoch < 9223372036854775808) ∧ (-9223372036854775808 ≤ v.timeout ∧ v.timeout < 9223372036854775808) ∧ (-9223372036854775808 ≤ v.state ∧ v.state < 9223372036854775808) ∧ (-9223372036854775808 ≤ v.upd ∧ v.upd < 9223372036854775808) ∧ (-9223372036854775808 ≤ v.started ∧ v.started < 9223372036854775808)
theorem so_textV (p : Nat) (e : Bs) {W0 w : World} {K : Know} {L : List Res} (h : St W0 w K (.out p ⟨e, 0⟩ :: L)) :
    Calls Try.prog 32 #[outPtr p] w fun en w' => en = .returned (.tuple #[.string (bb e), .int .i64 0]) ∧ St W0 w' K (.out p ⟨e, 0⟩ :: L) := so_text p ⟨e, 0⟩ h
theorem val_checkV (p e t s u st : Int) (l : List (TopS × Value)) (q : Option Addr) (cap : Nat) (E : Int) (he : ValS.err ⟨p, e, t, s, l.map (·.1), u, st⟩ = E) (hf : FewT l) {W0 w : World} {K : Know} {L : List Res} (hk : K.has (Know.tops (.slice q l.length cap) l)) (h : St W0 w K L) :
    Calls Try.prog 17 #[.agg #[.int .i64 p, .int .i64 e, .int .i64 t, .int .i64 s, .slice q l.length cap, .int .i64 u, .int .i64 st]] w fun en w' => en = .returned (.int .i64 E) ∧ St W0 w' K L := val_check ⟨p, e, t, s, l.map (·.1), u, st⟩ l q cap rfl E he hf hk h

end Go.Proofs.Ytombolmicfjjpaa

/- Values, read (pure). -/
namespace Go.Proofs.Ytombolmicfjjpaa
open Go.RowKit

def ValS.z : ValS := ⟨0, 0, 0, 0, [], 0, 0⟩
/-- Within its bytes. -/
def InS.At (s : Bs) (i : InS) : Prop := i.s = s ∧ i.pos ≤ s.length
theorem At.int {s : Bs} {i : InS} (h : i.At s) (k : Int) : (i.int k).2.At s := by
  obtain ⟨rfl, h⟩ := h
  unfold InS.int
  split
  · unfold InS.fail; split
    · exact ⟨rfl, h⟩
    · exact ⟨rfl, h⟩
  · unfold InS.take
    split
    · exact ⟨rfl, h⟩
    · split
      · exact ⟨rfl, h⟩
      · split
        · exact ⟨rfl, h⟩
        · rename_i h1 h2 h3
          refine ⟨rfl, ?_⟩
          simp only [InS.left] at h3
          show i.pos + k.toNat ≤ i.s.length
          omega
theorem At.fail {s : Bs} {i : InS} (h : i.At s) (e : Int) : (i.fail e).At s := by
  unfold InS.fail
  split
  · exact ⟨h.1, h.2⟩
  · exact h
theorem intsB_len : ∀ (n : Nat) (s : Bs), (intsB n s).length = n
  | 0, _ => rfl
  | n + 1, s => by show (intsB n (s.drop 4)).length + 1 = _; rw [intsB_len n]
def FewL (l : List TopS) : Prop := l.length ≤ 1000000 ∧ ∀ t ∈ l, t.name.length ≤ 140737488355328 ∧ t.parts.length ≤ 1000000
theorem partsP_few {s : Bs} {l : List Int} {n : Nat} (h : partsP s = .ok (l, n)) (hs : s.length ≤ 1000000) : l.length ≤ 1000000 := by
  unfold partsP at h
  cases h1 : cntP 4 s with
  | error e => rw [h1] at h; cases h
  | ok x =>
    rw [h1] at h
    cases h
    have h2 := (cntP_ok (n := x.1) (k := x.2) (by decide) h1).2.1
    rw [intsB_len]
    omega
theorem textP_few {s : Bs} {d : Bs} {n : Nat} (h : textP s = .ok (d, n)) : d.length ≤ s.length := by
  unfold textP at h
  cases h1 : refixed 2 s with
  | error e => rw [h1] at h; cases h
  | ok x =>
    rw [h1] at h
    simp only at h
    split at h
    · cases h
    · cases h
      unfold refixed gotS at h1
      split at h1
      · cases h1
      · split at h1
        · cases h1; simp [BlobS.none]
        · split at h1
          · cases h1
          · split at h1
            · cases h1
            · cases h1
              simp only [List.length_take, List.length_drop]
              omega
theorem topN_few : ∀ (n : Nat) (s : Bs) (l : List TopS) (k : Nat), topN n s = .ok (l, k) → s.length ≤ 1000000 → l.length = n ∧ ∀ t ∈ l, t.name.length ≤ 140737488355328 ∧ t.parts.length ≤ 1000000
  | 0, s, l, k, h, _ => by cases h; exact ⟨rfl, fun t ht => by cases ht⟩
  | n + 1, s, l, k, h, hs => by
    unfold topN at h
    cases h1 : topP s with
    | error e => rw [h1] at h; cases h
    | ok x =>
      rw [h1] at h
      simp only at h
      cases h2 : topN n (s.drop x.2) with
      | error e => rw [h2] at h; cases h
      | ok y =>
        rw [h2] at h
        cases h
        have ih := topN_few n (s.drop x.2) y.1 y.2 h2 (by rw [List.length_drop]; omega)
        refine ⟨by rw [List.length_cons, ih.1], fun t ht => ?_⟩
        rcases List.mem_cons.1 ht with rfl | ht
        · unfold topP at h1
          cases h3 : textP s with
          | error e => rw [h3] at h1; cases h1
          | ok a =>
            rw [h3] at h1
            simp only at h1
            cases h4 : partsP (s.drop a.2) with
            | error e => rw [h4] at h1; cases h1
            | ok b =>
              rw [h4] at h1
              cases h1
              have h5 := textP_few (d := a.1) (n := a.2) h3
              have h6 := partsP_few (l := b.1) (n := b.2) h4 (by rw [List.length_drop]; omega)
              exact ⟨by simp only; omega, h6⟩
        · exact ih.2 t ht
theorem topsP_few {s : Bs} {l : List TopS} {n : Nat} (h : topsP s = .ok (l, n)) (hs : s.length ≤ 1000000) : FewL l := by
  unfold topsP at h
  cases h1 : cntP 6 s with
  | error e => rw [h1] at h; cases h
  | ok x =>
    rw [h1] at h
    simp only at h
    cases h2 : topN x.1 (s.drop 4) with
    | error e => rw [h2] at h; cases h
    | ok y =>
      rw [h2] at h
      cases h
      have h3 := (cntP_ok (n := x.1) (k := x.2) (by decide) h1).2.1
      have h4 := topN_few x.1 (s.drop 4) y.1 y.2 h2 (by rw [List.length_drop]; omega)
      exact ⟨by rw [h4.1]; omega, h4.2⟩
theorem fewT_of {lr : List (TopS × Value)} (h : FewL (lr.map (·.1))) : FewT lr := ⟨by have := h.1; rw [List.length_map] at this; exact this, fun x hx => h.2 x.1 (List.mem_map_of_mem hx)⟩

end Go.Proofs.Ytombolmicfjjpaa

/- Parts of requests of transactions (pure). -/
namespace Go.Proofs.Ytombolmicfjjpaa
open Go.RowKit

/-- Can it be somebody who writes? -/
def who (p e : Int) : Bool := decide (0 ≤ p) && (decide (0 ≤ e) && decide (e ≤ 32767))
theorem who_t {p e : Int} (h : who p e = true) : 0 ≤ p ∧ 0 ≤ e ∧ e ≤ 32767 := by
  unfold who at h; simpa only [Bool.and_eq_true, decide_eq_true_eq] using h
theorem who_f {p e : Int} (h : who p e = false) : p < 0 ∨ e < 0 ∨ 32767 < e := by
  unfold who at h
  by_cases h1 : p < 0
  · exact .inl h1
  · by_cases h2 : e < 0
    · exact .inr (.inl h2)
    · by_cases h3 : 32767 < e
      · exact .inr (.inr h3)
      · rw [decide_eq_true (show 0 ≤ p by omega), decide_eq_true (show 0 ≤ e by omega), decide_eq_true (show e ≤ 32767 by omega)] at h
        cases h
def InS.boolP (i : InS) : Bool × InS := ((i.int 1).1 == 1, if (i.int 1).1 ≠ 0 ∧ (i.int 1).1 ≠ 1 then (i.int 1).2.fail 11 else (i.int 1).2)
def encO (c : Bool) : Bs := [if c then 1 else 0]
def riseE (l : List TopS) : Int := if l = [] then 10 else if tRise l = false then 13 else 0
theorem riseE_eq (l : List TopS) : ValS.err ⟨0, 0, 0, 1, l, 0, 0⟩ = riseE l := by
  have h1 : ValS.ranged ⟨0, 0, 0, 1, l, 0, 0⟩ = true := by rfl
  unfold ValS.err riseE
  rw [h1]
  cases l with
  | nil => rfl
  | cons a t =>
    have e0 : ¬ (true = false) := by decide
    have e1 : ¬ ((1 : Int) < 0 ∨ 7 ≤ (1 : Int)) := by decide
    have e2 : ¬ ((idle 1 != false) = true ∨ (((1 : Int) == 0) != ((0 : Int) == -1)) = true) := by decide
    exact (if_neg e0).trans ((if_neg e1).trans ((if_neg e2).trans (if_neg (List.cons_ne_nil a t)).symm))

end Go.Proofs.Ytombolmicfjjpaa

/- Ends of transactions as bytes (pure). -/
namespace Go.Proofs.Ytombolmicfjjpaa
open Go.RowKit

end Go.Proofs.Ytombolmicfjjpaa

/- Contracts of package key. -/
namespace Go.Proofs.Ytombolmicfjjpaa
open Go.RowKit

end Go.Proofs.Ytombolmicfjjpaa

/- Layer 13, walked. -/
namespace Go.Proofs.Ytombolmicfjjpaa
open Go.RowKit

end Go.Proofs.Ytombolmicfjjpaa

/- Layer 13, walked: KeyEncodes. -/
namespace Go.Proofs.Ytombolmicfjjpaa
open Go.RowKit

end Go.Proofs.Ytombolmicfjjpaa

/- Requests of transactions (pure). -/
namespace Go.Proofs.Ytombolmicfjjpaa
open Go.RowKit

def was (v p e : Int) : Bool := (p == -1 && e == -1) || (v == 1 && who p e)
end Go.Proofs.Ytombolmicfjjpaa

/- Marks (pure). -/
namespace Go.Proofs.Ytombolmicfjjpaa
open Go.RowKit

/-- How a transaction ended. -/
structure MarkS where
  prod : Int
  epoch : Int
  commit : Bool
  tops : List TopS
  coord : Int
deriving DecidableEq
/-- A mark, and where its topics lie. -/
structure MarkR where
  m : MarkS
  l : List (TopS × Value)
  q : Option Addr
  cap : Nat
def RMark (cs : List Value) (x : MarkR) : Prop := cs = [.int .i64 x.m.prod, .int .i64 x.m.epoch, .bool x.m.commit, .slice x.q x.l.length x.cap, .int .i64 x.m.coord]
def MarkS.R (m : MarkS) : Prop := (-9223372036854775808 ≤ m.prod ∧ m.prod < 9223372036854775808) ∧ (-9223372036854775808 ≤ m.epoch ∧ m.epoch < 9223372036854775808) ∧ (-9223372036854775808 ≤ m.coord ∧ m.coord < 9223372036854775808)
def Know.marks (v : Value) (l : List MarkR) : Know := (Know.flat RMark v 5 l).and (Know.all l fun x => Know.tops (.slice x.q x.l.length x.cap) x.l)
theorem marks_flat {K : Know} {v : Value} {l : List MarkR} (h : K.has (Know.marks v l)) : K.has (Know.flat RMark v 5 l) := fun w F x => (h w F x).1
theorem marks_tops {K : Know} {v : Value} {l : List MarkR} (h : K.has (Know.marks v l)) {x : MarkR} (hx : x ∈ l) : K.has (Know.tops (.slice x.q x.l.length x.cap) x.l) := fun w F y => (h w F y).2 x hx
theorem marks_form {W0 w : World} {K : Know} {L : List Res} {v : Value} {l : List MarkR} (hk : K.has (Know.marks v l)) (h : St W0 w K L) : ∃ q cap, v = .slice q l.length cap := by
  obtain ⟨F, hF, _⟩ := h.get
  obtain ⟨q, cap, hv, _⟩ := (marks_flat hk _ _ hF).at
  exact ⟨q, cap, hv⟩
theorem marks_at {W0 w : World} {K : Know} {L : List Res} {q : Option Addr} {n cap : Nat} {l : List MarkR} (hk : K.has (Know.marks (.slice q n cap) l)) (h : St W0 w K L) (h0 : 0 < l.length) : ∃ b off, q = some ⟨b, off, none⟩ := by
  obtain ⟨F, hF, _⟩ := h.get
  obtain ⟨q2, cap2, hv, hr⟩ := (marks_flat hk _ _ hF).at
  obtain ⟨b, off, hq, _⟩ := hr h0
  simp at hv
  exact ⟨b, off, hv.1.trans hq⟩
theorem marks_cell {W0 w : World} {K : Know} {L : List Res} {b off n cap : Nat} {l : List MarkR} (hk : K.has (Know.marks (.slice (some ⟨b, off, none⟩) n cap) l)) (h : St W0 w K L) (i : Nat) (hi : i < l.length) (x : MarkR) (hx : l[i] = x) :
    w.cell? ⟨b, off + i * 5, none⟩ = some (.int .i64 x.m.prod) ∧ w.cell? ⟨b, off + i * 5 + 1, none⟩ = some (.int .i64 x.m.epoch) ∧ w.cell? ⟨b, off + i * 5 + 2, none⟩ = some (.bool x.m.commit) ∧ w.cell? ⟨b, off + i * 5 + 3, none⟩ = some (.slice x.q x.l.length x.cap) ∧ w.cell? ⟨b, off + i * 5 + 4, none⟩ = some (.int .i64 x.m.coord) := by
  subst hx
  obtain ⟨F, hF, _⟩ := h.get
  obtain ⟨q2, cap2, hv, hr⟩ := (marks_flat hk _ _ hF).at
  obtain ⟨b2, off2, hq, hc⟩ := hr (by omega)
  rw [hq] at hv
  simp at hv
  obtain ⟨⟨rfl, rfl⟩, _, _⟩ := hv
  obtain ⟨cs, _, hR, hcs⟩ := hc i hi
  unfold RMark at hR
  subst hR
  refine ⟨?_, ?_, ?_, ?_, ?_⟩
  · exact hcs 0 _ rfl
  · rw [Nat.add_assoc]; exact hcs 1 _ rfl
  · rw [Nat.add_assoc]; exact hcs 2 _ rfl
  · rw [Nat.add_assoc]; exact hcs 3 _ rfl
  · rw [Nat.add_assoc]; exact hcs 4 _ rfl
def mErr (v : Int) (p e : Int) (l : List TopS) (co : Int) : Int :=
  if who p e = false then 11 else if co < 0 ∨ 2147483647 < co then 11 else if v = 0 ∧ co ≠ 0 then 11 else riseE l
def MarkS.err (v : Int) (m : MarkS) : Int := mErr v m.prod m.epoch m.tops m.coord
def msE (v : Int) : List MarkS → Int
  | [] => 0
  | m :: t => if m.err v ≠ 0 then m.err v else msE v t
def marksErr (v : Int) (l : List MarkS) : Int := if l = [] then 10 else msE v l
/-- Fits what is looked at. -/
def MarkR.Fit (x : MarkR) : Prop := x.l.map (·.1) = x.m.tops ∧ FewT x.l ∧ x.m.R
theorem msE_cons (v : Int) (m : MarkS) (t : List MarkS) : msE v (m :: t) = if m.err v ≠ 0 then m.err v else msE v t := rfl
theorem msE_step (v : Int) (l : List MarkS) (k : Nat) (hk : k < l.length) (h : l[k].err v = 0) : msE v (l.drop k) = msE v (l.drop (k + 1)) := by
  rw [List.drop_eq_getElem_cons hk, msE_cons, if_neg (by rw [h]; decide)]
theorem msE_bad (v : Int) (l : List MarkS) (k : Nat) (hk : k < l.length) (h : l[k].err v ≠ 0) : msE v (l.drop k) = l[k].err v := by
  rw [List.drop_eq_getElem_cons hk, msE_cons, if_pos h]

end Go.Proofs.Ytombolmicfjjpaa

/- Marks, read (pure). -/
namespace Go.Proofs.Ytombolmicfjjpaa
open Go.RowKit

/-- One mark as it is read, whether it may be or not. -/
def InS.mark1 (v : Int) (i : InS) : MarkS × InS :=
  let a := i.int 8
  let b := a.2.int 2
  let c := b.2.boolP
  let t := c.2.tops
  if v = 1 then (⟨a.1, b.1, c.1, t.1, (t.2.int 4).1⟩, (t.2.int 4).2) else (⟨a.1, b.1, c.1, t.1, 0⟩, t.2)
def InS.marksN (v : Int) : Nat → List MarkS → InS → List MarkS × InS
  | 0, acc, i => (acc, i)
  | n + 1, acc, i => if (i.mark1 v).2.err = 0 then InS.marksN v n (acc ++ [(i.mark1 v).1]) (i.mark1 v).2 else ([], (i.mark1 v).2)
/-- A request of marks, read. -/
def InS.marks (v : Int) (i : InS) : List MarkS × InS :=
  let r := InS.marksN v (i.cnt 15).1 [] (i.cnt 15).2
  if r.2.err = 0 then (if marksErr v r.1 = 0 then r else ([], r.2.fail (marksErr v r.1))) else ([], r.2)

end Go.Proofs.Ytombolmicfjjpaa

/- Requests of transactions as bytes (pure). -/
namespace Go.Proofs.Ytombolmicfjjpaa
open Go.RowKit

theorem riseE_ok {l : List TopS} (h : riseE l = 0) : tRise l = true := by
  unfold riseE at h
  by_cases h1 : l = []
  · rw [if_pos h1] at h; cases h
  · rw [if_neg h1] at h
    by_cases h2 : tRise l = false
    · rw [if_pos h2] at h; cases h
    · simpa using h2

end Go.Proofs.Ytombolmicfjjpaa

/- How many topics are looked at (pure). -/
namespace Go.Proofs.Ytombolmicfjjpaa
open Go.RowKit

/-- How much of a topic is looked at. -/
def topW (t : TopS) : Nat := t.name.length + 4 * t.parts.length + 6
def topWs (l : List TopS) : Nat := (l.map topW).sum
def few (l : List TopS) : Int := if topWs l ≤ 1000 then 1 else 0
end Go.Proofs.Ytombolmicfjjpaa

/- Marks as bytes, and how many are looked at (pure). -/
namespace Go.Proofs.Ytombolmicfjjpaa
open Go.RowKit

/-- A mark as bytes. -/
def encM (v : Int) (m : MarkS) : Bs := (((beBytes m.prod (8 : Int).toNat ++ beBytes m.epoch (2 : Int).toNat) ++ encO m.commit) ++ encTs m.tops) ++ (if v = 1 then beBytes m.coord (4 : Int).toNat else [])
def preM (v : Int) (l : List MarkS) (k : Nat) : Bs := beBytes (l.length : Int) (4 : Int).toNat ++ (l.take k).flatMap (encM v)
def encMs (v : Int) (l : List MarkS) : Bs := beBytes (l.length : Int) (4 : Int).toNat ++ l.flatMap (encM v)
theorem preM_zero (v : Int) (l : List MarkS) : preM v l 0 = beBytes (l.length : Int) (4 : Int).toNat := by unfold preM; rw [List.take_zero, List.flatMap_nil, List.append_nil]
theorem preM_all (v : Int) (l : List MarkS) : preM v l l.length = encMs v l := by unfold preM encMs; rw [List.take_length]
theorem preM_step (v : Int) (l : List MarkS) (k : Nat) (hk : k < l.length) (m : MarkS) (hm : l[k] = m) : preM v l (k + 1) = preM v l k ++ encM v m := by
  unfold preM
  rw [List.take_succ_eq_append_getElem hk, List.flatMap_append, hm, List.flatMap_cons, List.flatMap_nil, List.append_nil, List.append_assoc]
theorem preM_le (v : Int) (l : List MarkS) (k : Nat) (hk : k ≤ l.length) (hl : l.length ≤ 20) (h : ∀ m ∈ l, (encM v m).length ≤ 2000) : (preM v l k).length ≤ 40004 := by
  unfold preM
  rw [List.length_append, beBytes_length]
  have : ∀ (m : List MarkS), (∀ t ∈ m, (encM v t).length ≤ 2000) → (m.flatMap (encM v)).length ≤ 2000 * m.length := by
    intro m
    induction m with
    | nil => intro _; simp
    | cons x t ih =>
      intro hm
      have h1 := ih (fun y hy => hm y (by simp [hy]))
      have h2 := hm x (by simp)
      rw [List.flatMap_cons, List.length_append, List.length_cons]
      omega
  have h1 := this (l.take k) (fun t ht => h t (List.mem_of_mem_take ht))
  rw [List.length_take] at h1
  have e : min k l.length = k := by omega
  rw [e] at h1
  show 4 + _ ≤ _
  omega
theorem mErr_ok {v p e : Int} {l : List TopS} {co : Int} (h : mErr v p e l co = 0) : who p e = true ∧ (0 ≤ co ∧ co ≤ 2147483647) ∧ ¬ (v = 0 ∧ co ≠ 0) ∧ riseE l = 0 := by
  unfold mErr at h
  by_cases h1 : who p e = false
  · rw [if_pos h1] at h; cases h
  · rw [if_neg h1] at h
    by_cases h2 : co < 0 ∨ 2147483647 < co
    · rw [if_pos h2] at h; cases h
    · rw [if_neg h2] at h
      by_cases h3 : v = 0 ∧ co ≠ 0
      · rw [if_pos h3] at h; cases h
      · rw [if_neg h3] at h
        exact ⟨by simpa using h1, by omega, h3, h⟩
theorem msE_ok {v : Int} {l : List MarkS} (h : msE v l = 0) : ∀ m ∈ l, m.err v = 0 := by
  induction l with
  | nil => intro m hm; cases hm
  | cons x t ih =>
    rw [msE_cons] at h
    by_cases hx : x.err v ≠ 0
    · rw [if_pos hx] at h; exact absurd h hx
    · rw [if_neg hx] at h
      intro m hm
      rcases List.mem_cons.1 hm with rfl | hm
      · simpa using hx
      · exact ih h m hm
theorem marksErr_ok {v : Int} {l : List MarkS} (h : marksErr v l = 0) : ¬ l = [] ∧ ∀ m ∈ l, m.err v = 0 := by
  unfold marksErr at h
  by_cases h1 : l = []
  · rw [if_pos h1] at h; cases h
  · rw [if_neg h1] at h; exact ⟨h1, msE_ok h⟩

end Go.Proofs.Ytombolmicfjjpaa

/- Values, there and back (pure). -/
namespace Go.Proofs.Ytombolmicfjjpaa
open Go.RowKit

end Go.Proofs.Ytombolmicfjjpaa

/- Whether two rows of topics are one (pure). -/
namespace Go.Proofs.Ytombolmicfjjpaa
open Go.RowKit

theorem tmap_take_succ (l : List (TopS × Value)) (k : Nat) (h : k < l.length) (x : TopS) (hx : l[k].1 = x) : (l.map (·.1)).take (k + 1) = (l.map (·.1)).take k ++ [x] := by
  have h2 : k < (l.map (·.1)).length := by simpa using h
  rw [List.take_succ_eq_append_getElem h2, List.getElem_map, hx]
theorem tmap_ne_of_get (l m : List (TopS × Value)) (k : Nat) (h1 : k < l.length) (h2 : k < m.length) (x y : TopS) (hx : l[k].1 = x) (hy : m[k].1 = y) (h : x ≠ y) : l.map (·.1) ≠ m.map (·.1) := by
  intro he
  apply h
  have e1 : (l.map (·.1))[k]? = some x := by rw [List.getElem?_map, List.getElem?_eq_getElem h1]; simp [hx]
  have e2 : (m.map (·.1))[k]? = some y := by rw [List.getElem?_map, List.getElem?_eq_getElem h2]; simp [hy]
  rw [he, e2] at e1
  simpa using e1.symm
theorem tmap_len_ne (l m : List (TopS × Value)) (h : l.length ≠ m.length) : l.map (·.1) ≠ m.map (·.1) := fun hh => h (by have := congrArg List.length hh; simpa using this)
/-- What is asked of topics that are laid beside others. -/
def LenT (l : List (TopS × Value)) : Prop := l.length ≤ 140737488355328 ∧ ∀ x ∈ l, x.1.parts.length ≤ 9223372036854775807

end Go.Proofs.Ytombolmicfjjpaa

/- Values, there and back (pure). -/
namespace Go.Proofs.Ytombolmicfjjpaa
open Go.RowKit

end Go.Proofs.Ytombolmicfjjpaa

/- Values: one spelling (pure). -/
namespace Go.Proofs.Ytombolmicfjjpaa
open Go.RowKit

theorem sInt_of_take (s : Bs) (k : Nat) (h : k ≤ s.length) : beBytes (sInt (s.take k)) k = s.take k := by
  have h1 := beBytes_sInt (s.take k)
  rw [List.length_take, Nat.min_eq_left h] at h1
  exact h1
theorem cntP_one {each : Nat} {s : Bs} {n k : Nat} (he : 0 < each) (h : cntP each s = .ok (n, k)) : k = 4 ∧ 4 + each * n ≤ s.length ∧ s.take 4 = beBytes n 4 := by
  obtain ⟨h1, h2, h3, _⟩ := cntP_ok he h
  refine ⟨h1, h2, ?_⟩
  rw [h3]
  exact (sInt_of_take s 4 (by omega)).symm
theorem intsB_one : ∀ (n : Nat) (s : Bs), 4 * n ≤ s.length → be4s (intsB n s) = s.take (4 * n)
  | 0, s, _ => rfl
  | n + 1, s, h => by
    have ih := intsB_one n (s.drop 4) (by rw [List.length_drop]; omega)
    show be4s (sInt (s.take 4) :: intsB n (s.drop 4)) = _
    have e : be4s (sInt (s.take 4) :: intsB n (s.drop 4)) = beBytes (sInt (s.take 4)) 4 ++ be4s (intsB n (s.drop 4)) := by
      unfold be4s; rw [List.flatMap_cons]
    rw [e, ih, sInt_of_take s 4 (by omega), show 4 * (n + 1) = 4 + 4 * n by omega, List.take_add]
theorem partsP_one {s : Bs} {l : List Int} {k : Nat} (h : partsP s = .ok (l, k)) : k ≤ s.length ∧ s.take k = beBytes l.length 4 ++ be4s l := by
  unfold partsP at h
  cases h1 : cntP 4 s with
  | error e => rw [h1] at h; cases h
  | ok x =>
    rw [h1] at h
    cases h
    obtain ⟨c1, c2, c3⟩ := cntP_one (n := x.1) (k := x.2) (by decide) h1
    refine ⟨by omega, ?_⟩
    rw [intsB_len, intsB_one x.1 (s.drop 4) (by rw [List.length_drop]; omega), List.take_add, c3]
theorem textP_one {s : Bs} {d : Bs} {k : Nat} (h : textP s = .ok (d, k)) : k ≤ s.length ∧ s.take k = encF 2 ⟨false, d⟩ := by
  unfold textP at h
  cases h1 : refixed 2 s with
  | error e => rw [h1] at h; cases h
  | ok x =>
    rw [h1] at h
    simp only at h
    by_cases hn : x.1.null = true
    · rw [if_pos hn] at h; cases h
    · rw [if_neg hn] at h
      cases h
      unfold refixed at h1
      by_cases h2 : s.length < 2
      · rw [if_pos h2] at h1; cases h1
      rw [if_neg h2] at h1
      unfold gotS at h1
      by_cases h3 : sInt (s.take 2) = -1
      · rw [if_pos h3] at h1; cases h1; exact absurd rfl hn
      rw [if_neg h3] at h1
      by_cases h4 : sInt (s.take 2) < 0
      · rw [if_pos h4] at h1; cases h1
      rw [if_neg h4] at h1
      by_cases h5 : (s.length : Int) - (2 : Nat) < sInt (s.take 2)
      · rw [if_pos h5] at h1; cases h1
      rw [if_neg h5] at h1
      cases h1
      simp only
      have hl : ((s.drop 2).take (sInt (s.take 2)).toNat).length = (sInt (s.take 2)).toNat := by
        rw [List.length_take, List.length_drop]; omega
      refine ⟨by omega, ?_⟩
      unfold encF
      have hL : (⟨false, (s.drop 2).take (sInt (s.take 2)).toNat⟩ : BlobS).len = sInt (s.take 2) := by
        show (((s.drop 2).take (sInt (s.take 2)).toNat).length : Int) = _
        rw [hl]; omega
      rw [hL, sInt_of_take s 2 (by omega), List.take_add]
theorem topP_one {s : Bs} {t : TopS} {k : Nat} (h : topP s = .ok (t, k)) : k ≤ s.length ∧ s.take k = encT t := by
  unfold topP at h
  cases h1 : textP s with
  | error e => rw [h1] at h; cases h
  | ok x =>
    rw [h1] at h
    simp only at h
    cases h2 : partsP (s.drop x.2) with
    | error e => rw [h2] at h; cases h
    | ok y =>
      rw [h2] at h
      cases h
      obtain ⟨a1, a2⟩ := textP_one (d := x.1) (k := x.2) h1
      obtain ⟨b1, b2⟩ := partsP_one (l := y.1) (k := y.2) h2
      rw [List.length_drop] at b1
      refine ⟨by omega, ?_⟩
      unfold encT
      rw [List.take_add, a2, b2]
theorem topN_one : ∀ (n : Nat) (s : Bs) (l : List TopS) (k : Nat), topN n s = .ok (l, k) → l.length = n ∧ k ≤ s.length ∧ s.take k = l.flatMap encT
  | 0, s, l, k, h => by cases h; exact ⟨rfl, Nat.zero_le _, rfl⟩
  | n + 1, s, l, k, h => by
    unfold topN at h
    cases h1 : topP s with
    | error e => rw [h1] at h; cases h
    | ok x =>
      rw [h1] at h
      simp only at h
      cases h2 : topN n (s.drop x.2) with
      | error e => rw [h2] at h; cases h
      | ok y =>
        rw [h2] at h
        cases h
        obtain ⟨a1, a2⟩ := topP_one (t := x.1) (k := x.2) h1
        obtain ⟨b0, b1, b2⟩ := topN_one n (s.drop x.2) y.1 y.2 h2
        rw [List.length_drop] at b1
        refine ⟨by rw [List.length_cons, b0], by omega, ?_⟩
        rw [List.take_add, a2, b2, List.flatMap_cons]
theorem topsP_one {s : Bs} {l : List TopS} {k : Nat} (h : topsP s = .ok (l, k)) : k ≤ s.length ∧ s.take k = encTs l := by
  unfold topsP at h
  cases h1 : cntP 6 s with
  | error e => rw [h1] at h; cases h
  | ok x =>
    rw [h1] at h
    simp only at h
    cases h2 : topN x.1 (s.drop 4) with
    | error e => rw [h2] at h; cases h
    | ok y =>
      rw [h2] at h
      cases h
      obtain ⟨c1, c2, c3⟩ := cntP_one (n := x.1) (k := x.2) (by decide) h1
      obtain ⟨b0, b1, b2⟩ := topN_one _ _ y.1 y.2 h2
      rw [List.length_drop] at b1
      refine ⟨by omega, ?_⟩
      unfold encTs
      rw [List.take_add, c3, b2, b0]
end Go.Proofs.Ytombolmicfjjpaa

/- Requests of transactions, there and back (pure). -/
namespace Go.Proofs.Ytombolmicfjjpaa
open Go.RowKit

end Go.Proofs.Ytombolmicfjjpaa

/- Marks, there and back (pure). -/
namespace Go.Proofs.Ytombolmicfjjpaa
open Go.RowKit

end Go.Proofs.Ytombolmicfjjpaa

/- How many, by definition (pure). -/
namespace Go.Proofs.Ytombolmicfjjpaa
open Go.RowKit

def cntR (each : Nat) (s : Bs) : Nat × Int := match cntP each s with
  | .ok x => (x.1, 0)
  | .error e => (0, e)
theorem cntR_short {each : Nat} {s : Bs} (h : s.length < 4) : cntR each s = (0, 1) := by
  unfold cntR cntP; rw [if_pos h]
theorem cntR_neg {each : Nat} {s : Bs} (h : ¬ s.length < 4) (h2 : sInt (s.take 4) < 0) : cntR each s = (0, 4) := by
  unfold cntR cntP; rw [if_neg h, if_pos h2]
theorem cntR_more {each : Nat} {s : Bs} (h : ¬ s.length < 4) (h2 : ¬ sInt (s.take 4) < 0) (h3 : ((s.length : Int) - 4) / each < sInt (s.take 4)) : cntR each s = (0, 1) := by
  unfold cntR cntP; rw [if_neg h, if_neg h2, if_pos h3]
theorem cntR_ok {each : Nat} {s : Bs} (h : ¬ s.length < 4) (h2 : ¬ sInt (s.take 4) < 0) (h3 : ¬ ((s.length : Int) - 4) / each < sInt (s.take 4)) : cntR each s = ((sInt (s.take 4)).toNat, 0) := by
  unfold cntR cntP; rw [if_neg h, if_neg h2, if_neg h3]

end Go.Proofs.Ytombolmicfjjpaa

/- Topics, read by definition (pure). -/
namespace Go.Proofs.Ytombolmicfjjpaa
open Go.RowKit

def topsR (s : Bs) : List TopS × Nat × Int := match topsP s with
  | .ok x => (x.1, x.2, 0)
  | .error e => ([], 0, e)
def stepR (acc : List TopS) (p : Nat) (r : Except Int (List TopS × Nat)) : List TopS × Nat × Int := match r with
  | .ok x => (acc ++ x.1, p + x.2, 0)
  | .error e => ([], 0, e)
theorem cntP_err {each : Nat} {s : Bs} {e : Int} (h : cntP each s = .error e) : e ≠ 0 := by
  unfold cntP at h
  split at h
  · cases h; decide
  · split at h
    · cases h; decide
    · split at h
      · cases h; decide
      · cases h
theorem cntR_zero {each : Nat} {s : Bs} {n : Nat} (he : 0 < each) (h : cntR each s = (n, 0)) : cntP each s = .ok (n, 4) ∧ 4 + each * n ≤ s.length := by
  unfold cntR at h
  cases h1 : cntP each s with
  | error e => rw [h1] at h; cases h; exact absurd rfl (cntP_err h1)
  | ok x =>
    rw [h1] at h
    cases h
    obtain ⟨c1, c2, _, _⟩ := cntP_ok (n := x.1) (k := x.2) he h1
    refine ⟨?_, c2⟩
    rw [← c1]
theorem cntR_bad {each : Nat} {s : Bs} {n : Nat} {e : Int} (h : cntR each s = (n, e)) (h0 : e ≠ 0) : cntP each s = .error e := by
  unfold cntR at h
  cases h1 : cntP each s with
  | error e2 => rw [h1] at h; cases h; rfl
  | ok x => rw [h1] at h; cases h; exact absurd rfl h0
theorem topsR_bad {s : Bs} {n : Nat} {e : Int} (h : cntR 6 s = (n, e)) (h0 : e ≠ 0) : topsR s = ([], 0, e) := by
  unfold topsR topsP
  rw [cntR_bad h h0]
theorem topsR_go {s : Bs} {n : Nat} (h : cntR 6 s = (n, 0)) : topsR s = stepR [] 4 (topN n (s.drop 4)) ∧ 4 + 6 * n ≤ s.length := by
  obtain ⟨h1, h2⟩ := cntR_zero (by decide) h
  refine ⟨?_, h2⟩
  unfold topsR topsP
  rw [h1]
  cases h3 : topN n (s.drop 4) with
  | error e => simp only [h3]; rfl
  | ok y => simp only [h3, stepR, List.nil_append]
theorem stepR_zero (acc : List TopS) (p : Nat) (x : Bs) : stepR acc p (topN 0 x) = (acc, p, 0) := by
  show (acc ++ [], p + 0, (0 : Int)) = _
  rw [List.append_nil]; rfl
theorem stepR_err {acc : List TopS} {p n : Nat} {s : Bs} {e : Int} (h : refixed 2 (s.drop p) = .error e) : stepR acc p (topN (n + 1) (s.drop p)) = ([], 0, e) := by
  unfold topN topP textP
  rw [h]
  rfl
theorem stepR_null {acc : List TopS} {p n : Nat} {s : Bs} {b : BlobS} {k : Nat} (h : refixed 2 (s.drop p) = .ok (b, k)) (hn : b.null = true) : stepR acc p (topN (n + 1) (s.drop p)) = ([], 0, 4) := by
  unfold topN topP textP
  rw [h]
  simp only [hn, if_true]
  rfl
theorem textP_of {t : Bs} {b : BlobS} {k : Nat} (h : refixed 2 t = .ok (b, k)) (hn : b.null = false) : textP t = .ok (b.data, k) := by
  unfold textP
  rw [h]
  simp [hn]
theorem stepR_cnt {acc : List TopS} {p n : Nat} {s : Bs} {b : BlobS} {k m : Nat} {f : Int} (h : refixed 2 (s.drop p) = .ok (b, k)) (hn : b.null = false) (hc : cntR 4 (s.drop (p + k)) = (m, f)) (h0 : f ≠ 0) : stepR acc p (topN (n + 1) (s.drop p)) = ([], 0, f) := by
  unfold topN topP
  rw [textP_of h hn]
  simp only
  rw [List.drop_drop]
  unfold partsP
  rw [cntR_bad hc h0]
  rfl
theorem stepR_next {acc : List TopS} {p n : Nat} {s : Bs} {b : BlobS} {k m : Nat} (h : refixed 2 (s.drop p) = .ok (b, k)) (hn : b.null = false) (hc : cntR 4 (s.drop (p + k)) = (m, 0)) :
    stepR acc p (topN (n + 1) (s.drop p)) = stepR (acc ++ [⟨b.data, intsB m (s.drop (p + k + 4))⟩]) (p + k + 4 + 4 * m) (topN n (s.drop (p + k + 4 + 4 * m))) := by
  obtain ⟨h1, h2⟩ := cntR_zero (by decide) hc
  have e1 : topP (s.drop p) = .ok (⟨b.data, intsB m (s.drop (p + k + 4))⟩, k + (4 + 4 * m)) := by
    unfold topP
    rw [textP_of h hn]
    simp only
    rw [List.drop_drop]
    unfold partsP
    rw [h1]
    simp only
    rw [List.drop_drop]
  have e2 : (s.drop p).drop (k + (4 + 4 * m)) = s.drop (p + k + 4 + 4 * m) := by rw [List.drop_drop]; congr 1; omega
  show stepR acc p (match topP (s.drop p) with | .error e => .error e | .ok x => match topN n ((s.drop p).drop x.2) with | .error e => .error e | .ok y => .ok (x.1 :: y.1, x.2 + y.2)) = _
  rw [e1]
  simp only
  rw [e2]
  cases h3 : topN n (s.drop (p + k + 4 + 4 * m)) with
  | error e => rfl
  | ok y =>
    simp only
    unfold stepR
    simp only [List.append_assoc, List.singleton_append, Prod.mk.injEq, true_and, and_true]
    omega
theorem refixed_le {t : Bs} {b : BlobS} {k : Nat} (h : refixed 2 t = .ok (b, k)) : 2 ≤ k ∧ k ≤ t.length := by
  unfold refixed at h
  split at h
  · cases h
  · unfold gotS at h
    split at h
    · cases h; omega
    · split at h
      · cases h
      · split at h
        · cases h
        · cases h; omega
theorem gotV_errT {t : Bs} {e : Int} (h : refixed 2 t = .error e) : gotV (refixed 2 t) = .agg #[.bool false, .string ⟨#[]⟩, .int .i64 0, .int .i64 e] := by rw [h]; rfl
theorem gotV_okT {t : Bs} {b : BlobS} {k : Nat} (h : refixed 2 t = .ok (b, k)) : gotV (refixed 2 t) = .agg #[.bool b.null, .string (bb b.data), .int .i64 k, .int .i64 0] := by rw [h]; rfl
theorem refixed_err {t : Bs} {e : Int} (h : refixed 2 t = .error e) : e ≠ 0 := by
  unfold refixed at h
  split at h
  · cases h; decide
  · unfold gotS at h
    split at h
    · cases h
    · split at h
      · cases h; decide
      · split at h
        · cases h; decide
        · cases h

end Go.Proofs.Ytombolmicfjjpaa

/- Values, read by definition (pure). -/
namespace Go.Proofs.Ytombolmicfjjpaa
open Go.RowKit

theorem int_shortM (k : Nat) (h1 : 1 ≤ k) (h8 : k ≤ 8) (s : Bs) (pos : Nat) (hp : pos ≤ s.length) (h : s.length < pos + k) : ∃ q, (⟨s, pos, 0⟩ : InS).int k = (0, ⟨s, q, 1⟩) := by
  obtain ⟨_, q, _, h3⟩ := (rds_intN k h1 h8).err s pos 1 hp (by unfold getIntN; rw [if_pos (by rw [List.length_drop]; omega)])
  exact ⟨q, h3⟩
theorem int_stuckM (k : Nat) (h1 : 1 ≤ k) (h8 : k ≤ 8) (i : InS) (h : i.err ≠ 0) : i.int k = (0, i) := (rds_intN k h1 h8).stuck i h
theorem topsR_err {s : Bs} {l : List TopS} {m : Nat} {e : Int} (h : topsR s = (l, m, e)) (h0 : e ≠ 0) : topsP s = .error e := by
  unfold topsR at h
  cases h1 : topsP s with
  | error e2 => rw [h1] at h; cases h; rfl
  | ok x => rw [h1] at h; cases h; exact absurd rfl h0
theorem topsP_errz {s : Bs} {e : Int} (h : topsP s = .error e) : e ≠ 0 := (rds_tops.err s 0 e (Nat.zero_le _) (by rw [List.drop_zero]; exact h)).1
theorem topsR_ok {s : Bs} {l : List TopS} {m : Nat} (h : topsR s = (l, m, 0)) : topsP s = .ok (l, m) := by
  unfold topsR at h
  cases h1 : topsP s with
  | error e2 => rw [h1] at h; cases h; exact absurd rfl (topsP_errz h1)
  | ok x => rw [h1] at h; cases h; rfl
theorem topsR_le {s : Bs} {l : List TopS} {m : Nat} (h : topsR s = (l, m, 0)) : m ≤ s.length := by
  have := (rds_tops.ok s 0 l m (Nat.zero_le _) (by rw [List.drop_zero]; exact topsR_ok h)).1
  omega
end Go.Proofs.Ytombolmicfjjpaa

/- The table of requests, and what is found in it. -/
namespace Go.Proofs.Ytombolmicfjjpaa
open Go.RowKit

theorem St.range {W0 w : World} {K : Know} {L : List Res} {b : Nat} {c : List Value} {T : TypeId} (h : St W0 w K (.raw b c.toArray T :: L)) : w.rangeAt b 0 c := by
  intro j v hv
  rw [Nat.zero_add, h.rawCell j]
  simpa using hv
/-- A request of the table: its number, its name, its versions, and that there is one. -/
def reqOf (kind : Int) : Int × Bs × Int × Int × Bool := if kind = 0 then (0, [112, 114, 111, 100, 117, 99, 101], 3, 4, true) else if kind = 22 then (22, [98, 101, 103, 105, 110], 0, 1, true) else if kind = 24 then (24, [97, 100, 100], 0, 0, true) else if kind = 26 then (26, [101, 110, 100], 0, 0, true) else if kind = 27 then (27, [109, 97, 114, 107], 0, 1, true) else (0, [], 0, 0, false)
end Go.Proofs.Ytombolmicfjjpaa

/- Requests, their versions and names. -/
namespace Go.Proofs.Ytombolmicfjjpaa
open Go.RowKit

/-- The error of a request and its version. -/
def verErr (kind v : Int) : Int := if (reqOf kind).2.2.2.2 then (if v < (reqOf kind).2.2.1 ∨ (reqOf kind).2.2.2.1 < v then 7 else 0) else 12
end Go.Proofs.Ytombolmicfjjpaa

/- Heads of requests (pure). -/
namespace Go.Proofs.Ytombolmicfjjpaa
open Go.RowKit

structure HeadS where
  kind : Int
  ver : Int
  num : Int
  cli : BlobS
deriving DecidableEq
def HeadS.z : HeadS := ⟨0, 0, 0, ⟨false, []⟩⟩
def HeadS.R (h : HeadS) : Prop := (-9223372036854775808 ≤ h.kind ∧ h.kind < 9223372036854775808) ∧ (-9223372036854775808 ≤ h.ver ∧ h.ver < 9223372036854775808) ∧ (-9223372036854775808 ≤ h.num ∧ h.num < 9223372036854775808)
/-- The error of a head. -/
def headErr (h : HeadS) : Int := if verErr h.kind h.ver ≠ 0 then verErr h.kind h.ver else if ¬ fits h.num 4 then 11 else if h.cli.right = false ∨ 32767 < h.cli.data.length then 4 else 0
def OutS.head (o : OutS) (h : HeadS) : OutS := if headErr h ≠ 0 then o.fail (headErr h) else (((o.int h.kind 2).int h.ver 2).int h.num 4).putFixed h.cli 2
def headA (i : InS) : Int × InS := i.int 2
def headB (i : InS) : Int × InS := (headA i).2.int 2
def headE (i : InS) : Int := verErr (headA i).1 (headB i).1
def headC (i : InS) : InS := if headE i = 0 then (headB i).2 else (headB i).2.fail (headE i)
def headD (i : InS) : Int × InS := (headC i).int 4
def headF (i : InS) : BlobS × InS := (headD i).2.fixed 2
def InS.head (i : InS) : HeadS × InS := (if (headF i).2.err = 0 then ⟨(headA i).1, (headB i).1, (headD i).1, (headF i).1⟩ else HeadS.z, (headF i).2)
end Go.Proofs.Ytombolmicfjjpaa

/- Requests of transactions, one spelling (pure). -/
namespace Go.Proofs.Ytombolmicfjjpaa
open Go.RowKit

theorem take_addQ (s : Bs) (a b : Nat) : s.take (a + b) = s.take a ++ (s.drop a).take b := List.take_add
theorem two_short (s : Bs) (pos : Nat) (hp : pos ≤ s.length) (h : s.length < pos + 10) : ∃ p e i3 i4, (⟨s, pos, 0⟩ : InS).int 8 = (p, i3) ∧ i3.int 2 = (e, i4) ∧ i4.err = 1 := by
  by_cases c : s.length < pos + 8
  · obtain ⟨q, hq⟩ := int_shortM 8 (by decide) (by decide) s pos hp c
    have h2 : (⟨s, q, 1⟩ : InS).int 2 = (0, ⟨s, q, 1⟩) := int_stuckM 2 (by decide) (by decide) ⟨s, q, 1⟩ (show (1 : Int) ≠ 0 by decide)
    exact ⟨_, _, _, _, hq, h2, rfl⟩
  · have h1 := int_okA 8 (by decide) (by decide) s pos (by omega)
    obtain ⟨q, hq⟩ := int_shortM 2 (by decide) (by decide) s (pos + 8) (by omega) (by omega)
    exact ⟨_, _, _, _, h1, hq, rfl⟩
theorem two_okQ (s : Bs) (pos : Nat) (h : pos + 10 ≤ s.length) : (⟨s, pos, 0⟩ : InS).int 8 = (sInt ((s.drop pos).take 8), ⟨s, pos + 8, 0⟩) ∧ (⟨s, pos + 8, 0⟩ : InS).int 2 = (sInt ((s.drop (pos + 8)).take 2), ⟨s, pos + 10, 0⟩) :=
  ⟨int_okA 8 (by decide) (by decide) s pos (by omega), int_okA 2 (by decide) (by decide) s (pos + 8) (by omega)⟩
theorem bool_shortQ (s : Bs) (pos : Nat) (hp : pos ≤ s.length) (h : s.length < pos + 1) : (⟨s, pos, 0⟩ : InS).boolP.2.err = 1 := by
  obtain ⟨q, hq⟩ := int_shortM 1 (by decide) (by decide) s pos hp h
  have hq2 : (⟨s, pos, 0⟩ : InS).int 1 = (0, ⟨s, q, 1⟩) := hq
  unfold InS.boolP
  rw [hq2]
  simp
theorem take_oneQ {s : Bs} {pos : Nat} {y : UInt8} (h : s[pos]? = some y) : (s.drop pos).take 1 = [y] := by
  obtain ⟨h1, h2⟩ := List.getElem?_eq_some_iff.1 h
  rw [List.drop_eq_getElem_cons h1, h2]
  rfl
theorem sInt_01 (y : UInt8) : (sInt [y] = 0 ↔ y = 0) ∧ (sInt [y] = 1 ↔ y = 1) := by
  have hb := beBytes_sInt [y]
  constructor
  · constructor
    · intro h
      rw [h] at hb
      have hb : beBytes 0 1 = [y] := hb
      exact (List.cons.inj (hb.symm.trans (show beBytes 0 1 = [0] by rfl))).1
    · rintro rfl; rfl
  · constructor
    · intro h
      rw [h] at hb
      have hb : beBytes 1 1 = [y] := hb
      exact (List.cons.inj (hb.symm.trans (show beBytes 1 1 = [1] by rfl))).1
    · rintro rfl; rfl
theorem byte_01 (y : UInt8) : ((y.toNat : Int) = 0 ↔ y = 0) ∧ ((y.toNat : Int) = 1 ↔ y = 1) := by
  constructor
  · constructor
    · intro h; exact UInt8.toNat_inj.1 (show y.toNat = (0 : UInt8).toNat by have : (0 : UInt8).toNat = 0 := rfl; omega)
    · rintro rfl; rfl
  · constructor
    · intro h; exact UInt8.toNat_inj.1 (show y.toNat = (1 : UInt8).toNat by have : (1 : UInt8).toNat = 1 := rfl; omega)
    · rintro rfl; rfl
theorem bool_badQ (s : Bs) (pos : Nat) (y : UInt8) (hy : s[pos]? = some y) (hb : 1 < (y.toNat : Int)) : (⟨s, pos, 0⟩ : InS).boolP.2.err = 11 := by
  obtain ⟨h1, h2⟩ := List.getElem?_eq_some_iff.1 hy
  have h3 := int_okA 1 (by decide) (by decide) s pos (by omega)
  rw [take_oneQ hy] at h3
  have h4 : (⟨s, pos, 0⟩ : InS).int 1 = (sInt [y], ⟨s, pos + 1, 0⟩) := h3
  unfold InS.boolP
  rw [h4]
  simp only
  rw [if_pos ⟨fun h => by have := (byte_01 y).1.2 ((sInt_01 y).1.1 h); omega, fun h => by have := (byte_01 y).2.2 ((sInt_01 y).2.1 h); omega⟩]
  rfl
theorem bool_okQ (s : Bs) (pos : Nat) (y : UInt8) (hy : s[pos]? = some y) (hb : ¬ 1 < (y.toNat : Int)) : (⟨s, pos, 0⟩ : InS).boolP = (((y.toNat : Int) == 1), ⟨s, pos + 1, 0⟩) ∧ encO ((y.toNat : Int) == 1) = [y] := by
  obtain ⟨h1, h2⟩ := List.getElem?_eq_some_iff.1 hy
  have h3 := int_okA 1 (by decide) (by decide) s pos (by omega)
  rw [take_oneQ hy] at h3
  have h4 : (⟨s, pos, 0⟩ : InS).int 1 = (sInt [y], ⟨s, pos + 1, 0⟩) := h3
  have h5 : y = 0 ∨ y = 1 := by
    rcases (by omega : (y.toNat : Int) = 0 ∨ (y.toNat : Int) = 1) with h | h
    · exact .inl ((byte_01 y).1.1 h)
    · exact .inr ((byte_01 y).2.1 h)
  unfold InS.boolP
  rw [h4]
  rcases h5 with rfl | rfl
  · exact ⟨rfl, rfl⟩
  · exact ⟨rfl, rfl⟩
end Go.Proofs.Ytombolmicfjjpaa

/- Topics, there and back (pure). -/
namespace Go.Proofs.Ytombolmicfjjpaa
open Go.RowKit

end Go.Proofs.Ytombolmicfjjpaa

/- Marks by definition, and as they are read (pure). -/
namespace Go.Proofs.Ytombolmicfjjpaa
open Go.RowKit

/-- One mark by definition, from a place on; and the place behind it. -/
def mark1R (v : Int) (s : Bs) (p : Nat) : Except Int (MarkS × Nat) :=
  if s.length < p + 11 then .error 1 else
  if 1 < ((s.getD (p + 10) 0).toNat : Int) then .error 11 else
  if (topsR (s.drop (p + 11))).2.2 ≠ 0 then .error (topsR (s.drop (p + 11))).2.2 else
  if v = 1 then
    if s.length < p + 11 + (topsR (s.drop (p + 11))).2.1 + 4 then .error 1
    else .ok (⟨sInt ((s.drop p).take 8), sInt ((s.drop (p + 8)).take 2), (((s.getD (p + 10) 0).toNat : Int) == 1), (topsR (s.drop (p + 11))).1, sInt ((s.drop (p + 11 + (topsR (s.drop (p + 11))).2.1)).take 4)⟩, p + 11 + (topsR (s.drop (p + 11))).2.1 + 4)
  else .ok (⟨sInt ((s.drop p).take 8), sInt ((s.drop (p + 8)).take 2), (((s.getD (p + 10) 0).toNat : Int) == 1), (topsR (s.drop (p + 11))).1, 0⟩, p + 11 + (topsR (s.drop (p + 11))).2.1)
def marksRN (v : Int) (s : Bs) : Nat → List MarkS → Nat → List MarkS × Nat × Int
  | 0, acc, p => (acc, p, 0)
  | n + 1, acc, p => match mark1R v s p with
    | .error e => ([], 0, e)
    | .ok (m, q) => marksRN v s n (acc ++ [m]) q
/-- A request of marks by definition: the marks, how many bytes, the error. -/
def marksR (v : Int) (s : Bs) : List MarkS × Nat × Int := match cntP 15 s with
  | .error e => ([], 0, e)
  | .ok (n, _) => if (marksRN v s n [] 4).2.2 ≠ 0 then ([], 0, (marksRN v s n [] 4).2.2) else if marksErr v (marksRN v s n [] 4).1 ≠ 0 then ([], 0, marksErr v (marksRN v s n [] 4).1) else marksRN v s n [] 4
theorem bool_stuckR (i : InS) (h : i.err ≠ 0) : i.boolP.2 = i := by
  have h1 : i.int 1 = (0, i) := int_stuckM 1 (by decide) (by decide) i h
  unfold InS.boolP
  rw [h1]
  simp
theorem mark1_stuckB {v : Int} {i i1 i2 : InS} {a b : Int} (h1 : i.int 8 = (a, i1)) (h2 : i1.int 2 = (b, i2)) (h : i2.boolP.2.err ≠ 0) : (i.mark1 v).2.err = i2.boolP.2.err := by
  have h3 : i2.boolP.2.tops = ([], i2.boolP.2) := rds_tops.stuck _ h
  have h4 : i2.boolP.2.int 4 = (0, i2.boolP.2) := int_stuckM 4 (by decide) (by decide) _ h
  unfold InS.mark1
  rw [h1]
  simp only
  rw [h2]
  simp only
  rw [h3]
  simp only
  rw [h4]
  by_cases hv : v = 1
  · rw [if_pos hv]
  · rw [if_neg hv]
theorem getD_q {s : Bs} {k : Nat} (h : k < s.length) : s[k]? = some (s.getD k 0) := by
  rw [List.getElem?_eq_getElem h]; simp [List.getD, h]
theorem mark1_err {v : Int} {s : Bs} {p : Nat} {e : Int} (hp : p ≤ s.length) (h : mark1R v s p = .error e) : e ≠ 0 ∧ ((⟨s, p, 0⟩ : InS).mark1 v).2.err = e := by
  unfold mark1R at h
  by_cases c1 : s.length < p + 11
  · rw [if_pos c1] at h
    cases h
    refine ⟨by decide, ?_⟩
    by_cases c2 : s.length < p + 10
    · obtain ⟨a, b, i3, i4, h1, h2, h3⟩ := two_short s p hp c2
      have h5 : i4.err ≠ 0 := by rw [h3]; decide
      have h4 := bool_stuckR i4 h5
      rw [mark1_stuckB h1 h2 (by rw [h4]; exact h5), h4, h3]
    · obtain ⟨h1, h2⟩ := two_okQ s p (by omega)
      have h3 := bool_shortQ s (p + 10) (by omega) (by omega)
      rw [mark1_stuckB h1 h2 (by rw [h3]; decide), h3]
  rw [if_neg c1] at h
  obtain ⟨h1, h2⟩ := two_okQ s p (by omega)
  have hy := getD_q (s := s) (k := p + 10) (by omega)
  by_cases c2 : 1 < ((s.getD (p + 10) 0).toNat : Int)
  · rw [if_pos c2] at h
    cases h
    have h3 := bool_badQ s (p + 10) _ hy c2
    refine ⟨by decide, ?_⟩
    rw [mark1_stuckB h1 h2 (by rw [h3]; decide), h3]
  rw [if_neg c2] at h
  have h3 := (bool_okQ s (p + 10) _ hy c2).1
  obtain ⟨⟨l, mm, ef⟩, hr⟩ : ∃ r, topsR (s.drop (p + 11)) = r := ⟨_, rfl⟩
  rw [hr] at h
  simp only at h
  by_cases c3 : ef ≠ 0
  · rw [if_pos c3] at h
    cases h
    refine ⟨c3, ?_⟩
    obtain ⟨_, q, _, h5⟩ := rds_tops.err s (p + 11) e (by omega) (topsR_err hr c3)
    have h6 : (⟨s, q, e⟩ : InS).int 4 = (0, ⟨s, q, e⟩) := int_stuckM 4 (by decide) (by decide) _ c3
    have h3' : (⟨s, p + 10, 0⟩ : InS).boolP = ((((s.getD (p + 10) 0).toNat : Int) == 1), ⟨s, p + 11, 0⟩) := h3
    unfold InS.mark1
    rw [h1]
    simp only
    rw [h2]
    simp only
    rw [h3']
    simp only
    rw [h5]
    simp only
    rw [h6]
    by_cases hv : v = 1
    · rw [if_pos hv]
    · rw [if_neg hv]
  rw [if_neg c3] at h
  by_cases hv : v = 1
  rotate_left
  · rw [if_neg hv] at h; cases h
  rw [if_pos hv] at h
  by_cases c4 : s.length < p + 11 + mm + 4
  rotate_left
  · rw [if_neg c4] at h; cases h
  rw [if_pos c4] at h
  cases h
  refine ⟨by decide, ?_⟩
  have hef : ef = 0 := by by_cases hh : ef = 0; exact hh; exact absurd hh c3
  subst hef
  obtain ⟨h4, h5⟩ := rds_tops.ok s (p + 11) l mm (by omega) (topsR_ok hr)
  obtain ⟨q, hq⟩ := int_shortM 4 (by decide) (by decide) s (p + 11 + mm) h4 c4
  have hq2 : (⟨s, p + 11 + mm, 0⟩ : InS).int 4 = (0, ⟨s, q, 1⟩) := hq
  have h3' : (⟨s, p + 10, 0⟩ : InS).boolP = ((((s.getD (p + 10) 0).toNat : Int) == 1), ⟨s, p + 11, 0⟩) := h3
  unfold InS.mark1
  rw [h1]
  simp only
  rw [h2]
  simp only
  rw [h3']
  simp only
  rw [h5]
  simp only
  rw [hq2, if_pos hv]
theorem mark1_ok {v : Int} {s : Bs} {p q : Nat} {m : MarkS} (hs : s.length ≤ 2000) (h : mark1R v s p = .ok (m, q)) : (p + 11 ≤ q ∧ q ≤ s.length) ∧ (⟨s, p, 0⟩ : InS).mark1 v = (m, ⟨s, q, 0⟩) ∧ s.take p ++ encM v m = s.take q ∧ m.R ∧ FewL m.tops := by
  unfold mark1R at h
  by_cases c1 : s.length < p + 11
  · rw [if_pos c1] at h; cases h
  rw [if_neg c1] at h
  by_cases c2 : 1 < ((s.getD (p + 10) 0).toNat : Int)
  · rw [if_pos c2] at h; cases h
  rw [if_neg c2] at h
  obtain ⟨h1, h2⟩ := two_okQ s p (by omega)
  have hy := getD_q (s := s) (k := p + 10) (by omega)
  obtain ⟨h3, ho⟩ := bool_okQ s (p + 10) _ hy c2
  have h3' : (⟨s, p + 10, 0⟩ : InS).boolP = ((((s.getD (p + 10) 0).toNat : Int) == 1), ⟨s, p + 11, 0⟩) := h3
  obtain ⟨⟨l, mm, ef⟩, hr⟩ : ∃ r, topsR (s.drop (p + 11)) = r := ⟨_, rfl⟩
  rw [hr] at h
  simp only at h
  by_cases c3 : ef ≠ 0
  · rw [if_pos c3] at h; cases h
  rw [if_neg c3] at h
  have hef : ef = 0 := by by_cases hh : ef = 0; exact hh; exact absurd hh c3
  subst hef
  obtain ⟨h4, h5⟩ := rds_tops.ok s (p + 11) l mm (by omega) (topsR_ok hr)
  have hfl : FewL l := topsP_few (topsR_ok hr) (by rw [List.length_drop]; omega)
  obtain ⟨_, ht⟩ := topsP_one (topsR_ok hr)
  have r1 : -9223372036854775808 ≤ sInt ((s.drop p).take 8) ∧ sInt ((s.drop p).take 8) < 9223372036854775808 := sInt_range _ (by rw [List.length_take]; omega)
  have r2 : -9223372036854775808 ≤ sInt ((s.drop (p + 8)).take 2) ∧ sInt ((s.drop (p + 8)).take 2) < 9223372036854775808 := sInt_range _ (by rw [List.length_take]; omega)
  have e1 : s.take p ++ (beBytes (sInt ((s.drop p).take 8)) 8 ++ (beBytes (sInt ((s.drop (p + 8)).take 2)) 2 ++ encO (((s.getD (p + 10) 0).toNat : Int) == 1))) = s.take (p + 11) := by
    rw [ho, sInt_of_take (s.drop p) 8 (by rw [List.length_drop]; omega), sInt_of_take (s.drop (p + 8)) 2 (by rw [List.length_drop]; omega), ← List.append_assoc, ← take_addQ, ← List.append_assoc, ← take_addQ]
    show s.take (p + 10) ++ _ = s.take (p + 10 + 1)
    rw [take_addQ s (p + 10) 1, take_oneQ hy]
  by_cases hv : v = 1
  · rw [if_pos hv] at h
    by_cases c4 : s.length < p + 11 + mm + 4
    · rw [if_pos c4] at h; cases h
    rw [if_neg c4] at h
    have h7 : (⟨s, p + 11 + mm, 0⟩ : InS).int 4 = (sInt ((s.drop (p + 11 + mm)).take 4), ⟨s, p + 11 + mm + 4, 0⟩) := int_okA 4 (by decide) (by decide) s (p + 11 + mm) (by omega)
    have r3 : -9223372036854775808 ≤ sInt ((s.drop (p + 11 + mm)).take 4) ∧ sInt ((s.drop (p + 11 + mm)).take 4) < 9223372036854775808 := sInt_range _ (by rw [List.length_take]; omega)
    simp only [Except.ok.injEq, Prod.mk.injEq] at h
    obtain ⟨rfl, rfl⟩ := h
    refine ⟨⟨by omega, by omega⟩, ?_, ?_, ⟨r1, r2, r3⟩, hfl⟩
    · unfold InS.mark1
      rw [h1]
      simp only
      rw [h2]
      simp only
      rw [h3']
      simp only
      rw [h5]
      simp only
      rw [h7, if_pos hv]
    · unfold encM
      simp only
      rw [if_pos hv]
      show s.take p ++ ((((beBytes (sInt ((s.drop p).take 8)) 8 ++ beBytes (sInt ((s.drop (p + 8)).take 2)) 2) ++ _) ++ _) ++ beBytes (sInt ((s.drop (p + 11 + mm)).take 4)) 4) = _
      rw [sInt_of_take (s.drop (p + 11 + mm)) 4 (by rw [List.length_drop]; omega), take_addQ s (p + 11 + mm) 4, take_addQ s (p + 11) mm, ← e1, ← ht]
      simp only [List.append_assoc]
  · rw [if_neg hv] at h
    simp only [Except.ok.injEq, Prod.mk.injEq] at h
    obtain ⟨rfl, rfl⟩ := h
    refine ⟨⟨by omega, by omega⟩, ?_, ?_, ⟨r1, r2, by show (-9223372036854775808 : Int) ≤ 0 ∧ (0 : Int) < 9223372036854775808; decide⟩, hfl⟩
    · unfold InS.mark1
      rw [h1]
      simp only
      rw [h2]
      simp only
      rw [h3']
      simp only
      rw [h5, if_neg hv]
    · unfold encM
      simp only
      rw [if_neg hv]
      show s.take p ++ ((((beBytes (sInt ((s.drop p).take 8)) 8 ++ beBytes (sInt ((s.drop (p + 8)).take 2)) 2) ++ _) ++ _) ++ []) = _
      rw [take_addQ s (p + 11) mm, ← e1, ← ht]
      simp only [List.append_assoc, List.append_nil]
theorem marksN_both (v : Int) (s : Bs) (hs : s.length ≤ 2000) : ∀ (n : Nat) (acc : List MarkS) (p : Nat), p ≤ s.length → (∀ m ∈ acc, m.R ∧ FewL m.tops) →
    ∃ (l : List MarkS) (j : InS) (q : Nat) (e : Int), InS.marksN v n acc ⟨s, p, 0⟩ = (l, j) ∧ marksRN v s n acc p = (l, q, e) ∧ j.err = e ∧ (∀ m ∈ l, m.R ∧ FewL m.tops) ∧ (e ≠ 0 → l = [] ∧ q = 0) ∧ (e = 0 → j = ⟨s, q, 0⟩ ∧ q ≤ s.length ∧ s.take p ++ (l.drop acc.length).flatMap (encM v) = s.take q ∧ l.length = acc.length + n ∧ l.take acc.length = acc)
  | 0, acc, p, hp, ha => ⟨acc, ⟨s, p, 0⟩, p, 0, rfl, rfl, rfl, ha, fun h => absurd rfl h, fun _ => ⟨rfl, hp, by rw [List.drop_length]; simp, by omega, List.take_length⟩⟩
  | n + 1, acc, p, hp, ha => by
    have hstep : InS.marksN v (n + 1) acc ⟨s, p, 0⟩ = if ((⟨s, p, 0⟩ : InS).mark1 v).2.err = 0 then InS.marksN v n (acc ++ [((⟨s, p, 0⟩ : InS).mark1 v).1]) ((⟨s, p, 0⟩ : InS).mark1 v).2 else ([], ((⟨s, p, 0⟩ : InS).mark1 v).2) := rfl
    cases hm : mark1R v s p with
    | error e =>
      obtain ⟨h0, h1⟩ := mark1_err hp hm
      refine ⟨[], ((⟨s, p, 0⟩ : InS).mark1 v).2, 0, e, ?_, ?_, h1, (fun m hm => by cases hm), fun _ => ⟨rfl, rfl⟩, fun h => absurd h h0⟩
      · rw [hstep, if_neg (by rw [h1]; exact h0)]
      · unfold marksRN; rw [hm]
    | ok x =>
      obtain ⟨m, q⟩ := x
      obtain ⟨⟨h1, h2⟩, h3, h4, h5, h6⟩ := mark1_ok hs hm
      obtain ⟨l, j, q2, e, g1, g2, g3, g4, g5, g6⟩ := marksN_both v s hs n (acc ++ [m]) q h2 (fun x hx => by
        rcases List.mem_append.1 hx with hx | hx
        · exact ha x hx
        · rw [List.mem_singleton.1 hx]; exact ⟨h5, h6⟩)
      refine ⟨l, j, q2, e, ?_, ?_, g3, g4, g5, fun h => ?_⟩
      · rw [hstep, h3, if_pos rfl]; exact g1
      · unfold marksRN; rw [hm]; exact g2
      · obtain ⟨a1, a2, a3, a4, a5⟩ := g6 h
        rw [List.length_append, List.length_singleton] at a3 a4 a5
        have hl : acc.length < l.length := by omega
        have hlm : l[acc.length] = m := by
          have := congrArg (fun z => z[acc.length]?) a5
          simp only [List.getElem?_take] at this
          simp at this
          rw [List.getElem?_eq_getElem hl] at this
          simpa using this
        refine ⟨a1, a2, ?_, by omega, ?_⟩
        · rw [List.drop_eq_getElem_cons hl, List.flatMap_cons, hlm, ← List.append_assoc, h4, a3]
        · have := congrArg (List.take acc.length) a5
          rw [List.take_take] at this
          simpa using this
theorem marks_both (v : Int) (s : Bs) (hs : s.length ≤ 2000) : ∃ (l : List MarkS) (j : InS) (many : Nat) (e : Int), (⟨s, 0, 0⟩ : InS).marks v = (l, j) ∧ marksR v s = (l, many, e) ∧ j.err = e ∧ (∀ m ∈ (InS.marksN v ((⟨s, 0, 0⟩ : InS).cnt 15).1 [] ((⟨s, 0, 0⟩ : InS).cnt 15).2).1, m.R ∧ FewL m.tops) ∧ (InS.marksN v ((⟨s, 0, 0⟩ : InS).cnt 15).1 [] ((⟨s, 0, 0⟩ : InS).cnt 15).2).1.length ≤ 1000000 ∧ (e ≠ 0 → l = [] ∧ many = 0) ∧ (e = 0 → j = ⟨s, many, 0⟩ ∧ many ≤ s.length ∧ encMs v l = s.take many ∧ l.length ≤ 200 ∧ marksErr v l = 0 ∧ ∀ m ∈ l, m.R ∧ FewL m.tops) := by
  unfold InS.marks marksR
  cases hc : cntP 15 s with
  | error e =>
    obtain ⟨h0, q, _, h1⟩ := (rds_cnt 15 (by decide)).err s 0 e (Nat.zero_le _) (by rw [List.drop_zero]; exact hc)
    simp only at h1 ⊢
    rw [h1]
    have h2 : InS.marksN v 0 [] ⟨s, q, e⟩ = ([], ⟨s, q, e⟩) := rfl
    simp only
    rw [h2]
    refine ⟨[], ⟨s, q, e⟩, 0, e, ?_, rfl, rfl, (fun m hm => by cases hm), Nat.zero_le _, fun _ => ⟨rfl, rfl⟩, fun h => absurd h h0⟩
    simp only
    rw [if_neg h0]
  | ok x =>
    obtain ⟨n, k⟩ := x
    obtain ⟨hk, hn, hs4⟩ := cntP_one (by decide) hc
    subst hk
    obtain ⟨_, h1⟩ := (rds_cnt 15 (by decide)).ok s 0 n 4 (Nat.zero_le _) (by rw [List.drop_zero]; exact hc)
    simp only [Nat.zero_add] at h1 ⊢
    rw [h1]
    obtain ⟨l, j, q, e, g1, g2, g3, g4, g5, g6⟩ := marksN_both v s hs n [] 4 (by omega) (fun m hm => by cases hm)
    simp only
    rw [g1, g2]
    simp only
    rw [g3]
    by_cases h0 : e = 0
    · subst h0
      obtain ⟨a1, a2, a3, a4, _⟩ := g6 rfl
      rw [List.length_nil] at a3 a4
      rw [List.drop_zero, hs4] at a3
      have hl : l.length ≤ 200 := by omega
      have he : encMs v l = s.take q := by
        unfold encMs
        rw [show l.length = n by omega]
        exact a3
      by_cases hE : marksErr v l = 0
      · refine ⟨l, j, q, 0, ?_, ?_, g3, g4, by omega, fun h => absurd rfl h, fun _ => ⟨a1, a2, he, hl, hE, g4⟩⟩
        · rw [if_pos rfl, if_pos hE]
        · rw [if_neg (by simp), if_neg (by rw [hE]; simp)]
      · refine ⟨[], j.fail (marksErr v l), 0, marksErr v l, ?_, ?_, by unfold InS.fail; rw [if_pos g3], g4, by omega, fun _ => ⟨rfl, rfl⟩, fun h => absurd h hE⟩
        · rw [if_pos rfl, if_neg hE]
        · rw [if_neg (by simp), if_pos hE]
    · obtain ⟨rfl, rfl⟩ := g5 h0
      refine ⟨[], j, 0, e, ?_, ?_, g3, g4, Nat.zero_le _, fun _ => ⟨rfl, rfl⟩, fun h => absurd h h0⟩
      · rw [if_neg h0]
      · rw [if_pos h0]

theorem preM_leL (v : Int) (l : List MarkS) (k : Nat) (hk : k ≤ l.length) (hl : l.length ≤ 200) (h : ∀ m ∈ l, (encM v m).length ≤ 2000) : (preM v l k).length ≤ 400004 := by
  unfold preM
  rw [List.length_append, beBytes_length]
  have : ∀ (m : List MarkS), (∀ t ∈ m, (encM v t).length ≤ 2000) → (m.flatMap (encM v)).length ≤ 2000 * m.length := by
    intro m
    induction m with
    | nil => intro _; simp
    | cons x t ih =>
      intro hm
      have h1 := ih (fun y hy => hm y (by simp [hy]))
      have h2 := hm x (by simp)
      rw [List.flatMap_cons, List.length_append, List.length_cons]
      omega
  have h1 := this (l.take k) (fun t ht => h t (List.mem_of_mem_take ht))
  rw [List.length_take] at h1
  have e : min k l.length = k := by omega
  rw [e] at h1
  show 4 + _ ≤ _
  omega
theorem encM_in (v : Int) (l : List MarkS) (m : MarkS) (hm : m ∈ l) : (encM v m).length ≤ (encMs v l).length := by
  have : ∀ l : List MarkS, m ∈ l → (encM v m).length ≤ (l.flatMap (encM v)).length := by
    intro l
    induction l with
    | nil => intro h; cases h
    | cons x t ih =>
      intro h
      rw [List.flatMap_cons, List.length_append]
      rcases List.mem_cons.1 h with rfl | h
      · omega
      · have := ih h; omega
  have h2 := this l hm
  unfold encMs
  rw [List.length_append]
  omega

end Go.Proofs.Ytombolmicfjjpaa

/- Values, decoded (pure). -/
namespace Go.Proofs.Ytombolmicfjjpaa
open Go.RowKit

end Go.Proofs.Ytombolmicfjjpaa

/- Numbers and texts, read. -/
namespace Go.Proofs.Ytombolmicfjjpaa
open Go.RowKit

theorem cnt_nat (i : InS) (each : Nat) : (i.count 4 each).1 = ((i.cnt each).1 : Int) ∧ (i.cnt each).1 ≤ 2147483647 := by
  have hr : -2147483648 ≤ (i.int 4).1 ∧ (i.int 4).1 < 2147483648 := by
    have e4 : half (4 : Int).toNat = 2147483648 := by decide
    by_cases hi : i.err = 0
    · obtain ⟨s, pos, er⟩ := i
      simp only at hi
      subst hi
      unfold InS.int
      rw [if_neg (by decide)]
      simp only
      unfold InS.take
      split
      · show -2147483648 ≤ sInt [] ∧ sInt [] < 2147483648; decide
      · split
        · show -2147483648 ≤ sInt [] ∧ sInt [] < 2147483648; decide
        · split
          · show -2147483648 ≤ sInt [] ∧ sInt [] < 2147483648; decide
          · rename_i h1 h2 h3
            have hl : (((s.drop pos)).take (4 : Int).toNat).length = 4 := by
              rw [List.length_take, List.length_drop]
              simp only [InS.left] at h3
              have : (4 : Int).toNat = 4 := rfl
              omega
            have h6 := sInt_fits _ 4 (by decide) (by decide) hl
            have h7 := h6.2.2
            have e5 : half ((4 : Nat) : Int).toNat = 2147483648 := by decide
            rw [e5] at h7
            exact h7
    · rw [int_stuck i hi]; show (-2147483648 : Int) ≤ 0 ∧ (0 : Int) < 2147483648; decide
  have h0 : 0 ≤ (i.count 4 each).1 ∧ (i.count 4 each).1 < 2147483648 := by
    unfold InS.count
    simp only
    split
    · simp
    · split
      · simp
      · omega
  unfold InS.cnt
  simp only
  omega
theorem s_cntV (p : Nat) (i j : InS) (each n : Nat) (ei : Int) (he : ei = each) (hx : i.cnt each = (n, j)) {W0 w : World} {K : Know} {L : List Res} (h : St W0 w K (.inp p i :: L)) :
    Calls Try.prog 77 #[inPtr p, .int .i64 4, .int .i64 ei] w fun en w' => en = .returned (.int .i64 n) ∧ St W0 w' K (.inp p j :: L) := by
  subst he
  have h2 := s_count p i 4 each h
  have h3 := (cnt_nat i each).1
  rw [hx] at h3
  have h4 : (i.count 4 each).2 = j := by have := congrArg Prod.snd hx; exact this
  rw [h3, h4] at h2
  exact h2
theorem s_intV (p : Nat) (i j : InS) (x : Int) (size : Int) (hx : i.int size = (x, j)) {W0 w : World} {K : Know} {L : List Res} (h : St W0 w K (.inp p i :: L)) :
    Calls Try.prog 72 #[inPtr p, .int .i64 size] w fun en w' => en = .returned (.int .i64 x) ∧ St W0 w' K (.inp p j :: L) := by
  have h2 := s_int p i size h
  rw [hx] at h2
  exact h2
theorem s_errV (p : Nat) (i : InS) (e : Int) (hx : i.err = e) {W0 w : World} {K : Know} {L : List Res} (h : St W0 w K (.inp p i :: L)) :
    Calls Try.prog 27 #[inPtr p] w fun en w' => en = .returned (.int .i64 e) ∧ St W0 w' K (.inp p i :: L) := by
  subst hx; exact s_err p i h
theorem blob_textV (p : Nat) (i j : InS) (s : Bs) (hx : i.text = (s, j)) {W0 w : World} {K : Know} {L : List Res} (h : St W0 w K (.inp p i :: L)) :
    Calls Try.prog 78 #[inPtr p] w fun en w' => en = .returned (.string (bb s)) ∧ St W0 w' K (.inp p j :: L) := by
  have h2 := blob_text p i h
  rw [hx] at h2
  exact h2
theorem elem_int : ElemT Try.prog 3 (.int .i64 0) 1 8 := elemT_of (by kernel_rfl) rfl (by decide)
theorem elem_top : ElemT Try.prog 51 (.agg #[.string ⟨#[]⟩, .slice none 0 0]) 2 40 := elemT_of (by kernel_rfl) rfl (by decide)
theorem tops_nil (K : Know) : K.has (K.and (Know.tops (.slice none 0 0) [])) := fun _ _ h => ⟨h, ⟨none, 0, rfl, fun h => absurd h (by simp)⟩, fun x hx => by cases hx⟩

end Go.Proofs.Ytombolmicfjjpaa

/- Topics, read. -/
namespace Go.Proofs.Ytombolmicfjjpaa
open Go.RowKit

set_option maxHeartbeats 1000000 in
set_option maxRecDepth 100000 in
theorem val_parts (p : Nat) (i j : InS) (l : List Int) (hx : i.parts = (l, j)) {W0 w : World} {K : Know} {L : List Res} (h : St W0 w K (.inp p i :: L)) :
    Calls Try.prog 79 #[inPtr p] w fun en w' => ∃ v, en = .returned v ∧ St W0 w' (K.and (Know.flat RI v 1 l)) (.inp p j :: L) := by
  obtain ⟨⟨n, c⟩, hc⟩ : ∃ r, i.cnt 4 = r := ⟨_, rfl⟩
  have hnl := (cnt_nat i 4).2
  rw [hc] at hnl
  have hx2 : InS.partsN n [] c = (l, j) := by rw [← hx]; unfold InS.parts; rw [hc]
  have HC := Lib.hid hc
  have HX := Lib.hid hx2
  have HNL := Lib.hid hnl
  have H := Lib.hid h
  have hni : (n : Int) ≤ 2147483647 := by simp only at hnl; omega
  clear h hx hc hx2 hnl
  go_enter Try.func79, Try.ntmps79
  go_wp2_with (go_at_call 77; (with_reducible refine (s_cntV p i c 4 n 4 rfl HC.out H.out).mono ?_); rintro e_ wn ⟨rfl, h⟩; replace H := Lib.hid h; clear h)
  go_loopw [3, 6] (fun lv iv wr => ∃ (k : Nat) (i2 : InS) (acc : List Int), k ≤ n ∧ iv = .int .i64 k ∧ Hid (acc.length = k) ∧ Hid (InS.partsN (n - k) acc i2 = (l, j)) ∧ St W0 wr K (.row lv 3 1 acc.length (acc.flatMap fun x => [.int .i64 x]) :: .inp p i2 :: L)) (fun _ iv _ => n - (intOf iv).toNat)
  case atStart => exact ⟨0, c, [], Nat.zero_le _, rfl, Lib.hid rfl, Lib.hid HX.out, H.out.nilRow 3 1⟩
  case round =>
    obtain ⟨k, i2, acc, hk, rfl, HAL, HP, hst⟩ := hrel
    clear H
    have H := Lib.hid hst
    clear hst
    by_cases hlt : k < n
    · obtain ⟨⟨x, i3⟩, hi3⟩ : ∃ r, i2.int 4 = r := ⟨_, rfl⟩
      have HI := Lib.hid hi3
      have HP2 := Lib.hid (show InS.partsN (n - (k + 1)) (acc ++ [x]) i3 = (l, j) by
        have h1 := HP.out
        rw [show n - k = (n - (k + 1)) + 1 by omega] at h1
        have h2 : InS.partsN (n - (k + 1)) (acc ++ [(i2.int 4).1]) (i2.int 4).2 = (l, j) := h1
        rw [hi3] at h2
        exact h2)
      have HAB := Lib.hid (show acc.length ≤ 2147483647 by have := HAL.out; have := HNL.out; omega)
      have hkn : (k : Int) < (n : Int) := by omega
      clear hi3
      go_wp2_with (first
    | (go_at_call 72; (with_reducible refine (s_intV p i2 i3 x 4 HI.out H.out.p1).mono ?_); rintro e_ wn ⟨rfl, h⟩; have h := h.p1; replace H := Lib.hid h; clear h)
    | (at_builtin; refine wpl_app1_st rfl _ _ 49 rfl 3 Try.underlying49 elem_int _ _ _ rfl H.out [.int .i64 x] 3 rfl rfl (by simp [Value.oneCell']) (by have := HAB.out; unfold maxLen; omega) (by have := HAB.out; omega) ?_; intro v' w' h; replace H := Lib.hid h; clear h))
      go_roundw
      case rel => exact ⟨k + 1, i3, acc ++ [x], hlt, by go_num, Lib.hid (by rw [List.length_append, HAL.out]; rfl), HP2, by rw [List.length_append, List.flatMap_append]; exact H.out⟩
      case measure => first | (simp [intOf]; done) | (simp [intOf]; omega)
    · obtain rfl : k = n := by omega
      have hp := HP.out
      rw [Nat.sub_self] at hp
      have hp : (acc, i2) = (l, j) := hp
      simp only [Prod.mk.injEq] at hp
      obtain ⟨rfl, rfl⟩ := hp
      go_wp2
      go_ret
      exact ⟨_, rfl, H.out.freezeRow (R := RI) (fun x _ => ⟨rfl, rfl⟩)⟩

set_option maxHeartbeats 2000000 in
set_option maxRecDepth 100000 in
theorem val_topics (p : Nat) (i j : InS) (l : List TopS) (hx : i.tops = (l, j)) {W0 w : World} {K : Know} {L : List Res} (h : St W0 w K (.inp p i :: L)) :
    Calls Try.prog 25 #[inPtr p] w fun en w' => ∃ (v : Value) (lr : List (TopS × Value)), en = .returned v ∧ lr.map (·.1) = l ∧ St W0 w' (K.and (Know.tops v lr)) (.inp p j :: L) := by
  obtain ⟨⟨n, c⟩, hc⟩ : ∃ r, i.cnt 6 = r := ⟨_, rfl⟩
  have hnl := (cnt_nat i 6).2
  rw [hc] at hnl
  have hx2 : InS.topsN n [] c = (l, j) := by rw [← hx]; unfold InS.tops; rw [hc]
  have HC := Lib.hid hc
  have HX := Lib.hid hx2
  have HNL := Lib.hid hnl
  have H := Lib.hid h
  have hni : (n : Int) ≤ 2147483647 := by simp only at hnl; omega
  clear h hx hc hx2 hnl
  go_enter Try.func25, Try.ntmps25
  go_wp2_with (go_at_call 77; (with_reducible refine (s_cntV p i c 6 n 6 rfl HC.out H.out).mono ?_); rintro e_ wn ⟨rfl, h⟩; replace H := Lib.hid h; clear h)
  go_loopw [3, 4, 7] (fun lv _ iv wr => ∃ (k : Nat) (i2 : InS) (acc : List (TopS × Value)) (K2 : Know), k ≤ n ∧ iv = .int .i64 k ∧ Hid (acc.length = k) ∧ Hid (InS.topsN (n - k) (acc.map (·.1)) i2 = (l, j)) ∧ Hid (K2.has K) ∧ Hid (∀ x ∈ acc, K2.has (Know.flat RI x.2 1 x.1.parts)) ∧ St W0 wr K2 (.row lv 51 2 acc.length (acc.flatMap tcells) :: .inp p i2 :: L)) (fun _ _ iv _ => n - (intOf iv).toNat)
  case atStart => exact ⟨0, c, [], K, Nat.zero_le _, rfl, Lib.hid rfl, Lib.hid HX.out, Lib.hid (Know.has_refl _), Lib.hid (fun x hx => by cases hx), H.out.nilRow 51 2⟩
  case round =>
    obtain ⟨k, i2, acc, K2, hk, rfl, HAL, HP, HKK, HALL, hst⟩ := hrel
    clear H
    have H := Lib.hid hst
    clear hst
    by_cases hlt : k < n
    · obtain ⟨⟨nm, i3⟩, hi3⟩ : ∃ r, i2.text = r := ⟨_, rfl⟩
      obtain ⟨⟨ps, i4⟩, hi4⟩ : ∃ r, i3.parts = r := ⟨_, rfl⟩
      obtain ⟨er, her⟩ : ∃ er, i4.err = er := ⟨_, rfl⟩
      have HT := Lib.hid hi3
      have HPS := Lib.hid hi4
      have HER := Lib.hid her
      have hstep : (if er = 0 then InS.topsN (n - (k + 1)) (acc.map (·.1) ++ [⟨nm, ps⟩]) i4 else ([], i4)) = (l, j) := by
        have h1 := HP.out
        rw [show n - k = (n - (k + 1)) + 1 by omega] at h1
        have h2 : (if i2.text.2.parts.2.err = 0 then InS.topsN (n - (k + 1)) (acc.map (·.1) ++ [⟨i2.text.1, i2.text.2.parts.1⟩]) i2.text.2.parts.2 else ([], i2.text.2.parts.2)) = (l, j) := h1
        rw [hi3] at h2
        simp only at h2
        rw [hi4] at h2
        simp only at h2
        rw [her] at h2
        exact h2
      have HAB := Lib.hid (show acc.length ≤ 2147483647 by have := HAL.out; have := HNL.out; omega)
      have hkn : (k : Int) < (n : Int) := by omega
      clear hi3 hi4 her
      by_cases he0 : er = 0
      · as_aux_lemma =>
        rw [if_pos he0] at hstep
        have HP2 := Lib.hid hstep
        subst he0
        clear hstep
        go_wp2_with (first
    | (go_at_call 78; (with_reducible refine (blob_textV p i2 i3 nm HT.out H.out.p1).mono ?_); rintro e_ wn ⟨rfl, h⟩; replace H := Lib.hid h; clear h)
    | (go_at_call 79; (with_reducible refine (val_parts p i3 i4 ps HPS.out H.out).mono ?_); rintro e_ wn ⟨pv, rfl, h⟩; obtain ⟨qx, capx, hpv⟩ := flat_form (Know.has_right (Know.has_refl _)) h; subst hpv; have h := h.p1; replace H := Lib.hid h; clear h)
    | (at_builtin; refine wpl_app1_st rfl _ _ 22 rfl 51 Try.underlying22 elem_top _ _ _ rfl H.out [.string (bb nm), .slice qx ps.length capx] 51 rfl rfl (by simp [Value.oneCell']) (by have := HAB.out; unfold maxLen; omega) (by have := HAB.out; omega) ?_; intro v' w' h; have h := h.p1; replace H := Lib.hid h; clear h)
    | (go_at_call 27; (with_reducible refine (s_errV p i4 0 HER.out H.out).mono ?_); rintro e_ wn ⟨rfl, h⟩; have h := h.p1; replace H := Lib.hid h; clear h))
        go_roundw
        case rel => exact ⟨k + 1, i4, acc ++ [((⟨nm, ps⟩ : TopS), .slice qx ps.length capx)], K2.and (Know.flat RI (.slice qx ps.length capx) 1 ps), hlt, by go_num, Lib.hid (by rw [List.length_append, HAL.out]; rfl), Lib.hid (by rw [List.map_append]; exact HP2.out), Lib.hid (Know.has_trans (Know.has_left (Know.has_refl _)) HKK.out), Lib.hid (fun x hx => by
          rcases List.mem_append.1 hx with hx | hx
          · exact Know.has_left (HALL.out x hx)
          · rw [List.mem_singleton.1 hx]; exact Know.has_right (Know.has_refl _)), by rw [List.length_append, List.flatMap_append]; exact H.out⟩
        case measure => first | (simp [intOf]; done) | (simp [intOf]; omega)
      · as_aux_lemma =>
        rw [if_neg he0] at hstep
        simp only [Prod.mk.injEq] at hstep
        obtain ⟨rfl, rfl⟩ := hstep
        have gz : (er == 0) = false := by rw [beq_eq_false_iff_ne]; exact he0
        have gz3 : (er != 0) = true := by simp [bne, gz]
        clear he0
        go_wp2_with (first
    | (go_at_call 78; (with_reducible refine (blob_textV p i2 i3 nm HT.out H.out.p1).mono ?_); rintro e_ wn ⟨rfl, h⟩; replace H := Lib.hid h; clear h)
    | (go_at_call 79; (with_reducible refine (val_parts p i3 _ ps HPS.out H.out).mono ?_); rintro e_ wn ⟨pv, rfl, h⟩; obtain ⟨qx, capx, hpv⟩ := flat_form (Know.has_right (Know.has_refl _)) h; subst hpv; have h := h.p1; replace H := Lib.hid h; clear h)
    | (at_builtin; refine wpl_app1_st rfl _ _ 22 rfl 51 Try.underlying22 elem_top _ _ _ rfl H.out [.string (bb nm), .slice qx ps.length capx] 51 rfl rfl (by simp [Value.oneCell']) (by have := HAB.out; unfold maxLen; omega) (by have := HAB.out; omega) ?_; intro v' w' h; have h := h.p1; replace H := Lib.hid h; clear h)
    | (go_at_call 27; (with_reducible refine (s_errV p _ er HER.out H.out).mono ?_); rintro e_ wn ⟨rfl, h⟩; replace H := Lib.hid h; clear h))
        go_ret
        exact ⟨_, [], rfl, rfl, (H.out.p1.drop).know (Know.has_trans (Know.has_left HKK.out) (tops_nil K))⟩
    · obtain rfl : k = n := by omega
      have hp := HP.out
      rw [Nat.sub_self] at hp
      have hp : (acc.map (·.1), i2) = (l, j) := hp
      simp only [Prod.mk.injEq] at hp
      obtain ⟨rfl, rfl⟩ := hp
      go_wp2
      go_ret
      have hf := H.out.freezeRow (R := RTop) (fun x _ => ⟨rfl, rfl⟩)
      have hf2 := hf.know (K' := K.and (Know.tops _ acc)) (fun w F hh => ⟨HKK.out _ _ hh.1, hh.2, fun y hy => HALL.out y hy _ _ hh.1⟩)
      first | exact ⟨_, acc, rfl, rfl, hf2⟩ | exact ⟨_, rfl, acc, rfl, hf2⟩

end Go.Proofs.Ytombolmicfjjpaa

/- The bytes of control records (pure). -/
namespace Go.Proofs.Ytombolmicfjjpaa
open Go.RowKit

/-- Of bytes the number behind the version. -/
def verRd (k : Nat) (ok : Int → Bool) (e : Int) (s : Bs) : Int × Int :=
  if s.length < 2 then (0, 1) else if sInt (s.take 2) ≠ 0 then (0, 7) else if s.length < 2 + k then (0, 1)
  else if ok (sInt ((s.drop 2).take k)) = false then (0, e) else if 2 + k < s.length then (0, 2) else (sInt ((s.drop 2).take k), 0)
def way (n : Int) : Bool := n == 0 || n == 1
def time0 (n : Int) : Bool := decide (0 ≤ n)
end Go.Proofs.Ytombolmicfjjpaa

/- Contracts of package control. -/
namespace Go.Proofs.Ytombolmicfjjpaa
open Go.RowKit

end Go.Proofs.Ytombolmicfjjpaa

/- Contracts of cursitorref08. -/
namespace Go.Proofs.Ytombolmicfjjpaa
open Go.RowKit

end Go.Proofs.Ytombolmicfjjpaa

/- Contracts: control records. -/
namespace Go.Proofs.Ytombolmicfjjpaa
open Go.RowKit

theorem know_nil0 {α : Type} (R : List Value → α → Prop) (sz : Nat) (K : Know) : K.has (Know.flat R (.slice none 0 0) sz []) := fun _ _ _ => ⟨none, 0, rfl, fun h => absurd h (by simp)⟩

def ctlRead (n1 n2 : Bool) (d1 d2 : Bs) (many o : Int) : Int × Int × Int :=
  if n1 = true ∨ n2 = true ∨ many ≠ 0 ∨ o ≠ 0 then (0, 0, 12)
  else if (verRd 2 way 12 d1).2 ≠ 0 then (0, 0, (verRd 2 way 12 d1).2)
  else if (verRd 4 time0 11 d2).2 ≠ 0 then (0, 0, (verRd 4 time0 11 d2).2)
  else ((verRd 2 way 12 d1).1, (verRd 4 time0 11 d2).1, 0)

end Go.Proofs.Ytombolmicfjjpaa
