/- Whether two rows of numbers are one. -/
import Derived.Test.YtombolmicfjjpaaGWholeEntries4
import Derived.Test.YtombolmicfjjpaaGWholeEntries2
import Derived.Test.YtombolmicfjjpaaRef06
import Derived.BigQuiet
/- Values, encoded. -/
namespace Go.Proofs.Ytombolmicfjjpaa
open Go.RowKit

set_option maxHeartbeats 2000000 in
set_option maxRecDepth 100000 in
theorem val_encode_bad (p e t s u st : Int) (l : List (TopS × Value)) (q : Option Addr) (cap : Nat) (E : Int) (he : ValS.err ⟨p, e, t, s, l.map (·.1), u, st⟩ = E) (h0 : E ≠ 0) (hf : FewT l) {W0 w : World} {K : Know} {L : List Res} (hk : K.has (Know.tops (.slice q l.length cap) l)) (h : St W0 w K L) :
    Calls Try.prog 15 #[.agg #[.int .i64 p, .int .i64 e, .int .i64 t, .int .i64 s, .slice q l.length cap, .int .i64 u, .int .i64 st]] w fun en w' => en = .returned (.tuple #[.string ⟨#[]⟩, .int .i64 E]) ∧ St W0 w' K L := by
  have HK := Lib.hid hk
  have HF := Lib.hid hf
  obtain ⟨vb, hvb⟩ : ∃ b, w.heap.size = b := ⟨_, rfl⟩
  have h1 := h.allocRaw #[.int .i64 p, .int .i64 e, .int .i64 t, .int .i64 s, .slice q l.length cap, .int .i64 u, .int .i64 st] 24
  rw [hvb] at h1
  have c0 := (h1).rawCell 0
  have c1 := (h1).rawCell 1
  have c2 := (h1).rawCell 2
  have c3 := (h1).rawCell 3
  have c4 := (h1).rawCell 4
  have c5 := (h1).rawCell 5
  have c6 := (h1).rawCell 6
  simp at c0 c1 c2 c3 c4 c5 c6
  have H := Lib.hid h1
  have HE := Lib.hid he
  have gz : (E == 0) = false := by rw [beq_eq_false_iff_ne]; exact h0
  have gz3 : (E != 0) = true := by simp [bne, gz]
  clear h h1 hk hf he h0
  go_enter Try.func15, Try.ntmps15
  go_wp2_with (go_at_call 17; (with_reducible refine (val_checkV p e t s u st l _ _ E HE.out HF.out HK.out H.out).mono ?_); rintro e_ wn ⟨rfl, h⟩; have c0 := (h).rawCell 0; have c1 := (h).rawCell 1; have c2 := (h).rawCell 2; have c3 := (h).rawCell 3; have c4 := (h).rawCell 4; have c5 := (h).rawCell 5; have c6 := (h).rawCell 6; simp at c0 c1 c2 c3 c4 c5 c6; replace H := Lib.hid h; clear h)
  go_ret2
  exact ⟨rfl, H.out.drop⟩

set_option maxHeartbeats 2000000 in
set_option maxRecDepth 100000 in
theorem val_encode_ok (p e t s u st : Int) (l : List (TopS × Value)) (q : Option Addr) (cap : Nat) (he : ValS.err ⟨p, e, t, s, l.map (·.1), u, st⟩ = 0) (hR : ValS.R ⟨p, e, t, s, l.map (·.1), u, st⟩) (hf : FewT l) {W0 w : World} {K : Know} {L : List Res} (hk : K.has (Know.tops (.slice q l.length cap) l)) (h : St W0 w K L) :
    Calls Try.prog 15 #[.agg #[.int .i64 p, .int .i64 e, .int .i64 t, .int .i64 s, .slice q l.length cap, .int .i64 u, .int .i64 st]] w fun en w' => en = .returned (.tuple #[.string (bb (ValS.enc ⟨p, e, t, s, l.map (·.1), u, st⟩)), .int .i64 0]) ∧ St W0 w' K L := by
  have HK := Lib.hid hk
  have HF := Lib.hid hf
  obtain ⟨vb, hvb⟩ : ∃ b, w.heap.size = b := ⟨_, rfl⟩
  have h1 := h.allocRaw #[.int .i64 p, .int .i64 e, .int .i64 t, .int .i64 s, .slice q l.length cap, .int .i64 u, .int .i64 st] 24
  rw [hvb] at h1
  have c0 := (h1).rawCell 0
  have c1 := (h1).rawCell 1
  have c2 := (h1).rawCell 2
  have c3 := (h1).rawCell 3
  have c4 := (h1).rawCell 4
  have c5 := (h1).rawCell 5
  have c6 := (h1).rawCell 6
  simp at c0 c1 c2 c3 c4 c5 c6
  have H := Lib.hid h1
  have HE := Lib.hid he
  have hp := ValS.ok_parts _ he
  have hrg := ranged_parts _ hp.1
  have hft := fit_of_rise l hf hp.2.2.2.2
  have hst := hp.2.1
  obtain ⟨r1, r2, r3, r4, r5, r6⟩ := hR
  simp only at hrg hst r1 r2 r3 r4 r5 r6
  have HFT := Lib.hid hft
  obtain ⟨y0, hy0⟩ : ∃ y : Bs, [] = y := ⟨_, rfl⟩
  obtain ⟨y1, hy1⟩ : ∃ y, y0 ++ beBytes 0 2 = y := ⟨_, rfl⟩
  obtain ⟨y2, hy2⟩ : ∃ y, y1 ++ beBytes p 8 = y := ⟨_, rfl⟩
  obtain ⟨y3, hy3⟩ : ∃ y, y2 ++ beBytes e 2 = y := ⟨_, rfl⟩
  obtain ⟨y4, hy4⟩ : ∃ y, y3 ++ beBytes t 4 = y := ⟨_, rfl⟩
  obtain ⟨y5, hy5⟩ : ∃ y, y4 ++ beBytes s 1 = y := ⟨_, rfl⟩
  obtain ⟨y6, hy6⟩ : ∃ y, y5 ++ encTs (l.map (·.1)) = y := ⟨_, rfl⟩
  obtain ⟨y7, hy7⟩ : ∃ y, y6 ++ beBytes u 8 = y := ⟨_, rfl⟩
  obtain ⟨y8, hy8⟩ : ∃ y, y7 ++ beBytes st 8 = y := ⟨_, rfl⟩
  have hye : y8 = ValS.enc ⟨p, e, t, s, l.map (·.1), u, st⟩ := by rw [← hy8, ← hy7, ← hy6, ← hy5, ← hy4, ← hy3, ← hy2, ← hy1, ← hy0]; rfl
  have hl1 := congrArg List.length hy1
  have hl2 := congrArg List.length hy2
  have hl3 := congrArg List.length hy3
  have hl4 := congrArg List.length hy4
  have hl5 := congrArg List.length hy5
  have hl6 := congrArg List.length hy6
  have hl7 := congrArg List.length hy7
  have hl8 := congrArg List.length hy8
  have hl0 := congrArg List.length hy0
  simp only [List.length_append, beBytes_length, List.length_nil] at hl0 hl1 hl2 hl3 hl4 hl5 hl6 hl7 hl8
  have hTl : (encTs (l.map (·.1))).length ≤ 5000000000000 := by rw [← preT_all]; have h1 := preT_le _ hft _ (Nat.le_refl _); have h2 := hft.1; omega
  have Y1 := Lib.hid (show y0 ++ beBytes 0 (2 : Int).toNat = y1 from hy1)
  have G1 := Lib.hid (vfits2 0 (by omega))
  have Q1 := Lib.hid (show y0.length ≤ 100000000000000 by omega)
  have Y2 := Lib.hid (show y1 ++ beBytes p (8 : Int).toNat = y2 from hy2)
  have G2 := Lib.hid (vfits8 p (by omega))
  have Q2 := Lib.hid (show y1.length ≤ 100000000000000 by omega)
  have Y3 := Lib.hid (show y2 ++ beBytes e (2 : Int).toNat = y3 from hy3)
  have G3 := Lib.hid (vfits2 e (by omega))
  have Q3 := Lib.hid (show y2.length ≤ 100000000000000 by omega)
  have Y4 := Lib.hid (show y3 ++ beBytes t (4 : Int).toNat = y4 from hy4)
  have G4 := Lib.hid (vfits4 t (by omega))
  have Q4 := Lib.hid (show y3.length ≤ 100000000000000 by omega)
  have Y5 := Lib.hid (show y4 ++ beBytes s (1 : Int).toNat = y5 from hy5)
  have G5 := Lib.hid (vfits1 s (by omega))
  have Q5 := Lib.hid (show y4.length ≤ 100000000000000 by omega)
  have Y6 := Lib.hid hy6
  have Q6 := Lib.hid (show y5.length ≤ 1000000 by omega)
  have Y7 := Lib.hid (show y6 ++ beBytes u (8 : Int).toNat = y7 from hy7)
  have G7 := Lib.hid (vfits8 u (by omega))
  have Q7 := Lib.hid (show y6.length ≤ 100000000000000 by omega)
  have Y8 := Lib.hid (show y7 ++ beBytes st (8 : Int).toNat = y8 from hy8)
  have G8 := Lib.hid (vfits8 st (by omega))
  have Q8 := Lib.hid (show y7.length ≤ 100000000000000 by omega)
  rw [← hye]
  clear h h1 hk hf he hp hrg hft hst r1 r2 r3 r4 r5 r6 hTl hye hy1 hy2 hy3 hy4 hy5 hy6 hy7 hy8 hl0 hl1 hl2 hl3 hl4 hl5 hl6 hl7 hl8
  go_enter Try.func15, Try.ntmps15
  go_wp2_with (first
    | (go_at_call 17; (with_reducible refine (val_checkV p e t s u st l _ _ 0 HE.out HF.out HK.out H.out).mono ?_); rintro e_ wn ⟨rfl, h⟩; obtain ⟨po, hpo⟩ : ∃ b, wn.heap.size = b := ⟨_, rfl⟩; have h := h.allocOut; rw [hpo, hy0] at h; have c0 := (h.p1).rawCell 0; have c1 := (h.p1).rawCell 1; have c2 := (h.p1).rawCell 2; have c3 := (h.p1).rawCell 3; have c4 := (h.p1).rawCell 4; have c5 := (h.p1).rawCell 5; have c6 := (h.p1).rawCell 6; simp at c0 c1 c2 c3 c4 c5 c6; replace H := Lib.hid h; clear h)
    | (go_at_call 69; (with_reducible refine (so_intV po y0 y1 0 2 Y1.out G1.out Q1.out H.out).mono ?_); rintro e_ wn ⟨rfl, h⟩; have c0 := (h.p1).rawCell 0; have c1 := (h.p1).rawCell 1; have c2 := (h.p1).rawCell 2; have c3 := (h.p1).rawCell 3; have c4 := (h.p1).rawCell 4; have c5 := (h.p1).rawCell 5; have c6 := (h.p1).rawCell 6; simp at c0 c1 c2 c3 c4 c5 c6; replace H := Lib.hid h; clear h)
    | (go_at_call 69; (with_reducible refine (so_intV po y1 y2 p 8 Y2.out G2.out Q2.out H.out).mono ?_); rintro e_ wn ⟨rfl, h⟩; have c0 := (h.p1).rawCell 0; have c1 := (h.p1).rawCell 1; have c2 := (h.p1).rawCell 2; have c3 := (h.p1).rawCell 3; have c4 := (h.p1).rawCell 4; have c5 := (h.p1).rawCell 5; have c6 := (h.p1).rawCell 6; simp at c0 c1 c2 c3 c4 c5 c6; replace H := Lib.hid h; clear h)
    | (go_at_call 69; (with_reducible refine (so_intV po y2 y3 e 2 Y3.out G3.out Q3.out H.out).mono ?_); rintro e_ wn ⟨rfl, h⟩; have c0 := (h.p1).rawCell 0; have c1 := (h.p1).rawCell 1; have c2 := (h.p1).rawCell 2; have c3 := (h.p1).rawCell 3; have c4 := (h.p1).rawCell 4; have c5 := (h.p1).rawCell 5; have c6 := (h.p1).rawCell 6; simp at c0 c1 c2 c3 c4 c5 c6; replace H := Lib.hid h; clear h)
    | (go_at_call 69; (with_reducible refine (so_intV po y3 y4 t 4 Y4.out G4.out Q4.out H.out).mono ?_); rintro e_ wn ⟨rfl, h⟩; have c0 := (h.p1).rawCell 0; have c1 := (h.p1).rawCell 1; have c2 := (h.p1).rawCell 2; have c3 := (h.p1).rawCell 3; have c4 := (h.p1).rawCell 4; have c5 := (h.p1).rawCell 5; have c6 := (h.p1).rawCell 6; simp at c0 c1 c2 c3 c4 c5 c6; replace H := Lib.hid h; clear h)
    | (go_at_call 69; (with_reducible refine (so_intV po y4 y5 s 1 Y5.out G5.out Q5.out H.out).mono ?_); rintro e_ wn ⟨rfl, h⟩; have c0 := (h.p1).rawCell 0; have c1 := (h.p1).rawCell 1; have c2 := (h.p1).rawCell 2; have c3 := (h.p1).rawCell 3; have c4 := (h.p1).rawCell 4; have c5 := (h.p1).rawCell 5; have c6 := (h.p1).rawCell 6; simp at c0 c1 c2 c3 c4 c5 c6; replace H := Lib.hid h; clear h)
    | (go_at_call 31; (with_reducible refine (val_putTopics po y5 y6 l _ _ Y6.out Q6.out HFT.out HK.out H.out).mono ?_); rintro e_ wn ⟨rfl, h⟩; have c0 := (h.p1).rawCell 0; have c1 := (h.p1).rawCell 1; have c2 := (h.p1).rawCell 2; have c3 := (h.p1).rawCell 3; have c4 := (h.p1).rawCell 4; have c5 := (h.p1).rawCell 5; have c6 := (h.p1).rawCell 6; simp at c0 c1 c2 c3 c4 c5 c6; replace H := Lib.hid h; clear h)
    | (go_at_call 69; (with_reducible refine (so_intV po y6 y7 u 8 Y7.out G7.out Q7.out H.out).mono ?_); rintro e_ wn ⟨rfl, h⟩; have c0 := (h.p1).rawCell 0; have c1 := (h.p1).rawCell 1; have c2 := (h.p1).rawCell 2; have c3 := (h.p1).rawCell 3; have c4 := (h.p1).rawCell 4; have c5 := (h.p1).rawCell 5; have c6 := (h.p1).rawCell 6; simp at c0 c1 c2 c3 c4 c5 c6; replace H := Lib.hid h; clear h)
    | (go_at_call 69; (with_reducible refine (so_intV po y7 y8 st 8 Y8.out G8.out Q8.out H.out).mono ?_); rintro e_ wn ⟨rfl, h⟩; have c0 := (h.p1).rawCell 0; have c1 := (h.p1).rawCell 1; have c2 := (h.p1).rawCell 2; have c3 := (h.p1).rawCell 3; have c4 := (h.p1).rawCell 4; have c5 := (h.p1).rawCell 5; have c6 := (h.p1).rawCell 6; simp at c0 c1 c2 c3 c4 c5 c6; replace H := Lib.hid h; clear h)
    | (go_at_call 32; (with_reducible refine (so_textV po y8 H.out).mono ?_); rintro e_ wn ⟨rfl, h⟩; replace H := Lib.hid h; clear h))
  go_ret2
  exact ⟨rfl, H.out.drop.drop⟩

end Go.Proofs.Ytombolmicfjjpaa

/- Values, checked by definition: the ways. -/
namespace Go.Proofs.Ytombolmicfjjpaa
open Go.RowKit

theorem ref14_rise0 (q : Option Addr) (cap : Nat) (r : Bool) (hr : tRise (([] : List (TopS × Value)).map (·.1)) = r) (hf : FewT []) {W0 w : World} {K : Know} {L : List Res} (hk : K.has (Know.tops (.slice q 0 cap) [])) (h : St W0 w K L) :
    Calls Try.prog 45 #[.slice q 0 cap] w fun en w' => en = .returned (.bool r) ∧ St W0 w' K L := ref14_rise [] q cap r hr hf hk h

set_option maxHeartbeats 2000000 in
set_option maxRecDepth 100000 in
theorem rchk_11 (p e t s u st : Int) (l : List (TopS × Value)) (q : Option Addr) (cap : Nat) (hrg : (decide (0 ≤ p) && (decide (0 ≤ e) && (decide (e ≤ 32767) && (decide (0 ≤ t) && (decide (t ≤ 2147483647) && (decide (0 ≤ u) && decide (-1 ≤ st))))))) = false) (hf : FewT l) {W0 w : World} {K : Know} {L : List Res} (hk : K.has (Know.tops (.slice q l.length cap) l)) (h : St W0 w K L) :
    Calls Try.prog 16 #[.agg #[.int .i64 p, .int .i64 e, .int .i64 t, .int .i64 s, .slice q l.length cap, .int .i64 u, .int .i64 st]] w fun en w' => en = .returned (.int .i64 11) ∧ St W0 w' K L := by
  have HK := Lib.hid hk
  have HF := Lib.hid hf
  obtain ⟨vb, hvb⟩ : ∃ b, w.heap.size = b := ⟨_, rfl⟩
  have h1 := h.allocRaw #[.int .i64 p, .int .i64 e, .int .i64 t, .int .i64 s, .slice q l.length cap, .int .i64 u, .int .i64 st] 24
  rw [hvb] at h1
  have c0 := (h1).rawCell 0
  have c1 := (h1).rawCell 1
  have c2 := (h1).rawCell 2
  have c3 := (h1).rawCell 3
  have c4 := (h1).rawCell 4
  have c5 := (h1).rawCell 5
  have c6 := (h1).rawCell 6
  simp at c0 c1 c2 c3 c4 c5 c6
  have H := Lib.hid h1
  clear h h1 hk hf
  by_cases h0 : 0 ≤ p
  · have k0 : ¬ p < 0 := by omega
    by_cases h1 : 0 ≤ e
    · have k1 : ¬ e < 0 := by omega
      by_cases h2 : e ≤ 32767
      · have k2 : ¬ 32767 < e := by omega
        by_cases h3 : 0 ≤ t
        · have k3 : ¬ t < 0 := by omega
          by_cases h4 : t ≤ 2147483647
          · have k4 : ¬ 2147483647 < t := by omega
            by_cases h5 : 0 ≤ u
            · have k5 : ¬ u < 0 := by omega
              by_cases h6 : -1 ≤ st
              · have k6 : ¬ st < -1 := by omega
                exact absurd hrg (by simp [h0, h1, h2, h3, h4, h5, h6])
              · as_aux_lemma =>
                have k6 : st < -1 := by omega
                clear hrg
                go_enter Try.func16, Try.ntmps16
                go_wp2
                go_ret
                exact ⟨rfl, H.out.drop⟩
            · as_aux_lemma =>
              have k5 : u < 0 := by omega
              clear hrg
              go_enter Try.func16, Try.ntmps16
              go_wp2
              go_ret
              exact ⟨rfl, H.out.drop⟩
          · as_aux_lemma =>
            have k4 : 2147483647 < t := by omega
            clear hrg
            go_enter Try.func16, Try.ntmps16
            go_wp2
            go_ret
            exact ⟨rfl, H.out.drop⟩
        · as_aux_lemma =>
          have k3 : t < 0 := by omega
          clear hrg
          go_enter Try.func16, Try.ntmps16
          go_wp2
          go_ret
          exact ⟨rfl, H.out.drop⟩
      · as_aux_lemma =>
        have k2 : 32767 < e := by omega
        clear hrg
        go_enter Try.func16, Try.ntmps16
        go_wp2
        go_ret
        exact ⟨rfl, H.out.drop⟩
    · as_aux_lemma =>
      have k1 : e < 0 := by omega
      clear hrg
      go_enter Try.func16, Try.ntmps16
      go_wp2
      go_ret
      exact ⟨rfl, H.out.drop⟩
  · as_aux_lemma =>
    have k0 : p < 0 := by omega
    clear hrg
    go_enter Try.func16, Try.ntmps16
    go_wp2
    go_ret
    exact ⟨rfl, H.out.drop⟩

set_option maxHeartbeats 2000000 in
set_option maxRecDepth 100000 in
theorem rchk_12 (p e t s u st : Int) (l : List (TopS × Value)) (q : Option Addr) (cap : Nat) (h0 : 0 ≤ p) (h1 : 0 ≤ e) (h2 : e ≤ 32767) (h3 : 0 ≤ t) (h4 : t ≤ 2147483647) (h5 : 0 ≤ u) (h6 : -1 ≤ st) (hs : s < 0 ∨ 7 ≤ s) (hf : FewT l) {W0 w : World} {K : Know} {L : List Res} (hk : K.has (Know.tops (.slice q l.length cap) l)) (h : St W0 w K L) :
    Calls Try.prog 16 #[.agg #[.int .i64 p, .int .i64 e, .int .i64 t, .int .i64 s, .slice q l.length cap, .int .i64 u, .int .i64 st]] w fun en w' => en = .returned (.int .i64 12) ∧ St W0 w' K L := by
  have HK := Lib.hid hk
  have HF := Lib.hid hf
  obtain ⟨vb, hvb⟩ : ∃ b, w.heap.size = b := ⟨_, rfl⟩
  have h1 := h.allocRaw #[.int .i64 p, .int .i64 e, .int .i64 t, .int .i64 s, .slice q l.length cap, .int .i64 u, .int .i64 st] 24
  rw [hvb] at h1
  have c0 := (h1).rawCell 0
  have c1 := (h1).rawCell 1
  have c2 := (h1).rawCell 2
  have c3 := (h1).rawCell 3
  have c4 := (h1).rawCell 4
  have c5 := (h1).rawCell 5
  have c6 := (h1).rawCell 6
  simp at c0 c1 c2 c3 c4 c5 c6
  have H := Lib.hid h1
  clear h h1 hk hf
  have k0 : ¬ p < 0 := by omega
  have k1 : ¬ e < 0 := by omega
  have k2 : ¬ 32767 < e := by omega
  have k3 : ¬ t < 0 := by omega
  have k4 : ¬ 2147483647 < t := by omega
  have k5 : ¬ u < 0 := by omega
  have k6 : ¬ st < -1 := by omega
  rcases hs with hs | hs
  · as_aux_lemma =>
    go_enter Try.func16, Try.ntmps16
    go_wp2
    go_ret
    exact ⟨rfl, H.out.drop⟩
  · as_aux_lemma =>
    have s1 : ¬ s < 0 := by omega
    have s2 : 6 < s := by omega
    go_enter Try.func16, Try.ntmps16
    go_wp2
    go_ret
    exact ⟨rfl, H.out.drop⟩

set_option maxHeartbeats 2000000 in
set_option maxRecDepth 100000 in
theorem rchk_0f (p e t s u st : Int) (l : List (TopS × Value)) (q : Option Addr) (cap : Nat) (h0 : 0 ≤ p) (h1 : 0 ≤ e) (h2 : e ≤ 32767) (h3 : 0 ≤ t) (h4 : t ≤ 2147483647) (h5 : 0 ≤ u) (h6 : -1 ≤ st) (hs : s = 0) (hem : ¬ l = []) (hf : FewT l) {W0 w : World} {K : Know} {L : List Res} (hk : K.has (Know.tops (.slice q l.length cap) l)) (h : St W0 w K L) :
    Calls Try.prog 16 #[.agg #[.int .i64 p, .int .i64 e, .int .i64 t, .int .i64 s, .slice q l.length cap, .int .i64 u, .int .i64 st]] w fun en w' => en = .returned (.int .i64 10) ∧ St W0 w' K L := by
  have HK := Lib.hid hk
  have HF := Lib.hid hf
  obtain ⟨vb, hvb⟩ : ∃ b, w.heap.size = b := ⟨_, rfl⟩
  have h1 := h.allocRaw #[.int .i64 p, .int .i64 e, .int .i64 t, .int .i64 s, .slice q l.length cap, .int .i64 u, .int .i64 st] 24
  rw [hvb] at h1
  have c0 := (h1).rawCell 0
  have c1 := (h1).rawCell 1
  have c2 := (h1).rawCell 2
  have c3 := (h1).rawCell 3
  have c4 := (h1).rawCell 4
  have c5 := (h1).rawCell 5
  have c6 := (h1).rawCell 6
  simp at c0 c1 c2 c3 c4 c5 c6
  have H := Lib.hid h1
  clear h h1 hk hf
  have k0 : ¬ p < 0 := by omega
  have k1 : ¬ e < 0 := by omega
  have k2 : ¬ 32767 < e := by omega
  have k3 : ¬ t < 0 := by omega
  have k4 : ¬ 2147483647 < t := by omega
  have k5 : ¬ u < 0 := by omega
  have k6 : ¬ st < -1 := by omega
  subst hs
  have hl0 : ((l.length : Int) == 0) = false := by rw [beq_eq_false_iff_ne]; intro h; exact hem (List.length_eq_zero_iff.1 (by omega))
  have hl1 : 0 < l.length := List.length_pos_iff.2 hem
  have hl2 : decide ((0 : Int) < (l.length : Int)) = true := decide_eq_true (by omega)
  go_enter Try.func16, Try.ntmps16
  go_wp2
  go_ret
  exact ⟨rfl, H.out.drop⟩

set_option maxHeartbeats 2000000 in
set_option maxRecDepth 100000 in
theorem rchk_0e0 (p e t s u st : Int) (q : Option Addr) (cap : Nat) (h0 : 0 ≤ p) (h1 : 0 ≤ e) (h2 : e ≤ 32767) (h3 : 0 ≤ t) (h4 : t ≤ 2147483647) (h5 : 0 ≤ u) (h6 : -1 ≤ st) (hs : s = 0) (hb : ¬ st = -1) (hf : FewT []) {W0 w : World} {K : Know} {L : List Res} (hk : K.has (Know.tops (.slice q 0 cap) [])) (h : St W0 w K L) :
    Calls Try.prog 16 #[.agg #[.int .i64 p, .int .i64 e, .int .i64 t, .int .i64 s, .slice q 0 cap, .int .i64 u, .int .i64 st]] w fun en w' => en = .returned (.int .i64 10) ∧ St W0 w' K L := by
  have HK := Lib.hid hk
  have HF := Lib.hid hf
  obtain ⟨vb, hvb⟩ : ∃ b, w.heap.size = b := ⟨_, rfl⟩
  have h1 := h.allocRaw #[.int .i64 p, .int .i64 e, .int .i64 t, .int .i64 s, .slice q 0 cap, .int .i64 u, .int .i64 st] 24
  rw [hvb] at h1
  have c0 := (h1).rawCell 0
  have c1 := (h1).rawCell 1
  have c2 := (h1).rawCell 2
  have c3 := (h1).rawCell 3
  have c4 := (h1).rawCell 4
  have c5 := (h1).rawCell 5
  have c6 := (h1).rawCell 6
  simp at c0 c1 c2 c3 c4 c5 c6
  have H := Lib.hid h1
  clear h h1 hk hf
  have k0 : ¬ p < 0 := by omega
  have k1 : ¬ e < 0 := by omega
  have k2 : ¬ 32767 < e := by omega
  have k3 : ¬ t < 0 := by omega
  have k4 : ¬ 2147483647 < t := by omega
  have k5 : ¬ u < 0 := by omega
  have k6 : ¬ st < -1 := by omega
  subst hs
  have sb : (st == -1) = false := by rw [beq_eq_false_iff_ne]; exact hb
  have sb2 : (st != -1) = true := by simp [bne, sb]
  go_enter Try.func16, Try.ntmps16
  go_wp2
  go_ret
  exact ⟨rfl, H.out.drop⟩

set_option maxHeartbeats 2000000 in
set_option maxRecDepth 100000 in
theorem rchk_0e1 (p e t s u st : Int) (q : Option Addr) (cap : Nat) (h0 : 0 ≤ p) (h1 : 0 ≤ e) (h2 : e ≤ 32767) (h3 : 0 ≤ t) (h4 : t ≤ 2147483647) (h5 : 0 ≤ u) (h6 : -1 ≤ st) (hs : s = 0) (hb : st = -1) (htr : tRise (([] : List (TopS × Value)).map (·.1)) = true) (hf : FewT []) {W0 w : World} {K : Know} {L : List Res} (hk : K.has (Know.tops (.slice q 0 cap) [])) (h : St W0 w K L) :
    Calls Try.prog 16 #[.agg #[.int .i64 p, .int .i64 e, .int .i64 t, .int .i64 s, .slice q 0 cap, .int .i64 u, .int .i64 st]] w fun en w' => en = .returned (.int .i64 0) ∧ St W0 w' K L := by
  have HK := Lib.hid hk
  have HF := Lib.hid hf
  obtain ⟨vb, hvb⟩ : ∃ b, w.heap.size = b := ⟨_, rfl⟩
  have h1 := h.allocRaw #[.int .i64 p, .int .i64 e, .int .i64 t, .int .i64 s, .slice q 0 cap, .int .i64 u, .int .i64 st] 24
  rw [hvb] at h1
  have c0 := (h1).rawCell 0
  have c1 := (h1).rawCell 1
  have c2 := (h1).rawCell 2
  have c3 := (h1).rawCell 3
  have c4 := (h1).rawCell 4
  have c5 := (h1).rawCell 5
  have c6 := (h1).rawCell 6
  simp at c0 c1 c2 c3 c4 c5 c6
  have H := Lib.hid h1
  clear h h1 hk hf
  have k0 : ¬ p < 0 := by omega
  have k1 : ¬ e < 0 := by omega
  have k2 : ¬ 32767 < e := by omega
  have k3 : ¬ t < 0 := by omega
  have k4 : ¬ 2147483647 < t := by omega
  have k5 : ¬ u < 0 := by omega
  have k6 : ¬ st < -1 := by omega
  have HTR := Lib.hid htr
  clear htr
  subst hs
  subst hb
  go_enter Try.func16, Try.ntmps16
  go_wp2_with (go_at_call 45; (with_reducible refine (ref14_rise0 _ _ true HTR.out HF.out HK.out H.out).mono ?_); rintro e_ wn ⟨rfl, h⟩; replace H := Lib.hid h; clear h)
  go_ret
  exact ⟨rfl, H.out.drop⟩

set_option maxHeartbeats 2000000 in
set_option maxRecDepth 100000 in
theorem rchk_me (p e t s u st : Int) (q : Option Addr) (cap : Nat) (h0 : 0 ≤ p) (h1 : 0 ≤ e) (h2 : e ≤ 32767) (h3 : 0 ≤ t) (h4 : t ≤ 2147483647) (h5 : 0 ≤ u) (h6 : -1 ≤ st) (hs : 1 ≤ s) (hs2 : s ≤ 3) (hf : FewT []) {W0 w : World} {K : Know} {L : List Res} (hk : K.has (Know.tops (.slice q 0 cap) [])) (h : St W0 w K L) :
    Calls Try.prog 16 #[.agg #[.int .i64 p, .int .i64 e, .int .i64 t, .int .i64 s, .slice q 0 cap, .int .i64 u, .int .i64 st]] w fun en w' => en = .returned (.int .i64 10) ∧ St W0 w' K L := by
  have HK := Lib.hid hk
  have HF := Lib.hid hf
  obtain ⟨vb, hvb⟩ : ∃ b, w.heap.size = b := ⟨_, rfl⟩
  have h1 := h.allocRaw #[.int .i64 p, .int .i64 e, .int .i64 t, .int .i64 s, .slice q 0 cap, .int .i64 u, .int .i64 st] 24
  rw [hvb] at h1
  have c0 := (h1).rawCell 0
  have c1 := (h1).rawCell 1
  have c2 := (h1).rawCell 2
  have c3 := (h1).rawCell 3
  have c4 := (h1).rawCell 4
  have c5 := (h1).rawCell 5
  have c6 := (h1).rawCell 6
  simp at c0 c1 c2 c3 c4 c5 c6
  have H := Lib.hid h1
  clear h h1 hk hf
  have k0 : ¬ p < 0 := by omega
  have k1 : ¬ e < 0 := by omega
  have k2 : ¬ 32767 < e := by omega
  have k3 : ¬ t < 0 := by omega
  have k4 : ¬ 2147483647 < t := by omega
  have k5 : ¬ u < 0 := by omega
  have k6 : ¬ st < -1 := by omega
  have s1 : ¬ s < 0 := by omega
  have s2 : ¬ 6 < s := by omega
  have s3 : 1 ≤ s := by omega
  have s4 : 0 < s := by omega
  have s5 : (s == 0) = false := by rw [beq_eq_false_iff_ne]; omega
  have s6 : s ≤ 3 := by omega
  go_enter Try.func16, Try.ntmps16
  go_wp2
  go_ret
  exact ⟨rfl, H.out.drop⟩

set_option maxHeartbeats 2000000 in
set_option maxRecDepth 100000 in
theorem rchk_mf1 (p e t s u st : Int) (l : List (TopS × Value)) (q : Option Addr) (cap : Nat) (h0 : 0 ≤ p) (h1 : 0 ≤ e) (h2 : e ≤ 32767) (h3 : 0 ≤ t) (h4 : t ≤ 2147483647) (h5 : 0 ≤ u) (h6 : -1 ≤ st) (hs : 1 ≤ s) (hs2 : s ≤ 3) (hem : ¬ l = []) (hb : st = -1) (hf : FewT l) {W0 w : World} {K : Know} {L : List Res} (hk : K.has (Know.tops (.slice q l.length cap) l)) (h : St W0 w K L) :
    Calls Try.prog 16 #[.agg #[.int .i64 p, .int .i64 e, .int .i64 t, .int .i64 s, .slice q l.length cap, .int .i64 u, .int .i64 st]] w fun en w' => en = .returned (.int .i64 10) ∧ St W0 w' K L := by
  have HK := Lib.hid hk
  have HF := Lib.hid hf
  obtain ⟨vb, hvb⟩ : ∃ b, w.heap.size = b := ⟨_, rfl⟩
  have h1 := h.allocRaw #[.int .i64 p, .int .i64 e, .int .i64 t, .int .i64 s, .slice q l.length cap, .int .i64 u, .int .i64 st] 24
  rw [hvb] at h1
  have c0 := (h1).rawCell 0
  have c1 := (h1).rawCell 1
  have c2 := (h1).rawCell 2
  have c3 := (h1).rawCell 3
  have c4 := (h1).rawCell 4
  have c5 := (h1).rawCell 5
  have c6 := (h1).rawCell 6
  simp at c0 c1 c2 c3 c4 c5 c6
  have H := Lib.hid h1
  clear h h1 hk hf
  have k0 : ¬ p < 0 := by omega
  have k1 : ¬ e < 0 := by omega
  have k2 : ¬ 32767 < e := by omega
  have k3 : ¬ t < 0 := by omega
  have k4 : ¬ 2147483647 < t := by omega
  have k5 : ¬ u < 0 := by omega
  have k6 : ¬ st < -1 := by omega
  have s1 : ¬ s < 0 := by omega
  have s2 : ¬ 6 < s := by omega
  have s3 : 1 ≤ s := by omega
  have s4 : 0 < s := by omega
  have s5 : (s == 0) = false := by rw [beq_eq_false_iff_ne]; omega
  have s6 : s ≤ 3 := by omega
  have hl0 : ((l.length : Int) == 0) = false := by rw [beq_eq_false_iff_ne]; intro h; exact hem (List.length_eq_zero_iff.1 (by omega))
  have hl1 : 0 < l.length := List.length_pos_iff.2 hem
  have hl2 : decide ((0 : Int) < (l.length : Int)) = true := decide_eq_true (by omega)
  subst hb
  go_enter Try.func16, Try.ntmps16
  go_wp2
  go_ret
  exact ⟨rfl, H.out.drop⟩

set_option maxHeartbeats 2000000 in
set_option maxRecDepth 100000 in
theorem rchk_mft (p e t s u st : Int) (l : List (TopS × Value)) (q : Option Addr) (cap : Nat) (h0 : 0 ≤ p) (h1 : 0 ≤ e) (h2 : e ≤ 32767) (h3 : 0 ≤ t) (h4 : t ≤ 2147483647) (h5 : 0 ≤ u) (h6 : -1 ≤ st) (hs : 1 ≤ s) (hs2 : s ≤ 3) (hem : ¬ l = []) (hb : ¬ st = -1) (htr : tRise (l.map (·.1)) = true) (hf : FewT l) {W0 w : World} {K : Know} {L : List Res} (hk : K.has (Know.tops (.slice q l.length cap) l)) (h : St W0 w K L) :
    Calls Try.prog 16 #[.agg #[.int .i64 p, .int .i64 e, .int .i64 t, .int .i64 s, .slice q l.length cap, .int .i64 u, .int .i64 st]] w fun en w' => en = .returned (.int .i64 0) ∧ St W0 w' K L := by
  have HK := Lib.hid hk
  have HF := Lib.hid hf
  obtain ⟨vb, hvb⟩ : ∃ b, w.heap.size = b := ⟨_, rfl⟩
  have h1 := h.allocRaw #[.int .i64 p, .int .i64 e, .int .i64 t, .int .i64 s, .slice q l.length cap, .int .i64 u, .int .i64 st] 24
  rw [hvb] at h1
  have c0 := (h1).rawCell 0
  have c1 := (h1).rawCell 1
  have c2 := (h1).rawCell 2
  have c3 := (h1).rawCell 3
  have c4 := (h1).rawCell 4
  have c5 := (h1).rawCell 5
  have c6 := (h1).rawCell 6
  simp at c0 c1 c2 c3 c4 c5 c6
  have H := Lib.hid h1
  clear h h1 hk hf
  have k0 : ¬ p < 0 := by omega
  have k1 : ¬ e < 0 := by omega
  have k2 : ¬ 32767 < e := by omega
  have k3 : ¬ t < 0 := by omega
  have k4 : ¬ 2147483647 < t := by omega
  have k5 : ¬ u < 0 := by omega
  have k6 : ¬ st < -1 := by omega
  have HTR := Lib.hid htr
  clear htr
  have s1 : ¬ s < 0 := by omega
  have s2 : ¬ 6 < s := by omega
  have s3 : 1 ≤ s := by omega
  have s4 : 0 < s := by omega
  have s5 : (s == 0) = false := by rw [beq_eq_false_iff_ne]; omega
  have s6 : s ≤ 3 := by omega
  have hl0 : ((l.length : Int) == 0) = false := by rw [beq_eq_false_iff_ne]; intro h; exact hem (List.length_eq_zero_iff.1 (by omega))
  have hl1 : 0 < l.length := List.length_pos_iff.2 hem
  have hl2 : decide ((0 : Int) < (l.length : Int)) = true := decide_eq_true (by omega)
  have sb : (st == -1) = false := by rw [beq_eq_false_iff_ne]; exact hb
  have sb2 : (st != -1) = true := by simp [bne, sb]
  go_enter Try.func16, Try.ntmps16
  go_wp2_with (go_at_call 45; (with_reducible refine (ref14_rise l _ _ true HTR.out HF.out HK.out H.out).mono ?_); rintro e_ wn ⟨rfl, h⟩; replace H := Lib.hid h; clear h)
  go_ret
  exact ⟨rfl, H.out.drop⟩

set_option maxHeartbeats 2000000 in
set_option maxRecDepth 100000 in
theorem rchk_mfb (p e t s u st : Int) (l : List (TopS × Value)) (q : Option Addr) (cap : Nat) (h0 : 0 ≤ p) (h1 : 0 ≤ e) (h2 : e ≤ 32767) (h3 : 0 ≤ t) (h4 : t ≤ 2147483647) (h5 : 0 ≤ u) (h6 : -1 ≤ st) (hs : 1 ≤ s) (hs2 : s ≤ 3) (hem : ¬ l = []) (hb : ¬ st = -1) (htr : tRise (l.map (·.1)) = false) (hf : FewT l) {W0 w : World} {K : Know} {L : List Res} (hk : K.has (Know.tops (.slice q l.length cap) l)) (h : St W0 w K L) :
    Calls Try.prog 16 #[.agg #[.int .i64 p, .int .i64 e, .int .i64 t, .int .i64 s, .slice q l.length cap, .int .i64 u, .int .i64 st]] w fun en w' => en = .returned (.int .i64 13) ∧ St W0 w' K L := by
  have HK := Lib.hid hk
  have HF := Lib.hid hf
  obtain ⟨vb, hvb⟩ : ∃ b, w.heap.size = b := ⟨_, rfl⟩
  have h1 := h.allocRaw #[.int .i64 p, .int .i64 e, .int .i64 t, .int .i64 s, .slice q l.length cap, .int .i64 u, .int .i64 st] 24
  rw [hvb] at h1
  have c0 := (h1).rawCell 0
  have c1 := (h1).rawCell 1
  have c2 := (h1).rawCell 2
  have c3 := (h1).rawCell 3
  have c4 := (h1).rawCell 4
  have c5 := (h1).rawCell 5
  have c6 := (h1).rawCell 6
  simp at c0 c1 c2 c3 c4 c5 c6
  have H := Lib.hid h1
  clear h h1 hk hf
  have k0 : ¬ p < 0 := by omega
  have k1 : ¬ e < 0 := by omega
  have k2 : ¬ 32767 < e := by omega
  have k3 : ¬ t < 0 := by omega
  have k4 : ¬ 2147483647 < t := by omega
  have k5 : ¬ u < 0 := by omega
  have k6 : ¬ st < -1 := by omega
  have HTR := Lib.hid htr
  clear htr
  have s1 : ¬ s < 0 := by omega
  have s2 : ¬ 6 < s := by omega
  have s3 : 1 ≤ s := by omega
  have s4 : 0 < s := by omega
  have s5 : (s == 0) = false := by rw [beq_eq_false_iff_ne]; omega
  have s6 : s ≤ 3 := by omega
  have hl0 : ((l.length : Int) == 0) = false := by rw [beq_eq_false_iff_ne]; intro h; exact hem (List.length_eq_zero_iff.1 (by omega))
  have hl1 : 0 < l.length := List.length_pos_iff.2 hem
  have hl2 : decide ((0 : Int) < (l.length : Int)) = true := decide_eq_true (by omega)
  have sb : (st == -1) = false := by rw [beq_eq_false_iff_ne]; exact hb
  have sb2 : (st != -1) = true := by simp [bne, sb]
  go_enter Try.func16, Try.ntmps16
  go_wp2_with (go_at_call 45; (with_reducible refine (ref14_rise l _ _ false HTR.out HF.out HK.out H.out).mono ?_); rintro e_ wn ⟨rfl, h⟩; replace H := Lib.hid h; clear h)
  go_ret
  exact ⟨rfl, H.out.drop⟩

set_option maxHeartbeats 2000000 in
set_option maxRecDepth 100000 in
theorem rchk_hf (p e t s u st : Int) (l : List (TopS × Value)) (q : Option Addr) (cap : Nat) (h0 : 0 ≤ p) (h1 : 0 ≤ e) (h2 : e ≤ 32767) (h3 : 0 ≤ t) (h4 : t ≤ 2147483647) (h5 : 0 ≤ u) (h6 : -1 ≤ st) (hs : 4 ≤ s) (hs2 : s ≤ 6) (hem : ¬ l = []) (hf : FewT l) {W0 w : World} {K : Know} {L : List Res} (hk : K.has (Know.tops (.slice q l.length cap) l)) (h : St W0 w K L) :
    Calls Try.prog 16 #[.agg #[.int .i64 p, .int .i64 e, .int .i64 t, .int .i64 s, .slice q l.length cap, .int .i64 u, .int .i64 st]] w fun en w' => en = .returned (.int .i64 10) ∧ St W0 w' K L := by
  have HK := Lib.hid hk
  have HF := Lib.hid hf
  obtain ⟨vb, hvb⟩ : ∃ b, w.heap.size = b := ⟨_, rfl⟩
  have h1 := h.allocRaw #[.int .i64 p, .int .i64 e, .int .i64 t, .int .i64 s, .slice q l.length cap, .int .i64 u, .int .i64 st] 24
  rw [hvb] at h1
  have c0 := (h1).rawCell 0
  have c1 := (h1).rawCell 1
  have c2 := (h1).rawCell 2
  have c3 := (h1).rawCell 3
  have c4 := (h1).rawCell 4
  have c5 := (h1).rawCell 5
  have c6 := (h1).rawCell 6
  simp at c0 c1 c2 c3 c4 c5 c6
  have H := Lib.hid h1
  clear h h1 hk hf
  have k0 : ¬ p < 0 := by omega
  have k1 : ¬ e < 0 := by omega
  have k2 : ¬ 32767 < e := by omega
  have k3 : ¬ t < 0 := by omega
  have k4 : ¬ 2147483647 < t := by omega
  have k5 : ¬ u < 0 := by omega
  have k6 : ¬ st < -1 := by omega
  have s1 : ¬ s < 0 := by omega
  have s2 : ¬ 6 < s := by omega
  have s3 : 1 ≤ s := by omega
  have s4 : 0 < s := by omega
  have s5 : (s == 0) = false := by rw [beq_eq_false_iff_ne]; omega
  have s6 : ¬ s ≤ 3 := by omega
  have hl0 : ((l.length : Int) == 0) = false := by rw [beq_eq_false_iff_ne]; intro h; exact hem (List.length_eq_zero_iff.1 (by omega))
  have hl1 : 0 < l.length := List.length_pos_iff.2 hem
  have hl2 : decide ((0 : Int) < (l.length : Int)) = true := decide_eq_true (by omega)
  go_enter Try.func16, Try.ntmps16
  go_wp2
  go_ret
  exact ⟨rfl, H.out.drop⟩

set_option maxHeartbeats 2000000 in
set_option maxRecDepth 100000 in
theorem rchk_he1 (p e t s u st : Int) (q : Option Addr) (cap : Nat) (h0 : 0 ≤ p) (h1 : 0 ≤ e) (h2 : e ≤ 32767) (h3 : 0 ≤ t) (h4 : t ≤ 2147483647) (h5 : 0 ≤ u) (h6 : -1 ≤ st) (hs : 4 ≤ s) (hs2 : s ≤ 6) (hb : st = -1) (hf : FewT []) {W0 w : World} {K : Know} {L : List Res} (hk : K.has (Know.tops (.slice q 0 cap) [])) (h : St W0 w K L) :
    Calls Try.prog 16 #[.agg #[.int .i64 p, .int .i64 e, .int .i64 t, .int .i64 s, .slice q 0 cap, .int .i64 u, .int .i64 st]] w fun en w' => en = .returned (.int .i64 10) ∧ St W0 w' K L := by
  have HK := Lib.hid hk
  have HF := Lib.hid hf
  obtain ⟨vb, hvb⟩ : ∃ b, w.heap.size = b := ⟨_, rfl⟩
  have h1 := h.allocRaw #[.int .i64 p, .int .i64 e, .int .i64 t, .int .i64 s, .slice q 0 cap, .int .i64 u, .int .i64 st] 24
  rw [hvb] at h1
  have c0 := (h1).rawCell 0
  have c1 := (h1).rawCell 1
  have c2 := (h1).rawCell 2
  have c3 := (h1).rawCell 3
  have c4 := (h1).rawCell 4
  have c5 := (h1).rawCell 5
  have c6 := (h1).rawCell 6
  simp at c0 c1 c2 c3 c4 c5 c6
  have H := Lib.hid h1
  clear h h1 hk hf
  have k0 : ¬ p < 0 := by omega
  have k1 : ¬ e < 0 := by omega
  have k2 : ¬ 32767 < e := by omega
  have k3 : ¬ t < 0 := by omega
  have k4 : ¬ 2147483647 < t := by omega
  have k5 : ¬ u < 0 := by omega
  have k6 : ¬ st < -1 := by omega
  have s1 : ¬ s < 0 := by omega
  have s2 : ¬ 6 < s := by omega
  have s3 : 1 ≤ s := by omega
  have s4 : 0 < s := by omega
  have s5 : (s == 0) = false := by rw [beq_eq_false_iff_ne]; omega
  have s6 : ¬ s ≤ 3 := by omega
  subst hb
  go_enter Try.func16, Try.ntmps16
  go_wp2
  go_ret
  exact ⟨rfl, H.out.drop⟩

set_option maxHeartbeats 2000000 in
set_option maxRecDepth 100000 in
theorem rchk_he0 (p e t s u st : Int) (q : Option Addr) (cap : Nat) (h0 : 0 ≤ p) (h1 : 0 ≤ e) (h2 : e ≤ 32767) (h3 : 0 ≤ t) (h4 : t ≤ 2147483647) (h5 : 0 ≤ u) (h6 : -1 ≤ st) (hs : 4 ≤ s) (hs2 : s ≤ 6) (hb : ¬ st = -1) (htr : tRise (([] : List (TopS × Value)).map (·.1)) = true) (hf : FewT []) {W0 w : World} {K : Know} {L : List Res} (hk : K.has (Know.tops (.slice q 0 cap) [])) (h : St W0 w K L) :
    Calls Try.prog 16 #[.agg #[.int .i64 p, .int .i64 e, .int .i64 t, .int .i64 s, .slice q 0 cap, .int .i64 u, .int .i64 st]] w fun en w' => en = .returned (.int .i64 0) ∧ St W0 w' K L := by
  have HK := Lib.hid hk
  have HF := Lib.hid hf
  obtain ⟨vb, hvb⟩ : ∃ b, w.heap.size = b := ⟨_, rfl⟩
  have h1 := h.allocRaw #[.int .i64 p, .int .i64 e, .int .i64 t, .int .i64 s, .slice q 0 cap, .int .i64 u, .int .i64 st] 24
  rw [hvb] at h1
  have c0 := (h1).rawCell 0
  have c1 := (h1).rawCell 1
  have c2 := (h1).rawCell 2
  have c3 := (h1).rawCell 3
  have c4 := (h1).rawCell 4
  have c5 := (h1).rawCell 5
  have c6 := (h1).rawCell 6
  simp at c0 c1 c2 c3 c4 c5 c6
  have H := Lib.hid h1
  clear h h1 hk hf
  have k0 : ¬ p < 0 := by omega
  have k1 : ¬ e < 0 := by omega
  have k2 : ¬ 32767 < e := by omega
  have k3 : ¬ t < 0 := by omega
  have k4 : ¬ 2147483647 < t := by omega
  have k5 : ¬ u < 0 := by omega
  have k6 : ¬ st < -1 := by omega
  have HTR := Lib.hid htr
  clear htr
  have s1 : ¬ s < 0 := by omega
  have s2 : ¬ 6 < s := by omega
  have s3 : 1 ≤ s := by omega
  have s4 : 0 < s := by omega
  have s5 : (s == 0) = false := by rw [beq_eq_false_iff_ne]; omega
  have s6 : ¬ s ≤ 3 := by omega
  have sb : (st == -1) = false := by rw [beq_eq_false_iff_ne]; exact hb
  have sb2 : (st != -1) = true := by simp [bne, sb]
  go_enter Try.func16, Try.ntmps16
  go_wp2_with (go_at_call 45; (with_reducible refine (ref14_rise0 _ _ true HTR.out HF.out HK.out H.out).mono ?_); rintro e_ wn ⟨rfl, h⟩; replace H := Lib.hid h; clear h)
  go_ret
  exact ⟨rfl, H.out.drop⟩

end Go.Proofs.Ytombolmicfjjpaa

/- Values, checked by definition. -/
namespace Go.Proofs.Ytombolmicfjjpaa
open Go.RowKit

theorem idle_m (s : Int) (h1 : 1 ≤ s) (h2 : s ≤ 3) : idle s = false := by
  rcases (by omega : s = 1 ∨ s = 2 ∨ s = 3) with rfl | rfl | rfl <;> rfl
theorem idle_h (s : Int) (h1 : 4 ≤ s) : idle s = true := by
  unfold idle
  rw [beq_eq_false_iff_ne.2 (show s ≠ 1 by omega), beq_eq_false_iff_ne.2 (show s ≠ 2 by omega), beq_eq_false_iff_ne.2 (show s ≠ 3 by omega)]
  rfl
theorem ref14_check (v : ValS) (l : List (TopS × Value)) (q : Option Addr) (cap : Nat) (hl : l.map (·.1) = v.tops) (E : Int) (he : v.err = E) (hf : FewT l) {W0 w : World} {K : Know} {L : List Res} (hk : K.has (Know.tops (.slice q l.length cap) l)) (h : St W0 w K L) :
    Calls Try.prog 16 #[.agg #[.int .i64 v.prod, .int .i64 v.epoch, .int .i64 v.timeout, .int .i64 v.state, .slice q l.length cap, .int .i64 v.upd, .int .i64 v.started]] w fun en w' => en = .returned (.int .i64 E) ∧ St W0 w' K L := by
  obtain ⟨p, e, t, s, tops, u, st⟩ := v
  simp only at hl ⊢
  subst hl
  unfold ValS.err ValS.ranged at he
  simp only at he
  cases hrg : (decide (0 ≤ p) && (decide (0 ≤ e) && (decide (e ≤ 32767) && (decide (0 ≤ t) && (decide (t ≤ 2147483647) && (decide (0 ≤ u) && decide (-1 ≤ st))))))) with
  | false =>
    rw [if_pos hrg] at he
    subst he
    exact rchk_11 p e t s u st l q cap hrg hf hk h
  | true =>
    rw [if_neg (by rw [hrg]; decide)] at he
    simp only [Bool.and_eq_true, decide_eq_true_eq] at hrg
    obtain ⟨h0, h1, h2, h3, h4, h5, h6⟩ := hrg
    by_cases hs : s < 0 ∨ 7 ≤ s
    · rw [if_pos hs] at he
      subst he
      exact rchk_12 p e t s u st l q cap h0 h1 h2 h3 h4 h5 h6 hs hf hk h
    · rw [if_neg hs] at he
      have hemp : (l.map (·.1)).isEmpty = decide (l = []) := by cases l <;> simp
      rw [hemp] at he
      rcases (by omega : s = 0 ∨ (1 ≤ s ∧ s ≤ 3) ∨ (4 ≤ s ∧ s ≤ 6)) with hs0 | ⟨m1, m2⟩ | ⟨m1, m2⟩
      · have hi : idle s = true := by rw [hs0]; rfl
        by_cases hem : l = []
        · rw [decide_eq_true hem] at he
          by_cases hb : st = -1
          · rw [if_neg (by rw [hi, hs0, hb]; decide)] at he
            have htr : tRise (l.map (·.1)) = true := by rw [hem]; rfl
            rw [if_neg (by rw [htr]; decide)] at he
            subst he
            subst hem
            exact rchk_0e1 p e t s u st q cap h0 h1 h2 h3 h4 h5 h6 hs0 hb htr hf hk h
          · rw [if_pos (.inr (by rw [hs0, beq_eq_false_iff_ne.2 hb]; rfl))] at he
            subst he
            subst hem
            exact rchk_0e0 p e t s u st q cap h0 h1 h2 h3 h4 h5 h6 hs0 hb hf hk h
        · rw [decide_eq_false hem, if_pos (.inl (by rw [hi]; rfl))] at he
          subst he
          exact rchk_0f p e t s u st l q cap h0 h1 h2 h3 h4 h5 h6 hs0 hem hf hk h
      · have hi := idle_m s m1 m2
        have hz : ¬ s = 0 := by omega
        by_cases hem : l = []
        · rw [decide_eq_true hem, if_pos (.inl (by rw [hi]; rfl))] at he
          subst he
          subst hem
          exact rchk_me p e t s u st q cap h0 h1 h2 h3 h4 h5 h6 m1 m2 hf hk h
        · rw [decide_eq_false hem] at he
          by_cases hb : st = -1
          · rw [if_pos (.inr (by rw [hb, beq_eq_false_iff_ne.2 hz]; rfl))] at he
            subst he
            exact rchk_mf1 p e t s u st l q cap h0 h1 h2 h3 h4 h5 h6 m1 m2 hem hb hf hk h
          · rw [if_neg (by rw [hi, beq_eq_false_iff_ne.2 hz, beq_eq_false_iff_ne.2 hb]; decide)] at he
            cases htr : tRise (l.map (·.1)) with
            | true =>
              rw [if_neg (by rw [htr]; decide)] at he
              subst he
              exact rchk_mft p e t s u st l q cap h0 h1 h2 h3 h4 h5 h6 m1 m2 hem hb htr hf hk h
            | false =>
              rw [if_pos htr] at he
              subst he
              exact rchk_mfb p e t s u st l q cap h0 h1 h2 h3 h4 h5 h6 m1 m2 hem hb htr hf hk h
      · have hi := idle_h s m1
        have hz : ¬ s = 0 := by omega
        by_cases hem : l = []
        · rw [decide_eq_true hem] at he
          by_cases hb : st = -1
          · rw [if_pos (.inr (by rw [hb, beq_eq_false_iff_ne.2 hz]; rfl))] at he
            subst he
            subst hem
            exact rchk_he1 p e t s u st q cap h0 h1 h2 h3 h4 h5 h6 m1 m2 hb hf hk h
          · rw [if_neg (by rw [hi, beq_eq_false_iff_ne.2 hz, beq_eq_false_iff_ne.2 hb]; decide)] at he
            have htr : tRise (l.map (·.1)) = true := by rw [hem]; rfl
            rw [if_neg (by rw [htr]; decide)] at he
            subst he
            subst hem
            exact rchk_he0 p e t s u st q cap h0 h1 h2 h3 h4 h5 h6 m1 m2 hb htr hf hk h
        · rw [decide_eq_false hem, if_pos (.inl (by rw [hi]; rfl))] at he
          subst he
          exact rchk_hf p e t s u st l q cap h0 h1 h2 h3 h4 h5 h6 m1 m2 hem hf hk h

end Go.Proofs.Ytombolmicfjjpaa

/- Values, for the law. -/
namespace Go.Proofs.Ytombolmicfjjpaa
open Go.RowKit

theorem val_encode_okS (p e t s u st : Int) (l : List (TopS × Value)) (q : Option Addr) (cap : Nat) (tl : List TopS) (htl : l.map (·.1) = tl) (S : Bs) (hS : ValS.enc ⟨p, e, t, s, tl, u, st⟩ = S) (he : ValS.err ⟨p, e, t, s, tl, u, st⟩ = 0) (hR : ValS.R ⟨p, e, t, s, tl, u, st⟩) (hf : FewT l) {W0 w : World} {K : Know} {L : List Res} (hk : K.has (Know.tops (.slice q l.length cap) l)) (h : St W0 w K L) :
    Calls Try.prog 15 #[.agg #[.int .i64 p, .int .i64 e, .int .i64 t, .int .i64 s, .slice q l.length cap, .int .i64 u, .int .i64 st]] w fun en w' => en = .returned (.tuple #[.string (bb S), .int .i64 0]) ∧ St W0 w' K L := by
  subst hS; subst htl; exact val_encode_ok p e t s u st l q cap he hR hf hk h
theorem val_encode_badS (p e t s u st : Int) (l : List (TopS × Value)) (q : Option Addr) (cap : Nat) (tl : List TopS) (htl : l.map (·.1) = tl) (E : Int) (he : ValS.err ⟨p, e, t, s, tl, u, st⟩ = E) (h0 : E ≠ 0) (hf : FewT l) {W0 w : World} {K : Know} {L : List Res} (hk : K.has (Know.tops (.slice q l.length cap) l)) (h : St W0 w K L) :
    Calls Try.prog 15 #[.agg #[.int .i64 p, .int .i64 e, .int .i64 t, .int .i64 s, .slice q l.length cap, .int .i64 u, .int .i64 st]] w fun en w' => en = .returned (.tuple #[.string ⟨#[]⟩, .int .i64 E]) ∧ St W0 w' K L := by
  subst htl; exact val_encode_bad p e t s u st l q cap E he h0 hf hk h
theorem ref14_encodeS (p e t s u st : Int) (l : List (TopS × Value)) (q : Option Addr) (cap : Nat) (tl : List TopS) (htl : l.map (·.1) = tl) (S : Bs) (hS : ValS.enc ⟨p, e, t, s, tl, u, st⟩ = S) (he : ValS.err ⟨p, e, t, s, tl, u, st⟩ = 0) (hR : ValS.R ⟨p, e, t, s, tl, u, st⟩) (hf : FewT l) {W0 w : World} {K : Know} {L : List Res} (hk : K.has (Know.tops (.slice q l.length cap) l)) (h : St W0 w K L) :
    Calls Try.prog 19 #[.agg #[.int .i64 p, .int .i64 e, .int .i64 t, .int .i64 s, .slice q l.length cap, .int .i64 u, .int .i64 st]] w fun en w' => en = .returned (.string (bb S)) ∧ St W0 w' K L := by
  subst hS; subst htl; exact ref14_encode p e t s u st l q cap he hR hf hk h
theorem val_checkS (p e t s u st : Int) (l : List (TopS × Value)) (q : Option Addr) (cap : Nat) (tl : List TopS) (htl : l.map (·.1) = tl) (E : Int) (he : ValS.err ⟨p, e, t, s, tl, u, st⟩ = E) (hf : FewT l) {W0 w : World} {K : Know} {L : List Res} (hk : K.has (Know.tops (.slice q l.length cap) l)) (h : St W0 w K L) :
    Calls Try.prog 17 #[.agg #[.int .i64 p, .int .i64 e, .int .i64 t, .int .i64 s, .slice q l.length cap, .int .i64 u, .int .i64 st]] w fun en w' => en = .returned (.int .i64 E) ∧ St W0 w' K L := by
  subst htl; exact val_check ⟨p, e, t, s, l.map (·.1), u, st⟩ l q cap rfl E he hf hk h
theorem ref14_checkS (p e t s u st : Int) (l : List (TopS × Value)) (q : Option Addr) (cap : Nat) (tl : List TopS) (htl : l.map (·.1) = tl) (E : Int) (he : ValS.err ⟨p, e, t, s, tl, u, st⟩ = E) (hf : FewT l) {W0 w : World} {K : Know} {L : List Res} (hk : K.has (Know.tops (.slice q l.length cap) l)) (h : St W0 w K L) :
    Calls Try.prog 16 #[.agg #[.int .i64 p, .int .i64 e, .int .i64 t, .int .i64 s, .slice q l.length cap, .int .i64 u, .int .i64 st]] w fun en w' => en = .returned (.int .i64 E) ∧ St W0 w' K L := by
  subst htl; exact ref14_check ⟨p, e, t, s, l.map (·.1), u, st⟩ l q cap rfl E he hf hk h

end Go.Proofs.Ytombolmicfjjpaa

/- Whether two rows of numbers are one. -/
namespace Go.Proofs.Ytombolmicfjjpaa
open Go.RowKit

set_option maxHeartbeats 1000000 in
set_option maxRecDepth 100000 in
theorem ints_same01 (a b : List Int) (q1 q2 : Option Addr) (cap1 cap2 : Nat) (hl : a.length ≤ 9223372036854775807) (hl2 : b.length ≤ 9223372036854775807) (r : Bool) (hr : decide (a = b) = r) {W0 w : World} {K : Know} {L : List Res} (hka : K.has (Know.flat RI (.slice q1 a.length cap1) 1 a)) (hkb : K.has (Know.flat RI (.slice q2 b.length cap2) 1 b)) (h : St W0 w K L) :
    Calls Try.prog 82 #[.slice q1 a.length cap1, .slice q2 b.length cap2] w fun en w' => en = .returned (.bool r) ∧ St W0 w' K L := by
  have H := Lib.hid h
  have HA := Lib.hid hka
  have HB := Lib.hid hkb
  clear h hka hkb
  by_cases hlen : a.length = b.length
  · have HLEN := Lib.hid hlen
    have HR := Lib.hid hr
    rw [← hlen]
    clear hr hlen
    go_enter Try.func82, Try.ntmps82
    go_wp2
    go_loopw [5] (fun iv wr => ∃ k : Nat, k ≤ a.length ∧ iv = .int .i64 k ∧ Hid (a.take k = b.take k) ∧ St W0 wr K L) (fun iv _ => a.length - (intOf iv).toNat)
    case atStart => exact ⟨0, Nat.zero_le _, rfl, Lib.hid (by simp), H.out⟩
    case round =>
      obtain ⟨k, hk, rfl, HEQ, hst⟩ := hrel
      clear H
      have H := Lib.hid hst
      clear hst
      by_cases hlt : k < a.length
      · have hltb : k < b.length := by have := HLEN.out; omega
        obtain ⟨ba, oa, hqa⟩ := flat_at HA.out H.out (by omega)
        obtain ⟨bb', ob, hqb⟩ := flat_at HB.out H.out (by omega)
        subst hqa
        subst hqb
        have c0 := int_cell HA.out H.out k hlt
        have c1 := int_cell HB.out H.out k hltb
        have ea : a.take (k + 1) = a.take k ++ [a.getD k 0] := by rw [List.take_succ_eq_append_getElem hlt, List.getD_eq_getElem?_getD, List.getElem?_eq_getElem hlt]; rfl
        have eb : b.take (k + 1) = b.take k ++ [b.getD k 0] := by rw [List.take_succ_eq_append_getElem hltb, List.getD_eq_getElem?_getD, List.getElem?_eq_getElem hltb]; rfl
        have hne : a.getD k 0 ≠ b.getD k 0 → a ≠ b := by rintro h rfl; exact h rfl
        obtain ⟨x, hx⟩ : ∃ x, a.getD k 0 = x := ⟨_, rfl⟩
        obtain ⟨y, hy⟩ : ∃ y, b.getD k 0 = y := ⟨_, rfl⟩
        rw [hx] at c0 ea hne
        rw [hy] at c1 eb hne
        have EA := Lib.hid (And.intro ea (And.intro eb hne))
        clear ea eb hne hx hy hltb
        by_cases hxy : x = y
        · subst hxy
          go_wp2
          go_quiet (fail)
          go_wp2
          go_roundw
          case rel => exact ⟨k + 1, hlt, by go_num, Lib.hid (by rw [EA.out.1, EA.out.2.1, HEQ.out]), H.out.drewN _⟩
          case measure => first | (simp [intOf]; done) | (simp [intOf]; omega)
        · have HNE := Lib.hid (EA.out.2.2 hxy)
          go_wp2
          go_quiet (fail)
          go_wp2
          go_ret
          exact ⟨ret_bool (by rw [← HR.out]; exact (decide_eq_false HNE.out).symm), H.out.drewN _⟩
      · have hke : k = a.length := by omega
        subst hke
        go_wp2
        go_ret
        refine ⟨ret_bool ?_, H.out⟩
        have h := HEQ.out
        rw [List.take_of_length_le (by omega), List.take_of_length_le (by have := HLEN.out; omega)] at h
        rw [← HR.out]
        exact (decide_eq_true h).symm
  · have HR := Lib.hid hr
    have hne : ¬ ((a.length : Int) = (b.length : Int)) := by omega
    have HLEN := Lib.hid hlen
    clear hr hlen
    go_enter Try.func82, Try.ntmps82
    go_wp2
    go_ret
    exact ⟨ret_bool (by rw [← HR.out]; exact (decide_eq_false (by rintro rfl; exact HLEN.out rfl)).symm), H.out⟩

set_option maxHeartbeats 1000000 in
set_option maxRecDepth 100000 in
theorem ints_equal (a b : List Int) (q1 q2 : Option Addr) (cap1 cap2 : Nat) (hl : a.length ≤ 9223372036854775807) (hl2 : b.length ≤ 9223372036854775807) (r : Bool) (hr : decide (a = b) = r) {W0 w : World} {K : Know} {L : List Res} (hka : K.has (Know.flat RI (.slice q1 a.length cap1) 1 a)) (hkb : K.has (Know.flat RI (.slice q2 b.length cap2) 1 b)) (h : St W0 w K L) :
    Calls Try.prog 85 #[.slice q1 a.length cap1, .slice q2 b.length cap2] w fun en w' => en = .returned (.bool r) ∧ St W0 w' K L := by
  have H := Lib.hid h
  have HA := Lib.hid hka
  have HB := Lib.hid hkb
  clear h hka hkb
  by_cases hlen : a.length = b.length
  · have HLEN := Lib.hid hlen
    have HR := Lib.hid hr
    rw [← hlen]
    clear hr hlen
    go_enter Try.func85, Try.ntmps85
    go_wp2
    go_loopw [13] (fun iv wr => ∃ k : Nat, k ≤ a.length ∧ iv = .int .i64 k ∧ Hid (a.take k = b.take k) ∧ St W0 wr K L) (fun iv _ => a.length - (intOf iv).toNat)
    case atStart => exact ⟨0, Nat.zero_le _, rfl, Lib.hid (by simp), H.out⟩
    case round =>
      obtain ⟨k, hk, rfl, HEQ, hst⟩ := hrel
      clear H
      have H := Lib.hid hst
      clear hst
      by_cases hlt : k < a.length
      · have hltb : k < b.length := by have := HLEN.out; omega
        obtain ⟨ba, oa, hqa⟩ := flat_at HA.out H.out (by omega)
        obtain ⟨bb', ob, hqb⟩ := flat_at HB.out H.out (by omega)
        subst hqa
        subst hqb
        have c0 := int_cell HA.out H.out k hlt
        have c1 := int_cell HB.out H.out k hltb
        have ea : a.take (k + 1) = a.take k ++ [a.getD k 0] := by rw [List.take_succ_eq_append_getElem hlt, List.getD_eq_getElem?_getD, List.getElem?_eq_getElem hlt]; rfl
        have eb : b.take (k + 1) = b.take k ++ [b.getD k 0] := by rw [List.take_succ_eq_append_getElem hltb, List.getD_eq_getElem?_getD, List.getElem?_eq_getElem hltb]; rfl
        have hne : a.getD k 0 ≠ b.getD k 0 → a ≠ b := by rintro h rfl; exact h rfl
        obtain ⟨x, hx⟩ : ∃ x, a.getD k 0 = x := ⟨_, rfl⟩
        obtain ⟨y, hy⟩ : ∃ y, b.getD k 0 = y := ⟨_, rfl⟩
        rw [hx] at c0 ea hne
        rw [hy] at c1 eb hne
        have EA := Lib.hid (And.intro ea (And.intro eb hne))
        clear ea eb hne hx hy hltb
        by_cases hxy : x = y
        · subst hxy
          go_wp2
          go_quiet (fail)
          go_wp2
          go_roundw
          case rel => exact ⟨k + 1, hlt, by go_num, Lib.hid (by rw [EA.out.1, EA.out.2.1, HEQ.out]), H.out.drewN _⟩
          case measure => first | (simp [intOf]; done) | (simp [intOf]; omega)
        · have HNE := Lib.hid (EA.out.2.2 hxy)
          go_wp2
          go_quiet (fail)
          go_wp2
          go_ret
          exact ⟨ret_bool (by rw [← HR.out]; exact (decide_eq_false HNE.out).symm), H.out.drewN _⟩
      · have hke : k = a.length := by omega
        subst hke
        go_wp2
        go_ret
        refine ⟨ret_bool ?_, H.out⟩
        have h := HEQ.out
        rw [List.take_of_length_le (by omega), List.take_of_length_le (by have := HLEN.out; omega)] at h
        rw [← HR.out]
        exact (decide_eq_true h).symm
  · have HR := Lib.hid hr
    have hne : ¬ ((a.length : Int) = (b.length : Int)) := by omega
    have HLEN := Lib.hid hlen
    clear hr hlen
    go_enter Try.func85, Try.ntmps85
    go_wp2
    go_ret
    exact ⟨ret_bool (by rw [← HR.out]; exact (decide_eq_false (by rintro rfl; exact HLEN.out rfl)).symm), H.out⟩

end Go.Proofs.Ytombolmicfjjpaa
