/- The values of a transaction that did not begin. -/
import Derived.Test.YtombolmicfjjpaaGValueEncodes4
import Derived.Test.YtombolmicfjjpaaGValueEncodes2
import Derived.Test.YtombolmicfjjpaaGValueEncodes1
import Derived.Test.YtombolmicfjjpaaBlob2
import Derived.Test.YtombolmicfjjpaaBlobP
import Derived.Test.YtombolmicfjjpaaBlob1
import Derived.Test.YtombolmicfjjpaaRec1
import Derived.Test.YtombolmicfjjpaaRecP
import Derived.Test.YtombolmicfjjpaaRecs
import Derived.Test.YtombolmicfjjpaaSep
import Derived.Deep.MidRow
import Derived.Deep.RegionHeld3
import Derived.Deep.DeepCutAuto
/- Values, encoded. -/
namespace Go.Proofs.Ytombolmicfjjpaa
open Go.RowKit

set_option maxHeartbeats 2000000 in
set_option maxRecDepth 100000 in
theorem val_encode_bad (p e t s u st : Int) (l : List (TopS × Value)) (q : Option Addr) (cap : Nat) (E : Int) (he : ValS.err ⟨p, e, t, s, l.map (·.1), u, st⟩ = E) (h0 : E ≠ 0) (hf : FewT l) {W0 w : World} {K : Know} {L : List Res} (hk : K.has (Know.tops (.slice q l.length cap) l)) (h : St W0 w K L) :
    Calls Try.prog 15 #[.agg #[.int .i64 p, .int .i64 e, .int .i64 t, .int .i64 s, .slice q l.length cap, .int .i64 u, .int .i64 st]] w fun en w' => en = .returned (.tuple #[.string ⟨#[]⟩, .int .i64 E]) ∧ St W0 w' K L := by
  have HK := Lib.hid hk
  have HF := Lib.hid hf
  obtain ⟨vb, hvb⟩ : ∃ b, w.heap.size = b := ⟨_, rfl⟩
  have h1 := h.allocRaw #[.int .i64 p, .int .i64 e, .int .i64 t, .int .i64 s, .slice q l.length cap, .int .i64 u, .int .i64 st] 24
  rw [hvb] at h1
  have c0 := (h1).rawCell 0
  have c1 := (h1).rawCell 1
  have c2 := (h1).rawCell 2
  have c3 := (h1).rawCell 3
  have c4 := (h1).rawCell 4
  have c5 := (h1).rawCell 5
  have c6 := (h1).rawCell 6
  simp at c0 c1 c2 c3 c4 c5 c6
  have H := Lib.hid h1
  have HE := Lib.hid he
  have gz : (E == 0) = false := by rw [beq_eq_false_iff_ne]; exact h0
  have gz3 : (E != 0) = true := by simp [bne, gz]
  clear h h1 hk hf he h0
  go_enter Try.func15, Try.ntmps15
  go_wp2_with (go_at_call 17; (with_reducible refine (val_checkV p e t s u st l _ _ E HE.out HF.out HK.out H.out).mono ?_); rintro e_ wn ⟨rfl, h⟩; have c0 := (h).rawCell 0; have c1 := (h).rawCell 1; have c2 := (h).rawCell 2; have c3 := (h).rawCell 3; have c4 := (h).rawCell 4; have c5 := (h).rawCell 5; have c6 := (h).rawCell 6; simp at c0 c1 c2 c3 c4 c5 c6; replace H := Lib.hid h; clear h)
  go_ret2
  exact ⟨rfl, H.out.drop⟩

set_option maxHeartbeats 2000000 in
set_option maxRecDepth 100000 in
theorem val_encode_ok (p e t s u st : Int) (l : List (TopS × Value)) (q : Option Addr) (cap : Nat) (he : ValS.err ⟨p, e, t, s, l.map (·.1), u, st⟩ = 0) (hR : ValS.R ⟨p, e, t, s, l.map (·.1), u, st⟩) (hf : FewT l) {W0 w : World} {K : Know} {L : List Res} (hk : K.has (Know.tops (.slice q l.length cap) l)) (h : St W0 w K L) :
    Calls Try.prog 15 #[.agg #[.int .i64 p, .int .i64 e, .int .i64 t, .int .i64 s, .slice q l.length cap, .int .i64 u, .int .i64 st]] w fun en w' => en = .returned (.tuple #[.string (bb (ValS.enc ⟨p, e, t, s, l.map (·.1), u, st⟩)), .int .i64 0]) ∧ St W0 w' K L := by
  have HK := Lib.hid hk
  have HF := Lib.hid hf
  obtain ⟨vb, hvb⟩ : ∃ b, w.heap.size = b := ⟨_, rfl⟩
  have h1 := h.allocRaw #[.int .i64 p, .int .i64 e, .int .i64 t, .int .i64 s, .slice q l.length cap, .int .i64 u, .int .i64 st] 24
  rw [hvb] at h1
  have c0 := (h1).rawCell 0
  have c1 := (h1).rawCell 1
  have c2 := (h1).rawCell 2
  have c3 := (h1).rawCell 3
  have c4 := (h1).rawCell 4
  have c5 := (h1).rawCell 5
  have c6 := (h1).rawCell 6
  simp at c0 c1 c2 c3 c4 c5 c6
  have H := Lib.hid h1
  have HE := Lib.hid he
  have hp := ValS.ok_parts _ he
  have hrg := ranged_parts _ hp.1
  have hft := fit_of_rise l hf hp.2.2.2.2
  have hst := hp.2.1
  obtain ⟨r1, r2, r3, r4, r5, r6⟩ := hR
  simp only at hrg hst r1 r2 r3 r4 r5 r6
  have HFT := Lib.hid hft
  obtain ⟨y0, hy0⟩ : ∃ y : Bs, [] = y := ⟨_, rfl⟩
  obtain ⟨y1, hy1⟩ : ∃ y, y0 ++ beBytes 0 2 = y := ⟨_, rfl⟩
  obtain ⟨y2, hy2⟩ : ∃ y, y1 ++ beBytes p 8 = y := ⟨_, rfl⟩
  obtain ⟨y3, hy3⟩ : ∃ y, y2 ++ beBytes e 2 = y := ⟨_, rfl⟩
  obtain ⟨y4, hy4⟩ : ∃ y, y3 ++ beBytes t 4 = y := ⟨_, rfl⟩
  obtain ⟨y5, hy5⟩ : ∃ y, y4 ++ beBytes s 1 = y := ⟨_, rfl⟩
  obtain ⟨y6, hy6⟩ : ∃ y, y5 ++ encTs (l.map (·.1)) = y := ⟨_, rfl⟩
  obtain ⟨y7, hy7⟩ : ∃ y, y6 ++ beBytes u 8 = y := ⟨_, rfl⟩
  obtain ⟨y8, hy8⟩ : ∃ y, y7 ++ beBytes st 8 = y := ⟨_, rfl⟩
  have hye : y8 = ValS.enc ⟨p, e, t, s, l.map (·.1), u, st⟩ := by rw [← hy8, ← hy7, ← hy6, ← hy5, ← hy4, ← hy3, ← hy2, ← hy1, ← hy0]; rfl
  have hl1 := congrArg List.length hy1
  have hl2 := congrArg List.length hy2
  have hl3 := congrArg List.length hy3
  have hl4 := congrArg List.length hy4
  have hl5 := congrArg List.length hy5
  have hl6 := congrArg List.length hy6
  have hl7 := congrArg List.length hy7
  have hl8 := congrArg List.length hy8
  have hl0 := congrArg List.length hy0
  simp only [List.length_append, beBytes_length, List.length_nil] at hl0 hl1 hl2 hl3 hl4 hl5 hl6 hl7 hl8
  have hTl : (encTs (l.map (·.1))).length ≤ 5000000000000 := by rw [← preT_all]; have h1 := preT_le _ hft _ (Nat.le_refl _); have h2 := hft.1; omega
  have Y1 := Lib.hid (show y0 ++ beBytes 0 (2 : Int).toNat = y1 from hy1)
  have G1 := Lib.hid (vfits2 0 (by omega))
  have Q1 := Lib.hid (show y0.length ≤ 100000000000000 by omega)
  have Y2 := Lib.hid (show y1 ++ beBytes p (8 : Int).toNat = y2 from hy2)
  have G2 := Lib.hid (vfits8 p (by omega))
  have Q2 := Lib.hid (show y1.length ≤ 100000000000000 by omega)
  have Y3 := Lib.hid (show y2 ++ beBytes e (2 : Int).toNat = y3 from hy3)
  have G3 := Lib.hid (vfits2 e (by omega))
  have Q3 := Lib.hid (show y2.length ≤ 100000000000000 by omega)
  have Y4 := Lib.hid (show y3 ++ beBytes t (4 : Int).toNat = y4 from hy4)
  have G4 := Lib.hid (vfits4 t (by omega))
  have Q4 := Lib.hid (show y3.length ≤ 100000000000000 by omega)
  have Y5 := Lib.hid (show y4 ++ beBytes s (1 : Int).toNat = y5 from hy5)
  have G5 := Lib.hid (vfits1 s (by omega))
  have Q5 := Lib.hid (show y4.length ≤ 100000000000000 by omega)
  have Y6 := Lib.hid hy6
  have Q6 := Lib.hid (show y5.length ≤ 1000000 by omega)
  have Y7 := Lib.hid (show y6 ++ beBytes u (8 : Int).toNat = y7 from hy7)
  have G7 := Lib.hid (vfits8 u (by omega))
  have Q7 := Lib.hid (show y6.length ≤ 100000000000000 by omega)
  have Y8 := Lib.hid (show y7 ++ beBytes st (8 : Int).toNat = y8 from hy8)
  have G8 := Lib.hid (vfits8 st (by omega))
  have Q8 := Lib.hid (show y7.length ≤ 100000000000000 by omega)
  rw [← hye]
  clear h h1 hk hf he hp hrg hft hst r1 r2 r3 r4 r5 r6 hTl hye hy1 hy2 hy3 hy4 hy5 hy6 hy7 hy8 hl0 hl1 hl2 hl3 hl4 hl5 hl6 hl7 hl8
  go_enter Try.func15, Try.ntmps15
  go_wp2_with (first
    | (go_at_call 17; (with_reducible refine (val_checkV p e t s u st l _ _ 0 HE.out HF.out HK.out H.out).mono ?_); rintro e_ wn ⟨rfl, h⟩; obtain ⟨po, hpo⟩ : ∃ b, wn.heap.size = b := ⟨_, rfl⟩; have h := h.allocOut; rw [hpo, hy0] at h; have c0 := (h.p1).rawCell 0; have c1 := (h.p1).rawCell 1; have c2 := (h.p1).rawCell 2; have c3 := (h.p1).rawCell 3; have c4 := (h.p1).rawCell 4; have c5 := (h.p1).rawCell 5; have c6 := (h.p1).rawCell 6; simp at c0 c1 c2 c3 c4 c5 c6; replace H := Lib.hid h; clear h)
    | (go_at_call 69; (with_reducible refine (so_intV po y0 y1 0 2 Y1.out G1.out Q1.out H.out).mono ?_); rintro e_ wn ⟨rfl, h⟩; have c0 := (h.p1).rawCell 0; have c1 := (h.p1).rawCell 1; have c2 := (h.p1).rawCell 2; have c3 := (h.p1).rawCell 3; have c4 := (h.p1).rawCell 4; have c5 := (h.p1).rawCell 5; have c6 := (h.p1).rawCell 6; simp at c0 c1 c2 c3 c4 c5 c6; replace H := Lib.hid h; clear h)
    | (go_at_call 69; (with_reducible refine (so_intV po y1 y2 p 8 Y2.out G2.out Q2.out H.out).mono ?_); rintro e_ wn ⟨rfl, h⟩; have c0 := (h.p1).rawCell 0; have c1 := (h.p1).rawCell 1; have c2 := (h.p1).rawCell 2; have c3 := (h.p1).rawCell 3; have c4 := (h.p1).rawCell 4; have c5 := (h.p1).rawCell 5; have c6 := (h.p1).rawCell 6; simp at c0 c1 c2 c3 c4 c5 c6; replace H := Lib.hid h; clear h)
    | (go_at_call 69; (with_reducible refine (so_intV po y2 y3 e 2 Y3.out G3.out Q3.out H.out).mono ?_); rintro e_ wn ⟨rfl, h⟩; have c0 := (h.p1).rawCell 0; have c1 := (h.p1).rawCell 1; have c2 := (h.p1).rawCell 2; have c3 := (h.p1).rawCell 3; have c4 := (h.p1).rawCell 4; have c5 := (h.p1).rawCell 5; have c6 := (h.p1).rawCell 6; simp at c0 c1 c2 c3 c4 c5 c6; replace H := Lib.hid h; clear h)
    | (go_at_call 69; (with_reducible refine (so_intV po y3 y4 t 4 Y4.out G4.out Q4.out H.out).mono ?_); rintro e_ wn ⟨rfl, h⟩; have c0 := (h.p1).rawCell 0; have c1 := (h.p1).rawCell 1; have c2 := (h.p1).rawCell 2; have c3 := (h.p1).rawCell 3; have c4 := (h.p1).rawCell 4; have c5 := (h.p1).rawCell 5; have c6 := (h.p1).rawCell 6; simp at c0 c1 c2 c3 c4 c5 c6; replace H := Lib.hid h; clear h)
    | (go_at_call 69; (with_reducible refine (so_intV po y4 y5 s 1 Y5.out G5.out Q5.out H.out).mono ?_); rintro e_ wn ⟨rfl, h⟩; have c0 := (h.p1).rawCell 0; have c1 := (h.p1).rawCell 1; have c2 := (h.p1).rawCell 2; have c3 := (h.p1).rawCell 3; have c4 := (h.p1).rawCell 4; have c5 := (h.p1).rawCell 5; have c6 := (h.p1).rawCell 6; simp at c0 c1 c2 c3 c4 c5 c6; replace H := Lib.hid h; clear h)
    | (go_at_call 31; (with_reducible refine (val_putTopics po y5 y6 l _ _ Y6.out Q6.out HFT.out HK.out H.out).mono ?_); rintro e_ wn ⟨rfl, h⟩; have c0 := (h.p1).rawCell 0; have c1 := (h.p1).rawCell 1; have c2 := (h.p1).rawCell 2; have c3 := (h.p1).rawCell 3; have c4 := (h.p1).rawCell 4; have c5 := (h.p1).rawCell 5; have c6 := (h.p1).rawCell 6; simp at c0 c1 c2 c3 c4 c5 c6; replace H := Lib.hid h; clear h)
    | (go_at_call 69; (with_reducible refine (so_intV po y6 y7 u 8 Y7.out G7.out Q7.out H.out).mono ?_); rintro e_ wn ⟨rfl, h⟩; have c0 := (h.p1).rawCell 0; have c1 := (h.p1).rawCell 1; have c2 := (h.p1).rawCell 2; have c3 := (h.p1).rawCell 3; have c4 := (h.p1).rawCell 4; have c5 := (h.p1).rawCell 5; have c6 := (h.p1).rawCell 6; simp at c0 c1 c2 c3 c4 c5 c6; replace H := Lib.hid h; clear h)
    | (go_at_call 69; (with_reducible refine (so_intV po y7 y8 st 8 Y8.out G8.out Q8.out H.out).mono ?_); rintro e_ wn ⟨rfl, h⟩; have c0 := (h.p1).rawCell 0; have c1 := (h.p1).rawCell 1; have c2 := (h.p1).rawCell 2; have c3 := (h.p1).rawCell 3; have c4 := (h.p1).rawCell 4; have c5 := (h.p1).rawCell 5; have c6 := (h.p1).rawCell 6; simp at c0 c1 c2 c3 c4 c5 c6; replace H := Lib.hid h; clear h)
    | (go_at_call 32; (with_reducible refine (so_textV po y8 H.out).mono ?_); rintro e_ wn ⟨rfl, h⟩; replace H := Lib.hid h; clear h))
  go_ret2
  exact ⟨rfl, H.out.drop.drop⟩

end Go.Proofs.Ytombolmicfjjpaa

/- Values, checked by definition: the ways. -/
namespace Go.Proofs.Ytombolmicfjjpaa
open Go.RowKit

theorem ref14_rise0 (q : Option Addr) (cap : Nat) (r : Bool) (hr : tRise (([] : List (TopS × Value)).map (·.1)) = r) (hf : FewT []) {W0 w : World} {K : Know} {L : List Res} (hk : K.has (Know.tops (.slice q 0 cap) [])) (h : St W0 w K L) :
    Calls Try.prog 45 #[.slice q 0 cap] w fun en w' => en = .returned (.bool r) ∧ St W0 w' K L := ref14_rise [] q cap r hr hf hk h

set_option maxHeartbeats 2000000 in
set_option maxRecDepth 100000 in
theorem rchk_11 (p e t s u st : Int) (l : List (TopS × Value)) (q : Option Addr) (cap : Nat) (hrg : (decide (0 ≤ p) && (decide (0 ≤ e) && (decide (e ≤ 32767) && (decide (0 ≤ t) && (decide (t ≤ 2147483647) && (decide (0 ≤ u) && decide (-1 ≤ st))))))) = false) (hf : FewT l) {W0 w : World} {K : Know} {L : List Res} (hk : K.has (Know.tops (.slice q l.length cap) l)) (h : St W0 w K L) :
    Calls Try.prog 16 #[.agg #[.int .i64 p, .int .i64 e, .int .i64 t, .int .i64 s, .slice q l.length cap, .int .i64 u, .int .i64 st]] w fun en w' => en = .returned (.int .i64 11) ∧ St W0 w' K L := by
  have HK := Lib.hid hk
  have HF := Lib.hid hf
  obtain ⟨vb, hvb⟩ : ∃ b, w.heap.size = b := ⟨_, rfl⟩
  have h1 := h.allocRaw #[.int .i64 p, .int .i64 e, .int .i64 t, .int .i64 s, .slice q l.length cap, .int .i64 u, .int .i64 st] 24
  rw [hvb] at h1
  have c0 := (h1).rawCell 0
  have c1 := (h1).rawCell 1
  have c2 := (h1).rawCell 2
  have c3 := (h1).rawCell 3
  have c4 := (h1).rawCell 4
  have c5 := (h1).rawCell 5
  have c6 := (h1).rawCell 6
  simp at c0 c1 c2 c3 c4 c5 c6
  have H := Lib.hid h1
  clear h h1 hk hf
  by_cases h0 : 0 ≤ p
  · have k0 : ¬ p < 0 := by omega
    by_cases h1 : 0 ≤ e
    · have k1 : ¬ e < 0 := by omega
      by_cases h2 : e ≤ 32767
      · have k2 : ¬ 32767 < e := by omega
        by_cases h3 : 0 ≤ t
        · have k3 : ¬ t < 0 := by omega
          by_cases h4 : t ≤ 2147483647
          · have k4 : ¬ 2147483647 < t := by omega
            by_cases h5 : 0 ≤ u
            · have k5 : ¬ u < 0 := by omega
              by_cases h6 : -1 ≤ st
              · have k6 : ¬ st < -1 := by omega
                exact absurd hrg (by simp [h0, h1, h2, h3, h4, h5, h6])
              · as_aux_lemma =>
                have k6 : st < -1 := by omega
                clear hrg
                go_enter Try.func16, Try.ntmps16
                go_wp2
                go_ret
                exact ⟨rfl, H.out.drop⟩
            · as_aux_lemma =>
              have k5 : u < 0 := by omega
              clear hrg
              go_enter Try.func16, Try.ntmps16
              go_wp2
              go_ret
              exact ⟨rfl, H.out.drop⟩
          · as_aux_lemma =>
            have k4 : 2147483647 < t := by omega
            clear hrg
            go_enter Try.func16, Try.ntmps16
            go_wp2
            go_ret
            exact ⟨rfl, H.out.drop⟩
        · as_aux_lemma =>
          have k3 : t < 0 := by omega
          clear hrg
          go_enter Try.func16, Try.ntmps16
          go_wp2
          go_ret
          exact ⟨rfl, H.out.drop⟩
      · as_aux_lemma =>
        have k2 : 32767 < e := by omega
        clear hrg
        go_enter Try.func16, Try.ntmps16
        go_wp2
        go_ret
        exact ⟨rfl, H.out.drop⟩
    · as_aux_lemma =>
      have k1 : e < 0 := by omega
      clear hrg
      go_enter Try.func16, Try.ntmps16
      go_wp2
      go_ret
      exact ⟨rfl, H.out.drop⟩
  · as_aux_lemma =>
    have k0 : p < 0 := by omega
    clear hrg
    go_enter Try.func16, Try.ntmps16
    go_wp2
    go_ret
    exact ⟨rfl, H.out.drop⟩

set_option maxHeartbeats 2000000 in
set_option maxRecDepth 100000 in
theorem rchk_12 (p e t s u st : Int) (l : List (TopS × Value)) (q : Option Addr) (cap : Nat) (h0 : 0 ≤ p) (h1 : 0 ≤ e) (h2 : e ≤ 32767) (h3 : 0 ≤ t) (h4 : t ≤ 2147483647) (h5 : 0 ≤ u) (h6 : -1 ≤ st) (hs : s < 0 ∨ 7 ≤ s) (hf : FewT l) {W0 w : World} {K : Know} {L : List Res} (hk : K.has (Know.tops (.slice q l.length cap) l)) (h : St W0 w K L) :
    Calls Try.prog 16 #[.agg #[.int .i64 p, .int .i64 e, .int .i64 t, .int .i64 s, .slice q l.length cap, .int .i64 u, .int .i64 st]] w fun en w' => en = .returned (.int .i64 12) ∧ St W0 w' K L := by
  have HK := Lib.hid hk
  have HF := Lib.hid hf
  obtain ⟨vb, hvb⟩ : ∃ b, w.heap.size = b := ⟨_, rfl⟩
  have h1 := h.allocRaw #[.int .i64 p, .int .i64 e, .int .i64 t, .int .i64 s, .slice q l.length cap, .int .i64 u, .int .i64 st] 24
  rw [hvb] at h1
  have c0 := (h1).rawCell 0
  have c1 := (h1).rawCell 1
  have c2 := (h1).rawCell 2
  have c3 := (h1).rawCell 3
  have c4 := (h1).rawCell 4
  have c5 := (h1).rawCell 5
  have c6 := (h1).rawCell 6
  simp at c0 c1 c2 c3 c4 c5 c6
  have H := Lib.hid h1
  clear h h1 hk hf
  have k0 : ¬ p < 0 := by omega
  have k1 : ¬ e < 0 := by omega
  have k2 : ¬ 32767 < e := by omega
  have k3 : ¬ t < 0 := by omega
  have k4 : ¬ 2147483647 < t := by omega
  have k5 : ¬ u < 0 := by omega
  have k6 : ¬ st < -1 := by omega
  rcases hs with hs | hs
  · as_aux_lemma =>
    go_enter Try.func16, Try.ntmps16
    go_wp2
    go_ret
    exact ⟨rfl, H.out.drop⟩
  · as_aux_lemma =>
    have s1 : ¬ s < 0 := by omega
    have s2 : 6 < s := by omega
    go_enter Try.func16, Try.ntmps16
    go_wp2
    go_ret
    exact ⟨rfl, H.out.drop⟩

set_option maxHeartbeats 2000000 in
set_option maxRecDepth 100000 in
theorem rchk_0f (p e t s u st : Int) (l : List (TopS × Value)) (q : Option Addr) (cap : Nat) (h0 : 0 ≤ p) (h1 : 0 ≤ e) (h2 : e ≤ 32767) (h3 : 0 ≤ t) (h4 : t ≤ 2147483647) (h5 : 0 ≤ u) (h6 : -1 ≤ st) (hs : s = 0) (hem : ¬ l = []) (hf : FewT l) {W0 w : World} {K : Know} {L : List Res} (hk : K.has (Know.tops (.slice q l.length cap) l)) (h : St W0 w K L) :
    Calls Try.prog 16 #[.agg #[.int .i64 p, .int .i64 e, .int .i64 t, .int .i64 s, .slice q l.length cap, .int .i64 u, .int .i64 st]] w fun en w' => en = .returned (.int .i64 10) ∧ St W0 w' K L := by
  have HK := Lib.hid hk
  have HF := Lib.hid hf
  obtain ⟨vb, hvb⟩ : ∃ b, w.heap.size = b := ⟨_, rfl⟩
  have h1 := h.allocRaw #[.int .i64 p, .int .i64 e, .int .i64 t, .int .i64 s, .slice q l.length cap, .int .i64 u, .int .i64 st] 24
  rw [hvb] at h1
  have c0 := (h1).rawCell 0
  have c1 := (h1).rawCell 1
  have c2 := (h1).rawCell 2
  have c3 := (h1).rawCell 3
  have c4 := (h1).rawCell 4
  have c5 := (h1).rawCell 5
  have c6 := (h1).rawCell 6
  simp at c0 c1 c2 c3 c4 c5 c6
  have H := Lib.hid h1
  clear h h1 hk hf
  have k0 : ¬ p < 0 := by omega
  have k1 : ¬ e < 0 := by omega
  have k2 : ¬ 32767 < e := by omega
  have k3 : ¬ t < 0 := by omega
  have k4 : ¬ 2147483647 < t := by omega
  have k5 : ¬ u < 0 := by omega
  have k6 : ¬ st < -1 := by omega
  subst hs
  have hl0 : ((l.length : Int) == 0) = false := by rw [beq_eq_false_iff_ne]; intro h; exact hem (List.length_eq_zero_iff.1 (by omega))
  have hl1 : 0 < l.length := List.length_pos_iff.2 hem
  have hl2 : decide ((0 : Int) < (l.length : Int)) = true := decide_eq_true (by omega)
  go_enter Try.func16, Try.ntmps16
  go_wp2
  go_ret
  exact ⟨rfl, H.out.drop⟩

set_option maxHeartbeats 2000000 in
set_option maxRecDepth 100000 in
theorem rchk_0e0 (p e t s u st : Int) (q : Option Addr) (cap : Nat) (h0 : 0 ≤ p) (h1 : 0 ≤ e) (h2 : e ≤ 32767) (h3 : 0 ≤ t) (h4 : t ≤ 2147483647) (h5 : 0 ≤ u) (h6 : -1 ≤ st) (hs : s = 0) (hb : ¬ st = -1) (hf : FewT []) {W0 w : World} {K : Know} {L : List Res} (hk : K.has (Know.tops (.slice q 0 cap) [])) (h : St W0 w K L) :
    Calls Try.prog 16 #[.agg #[.int .i64 p, .int .i64 e, .int .i64 t, .int .i64 s, .slice q 0 cap, .int .i64 u, .int .i64 st]] w fun en w' => en = .returned (.int .i64 10) ∧ St W0 w' K L := by
  have HK := Lib.hid hk
  have HF := Lib.hid hf
  obtain ⟨vb, hvb⟩ : ∃ b, w.heap.size = b := ⟨_, rfl⟩
  have h1 := h.allocRaw #[.int .i64 p, .int .i64 e, .int .i64 t, .int .i64 s, .slice q 0 cap, .int .i64 u, .int .i64 st] 24
  rw [hvb] at h1
  have c0 := (h1).rawCell 0
  have c1 := (h1).rawCell 1
  have c2 := (h1).rawCell 2
  have c3 := (h1).rawCell 3
  have c4 := (h1).rawCell 4
  have c5 := (h1).rawCell 5
  have c6 := (h1).rawCell 6
  simp at c0 c1 c2 c3 c4 c5 c6
  have H := Lib.hid h1
  clear h h1 hk hf
  have k0 : ¬ p < 0 := by omega
  have k1 : ¬ e < 0 := by omega
  have k2 : ¬ 32767 < e := by omega
  have k3 : ¬ t < 0 := by omega
  have k4 : ¬ 2147483647 < t := by omega
  have k5 : ¬ u < 0 := by omega
  have k6 : ¬ st < -1 := by omega
  subst hs
  have sb : (st == -1) = false := by rw [beq_eq_false_iff_ne]; exact hb
  have sb2 : (st != -1) = true := by simp [bne, sb]
  go_enter Try.func16, Try.ntmps16
  go_wp2
  go_ret
  exact ⟨rfl, H.out.drop⟩

set_option maxHeartbeats 2000000 in
set_option maxRecDepth 100000 in
theorem rchk_0e1 (p e t s u st : Int) (q : Option Addr) (cap : Nat) (h0 : 0 ≤ p) (h1 : 0 ≤ e) (h2 : e ≤ 32767) (h3 : 0 ≤ t) (h4 : t ≤ 2147483647) (h5 : 0 ≤ u) (h6 : -1 ≤ st) (hs : s = 0) (hb : st = -1) (htr : tRise (([] : List (TopS × Value)).map (·.1)) = true) (hf : FewT []) {W0 w : World} {K : Know} {L : List Res} (hk : K.has (Know.tops (.slice q 0 cap) [])) (h : St W0 w K L) :
    Calls Try.prog 16 #[.agg #[.int .i64 p, .int .i64 e, .int .i64 t, .int .i64 s, .slice q 0 cap, .int .i64 u, .int .i64 st]] w fun en w' => en = .returned (.int .i64 0) ∧ St W0 w' K L := by
  have HK := Lib.hid hk
  have HF := Lib.hid hf
  obtain ⟨vb, hvb⟩ : ∃ b, w.heap.size = b := ⟨_, rfl⟩
  have h1 := h.allocRaw #[.int .i64 p, .int .i64 e, .int .i64 t, .int .i64 s, .slice q 0 cap, .int .i64 u, .int .i64 st] 24
  rw [hvb] at h1
  have c0 := (h1).rawCell 0
  have c1 := (h1).rawCell 1
  have c2 := (h1).rawCell 2
  have c3 := (h1).rawCell 3
  have c4 := (h1).rawCell 4
  have c5 := (h1).rawCell 5
  have c6 := (h1).rawCell 6
  simp at c0 c1 c2 c3 c4 c5 c6
  have H := Lib.hid h1
  clear h h1 hk hf
  have k0 : ¬ p < 0 := by omega
  have k1 : ¬ e < 0 := by omega
  have k2 : ¬ 32767 < e := by omega
  have k3 : ¬ t < 0 := by omega
  have k4 : ¬ 2147483647 < t := by omega
  have k5 : ¬ u < 0 := by omega
  have k6 : ¬ st < -1 := by omega
  have HTR := Lib.hid htr
  clear htr
  subst hs
  subst hb
  go_enter Try.func16, Try.ntmps16
  go_wp2_with (go_at_call 45; (with_reducible refine (ref14_rise0 _ _ true HTR.out HF.out HK.out H.out).mono ?_); rintro e_ wn ⟨rfl, h⟩; replace H := Lib.hid h; clear h)
  go_ret
  exact ⟨rfl, H.out.drop⟩

set_option maxHeartbeats 2000000 in
set_option maxRecDepth 100000 in
theorem rchk_me (p e t s u st : Int) (q : Option Addr) (cap : Nat) (h0 : 0 ≤ p) (h1 : 0 ≤ e) (h2 : e ≤ 32767) (h3 : 0 ≤ t) (h4 : t ≤ 2147483647) (h5 : 0 ≤ u) (h6 : -1 ≤ st) (hs : 1 ≤ s) (hs2 : s ≤ 3) (hf : FewT []) {W0 w : World} {K : Know} {L : List Res} (hk : K.has (Know.tops (.slice q 0 cap) [])) (h : St W0 w K L) :
    Calls Try.prog 16 #[.agg #[.int .i64 p, .int .i64 e, .int .i64 t, .int .i64 s, .slice q 0 cap, .int .i64 u, .int .i64 st]] w fun en w' => en = .returned (.int .i64 10) ∧ St W0 w' K L := by
  have HK := Lib.hid hk
  have HF := Lib.hid hf
  obtain ⟨vb, hvb⟩ : ∃ b, w.heap.size = b := ⟨_, rfl⟩
  have h1 := h.allocRaw #[.int .i64 p, .int .i64 e, .int .i64 t, .int .i64 s, .slice q 0 cap, .int .i64 u, .int .i64 st] 24
  rw [hvb] at h1
  have c0 := (h1).rawCell 0
  have c1 := (h1).rawCell 1
  have c2 := (h1).rawCell 2
  have c3 := (h1).rawCell 3
  have c4 := (h1).rawCell 4
  have c5 := (h1).rawCell 5
  have c6 := (h1).rawCell 6
  simp at c0 c1 c2 c3 c4 c5 c6
  have H := Lib.hid h1
  clear h h1 hk hf
  have k0 : ¬ p < 0 := by omega
  have k1 : ¬ e < 0 := by omega
  have k2 : ¬ 32767 < e := by omega
  have k3 : ¬ t < 0 := by omega
  have k4 : ¬ 2147483647 < t := by omega
  have k5 : ¬ u < 0 := by omega
  have k6 : ¬ st < -1 := by omega
  have s1 : ¬ s < 0 := by omega
  have s2 : ¬ 6 < s := by omega
  have s3 : 1 ≤ s := by omega
  have s4 : 0 < s := by omega
  have s5 : (s == 0) = false := by rw [beq_eq_false_iff_ne]; omega
  have s6 : s ≤ 3 := by omega
  go_enter Try.func16, Try.ntmps16
  go_wp2
  go_ret
  exact ⟨rfl, H.out.drop⟩

set_option maxHeartbeats 2000000 in
set_option maxRecDepth 100000 in
theorem rchk_mf1 (p e t s u st : Int) (l : List (TopS × Value)) (q : Option Addr) (cap : Nat) (h0 : 0 ≤ p) (h1 : 0 ≤ e) (h2 : e ≤ 32767) (h3 : 0 ≤ t) (h4 : t ≤ 2147483647) (h5 : 0 ≤ u) (h6 : -1 ≤ st) (hs : 1 ≤ s) (hs2 : s ≤ 3) (hem : ¬ l = []) (hb : st = -1) (hf : FewT l) {W0 w : World} {K : Know} {L : List Res} (hk : K.has (Know.tops (.slice q l.length cap) l)) (h : St W0 w K L) :
    Calls Try.prog 16 #[.agg #[.int .i64 p, .int .i64 e, .int .i64 t, .int .i64 s, .slice q l.length cap, .int .i64 u, .int .i64 st]] w fun en w' => en = .returned (.int .i64 10) ∧ St W0 w' K L := by
  have HK := Lib.hid hk
  have HF := Lib.hid hf
  obtain ⟨vb, hvb⟩ : ∃ b, w.heap.size = b := ⟨_, rfl⟩
  have h1 := h.allocRaw #[.int .i64 p, .int .i64 e, .int .i64 t, .int .i64 s, .slice q l.length cap, .int .i64 u, .int .i64 st] 24
  rw [hvb] at h1
  have c0 := (h1).rawCell 0
  have c1 := (h1).rawCell 1
  have c2 := (h1).rawCell 2
  have c3 := (h1).rawCell 3
  have c4 := (h1).rawCell 4
  have c5 := (h1).rawCell 5
  have c6 := (h1).rawCell 6
  simp at c0 c1 c2 c3 c4 c5 c6
  have H := Lib.hid h1
  clear h h1 hk hf
  have k0 : ¬ p < 0 := by omega
  have k1 : ¬ e < 0 := by omega
  have k2 : ¬ 32767 < e := by omega
  have k3 : ¬ t < 0 := by omega
  have k4 : ¬ 2147483647 < t := by omega
  have k5 : ¬ u < 0 := by omega
  have k6 : ¬ st < -1 := by omega
  have s1 : ¬ s < 0 := by omega
  have s2 : ¬ 6 < s := by omega
  have s3 : 1 ≤ s := by omega
  have s4 : 0 < s := by omega
  have s5 : (s == 0) = false := by rw [beq_eq_false_iff_ne]; omega
  have s6 : s ≤ 3 := by omega
  have hl0 : ((l.length : Int) == 0) = false := by rw [beq_eq_false_iff_ne]; intro h; exact hem (List.length_eq_zero_iff.1 (by omega))
  have hl1 : 0 < l.length := List.length_pos_iff.2 hem
  have hl2 : decide ((0 : Int) < (l.length : Int)) = true := decide_eq_true (by omega)
  subst hb
  go_enter Try.func16, Try.ntmps16
  go_wp2
  go_ret
  exact ⟨rfl, H.out.drop⟩

set_option maxHeartbeats 2000000 in
set_option maxRecDepth 100000 in
theorem rchk_mft (p e t s u st : Int) (l : List (TopS × Value)) (q : Option Addr) (cap : Nat) (h0 : 0 ≤ p) (h1 : 0 ≤ e) (h2 : e ≤ 32767) (h3 : 0 ≤ t) (h4 : t ≤ 2147483647) (h5 : 0 ≤ u) (h6 : -1 ≤ st) (hs : 1 ≤ s) (hs2 : s ≤ 3) (hem : ¬ l = []) (hb : ¬ st = -1) (htr : tRise (l.map (·.1)) = true) (hf : FewT l) {W0 w : World} {K : Know} {L : List Res} (hk : K.has (Know.tops (.slice q l.length cap) l)) (h : St W0 w K L) :
    Calls Try.prog 16 #[.agg #[.int .i64 p, .int .i64 e, .int .i64 t, .int .i64 s, .slice q l.length cap, .int .i64 u, .int .i64 st]] w fun en w' => en = .returned (.int .i64 0) ∧ St W0 w' K L := by
  have HK := Lib.hid hk
  have HF := Lib.hid hf
  obtain ⟨vb, hvb⟩ : ∃ b, w.heap.size = b := ⟨_, rfl⟩
  have h1 := h.allocRaw #[.int .i64 p, .int .i64 e, .int .i64 t, .int .i64 s, .slice q l.length cap, .int .i64 u, .int .i64 st] 24
  rw [hvb] at h1
  have c0 := (h1).rawCell 0
  have c1 := (h1).rawCell 1
  have c2 := (h1).rawCell 2
  have c3 := (h1).rawCell 3
  have c4 := (h1).rawCell 4
  have c5 := (h1).rawCell 5
  have c6 := (h1).rawCell 6
  simp at c0 c1 c2 c3 c4 c5 c6
  have H := Lib.hid h1
  clear h h1 hk hf
  have k0 : ¬ p < 0 := by omega
  have k1 : ¬ e < 0 := by omega
  have k2 : ¬ 32767 < e := by omega
  have k3 : ¬ t < 0 := by omega
  have k4 : ¬ 2147483647 < t := by omega
  have k5 : ¬ u < 0 := by omega
  have k6 : ¬ st < -1 := by omega
  have HTR := Lib.hid htr
  clear htr
  have s1 : ¬ s < 0 := by omega
  have s2 : ¬ 6 < s := by omega
  have s3 : 1 ≤ s := by omega
  have s4 : 0 < s := by omega
  have s5 : (s == 0) = false := by rw [beq_eq_false_iff_ne]; omega
  have s6 : s ≤ 3 := by omega
  have hl0 : ((l.length : Int) == 0) = false := by rw [beq_eq_false_iff_ne]; intro h; exact hem (List.length_eq_zero_iff.1 (by omega))
  have hl1 : 0 < l.length := List.length_pos_iff.2 hem
  have hl2 : decide ((0 : Int) < (l.length : Int)) = true := decide_eq_true (by omega)
  have sb : (st == -1) = false := by rw [beq_eq_false_iff_ne]; exact hb
  have sb2 : (st != -1) = true := by simp [bne, sb]
  go_enter Try.func16, Try.ntmps16
  go_wp2_with (go_at_call 45; (with_reducible refine (ref14_rise l _ _ true HTR.out HF.out HK.out H.out).mono ?_); rintro e_ wn ⟨rfl, h⟩; replace H := Lib.hid h; clear h)
  go_ret
  exact ⟨rfl, H.out.drop⟩

set_option maxHeartbeats 2000000 in
set_option maxRecDepth 100000 in
theorem rchk_mfb (p e t s u st : Int) (l : List (TopS × Value)) (q : Option Addr) (cap : Nat) (h0 : 0 ≤ p) (h1 : 0 ≤ e) (h2 : e ≤ 32767) (h3 : 0 ≤ t) (h4 : t ≤ 2147483647) (h5 : 0 ≤ u) (h6 : -1 ≤ st) (hs : 1 ≤ s) (hs2 : s ≤ 3) (hem : ¬ l = []) (hb : ¬ st = -1) (htr : tRise (l.map (·.1)) = false) (hf : FewT l) {W0 w : World} {K : Know} {L : List Res} (hk : K.has (Know.tops (.slice q l.length cap) l)) (h : St W0 w K L) :
    Calls Try.prog 16 #[.agg #[.int .i64 p, .int .i64 e, .int .i64 t, .int .i64 s, .slice q l.length cap, .int .i64 u, .int .i64 st]] w fun en w' => en = .returned (.int .i64 13) ∧ St W0 w' K L := by
  have HK := Lib.hid hk
  have HF := Lib.hid hf
  obtain ⟨vb, hvb⟩ : ∃ b, w.heap.size = b := ⟨_, rfl⟩
  have h1 := h.allocRaw #[.int .i64 p, .int .i64 e, .int .i64 t, .int .i64 s, .slice q l.length cap, .int .i64 u, .int .i64 st] 24
  rw [hvb] at h1
  have c0 := (h1).rawCell 0
  have c1 := (h1).rawCell 1
  have c2 := (h1).rawCell 2
  have c3 := (h1).rawCell 3
  have c4 := (h1).rawCell 4
  have c5 := (h1).rawCell 5
  have c6 := (h1).rawCell 6
  simp at c0 c1 c2 c3 c4 c5 c6
  have H := Lib.hid h1
  clear h h1 hk hf
  have k0 : ¬ p < 0 := by omega
  have k1 : ¬ e < 0 := by omega
  have k2 : ¬ 32767 < e := by omega
  have k3 : ¬ t < 0 := by omega
  have k4 : ¬ 2147483647 < t := by omega
  have k5 : ¬ u < 0 := by omega
  have k6 : ¬ st < -1 := by omega
  have HTR := Lib.hid htr
  clear htr
  have s1 : ¬ s < 0 := by omega
  have s2 : ¬ 6 < s := by omega
  have s3 : 1 ≤ s := by omega
  have s4 : 0 < s := by omega
  have s5 : (s == 0) = false := by rw [beq_eq_false_iff_ne]; omega
  have s6 : s ≤ 3 := by omega
  have hl0 : ((l.length : Int) == 0) = false := by rw [beq_eq_false_iff_ne]; intro h; exact hem (List.length_eq_zero_iff.1 (by omega))
  have hl1 : 0 < l.length := List.length_pos_iff.2 hem
  have hl2 : decide ((0 : Int) < (l.length : Int)) = true := decide_eq_true (by omega)
  have sb : (st == -1) = false := by rw [beq_eq_false_iff_ne]; exact hb
  have sb2 : (st != -1) = true := by simp [bne, sb]
  go_enter Try.func16, Try.ntmps16
  go_wp2_with (go_at_call 45; (with_reducible refine (ref14_rise l _ _ false HTR.out HF.out HK.out H.out).mono ?_); rintro e_ wn ⟨rfl, h⟩; replace H := Lib.hid h; clear h)
  go_ret
  exact ⟨rfl, H.out.drop⟩

set_option maxHeartbeats 2000000 in
set_option maxRecDepth 100000 in
theorem rchk_hf (p e t s u st : Int) (l : List (TopS × Value)) (q : Option Addr) (cap : Nat) (h0 : 0 ≤ p) (h1 : 0 ≤ e) (h2 : e ≤ 32767) (h3 : 0 ≤ t) (h4 : t ≤ 2147483647) (h5 : 0 ≤ u) (h6 : -1 ≤ st) (hs : 4 ≤ s) (hs2 : s ≤ 6) (hem : ¬ l = []) (hf : FewT l) {W0 w : World} {K : Know} {L : List Res} (hk : K.has (Know.tops (.slice q l.length cap) l)) (h : St W0 w K L) :
    Calls Try.prog 16 #[.agg #[.int .i64 p, .int .i64 e, .int .i64 t, .int .i64 s, .slice q l.length cap, .int .i64 u, .int .i64 st]] w fun en w' => en = .returned (.int .i64 10) ∧ St W0 w' K L := by
  have HK := Lib.hid hk
  have HF := Lib.hid hf
  obtain ⟨vb, hvb⟩ : ∃ b, w.heap.size = b := ⟨_, rfl⟩
  have h1 := h.allocRaw #[.int .i64 p, .int .i64 e, .int .i64 t, .int .i64 s, .slice q l.length cap, .int .i64 u, .int .i64 st] 24
  rw [hvb] at h1
  have c0 := (h1).rawCell 0
  have c1 := (h1).rawCell 1
  have c2 := (h1).rawCell 2
  have c3 := (h1).rawCell 3
  have c4 := (h1).rawCell 4
  have c5 := (h1).rawCell 5
  have c6 := (h1).rawCell 6
  simp at c0 c1 c2 c3 c4 c5 c6
  have H := Lib.hid h1
  clear h h1 hk hf
  have k0 : ¬ p < 0 := by omega
  have k1 : ¬ e < 0 := by omega
  have k2 : ¬ 32767 < e := by omega
  have k3 : ¬ t < 0 := by omega
  have k4 : ¬ 2147483647 < t := by omega
  have k5 : ¬ u < 0 := by omega
  have k6 : ¬ st < -1 := by omega
  have s1 : ¬ s < 0 := by omega
  have s2 : ¬ 6 < s := by omega
  have s3 : 1 ≤ s := by omega
  have s4 : 0 < s := by omega
  have s5 : (s == 0) = false := by rw [beq_eq_false_iff_ne]; omega
  have s6 : ¬ s ≤ 3 := by omega
  have hl0 : ((l.length : Int) == 0) = false := by rw [beq_eq_false_iff_ne]; intro h; exact hem (List.length_eq_zero_iff.1 (by omega))
  have hl1 : 0 < l.length := List.length_pos_iff.2 hem
  have hl2 : decide ((0 : Int) < (l.length : Int)) = true := decide_eq_true (by omega)
  go_enter Try.func16, Try.ntmps16
  go_wp2
  go_ret
  exact ⟨rfl, H.out.drop⟩

set_option maxHeartbeats 2000000 in
set_option maxRecDepth 100000 in
theorem rchk_he1 (p e t s u st : Int) (q : Option Addr) (cap : Nat) (h0 : 0 ≤ p) (h1 : 0 ≤ e) (h2 : e ≤ 32767) (h3 : 0 ≤ t) (h4 : t ≤ 2147483647) (h5 : 0 ≤ u) (h6 : -1 ≤ st) (hs : 4 ≤ s) (hs2 : s ≤ 6) (hb : st = -1) (hf : FewT []) {W0 w : World} {K : Know} {L : List Res} (hk : K.has (Know.tops (.slice q 0 cap) [])) (h : St W0 w K L) :
    Calls Try.prog 16 #[.agg #[.int .i64 p, .int .i64 e, .int .i64 t, .int .i64 s, .slice q 0 cap, .int .i64 u, .int .i64 st]] w fun en w' => en = .returned (.int .i64 10) ∧ St W0 w' K L := by
  have HK := Lib.hid hk
  have HF := Lib.hid hf
  obtain ⟨vb, hvb⟩ : ∃ b, w.heap.size = b := ⟨_, rfl⟩
  have h1 := h.allocRaw #[.int .i64 p, .int .i64 e, .int .i64 t, .int .i64 s, .slice q 0 cap, .int .i64 u, .int .i64 st] 24
  rw [hvb] at h1
  have c0 := (h1).rawCell 0
  have c1 := (h1).rawCell 1
  have c2 := (h1).rawCell 2
  have c3 := (h1).rawCell 3
  have c4 := (h1).rawCell 4
  have c5 := (h1).rawCell 5
  have c6 := (h1).rawCell 6
  simp at c0 c1 c2 c3 c4 c5 c6
  have H := Lib.hid h1
  clear h h1 hk hf
  have k0 : ¬ p < 0 := by omega
  have k1 : ¬ e < 0 := by omega
  have k2 : ¬ 32767 < e := by omega
  have k3 : ¬ t < 0 := by omega
  have k4 : ¬ 2147483647 < t := by omega
  have k5 : ¬ u < 0 := by omega
  have k6 : ¬ st < -1 := by omega
  have s1 : ¬ s < 0 := by omega
  have s2 : ¬ 6 < s := by omega
  have s3 : 1 ≤ s := by omega
  have s4 : 0 < s := by omega
  have s5 : (s == 0) = false := by rw [beq_eq_false_iff_ne]; omega
  have s6 : ¬ s ≤ 3 := by omega
  subst hb
  go_enter Try.func16, Try.ntmps16
  go_wp2
  go_ret
  exact ⟨rfl, H.out.drop⟩

set_option maxHeartbeats 2000000 in
set_option maxRecDepth 100000 in
theorem rchk_he0 (p e t s u st : Int) (q : Option Addr) (cap : Nat) (h0 : 0 ≤ p) (h1 : 0 ≤ e) (h2 : e ≤ 32767) (h3 : 0 ≤ t) (h4 : t ≤ 2147483647) (h5 : 0 ≤ u) (h6 : -1 ≤ st) (hs : 4 ≤ s) (hs2 : s ≤ 6) (hb : ¬ st = -1) (htr : tRise (([] : List (TopS × Value)).map (·.1)) = true) (hf : FewT []) {W0 w : World} {K : Know} {L : List Res} (hk : K.has (Know.tops (.slice q 0 cap) [])) (h : St W0 w K L) :
    Calls Try.prog 16 #[.agg #[.int .i64 p, .int .i64 e, .int .i64 t, .int .i64 s, .slice q 0 cap, .int .i64 u, .int .i64 st]] w fun en w' => en = .returned (.int .i64 0) ∧ St W0 w' K L := by
  have HK := Lib.hid hk
  have HF := Lib.hid hf
  obtain ⟨vb, hvb⟩ : ∃ b, w.heap.size = b := ⟨_, rfl⟩
  have h1 := h.allocRaw #[.int .i64 p, .int .i64 e, .int .i64 t, .int .i64 s, .slice q 0 cap, .int .i64 u, .int .i64 st] 24
  rw [hvb] at h1
  have c0 := (h1).rawCell 0
  have c1 := (h1).rawCell 1
  have c2 := (h1).rawCell 2
  have c3 := (h1).rawCell 3
  have c4 := (h1).rawCell 4
  have c5 := (h1).rawCell 5
  have c6 := (h1).rawCell 6
  simp at c0 c1 c2 c3 c4 c5 c6
  have H := Lib.hid h1
  clear h h1 hk hf
  have k0 : ¬ p < 0 := by omega
  have k1 : ¬ e < 0 := by omega
  have k2 : ¬ 32767 < e := by omega
  have k3 : ¬ t < 0 := by omega
  have k4 : ¬ 2147483647 < t := by omega
  have k5 : ¬ u < 0 := by omega
  have k6 : ¬ st < -1 := by omega
  have HTR := Lib.hid htr
  clear htr
  have s1 : ¬ s < 0 := by omega
  have s2 : ¬ 6 < s := by omega
  have s3 : 1 ≤ s := by omega
  have s4 : 0 < s := by omega
  have s5 : (s == 0) = false := by rw [beq_eq_false_iff_ne]; omega
  have s6 : ¬ s ≤ 3 := by omega
  have sb : (st == -1) = false := by rw [beq_eq_false_iff_ne]; exact hb
  have sb2 : (st != -1) = true := by simp [bne, sb]
  go_enter Try.func16, Try.ntmps16
  go_wp2_with (go_at_call 45; (with_reducible refine (ref14_rise0 _ _ true HTR.out HF.out HK.out H.out).mono ?_); rintro e_ wn ⟨rfl, h⟩; replace H := Lib.hid h; clear h)
  go_ret
  exact ⟨rfl, H.out.drop⟩

end Go.Proofs.Ytombolmicfjjpaa

/- Values, checked by definition. -/
namespace Go.Proofs.Ytombolmicfjjpaa
open Go.RowKit

theorem idle_m (s : Int) (h1 : 1 ≤ s) (h2 : s ≤ 3) : idle s = false := by
  rcases (by omega : s = 1 ∨ s = 2 ∨ s = 3) with rfl | rfl | rfl <;> rfl
theorem idle_h (s : Int) (h1 : 4 ≤ s) : idle s = true := by
  unfold idle
  rw [beq_eq_false_iff_ne.2 (show s ≠ 1 by omega), beq_eq_false_iff_ne.2 (show s ≠ 2 by omega), beq_eq_false_iff_ne.2 (show s ≠ 3 by omega)]
  rfl
theorem ref14_check (v : ValS) (l : List (TopS × Value)) (q : Option Addr) (cap : Nat) (hl : l.map (·.1) = v.tops) (E : Int) (he : v.err = E) (hf : FewT l) {W0 w : World} {K : Know} {L : List Res} (hk : K.has (Know.tops (.slice q l.length cap) l)) (h : St W0 w K L) :
    Calls Try.prog 16 #[.agg #[.int .i64 v.prod, .int .i64 v.epoch, .int .i64 v.timeout, .int .i64 v.state, .slice q l.length cap, .int .i64 v.upd, .int .i64 v.started]] w fun en w' => en = .returned (.int .i64 E) ∧ St W0 w' K L := by
  obtain ⟨p, e, t, s, tops, u, st⟩ := v
  simp only at hl ⊢
  subst hl
  unfold ValS.err ValS.ranged at he
  simp only at he
  cases hrg : (decide (0 ≤ p) && (decide (0 ≤ e) && (decide (e ≤ 32767) && (decide (0 ≤ t) && (decide (t ≤ 2147483647) && (decide (0 ≤ u) && decide (-1 ≤ st))))))) with
  | false =>
    rw [if_pos hrg] at he
    subst he
    exact rchk_11 p e t s u st l q cap hrg hf hk h
  | true =>
    rw [if_neg (by rw [hrg]; decide)] at he
    simp only [Bool.and_eq_true, decide_eq_true_eq] at hrg
    obtain ⟨h0, h1, h2, h3, h4, h5, h6⟩ := hrg
    by_cases hs : s < 0 ∨ 7 ≤ s
    · rw [if_pos hs] at he
      subst he
      exact rchk_12 p e t s u st l q cap h0 h1 h2 h3 h4 h5 h6 hs hf hk h
    · rw [if_neg hs] at he
      have hemp : (l.map (·.1)).isEmpty = decide (l = []) := by cases l <;> simp
      rw [hemp] at he
      rcases (by omega : s = 0 ∨ (1 ≤ s ∧ s ≤ 3) ∨ (4 ≤ s ∧ s ≤ 6)) with hs0 | ⟨m1, m2⟩ | ⟨m1, m2⟩
      · have hi : idle s = true := by rw [hs0]; rfl
        by_cases hem : l = []
        · rw [decide_eq_true hem] at he
          by_cases hb : st = -1
          · rw [if_neg (by rw [hi, hs0, hb]; decide)] at he
            have htr : tRise (l.map (·.1)) = true := by rw [hem]; rfl
            rw [if_neg (by rw [htr]; decide)] at he
            subst he
            subst hem
            exact rchk_0e1 p e t s u st q cap h0 h1 h2 h3 h4 h5 h6 hs0 hb htr hf hk h
          · rw [if_pos (.inr (by rw [hs0, beq_eq_false_iff_ne.2 hb]; rfl))] at he
            subst he
            subst hem
            exact rchk_0e0 p e t s u st q cap h0 h1 h2 h3 h4 h5 h6 hs0 hb hf hk h
        · rw [decide_eq_false hem, if_pos (.inl (by rw [hi]; rfl))] at he
          subst he
          exact rchk_0f p e t s u st l q cap h0 h1 h2 h3 h4 h5 h6 hs0 hem hf hk h
      · have hi := idle_m s m1 m2
        have hz : ¬ s = 0 := by omega
        by_cases hem : l = []
        · rw [decide_eq_true hem, if_pos (.inl (by rw [hi]; rfl))] at he
          subst he
          subst hem
          exact rchk_me p e t s u st q cap h0 h1 h2 h3 h4 h5 h6 m1 m2 hf hk h
        · rw [decide_eq_false hem] at he
          by_cases hb : st = -1
          · rw [if_pos (.inr (by rw [hb, beq_eq_false_iff_ne.2 hz]; rfl))] at he
            subst he
            exact rchk_mf1 p e t s u st l q cap h0 h1 h2 h3 h4 h5 h6 m1 m2 hem hb hf hk h
          · rw [if_neg (by rw [hi, beq_eq_false_iff_ne.2 hz, beq_eq_false_iff_ne.2 hb]; decide)] at he
            cases htr : tRise (l.map (·.1)) with
            | true =>
              rw [if_neg (by rw [htr]; decide)] at he
              subst he
              exact rchk_mft p e t s u st l q cap h0 h1 h2 h3 h4 h5 h6 m1 m2 hem hb htr hf hk h
            | false =>
              rw [if_pos htr] at he
              subst he
              exact rchk_mfb p e t s u st l q cap h0 h1 h2 h3 h4 h5 h6 m1 m2 hem hb htr hf hk h
      · have hi := idle_h s m1
        have hz : ¬ s = 0 := by omega
        by_cases hem : l = []
        · rw [decide_eq_true hem] at he
          by_cases hb : st = -1
          · rw [if_pos (.inr (by rw [hb, beq_eq_false_iff_ne.2 hz]; rfl))] at he
            subst he
            subst hem
            exact rchk_he1 p e t s u st q cap h0 h1 h2 h3 h4 h5 h6 m1 m2 hb hf hk h
          · rw [if_neg (by rw [hi, beq_eq_false_iff_ne.2 hz, beq_eq_false_iff_ne.2 hb]; decide)] at he
            have htr : tRise (l.map (·.1)) = true := by rw [hem]; rfl
            rw [if_neg (by rw [htr]; decide)] at he
            subst he
            subst hem
            exact rchk_he0 p e t s u st q cap h0 h1 h2 h3 h4 h5 h6 m1 m2 hb htr hf hk h
        · rw [decide_eq_false hem, if_pos (.inl (by rw [hi]; rfl))] at he
          subst he
          exact rchk_hf p e t s u st l q cap h0 h1 h2 h3 h4 h5 h6 m1 m2 hem hf hk h

end Go.Proofs.Ytombolmicfjjpaa

/- Values, for the law. -/
namespace Go.Proofs.Ytombolmicfjjpaa
open Go.RowKit

theorem val_encode_okS (p e t s u st : Int) (l : List (TopS × Value)) (q : Option Addr) (cap : Nat) (tl : List TopS) (htl : l.map (·.1) = tl) (S : Bs) (hS : ValS.enc ⟨p, e, t, s, tl, u, st⟩ = S) (he : ValS.err ⟨p, e, t, s, tl, u, st⟩ = 0) (hR : ValS.R ⟨p, e, t, s, tl, u, st⟩) (hf : FewT l) {W0 w : World} {K : Know} {L : List Res} (hk : K.has (Know.tops (.slice q l.length cap) l)) (h : St W0 w K L) :
    Calls Try.prog 15 #[.agg #[.int .i64 p, .int .i64 e, .int .i64 t, .int .i64 s, .slice q l.length cap, .int .i64 u, .int .i64 st]] w fun en w' => en = .returned (.tuple #[.string (bb S), .int .i64 0]) ∧ St W0 w' K L := by
  subst hS; subst htl; exact val_encode_ok p e t s u st l q cap he hR hf hk h
theorem val_encode_badS (p e t s u st : Int) (l : List (TopS × Value)) (q : Option Addr) (cap : Nat) (tl : List TopS) (htl : l.map (·.1) = tl) (E : Int) (he : ValS.err ⟨p, e, t, s, tl, u, st⟩ = E) (h0 : E ≠ 0) (hf : FewT l) {W0 w : World} {K : Know} {L : List Res} (hk : K.has (Know.tops (.slice q l.length cap) l)) (h : St W0 w K L) :
    Calls Try.prog 15 #[.agg #[.int .i64 p, .int .i64 e, .int .i64 t, .int .i64 s, .slice q l.length cap, .int .i64 u, .int .i64 st]] w fun en w' => en = .returned (.tuple #[.string ⟨#[]⟩, .int .i64 E]) ∧ St W0 w' K L := by
  subst htl; exact val_encode_bad p e t s u st l q cap E he h0 hf hk h
theorem ref14_encodeS (p e t s u st : Int) (l : List (TopS × Value)) (q : Option Addr) (cap : Nat) (tl : List TopS) (htl : l.map (·.1) = tl) (S : Bs) (hS : ValS.enc ⟨p, e, t, s, tl, u, st⟩ = S) (he : ValS.err ⟨p, e, t, s, tl, u, st⟩ = 0) (hR : ValS.R ⟨p, e, t, s, tl, u, st⟩) (hf : FewT l) {W0 w : World} {K : Know} {L : List Res} (hk : K.has (Know.tops (.slice q l.length cap) l)) (h : St W0 w K L) :
    Calls Try.prog 19 #[.agg #[.int .i64 p, .int .i64 e, .int .i64 t, .int .i64 s, .slice q l.length cap, .int .i64 u, .int .i64 st]] w fun en w' => en = .returned (.string (bb S)) ∧ St W0 w' K L := by
  subst hS; subst htl; exact ref14_encode p e t s u st l q cap he hR hf hk h
theorem val_checkS (p e t s u st : Int) (l : List (TopS × Value)) (q : Option Addr) (cap : Nat) (tl : List TopS) (htl : l.map (·.1) = tl) (E : Int) (he : ValS.err ⟨p, e, t, s, tl, u, st⟩ = E) (hf : FewT l) {W0 w : World} {K : Know} {L : List Res} (hk : K.has (Know.tops (.slice q l.length cap) l)) (h : St W0 w K L) :
    Calls Try.prog 17 #[.agg #[.int .i64 p, .int .i64 e, .int .i64 t, .int .i64 s, .slice q l.length cap, .int .i64 u, .int .i64 st]] w fun en w' => en = .returned (.int .i64 E) ∧ St W0 w' K L := by
  subst htl; exact val_check ⟨p, e, t, s, l.map (·.1), u, st⟩ l q cap rfl E he hf hk h
theorem ref14_checkS (p e t s u st : Int) (l : List (TopS × Value)) (q : Option Addr) (cap : Nat) (tl : List TopS) (htl : l.map (·.1) = tl) (E : Int) (he : ValS.err ⟨p, e, t, s, tl, u, st⟩ = E) (hf : FewT l) {W0 w : World} {K : Know} {L : List Res} (hk : K.has (Know.tops (.slice q l.length cap) l)) (h : St W0 w K L) :
    Calls Try.prog 16 #[.agg #[.int .i64 p, .int .i64 e, .int .i64 t, .int .i64 s, .slice q l.length cap, .int .i64 u, .int .i64 st]] w fun en w' => en = .returned (.int .i64 E) ∧ St W0 w' K L := by
  subst htl; exact ref14_check ⟨p, e, t, s, l.map (·.1), u, st⟩ l q cap rfl E he hf hk h

end Go.Proofs.Ytombolmicfjjpaa

/- Values, decoded (pure). -/
namespace Go.Proofs.Ytombolmicfjjpaa
open Go.RowKit

theorem close_st {i : InS} (h : i.err ≠ 0) : i.close.err = i.err := by
  unfold InS.close
  split
  · unfold InS.fail; rw [if_neg h]
  · rfl
theorem valF_stuck {i : InS} (h : i.err ≠ 0) : i.valF = (ValS.z, i) := by
  have r8 : i.int 8 = (0, i) := (rds_intN 8 (by decide) (by decide)).stuck i h
  have r2 : i.int 2 = (0, i) := (rds_intN 2 (by decide) (by decide)).stuck i h
  have r4 : i.int 4 = (0, i) := (rds_intN 4 (by decide) (by decide)).stuck i h
  have r1 : i.int 1 = (0, i) := (rds_intN 1 (by decide) (by decide)).stuck i h
  have rt : i.tops = ([], i) := rds_tops.stuck i h
  exact valF_eq r8 r2 r4 r1 rt r8 r8
theorem decE_zero {s : Bs} (h : decE s = 0) : ((⟨s, 0, 0⟩ : InS).int 2).1 = 0 := by
  by_cases ha : ((⟨s, 0, 0⟩ : InS).int 2).1 = 0
  · exact ha
  · exfalso
    have hj : (decI s).err ≠ 0 := by
      unfold decI
      rw [if_neg ha]
      unfold InS.fail
      split
      · show (7 : Int) ≠ 0; decide
      · assumption
    unfold decE at h
    rw [valF_stuck hj, close_st hj] at h
    exact hj h
theorem valDec_ok {s : Bs} {v : ValS} (h : valDec s = (v, 0)) (hz : v ≠ ValS.z ∨ True) : decE s = 0 ∧ (decI s).valF.1 = v ∧ v.err = 0 := by
  unfold valDec at h
  by_cases h1 : decE s ≠ 0
  · rw [if_pos h1] at h
    simp only [Prod.mk.injEq] at h
    exact absurd h.2 h1
  · rw [if_neg h1] at h
    by_cases h2 : (decI s).valF.1.err ≠ 0
    · rw [if_pos h2] at h
      simp only [Prod.mk.injEq] at h
      exact absurd h.2 h2
    · rw [if_neg h2] at h
      simp only [Prod.mk.injEq] at h
      refine ⟨Classical.not_not.1 h1, h.1, ?_⟩
      rw [← h.1]
      exact Classical.not_not.1 h2
end Go.Proofs.Ytombolmicfjjpaa

/- Numbers and texts, read. -/
namespace Go.Proofs.Ytombolmicfjjpaa
open Go.RowKit

theorem cnt_nat (i : InS) (each : Nat) : (i.count 4 each).1 = ((i.cnt each).1 : Int) ∧ (i.cnt each).1 ≤ 2147483647 := by
  have hr : -2147483648 ≤ (i.int 4).1 ∧ (i.int 4).1 < 2147483648 := by
    have e4 : half (4 : Int).toNat = 2147483648 := by decide
    by_cases hi : i.err = 0
    · obtain ⟨s, pos, er⟩ := i
      simp only at hi
      subst hi
      unfold InS.int
      rw [if_neg (by decide)]
      simp only
      unfold InS.take
      split
      · show -2147483648 ≤ sInt [] ∧ sInt [] < 2147483648; decide
      · split
        · show -2147483648 ≤ sInt [] ∧ sInt [] < 2147483648; decide
        · split
          · show -2147483648 ≤ sInt [] ∧ sInt [] < 2147483648; decide
          · rename_i h1 h2 h3
            have hl : (((s.drop pos)).take (4 : Int).toNat).length = 4 := by
              rw [List.length_take, List.length_drop]
              simp only [InS.left] at h3
              have : (4 : Int).toNat = 4 := rfl
              omega
            have h6 := sInt_fits _ 4 (by decide) (by decide) hl
            have h7 := h6.2.2
            have e5 : half ((4 : Nat) : Int).toNat = 2147483648 := by decide
            rw [e5] at h7
            exact h7
    · rw [int_stuck i hi]; show (-2147483648 : Int) ≤ 0 ∧ (0 : Int) < 2147483648; decide
  have h0 : 0 ≤ (i.count 4 each).1 ∧ (i.count 4 each).1 < 2147483648 := by
    unfold InS.count
    simp only
    split
    · simp
    · split
      · simp
      · omega
  unfold InS.cnt
  simp only
  omega
theorem s_cntV (p : Nat) (i j : InS) (each n : Nat) (ei : Int) (he : ei = each) (hx : i.cnt each = (n, j)) {W0 w : World} {K : Know} {L : List Res} (h : St W0 w K (.inp p i :: L)) :
    Calls Try.prog 77 #[inPtr p, .int .i64 4, .int .i64 ei] w fun en w' => en = .returned (.int .i64 n) ∧ St W0 w' K (.inp p j :: L) := by
  subst he
  have h2 := s_count p i 4 each h
  have h3 := (cnt_nat i each).1
  rw [hx] at h3
  have h4 : (i.count 4 each).2 = j := by have := congrArg Prod.snd hx; exact this
  rw [h3, h4] at h2
  exact h2
theorem s_intV (p : Nat) (i j : InS) (x : Int) (size : Int) (hx : i.int size = (x, j)) {W0 w : World} {K : Know} {L : List Res} (h : St W0 w K (.inp p i :: L)) :
    Calls Try.prog 72 #[inPtr p, .int .i64 size] w fun en w' => en = .returned (.int .i64 x) ∧ St W0 w' K (.inp p j :: L) := by
  have h2 := s_int p i size h
  rw [hx] at h2
  exact h2
theorem s_errV (p : Nat) (i : InS) (e : Int) (hx : i.err = e) {W0 w : World} {K : Know} {L : List Res} (h : St W0 w K (.inp p i :: L)) :
    Calls Try.prog 27 #[inPtr p] w fun en w' => en = .returned (.int .i64 e) ∧ St W0 w' K (.inp p i :: L) := by
  subst hx; exact s_err p i h
theorem blob_textV (p : Nat) (i j : InS) (s : Bs) (hx : i.text = (s, j)) {W0 w : World} {K : Know} {L : List Res} (h : St W0 w K (.inp p i :: L)) :
    Calls Try.prog 78 #[inPtr p] w fun en w' => en = .returned (.string (bb s)) ∧ St W0 w' K (.inp p j :: L) := by
  have h2 := blob_text p i h
  rw [hx] at h2
  exact h2
theorem elem_int : ElemT Try.prog 3 (.int .i64 0) 1 8 := elemT_of (by kernel_rfl) rfl (by decide)
theorem elem_top : ElemT Try.prog 51 (.agg #[.string ⟨#[]⟩, .slice none 0 0]) 2 40 := elemT_of (by kernel_rfl) rfl (by decide)
theorem tops_nil (K : Know) : K.has (K.and (Know.tops (.slice none 0 0) [])) := fun _ _ h => ⟨h, ⟨none, 0, rfl, fun h => absurd h (by simp)⟩, fun x hx => by cases hx⟩

end Go.Proofs.Ytombolmicfjjpaa

/- Topics, read. -/
namespace Go.Proofs.Ytombolmicfjjpaa
open Go.RowKit

set_option maxHeartbeats 1000000 in
set_option maxRecDepth 100000 in
theorem val_parts (p : Nat) (i j : InS) (l : List Int) (hx : i.parts = (l, j)) {W0 w : World} {K : Know} {L : List Res} (h : St W0 w K (.inp p i :: L)) :
    Calls Try.prog 79 #[inPtr p] w fun en w' => ∃ v, en = .returned v ∧ St W0 w' (K.and (Know.flat RI v 1 l)) (.inp p j :: L) := by
  obtain ⟨⟨n, c⟩, hc⟩ : ∃ r, i.cnt 4 = r := ⟨_, rfl⟩
  have hnl := (cnt_nat i 4).2
  rw [hc] at hnl
  have hx2 : InS.partsN n [] c = (l, j) := by rw [← hx]; unfold InS.parts; rw [hc]
  have HC := Lib.hid hc
  have HX := Lib.hid hx2
  have HNL := Lib.hid hnl
  have H := Lib.hid h
  have hni : (n : Int) ≤ 2147483647 := by simp only at hnl; omega
  clear h hx hc hx2 hnl
  go_enter Try.func79, Try.ntmps79
  go_wp2_with (go_at_call 77; (with_reducible refine (s_cntV p i c 4 n 4 rfl HC.out H.out).mono ?_); rintro e_ wn ⟨rfl, h⟩; replace H := Lib.hid h; clear h)
  go_loopw [3, 6] (fun lv iv wr => ∃ (k : Nat) (i2 : InS) (acc : List Int), k ≤ n ∧ iv = .int .i64 k ∧ Hid (acc.length = k) ∧ Hid (InS.partsN (n - k) acc i2 = (l, j)) ∧ St W0 wr K (.row lv 3 1 acc.length (acc.flatMap fun x => [.int .i64 x]) :: .inp p i2 :: L)) (fun _ iv _ => n - (intOf iv).toNat)
  case atStart => exact ⟨0, c, [], Nat.zero_le _, rfl, Lib.hid rfl, Lib.hid HX.out, H.out.nilRow 3 1⟩
  case round =>
    obtain ⟨k, i2, acc, hk, rfl, HAL, HP, hst⟩ := hrel
    clear H
    have H := Lib.hid hst
    clear hst
    by_cases hlt : k < n
    · obtain ⟨⟨x, i3⟩, hi3⟩ : ∃ r, i2.int 4 = r := ⟨_, rfl⟩
      have HI := Lib.hid hi3
      have HP2 := Lib.hid (show InS.partsN (n - (k + 1)) (acc ++ [x]) i3 = (l, j) by
        have h1 := HP.out
        rw [show n - k = (n - (k + 1)) + 1 by omega] at h1
        have h2 : InS.partsN (n - (k + 1)) (acc ++ [(i2.int 4).1]) (i2.int 4).2 = (l, j) := h1
        rw [hi3] at h2
        exact h2)
      have HAB := Lib.hid (show acc.length ≤ 2147483647 by have := HAL.out; have := HNL.out; omega)
      have hkn : (k : Int) < (n : Int) := by omega
      clear hi3
      go_wp2_with (first
    | (go_at_call 72; (with_reducible refine (s_intV p i2 i3 x 4 HI.out H.out.p1).mono ?_); rintro e_ wn ⟨rfl, h⟩; have h := h.p1; replace H := Lib.hid h; clear h)
    | (at_builtin; refine wpl_app1_st rfl _ _ 49 rfl 3 Try.underlying49 elem_int _ _ _ rfl H.out [.int .i64 x] 3 rfl rfl (by simp [Value.oneCell']) (by have := HAB.out; unfold maxLen; omega) (by have := HAB.out; omega) ?_; intro v' w' h; replace H := Lib.hid h; clear h))
      go_roundw
      case rel => exact ⟨k + 1, i3, acc ++ [x], hlt, by go_num, Lib.hid (by rw [List.length_append, HAL.out]; rfl), HP2, by rw [List.length_append, List.flatMap_append]; exact H.out⟩
      case measure => first | (simp [intOf]; done) | (simp [intOf]; omega)
    · obtain rfl : k = n := by omega
      have hp := HP.out
      rw [Nat.sub_self] at hp
      have hp : (acc, i2) = (l, j) := hp
      simp only [Prod.mk.injEq] at hp
      obtain ⟨rfl, rfl⟩ := hp
      go_wp2
      go_ret
      exact ⟨_, rfl, H.out.freezeRow (R := RI) (fun x _ => ⟨rfl, rfl⟩)⟩

set_option maxHeartbeats 2000000 in
set_option maxRecDepth 100000 in
theorem val_topics (p : Nat) (i j : InS) (l : List TopS) (hx : i.tops = (l, j)) {W0 w : World} {K : Know} {L : List Res} (h : St W0 w K (.inp p i :: L)) :
    Calls Try.prog 25 #[inPtr p] w fun en w' => ∃ (v : Value) (lr : List (TopS × Value)), en = .returned v ∧ lr.map (·.1) = l ∧ St W0 w' (K.and (Know.tops v lr)) (.inp p j :: L) := by
  obtain ⟨⟨n, c⟩, hc⟩ : ∃ r, i.cnt 6 = r := ⟨_, rfl⟩
  have hnl := (cnt_nat i 6).2
  rw [hc] at hnl
  have hx2 : InS.topsN n [] c = (l, j) := by rw [← hx]; unfold InS.tops; rw [hc]
  have HC := Lib.hid hc
  have HX := Lib.hid hx2
  have HNL := Lib.hid hnl
  have H := Lib.hid h
  have hni : (n : Int) ≤ 2147483647 := by simp only at hnl; omega
  clear h hx hc hx2 hnl
  go_enter Try.func25, Try.ntmps25
  go_wp2_with (go_at_call 77; (with_reducible refine (s_cntV p i c 6 n 6 rfl HC.out H.out).mono ?_); rintro e_ wn ⟨rfl, h⟩; replace H := Lib.hid h; clear h)
  go_loopw [3, 4, 7] (fun lv _ iv wr => ∃ (k : Nat) (i2 : InS) (acc : List (TopS × Value)) (K2 : Know), k ≤ n ∧ iv = .int .i64 k ∧ Hid (acc.length = k) ∧ Hid (InS.topsN (n - k) (acc.map (·.1)) i2 = (l, j)) ∧ Hid (K2.has K) ∧ Hid (∀ x ∈ acc, K2.has (Know.flat RI x.2 1 x.1.parts)) ∧ St W0 wr K2 (.row lv 51 2 acc.length (acc.flatMap tcells) :: .inp p i2 :: L)) (fun _ _ iv _ => n - (intOf iv).toNat)
  case atStart => exact ⟨0, c, [], K, Nat.zero_le _, rfl, Lib.hid rfl, Lib.hid HX.out, Lib.hid (Know.has_refl _), Lib.hid (fun x hx => by cases hx), H.out.nilRow 51 2⟩
  case round =>
    obtain ⟨k, i2, acc, K2, hk, rfl, HAL, HP, HKK, HALL, hst⟩ := hrel
    clear H
    have H := Lib.hid hst
    clear hst
    by_cases hlt : k < n
    · obtain ⟨⟨nm, i3⟩, hi3⟩ : ∃ r, i2.text = r := ⟨_, rfl⟩
      obtain ⟨⟨ps, i4⟩, hi4⟩ : ∃ r, i3.parts = r := ⟨_, rfl⟩
      obtain ⟨er, her⟩ : ∃ er, i4.err = er := ⟨_, rfl⟩
      have HT := Lib.hid hi3
      have HPS := Lib.hid hi4
      have HER := Lib.hid her
      have hstep : (if er = 0 then InS.topsN (n - (k + 1)) (acc.map (·.1) ++ [⟨nm, ps⟩]) i4 else ([], i4)) = (l, j) := by
        have h1 := HP.out
        rw [show n - k = (n - (k + 1)) + 1 by omega] at h1
        have h2 : (if i2.text.2.parts.2.err = 0 then InS.topsN (n - (k + 1)) (acc.map (·.1) ++ [⟨i2.text.1, i2.text.2.parts.1⟩]) i2.text.2.parts.2 else ([], i2.text.2.parts.2)) = (l, j) := h1
        rw [hi3] at h2
        simp only at h2
        rw [hi4] at h2
        simp only at h2
        rw [her] at h2
        exact h2
      have HAB := Lib.hid (show acc.length ≤ 2147483647 by have := HAL.out; have := HNL.out; omega)
      have hkn : (k : Int) < (n : Int) := by omega
      clear hi3 hi4 her
      by_cases he0 : er = 0
      · as_aux_lemma =>
        rw [if_pos he0] at hstep
        have HP2 := Lib.hid hstep
        subst he0
        clear hstep
        go_wp2_with (first
    | (go_at_call 78; (with_reducible refine (blob_textV p i2 i3 nm HT.out H.out.p1).mono ?_); rintro e_ wn ⟨rfl, h⟩; replace H := Lib.hid h; clear h)
    | (go_at_call 79; (with_reducible refine (val_parts p i3 i4 ps HPS.out H.out).mono ?_); rintro e_ wn ⟨pv, rfl, h⟩; obtain ⟨qx, capx, hpv⟩ := flat_form (Know.has_right (Know.has_refl _)) h; subst hpv; have h := h.p1; replace H := Lib.hid h; clear h)
    | (at_builtin; refine wpl_app1_st rfl _ _ 22 rfl 51 Try.underlying22 elem_top _ _ _ rfl H.out [.string (bb nm), .slice qx ps.length capx] 51 rfl rfl (by simp [Value.oneCell']) (by have := HAB.out; unfold maxLen; omega) (by have := HAB.out; omega) ?_; intro v' w' h; have h := h.p1; replace H := Lib.hid h; clear h)
    | (go_at_call 27; (with_reducible refine (s_errV p i4 0 HER.out H.out).mono ?_); rintro e_ wn ⟨rfl, h⟩; have h := h.p1; replace H := Lib.hid h; clear h))
        go_roundw
        case rel => exact ⟨k + 1, i4, acc ++ [((⟨nm, ps⟩ : TopS), .slice qx ps.length capx)], K2.and (Know.flat RI (.slice qx ps.length capx) 1 ps), hlt, by go_num, Lib.hid (by rw [List.length_append, HAL.out]; rfl), Lib.hid (by rw [List.map_append]; exact HP2.out), Lib.hid (Know.has_trans (Know.has_left (Know.has_refl _)) HKK.out), Lib.hid (fun x hx => by
          rcases List.mem_append.1 hx with hx | hx
          · exact Know.has_left (HALL.out x hx)
          · rw [List.mem_singleton.1 hx]; exact Know.has_right (Know.has_refl _)), by rw [List.length_append, List.flatMap_append]; exact H.out⟩
        case measure => first | (simp [intOf]; done) | (simp [intOf]; omega)
      · as_aux_lemma =>
        rw [if_neg he0] at hstep
        simp only [Prod.mk.injEq] at hstep
        obtain ⟨rfl, rfl⟩ := hstep
        have gz : (er == 0) = false := by rw [beq_eq_false_iff_ne]; exact he0
        have gz3 : (er != 0) = true := by simp [bne, gz]
        clear he0
        go_wp2_with (first
    | (go_at_call 78; (with_reducible refine (blob_textV p i2 i3 nm HT.out H.out.p1).mono ?_); rintro e_ wn ⟨rfl, h⟩; replace H := Lib.hid h; clear h)
    | (go_at_call 79; (with_reducible refine (val_parts p i3 _ ps HPS.out H.out).mono ?_); rintro e_ wn ⟨pv, rfl, h⟩; obtain ⟨qx, capx, hpv⟩ := flat_form (Know.has_right (Know.has_refl _)) h; subst hpv; have h := h.p1; replace H := Lib.hid h; clear h)
    | (at_builtin; refine wpl_app1_st rfl _ _ 22 rfl 51 Try.underlying22 elem_top _ _ _ rfl H.out [.string (bb nm), .slice qx ps.length capx] 51 rfl rfl (by simp [Value.oneCell']) (by have := HAB.out; unfold maxLen; omega) (by have := HAB.out; omega) ?_; intro v' w' h; have h := h.p1; replace H := Lib.hid h; clear h)
    | (go_at_call 27; (with_reducible refine (s_errV p _ er HER.out H.out).mono ?_); rintro e_ wn ⟨rfl, h⟩; replace H := Lib.hid h; clear h))
        go_ret
        exact ⟨_, [], rfl, rfl, (H.out.p1.drop).know (Know.has_trans (Know.has_left HKK.out) (tops_nil K))⟩
    · obtain rfl : k = n := by omega
      have hp := HP.out
      rw [Nat.sub_self] at hp
      have hp : (acc.map (·.1), i2) = (l, j) := hp
      simp only [Prod.mk.injEq] at hp
      obtain ⟨rfl, rfl⟩ := hp
      go_wp2
      go_ret
      have hf := H.out.freezeRow (R := RTop) (fun x _ => ⟨rfl, rfl⟩)
      have hf2 := hf.know (K' := K.and (Know.tops _ acc)) (fun w F hh => ⟨HKK.out _ _ hh.1, hh.2, fun y hy => HALL.out y hy _ _ hh.1⟩)
      first | exact ⟨_, acc, rfl, rfl, hf2⟩ | exact ⟨_, rfl, acc, rfl, hf2⟩

end Go.Proofs.Ytombolmicfjjpaa

/- The bytes of control records (pure). -/
namespace Go.Proofs.Ytombolmicfjjpaa
open Go.RowKit

end Go.Proofs.Ytombolmicfjjpaa

/- Contracts of package control. -/
namespace Go.Proofs.Ytombolmicfjjpaa
open Go.RowKit

end Go.Proofs.Ytombolmicfjjpaa

/- Contracts of cursitorref08. -/
namespace Go.Proofs.Ytombolmicfjjpaa
open Go.RowKit

end Go.Proofs.Ytombolmicfjjpaa

/- Contracts: control records. -/
namespace Go.Proofs.Ytombolmicfjjpaa
open Go.RowKit

end Go.Proofs.Ytombolmicfjjpaa

/- Batches (pure): which may be. -/
namespace Go.Proofs.Ytombolmicfjjpaa
open Go.RowKit

structure BatS where
  base : Int
  leader : Int
  app : Bool
  txn : Bool
  ctl : Bool
  last : Int
  first : Int
  maxt : Int
  prod : Int
  epoch : Int
  seq : Int
  recs : List RecS
deriving DecidableEq
def BatS.zero : BatS := ⟨0, 0, false, false, false, 0, 0, 0, 0, 0, 0, []⟩
def Rn (n : Int) : Prop := -9223372036854775808 ≤ n ∧ n < 9223372036854775808
def BatS.R (b : BatS) : Prop := Rn b.base ∧ Rn b.leader ∧ Rn b.last ∧ Rn b.first ∧ Rn b.maxt ∧ Rn b.prod ∧ Rn b.epoch ∧ Rn b.seq
def BatS.signed (b : BatS) : Bool :=
  if b.prod = -1 then decide (b.epoch = -1 ∧ b.seq = -1 ∧ b.txn = false)
  else if b.prod < 0 ∨ ¬ (0 ≤ b.epoch ∧ b.epoch ≤ 32767) then false
  else if b.ctl then decide (b.seq = -1)
  else decide (0 ≤ b.seq ∧ b.seq ≤ 2147483647)
/-- The greatest time of records behind a first one, or why their places and times may not be. -/
def rowsC (first last : Int) : List RecS → Int → Int → Except Int Int
  | [], _, g => .ok g
  | r :: t, ah, g => if r.off ≤ ah ∨ last < r.off then .error 13 else if r.time < -first ∨ 9223372036854775807 - first < r.time then .error 11 else rowsC first last t r.off (max g (first + r.time))
def rowsE (app : Bool) (maxt : Int) (r : Except Int Int) : Int := match r with
  | .error e => e
  | .ok g => if app = false ∧ maxt ≠ g then 11 else 0
def BatS.rows (b : BatS) : Int := rowsE b.app b.maxt (rowsC b.first b.last b.recs (-1) b.first)
end Go.Proofs.Ytombolmicfjjpaa

/- Batches (pure): rows. -/
namespace Go.Proofs.Ytombolmicfjjpaa
open Go.RowKit

end Go.Proofs.Ytombolmicfjjpaa

/- Ends of transactions as batches (pure). -/
namespace Go.Proofs.Ytombolmicfjjpaa
open Go.RowKit

theorem rc_cell_tmp {P : Program} {fn : Func} {p t : Tmp} {ty : TypeId} (h : fn.results = #[.cell p ty, .tmp t]) (tmps : Array Value) (w : World) (b : Nat) (cs : List Value) (d : TypeDesc)
    (hp : tmps.getD p undef = .pointer (some ⟨b, 0, none⟩)) (hc : w.rangeAt b 0 cs) (hu : P.underlying ty = some d) (hd : d.isRow = true) (hi : (P.info? ty).map (·.size) = some cs.length) :
    (results fn tmps).run P w = .ok (.tuple #[.agg cs.toArray, tmps.getD t undef]) w := by
  have hp' : tmps[p]?.getD undef = .pointer (some ⟨b, 0, none⟩) := by simpa using hp
  simp [results, h, hp', asAddr, run_loadVar_mid w b 0 ty cs d hc hu hd hi]
theorem rc_cell_only {P : Program} {fn : Func} {p : Tmp} {ty : TypeId} (h : fn.results = #[.cell p ty]) (tmps : Array Value) (w : World) (b : Nat) (cs : List Value) (d : TypeDesc)
    (hp : tmps.getD p undef = .pointer (some ⟨b, 0, none⟩)) (hc : w.rangeAt b 0 cs) (hu : P.underlying ty = some d) (hd : d.isRow = true) (hi : (P.info? ty).map (·.size) = some cs.length) :
    (results fn tmps).run P w = .ok (.agg cs.toArray) w := by
  have hp' : tmps[p]?.getD undef = .pointer (some ⟨b, 0, none⟩) := by simpa using hp
  simp [results, h, hp', asAddr, run_loadVar_mid w b 0 ty cs d hc hu hd hi]
theorem rc_range {W0 w : World} {K : Know} {L : List Res} {b : Nat} {c : List Value} {T : TypeId} (h : St W0 w K (.raw b c.toArray T :: L)) : w.rangeAt b 0 c := by
  intro j v hv
  rw [Nat.zero_add, h.rawCell j]
  simpa using hv
end Go.Proofs.Ytombolmicfjjpaa

/- The fields of a value, read. -/
namespace Go.Proofs.Ytombolmicfjjpaa
open Go.RowKit

set_option maxHeartbeats 2000000 in
set_option maxRecDepth 100000 in
theorem val_fields (b : Nat) (i i1 i2 i3 i4 i5 i6 i7 : InS) (p e t s u st : Int) (l : List TopS) (h1 : i.int 8 = (p, i1)) (h2 : i1.int 2 = (e, i2)) (h3 : i2.int 4 = (t, i3)) (h4 : i3.int 1 = (s, i4)) (h5 : i4.tops = (l, i5)) (h6 : i5.int 8 = (u, i6)) (h7 : i6.int 8 = (st, i7)) {W0 w : World} {K : Know} {L : List Res} (h : St W0 w K (.inp b i :: L)) :
    Calls Try.prog 74 #[inPtr b] w fun en w' => ∃ (qt : Option Addr) (capt : Nat) (lr : List (TopS × Value)), en = .returned (.agg #[.int .i64 p, .int .i64 e, .int .i64 t, .int .i64 s, .slice qt lr.length capt, .int .i64 u, .int .i64 st]) ∧ lr.map (·.1) = l ∧ St W0 w' (K.and (Know.tops (.slice qt lr.length capt) lr)) (.inp b i7 :: L) := by
  obtain ⟨rb, hrb⟩ : ∃ b, w.heap.size = b := ⟨_, rfl⟩
  obtain ⟨vb, hvb⟩ : ∃ b, rb + 1 = b := ⟨_, rfl⟩
  have g1 := (h.allocRaw #[.int .i64 0, .int .i64 0, .int .i64 0, .int .i64 0, .slice none 0 0, .int .i64 0, .int .i64 0] 24).allocRaw #[.int .i64 0, .int .i64 0, .int .i64 0, .int .i64 0, .slice none 0 0, .int .i64 0, .int .i64 0] 24
  simp only [World.size_alloc, hrb, hvb] at g1
  obtain ⟨i0, hi0⟩ : ∃ i0, i = i0 := ⟨_, rfl⟩
  subst hi0
  have H := Lib.hid g1.p2
  have H1 := Lib.hid h1
  have H2 := Lib.hid h2
  have H3 := Lib.hid h3
  have H4 := Lib.hid h4
  have H5 := Lib.hid h5
  have H6 := Lib.hid h6
  have H7 := Lib.hid h7
  clear h g1 h1 h2 h3 h4 h5 h6 h7
  go_enter Try.func74, Try.ntmps74
  go_wp2_with (first
    | (go_at_call 72; (with_reducible refine (s_intV b i i1 p 8 H1.out H.out).mono ?_); rintro e_ wn ⟨rfl, h⟩; have f0 := h.p1.rawFree 0; have g0 := h.p1.rawCell 0; simp at g0; have h := (show St W0 (wn.setCell ⟨vb, 0, none⟩ (.int .i64 p)) K (.inp b i1 :: .raw vb #[.int .i64 p, .int .i64 0, .int .i64 0, .int .i64 0, .slice none 0 0, .int .i64 0, .int .i64 0] 24 :: .raw rb #[.int .i64 0, .int .i64 0, .int .i64 0, .int .i64 0, .slice none 0 0, .int .i64 0, .int .i64 0] 24 :: L) from (h.p1.rawSet 0 (.int .i64 p)).p1); replace H := Lib.hid h; clear h)
    | (go_at_call 72; (with_reducible refine (s_intV b i1 i2 e 2 H2.out H.out).mono ?_); rintro e_ wn ⟨rfl, h⟩; have f1 := h.p1.rawFree 1; have g1 := h.p1.rawCell 1; simp at g1; have h := (show St W0 (wn.setCell ⟨vb, 1, none⟩ (.int .i64 e)) K (.inp b i2 :: .raw vb #[.int .i64 p, .int .i64 e, .int .i64 0, .int .i64 0, .slice none 0 0, .int .i64 0, .int .i64 0] 24 :: .raw rb #[.int .i64 0, .int .i64 0, .int .i64 0, .int .i64 0, .slice none 0 0, .int .i64 0, .int .i64 0] 24 :: L) from (h.p1.rawSet 1 (.int .i64 e)).p1); replace H := Lib.hid h; clear h)
    | (go_at_call 72; (with_reducible refine (s_intV b i2 i3 t 4 H3.out H.out).mono ?_); rintro e_ wn ⟨rfl, h⟩; have f2 := h.p1.rawFree 2; have g2 := h.p1.rawCell 2; simp at g2; have h := (show St W0 (wn.setCell ⟨vb, 2, none⟩ (.int .i64 t)) K (.inp b i3 :: .raw vb #[.int .i64 p, .int .i64 e, .int .i64 t, .int .i64 0, .slice none 0 0, .int .i64 0, .int .i64 0] 24 :: .raw rb #[.int .i64 0, .int .i64 0, .int .i64 0, .int .i64 0, .slice none 0 0, .int .i64 0, .int .i64 0] 24 :: L) from (h.p1.rawSet 2 (.int .i64 t)).p1); replace H := Lib.hid h; clear h)
    | (go_at_call 72; (with_reducible refine (s_intV b i3 i4 s 1 H4.out H.out).mono ?_); rintro e_ wn ⟨rfl, h⟩; have f3 := h.p1.rawFree 3; have g3 := h.p1.rawCell 3; simp at g3; have h := (show St W0 (wn.setCell ⟨vb, 3, none⟩ (.int .i64 s)) K (.inp b i4 :: .raw vb #[.int .i64 p, .int .i64 e, .int .i64 t, .int .i64 s, .slice none 0 0, .int .i64 0, .int .i64 0] 24 :: .raw rb #[.int .i64 0, .int .i64 0, .int .i64 0, .int .i64 0, .slice none 0 0, .int .i64 0, .int .i64 0] 24 :: L) from (h.p1.rawSet 3 (.int .i64 s)).p1); replace H := Lib.hid h; clear h)
    | (go_at_call 25; (with_reducible refine (val_topics b i4 i5 l H5.out H.out).mono ?_); rintro e_ wn ⟨tv, lr, rfl, hlr, h⟩; obtain ⟨qt, capt, htv⟩ := tops_form (Know.has_right (Know.has_refl _)) h; subst htv; have HLR := Lib.hid hlr; clear hlr; have f4 := h.p1.rawFree 4; have g4 := h.p1.rawCell 4; simp at g4; have h := (show St W0 (wn.setCell ⟨vb, 4, none⟩ (.slice qt lr.length capt)) (K.and (Know.tops (.slice qt lr.length capt) lr)) (.inp b i5 :: .raw vb #[.int .i64 p, .int .i64 e, .int .i64 t, .int .i64 s, .slice qt lr.length capt, .int .i64 0, .int .i64 0] 24 :: .raw rb #[.int .i64 0, .int .i64 0, .int .i64 0, .int .i64 0, .slice none 0 0, .int .i64 0, .int .i64 0] 24 :: L) from (h.p1.rawSet 4 (.slice qt lr.length capt)).p1); replace H := Lib.hid h; clear h)
    | (go_at_call 72; (with_reducible refine (s_intV b i5 i6 u 8 H6.out H.out).mono ?_); rintro e_ wn ⟨rfl, h⟩; have f5 := h.p1.rawFree 5; have g5 := h.p1.rawCell 5; simp at g5; have h := (show St W0 (wn.setCell ⟨vb, 5, none⟩ (.int .i64 u)) (K.and (Know.tops (.slice qt lr.length capt) lr)) (.inp b i6 :: .raw vb #[.int .i64 p, .int .i64 e, .int .i64 t, .int .i64 s, .slice qt lr.length capt, .int .i64 u, .int .i64 0] 24 :: .raw rb #[.int .i64 0, .int .i64 0, .int .i64 0, .int .i64 0, .slice none 0 0, .int .i64 0, .int .i64 0] 24 :: L) from (h.p1.rawSet 5 (.int .i64 u)).p1); replace H := Lib.hid h; clear h)
    | (go_at_call 72; (with_reducible refine (s_intV b i6 i7 st 8 H7.out H.out).mono ?_); rintro e_ wn ⟨rfl, h⟩; have f6 := h.p1.rawFree 6; have g6 := h.p1.rawCell 6; simp at g6; have h := (show St W0 (wn.setCell ⟨vb, 6, none⟩ (.int .i64 st)) (K.and (Know.tops (.slice qt lr.length capt) lr)) (.inp b i7 :: .raw vb #[.int .i64 p, .int .i64 e, .int .i64 t, .int .i64 s, .slice qt lr.length capt, .int .i64 u, .int .i64 st] 24 :: .raw rb #[.int .i64 0, .int .i64 0, .int .i64 0, .int .i64 0, .slice none 0 0, .int .i64 0, .int .i64 0] 24 :: L) from (h.p1.rawSet 6 (.int .i64 st)).p1); have c0 := h.p1.rawCell 0; have c1 := h.p1.rawCell 1; have c2 := h.p1.rawCell 2; have c3 := h.p1.rawCell 3; have c4 := h.p1.rawCell 4; have c5 := h.p1.rawCell 5; have c6 := h.p1.rawCell 6; have d0 := h.p2.rawCell 0; have r0 := h.p2.rawFree 0; have d1 := h.p2.rawCell 1; have r1 := h.p2.rawFree 1; have d2 := h.p2.rawCell 2; have r2 := h.p2.rawFree 2; have d3 := h.p2.rawCell 3; have r3 := h.p2.rawFree 3; have d4 := h.p2.rawCell 4; have r4 := h.p2.rawFree 4; have d5 := h.p2.rawCell 5; have r5 := h.p2.rawFree 5; have d6 := h.p2.rawCell 6; have r6 := h.p2.rawFree 6; simp at c0 c1 c2 c3 c4 c5 c6 d0 d1 d2 d3 d4 d5 d6; replace H := Lib.hid h; clear h))
  have hz : St W0 _ _ (.raw rb #[.int .i64 p, .int .i64 e, .int .i64 t, .int .i64 s, .slice qt lr.length capt, .int .i64 u, .int .i64 st] 24 :: .inp b i7 :: .raw vb #[.int .i64 p, .int .i64 e, .int .i64 t, .int .i64 s, .slice qt lr.length capt, .int .i64 u, .int .i64 st] 24 :: L) := (((((((H.out.p2).rawSet 0 _).rawSet 1 _).rawSet 2 _).rawSet 3 _).rawSet 4 _).rawSet 5 _).rawSet 6 _
  refine bodyPost_ret (rc_cell_only rfl _ _ rb [.int .i64 p, .int .i64 e, .int .i64 t, .int .i64 s, .slice qt lr.length capt, .int .i64 u, .int .i64 st] _ rfl (rc_range hz) Try.underlying24 rfl (by kernel_rfl)) rfl ?_
  exact ⟨qt, capt, lr, rfl, HLR.out, hz.drop.p1.drop⟩

end Go.Proofs.Ytombolmicfjjpaa

/- Values, decoded. -/
namespace Go.Proofs.Ytombolmicfjjpaa
open Go.RowKit

theorem St.sets7 {W0 w : World} {K : Know} {L : List Res} {b : Nat} {T : TypeId} {a0 a1 a2 a3 a4 a5 a6 : Value} (v0 v1 v2 v3 v4 v5 v6 : Value) (h : St W0 w K (.raw b #[a0, a1, a2, a3, a4, a5, a6] T :: L)) : St W0 (((((((w.setCell ⟨b, 0, none⟩ v0).setCell ⟨b, 1, none⟩ v1).setCell ⟨b, 2, none⟩ v2).setCell ⟨b, 3, none⟩ v3).setCell ⟨b, 4, none⟩ v4).setCell ⟨b, 5, none⟩ v5).setCell ⟨b, 6, none⟩ v6) K (.raw b #[v0, v1, v2, v3, v4, v5, v6] T :: L) := by
  have h : St W0 _ K (.raw b #[v0, a1, a2, a3, a4, a5, a6] T :: L) := h.rawSet 0 v0
  have h : St W0 _ K (.raw b #[v0, v1, a2, a3, a4, a5, a6] T :: L) := h.rawSet 1 v1
  have h : St W0 _ K (.raw b #[v0, v1, v2, a3, a4, a5, a6] T :: L) := h.rawSet 2 v2
  have h : St W0 _ K (.raw b #[v0, v1, v2, v3, a4, a5, a6] T :: L) := h.rawSet 3 v3
  have h : St W0 _ K (.raw b #[v0, v1, v2, v3, v4, a5, a6] T :: L) := h.rawSet 4 v4
  have h : St W0 _ K (.raw b #[v0, v1, v2, v3, v4, v5, a6] T :: L) := h.rawSet 5 v5
  have h : St W0 _ K (.raw b #[v0, v1, v2, v3, v4, v5, v6] T :: L) := h.rawSet 6 v6
  exact h
theorem s_closeV (p : Nat) (i : InS) (e : Int) (hx : i.close.err = e) {W0 w : World} {K : Know} {L : List Res} (h : St W0 w K (.inp p i :: L)) :
    Calls Try.prog 34 #[inPtr p] w fun en w' => en = .returned (.int .i64 e) ∧ St W0 w' K (.inp p i.close :: L) := by
  subst hx; exact s_close p i h
set_option maxHeartbeats 12000000 in
set_option maxRecDepth 100000 in
theorem val_decode_ok (S : Bs) (hsl : S.length ≤ 1000000) (v : ValS) (hv : valDec S = (v, 0)) {W0 w : World} {K : Know} {L : List Res} (h : St W0 w K L) :
    Calls Try.prog 18 #[.string (bb S)] w fun en w' => ∃ (qt : Option Addr) (capt : Nat) (lr : List (TopS × Value)), en = .returned (.tuple #[.agg #[.int .i64 v.prod, .int .i64 v.epoch, .int .i64 v.timeout, .int .i64 v.state, .slice qt lr.length capt, .int .i64 v.upd, .int .i64 v.started], .int .i64 0]) ∧ lr.map (·.1) = v.tops ∧ St W0 w' (K.and (Know.tops (.slice qt lr.length capt) lr)) L := by
  obtain ⟨rb, hrb⟩ : ∃ b, w.heap.size = b := ⟨_, rfl⟩
  have g1 := h.allocRaw #[.int .i64 0, .int .i64 0, .int .i64 0, .int .i64 0, .slice none 0 0, .int .i64 0, .int .i64 0] 24
  rw [hrb] at g1
  have H := Lib.hid g1
  have HSL := Lib.hid (show S.length ≤ 140737488355328 by omega)
  obtain ⟨⟨a, j0⟩, ha⟩ : ∃ r, (⟨S, 0, 0⟩ : InS).int 2 = r := ⟨_, rfl⟩
  have HA := Lib.hid ha
  have hat := decI_at S
  obtain ⟨j, hj⟩ : ∃ j, decI S = j := ⟨_, rfl⟩
  have hjj : j = if a = 0 then j0 else j0.fail 7 := by rw [← hj]; unfold decI; rw [ha]
  obtain ⟨⟨p, i1⟩, h1⟩ : ∃ r, j.int 8 = r := ⟨_, rfl⟩
  obtain ⟨⟨e, i2⟩, h2⟩ : ∃ r, i1.int 2 = r := ⟨_, rfl⟩
  obtain ⟨⟨t, i3⟩, h3⟩ : ∃ r, i2.int 4 = r := ⟨_, rfl⟩
  obtain ⟨⟨s, i4⟩, h4⟩ : ∃ r, i3.int 1 = r := ⟨_, rfl⟩
  obtain ⟨⟨l, i5⟩, h5⟩ : ∃ r, i4.tops = r := ⟨_, rfl⟩
  obtain ⟨⟨u, i6⟩, h6⟩ : ∃ r, i5.int 8 = r := ⟨_, rfl⟩
  obtain ⟨⟨st, i7⟩, h7⟩ : ∃ r, i6.int 8 = r := ⟨_, rfl⟩
  have hF := valF_eq h1 h2 h3 h4 h5 h6 h7
  rw [hj] at hat
  have hfl := valF_few hat hsl
  rw [hF] at hfl
  have H1 := Lib.hid h1
  have H2 := Lib.hid h2
  have H3 := Lib.hid h3
  have H4 := Lib.hid h4
  have H5 := Lib.hid h5
  have H6 := Lib.hid h6
  have H7 := Lib.hid h7
  have HFL := Lib.hid (show FewL l from hfl)
  obtain ⟨ec, hec⟩ : ∃ ec, i7.close.err = ec := ⟨_, rfl⟩
  have HEC := Lib.hid hec
  have hde : decE S = ec := by unfold decE; rw [hj, hF]; exact hec
  obtain ⟨hb1, hb2, hb3⟩ := valDec_ok hv (.inr trivial)
  rw [hde] at hb1
  rw [hj, hF] at hb2
  have hdz := decE_zero (s := S) (by rw [hde]; exact hb1)
  rw [ha] at hdz
  have ha0 : a = 0 := hdz
  rw [if_pos ha0] at hjj
  have hb2 : (⟨p, e, t, s, l, u, st⟩ : ValS) = v := hb2
  subst hb2
  subst hjj
  subst ha0
  subst hb1
  have HE := Lib.hid hb3
  clear h g1 ha hat hj h1 h2 h3 h4 h5 h6 h7 hF hfl hec hde hdz hv hsl hb3
  go_enter Try.func18, Try.ntmps18
  go_wp2_with (first
    | (go_at_call 24; (with_reducible refine (s_new S HSL.out H.out).mono ?_); rintro e_ wn ⟨bi, rfl, h⟩; replace H := Lib.hid h; clear h)
    | (go_at_call 72; (with_reducible refine (s_intV bi _ _ _ 2 HA.out H.out).mono ?_); rintro e_ wn ⟨rfl, h⟩; replace H := Lib.hid h; clear h)
    | (go_at_call 74; (with_reducible refine (val_fields bi _ _ _ _ _ _ _ _ p e t s u st l H1.out H2.out H3.out H4.out H5.out H6.out H7.out H.out).mono ?_); rintro e_ wn ⟨qt, capt, lr, rfl, hlr, h⟩; obtain ⟨vb, hvb⟩ : ∃ b, wn.heap.size = b := ⟨_, rfl⟩; have h := h.allocRaw #[.int .i64 p, .int .i64 e, .int .i64 t, .int .i64 s, .slice qt lr.length capt, .int .i64 u, .int .i64 st] 24; rw [hvb] at h; have HLR := Lib.hid hlr; clear hlr; replace H := Lib.hid h; clear h)
    | (go_at_call 34; (with_reducible refine (s_closeV bi _ _ HEC.out H.out.p1).mono ?_); rintro e_ wn ⟨rfl, h⟩; have c0 := h.p1.rawCell 0; have c1 := h.p1.rawCell 1; have c2 := h.p1.rawCell 2; have c3 := h.p1.rawCell 3; have c4 := h.p1.rawCell 4; have c5 := h.p1.rawCell 5; have c6 := h.p1.rawCell 6; simp at c0 c1 c2 c3 c4 c5 c6; have d0 := h.p2.rawCell 0; have r0 := h.p2.rawFree 0; have d1 := h.p2.rawCell 1; have r1 := h.p2.rawFree 1; have d2 := h.p2.rawCell 2; have r2 := h.p2.rawFree 2; have d3 := h.p2.rawCell 3; have r3 := h.p2.rawFree 3; have d4 := h.p2.rawCell 4; have r4 := h.p2.rawFree 4; have d5 := h.p2.rawCell 5; have r5 := h.p2.rawFree 5; have d6 := h.p2.rawCell 6; have r6 := h.p2.rawFree 6; simp at d0 d1 d2 d3 d4 d5 d6; replace H := Lib.hid h; clear h)
    | (go_at_call 17; (with_reducible refine (val_checkV p e t s u st lr _ _ 0 (by rw [HLR.out]; exact HE.out) (fewT_of (by rw [HLR.out]; exact HFL.out)) (Know.has_right (Know.has_refl _)) H.out).mono ?_); rintro e_ wn ⟨rfl, h⟩; have c0 := h.p1.rawCell 0; have c1 := h.p1.rawCell 1; have c2 := h.p1.rawCell 2; have c3 := h.p1.rawCell 3; have c4 := h.p1.rawCell 4; have c5 := h.p1.rawCell 5; have c6 := h.p1.rawCell 6; simp at c0 c1 c2 c3 c4 c5 c6; have d0 := h.p2.rawCell 0; have r0 := h.p2.rawFree 0; have d1 := h.p2.rawCell 1; have r1 := h.p2.rawFree 1; have d2 := h.p2.rawCell 2; have r2 := h.p2.rawFree 2; have d3 := h.p2.rawCell 3; have r3 := h.p2.rawFree 3; have d4 := h.p2.rawCell 4; have r4 := h.p2.rawFree 4; have d5 := h.p2.rawCell 5; have r5 := h.p2.rawFree 5; have d6 := h.p2.rawCell 6; have r6 := h.p2.rawFree 6; simp at d0 d1 d2 d3 d4 d5 d6; replace H := Lib.hid h; clear h))
  have hz : St W0 _ _ (.raw rb #[.int .i64 p, .int .i64 e, .int .i64 t, .int .i64 s, .slice qt lr.length capt, .int .i64 u, .int .i64 st] 24 :: _) := St.sets7 _ _ _ _ _ _ _ (H.out.p2)
  refine bodyPost_ret (rc_cell_tmp rfl _ _ rb [.int .i64 p, .int .i64 e, .int .i64 t, .int .i64 s, .slice qt lr.length capt, .int .i64 u, .int .i64 st] _ rfl (rc_range hz) Try.underlying24 rfl (by kernel_rfl)) rfl ?_
  exact ⟨qt, capt, lr, rfl, HLR.out, hz.drop.drop.drop⟩

end Go.Proofs.Ytombolmicfjjpaa

/- How many topics are looked at. -/
namespace Go.Proofs.Ytombolmicfjjpaa
open Go.RowKit

set_option maxHeartbeats 2000000 in
set_option maxRecDepth 100000 in
theorem law14_few (l : List (TopS × Value)) (q : Option Addr) (cap : Nat) (hnl : l.length ≤ 140737488351232) (hb : ∀ x ∈ l, x.1.name.length ≤ 140737488351232 ∧ x.1.parts.length ≤ 17592186043904) (r : Int) (hr : few (l.map (·.1)) = r) {W0 w : World} {K : Know} {L : List Res} (hk : K.has (Know.tops (.slice q l.length cap) l)) (h : St W0 w K L) :
    Calls Try.prog 14 #[.slice q l.length cap] w fun en w' => en = .returned (.int .i64 r) ∧ St W0 w' K L := by
  have H := Lib.hid h
  have HK := Lib.hid hk
  have HR := Lib.hid hr
  have HB := Lib.hid hb
  clear h hk hr hb
  go_enter Try.func14, Try.ntmps14
  go_wp2
  go_loopw [3, 8] (fun sv iv wr => ∃ (k m : Nat), k ≤ l.length ∧ iv = .int .i64 k ∧ sv = .int .i64 m ∧ topWs ((l.map (·.1)).take k) = m ∧ m ≤ 1000 ∧ St W0 wr K L) (fun _ iv _ => l.length - (intOf iv).toNat)
  case atStart => exact ⟨0, 0, Nat.zero_le _, rfl, rfl, by simp [topWs], by omega, H.out⟩
  case round =>
    obtain ⟨k, m, hkl, rfl, rfl, hm, hm0, hst⟩ := hrel
    clear H
    have H := Lib.hid hst
    clear hst
    by_cases hlt : k < l.length
    · as_aux_lemma =>
      obtain ⟨b, off, hqq⟩ := tops_at HK.out H.out (by omega)
      subst hqq
      obtain ⟨⟨⟨nm, ps⟩, vx⟩, hx⟩ : ∃ x, l[k] = x := ⟨_, rfl⟩
      obtain ⟨c0, c1⟩ : wr.cell? ⟨b, off + k * 2, none⟩ = some (.string (bb nm)) ∧ wr.cell? ⟨b, off + k * 2 + 1, none⟩ = some vx := tops_cell HK.out H.out k hlt _ hx
      have hmem : ((⟨nm, ps⟩ : TopS), vx) ∈ l := hx ▸ List.getElem_mem hlt
      have hxk : K.has (Know.flat RI vx 1 ps) := tops_parts HK.out hmem
      obtain ⟨qx, capx, hvx⟩ := flat_form hxk H.out
      subst hvx
      have HXK := Lib.hid hxk
      have hmk : k < (l.map (·.1)).length := by rw [List.length_map]; exact hlt
      have hmg : (l.map (·.1))[k] = ⟨nm, ps⟩ := by rw [List.getElem_map, hx]
      have hkn : (k : Int) < (l.length : Int) := by omega
      obtain ⟨hn1, hn2⟩ := HB.out _ hmem
      replace hn1 : nm.length ≤ 140737488351232 := hn1
      replace hn2 : ps.length ≤ 17592186043904 := hn2
      have hst1 := topWs_take (l.map (·.1)) k hmk _ hmg
      rw [hm] at hst1
      replace hst1 : topWs ((l.map (·.1)).take (k + 1)) = m + (nm.length + 4 * ps.length + 6) := hst1
      have hlk := topWs_le (l.map (·.1)) (k + 1)
      obtain ⟨M, hM⟩ : ∃ M : Nat, m + (nm.length + 4 * ps.length + 6) = M := ⟨_, rfl⟩
      have hMi : (m : Int) + ((nm.length : Int) + 4 * (ps.length : Int) + 6) = (M : Int) := by omega
      have hm1 : (m : Int) ≤ 1000 := by omega
      have hMb : M ≤ 1000000000000000 := by omega
      rw [hM] at hst1
      by_cases hMl : M ≤ 1000
      · have g1 : ¬ (1000 < (m : Int) + ((nm.length : Int) + 4 * (ps.length : Int) + 6)) := by omega
        have HST := Lib.hid hst1
        have HMI := Lib.hid hMi
        have HML := Lib.hid hMl
        clear hst1 hx hmem hxk hmk hmg hm hM hMl hlk hm0 hMi hMb
        go_wp2
        go_roundw
        case rel => exact ⟨k + 1, M, hlt, by go_num, by rw [HMI.out], HST.out, HML.out, H.out.alloc _⟩
        case measure => first | (simp [intOf]; done) | (simp [intOf]; omega)
      · have g1 : 1000 < (m : Int) + ((nm.length : Int) + 4 * (ps.length : Int) + 6) := by omega
        have hz : r = 0 := by
          rw [← HR.out]; unfold few
          rw [if_neg (by omega)]
        subst hz
        have HMI := Lib.hid hMi
        clear hst1 hx hmem hxk hmk hmg hm hM hMl hlk hm0 hMi hMb
        go_wp2
        go_ret
        exact ⟨rfl, H.out.alloc _⟩
    · obtain rfl : k = l.length := by omega
      have hz : r = 1 := by
        rw [← HR.out]; unfold few
        rw [List.take_of_length_le (by rw [List.length_map]; exact Nat.le_refl _)] at hm
        rw [if_pos (by omega)]
      subst hz
      go_wp2
      go_ret
      exact ⟨rfl, H.out⟩

end Go.Proofs.Ytombolmicfjjpaa

/- The values of a transaction that did not begin. -/
namespace Go.Proofs.Ytombolmicfjjpaa
open Go.RowKit

theorem val_decode_okV (S : Bs) (hsl : S.length ≤ 1000000) (p e t s u st : Int) (tops : List TopS) (hv : valDec S = (⟨p, e, t, s, tops, u, st⟩, 0)) {W0 w : World} {K : Know} {L : List Res} (h : St W0 w K L) :
    Calls Try.prog 18 #[.string (bb S)] w fun en w' => ∃ (qt : Option Addr) (capt : Nat) (lr : List (TopS × Value)), en = .returned (.tuple #[.agg #[.int .i64 p, .int .i64 e, .int .i64 t, .int .i64 s, .slice qt lr.length capt, .int .i64 u, .int .i64 st], .int .i64 0]) ∧ lr.map (·.1) = tops ∧ St W0 w' (K.and (Know.tops (.slice qt lr.length capt) lr)) L := val_decode_ok S hsl ⟨p, e, t, s, tops, u, st⟩ hv h
def vz37 : Bs := ValS.enc ⟨0, 0, 0, 0, [], 0, -1⟩
theorem vz37_len : vz37.length = 37 := by kernel_rfl
theorem vz37_len2 : vz37.length ≤ 1000000 := by rw [vz37_len]; decide
theorem vz37_dec : valDec vz37 = (⟨0, 0, 0, 0, [], 0, -1⟩, 0) := by kernel_rfl
theorem few_nil : FewT [] := ⟨by decide, fun x hx => by cases hx⟩
theorem enc_z1 {W0 w : World} {K : Know} {L : List Res} (h : St W0 w K L) : Calls Try.prog 15 #[.agg #[.int .i64 0, .int .i64 0, .int .i64 0, .int .i64 0, .slice none 0 0, .int .i64 0, .int .i64 (-1)]] w fun en w' => en = .returned (.tuple #[.string (bb vz37), .int .i64 0]) ∧ St W0 w' K L := by
  have h2 : St W0 w (K.and (Know.tops (.slice none 0 0) [])) L := h.know (tops_nil K)
  refine (val_encode_ok 0 0 0 0 0 (-1) [] none 0 (by kernel_rfl) (by unfold ValS.R; exact ⟨by decide, by decide, by decide, by decide, by decide, by decide⟩) few_nil (Know.has_right (Know.has_refl _)) h2).mono ?_
  rintro e_ wn ⟨rfl, h3⟩
  exact ⟨rfl, h3.know (Know.has_left (Know.has_refl _))⟩
theorem enc_z2 {W0 w : World} {K : Know} {L : List Res} (h : St W0 w K L) : Calls Try.prog 15 #[.agg #[.int .i64 0, .int .i64 0, .int .i64 0, .int .i64 1, .slice none 0 0, .int .i64 0, .int .i64 0]] w fun en w' => en = .returned (.tuple #[.string ⟨#[]⟩, .int .i64 10]) ∧ St W0 w' K L := by
  have h2 : St W0 w (K.and (Know.tops (.slice none 0 0) [])) L := h.know (tops_nil K)
  refine (val_encode_bad 0 0 0 1 0 0 [] none 0 10 (by kernel_rfl) (by decide) few_nil (Know.has_right (Know.has_refl _)) h2).mono ?_
  rintro e_ wn ⟨rfl, h3⟩
  exact ⟨rfl, h3.know (Know.has_left (Know.has_refl _))⟩
set_option maxHeartbeats 1000000 in
set_option maxRecDepth 100000 in
theorem speaks14 {W0 w : World} {K : Know} {L : List Res} (h : St W0 w K L) :
    Calls Try.prog 13 #[] w fun en w' => en = .returned (.bool true) ∧ St W0 w' K L := by
  have H := Lib.hid h
  have hl := vz37_len
  clear h
  go_enter Try.func13, Try.ntmps13
  go_wp2_with (first
    | (go_at_call 15; (with_reducible refine (enc_z1 H.out).mono ?_); rintro e_ wn ⟨rfl, h⟩; replace H := Lib.hid h; clear h)
    | (go_at_call 15; (with_reducible refine (enc_z2 H.out).mono ?_); rintro e_ wn ⟨rfl, h⟩; have c6 := h.rawCell 6; simp at c6; replace H := Lib.hid h; clear h)
    | (go_at_call 18; (with_reducible refine (val_decode_okV vz37 vz37_len2 0 0 0 0 0 (-1) [] vz37_dec H.out).mono ?_); rintro e_ wn ⟨qt, capt, lr, rfl, hlr, h⟩; obtain ⟨vb, hvb⟩ : ∃ b, wn.heap.size = b := ⟨_, rfl⟩; have h := h.allocRaw #[.int .i64 0, .int .i64 0, .int .i64 0, .int .i64 0, .slice qt lr.length capt, .int .i64 0, .int .i64 (-1)] 24; rw [hvb] at h; replace H := Lib.hid h; clear h))
  go_ret
  exact ⟨rfl, H.out.drop.know (Know.has_left (Know.has_refl _))⟩

end Go.Proofs.Ytombolmicfjjpaa
