/- Values, read by definition: topics that are none. -/
import Derived.Test.YtombolmicfjjpaaGValueDecodes2
import Derived.Test.YtombolmicfjjpaaGValueDecodes4
import Derived.Test.YtombolmicfjjpaaGValueDecodes5
import Derived.Deep.RegionHeld3
import Derived.Deep.DeepCutAuto
/- Values, checked by definition: the ways. -/
namespace Go.Proofs.Ytombolmicfjjpaa
open Go.RowKit

theorem ref14_rise0 (q : Option Addr) (cap : Nat) (r : Bool) (hr : tRise (([] : List (TopS × Value)).map (·.1)) = r) (hf : FewT []) {W0 w : World} {K : Know} {L : List Res} (hk : K.has (Know.tops (.slice q 0 cap) [])) (h : St W0 w K L) :
    Calls Try.prog 45 #[.slice q 0 cap] w fun en w' => en = .returned (.bool r) ∧ St W0 w' K L := ref14_rise [] q cap r hr hf hk h

set_option maxHeartbeats 2000000 in
set_option maxRecDepth 100000 in
theorem rchk_11 (p e t s u st : Int) (l : List (TopS × Value)) (q : Option Addr) (cap : Nat) (hrg : (decide (0 ≤ p) && (decide (0 ≤ e) && (decide (e ≤ 32767) && (decide (0 ≤ t) && (decide (t ≤ 2147483647) && (decide (0 ≤ u) && decide (-1 ≤ st))))))) = false) (hf : FewT l) {W0 w : World} {K : Know} {L : List Res} (hk : K.has (Know.tops (.slice q l.length cap) l)) (h : St W0 w K L) :
    Calls Try.prog 16 #[.agg #[.int .i64 p, .int .i64 e, .int .i64 t, .int .i64 s, .slice q l.length cap, .int .i64 u, .int .i64 st]] w fun en w' => en = .returned (.int .i64 11) ∧ St W0 w' K L := by
  have HK := Lib.hid hk
  have HF := Lib.hid hf
  obtain ⟨vb, hvb⟩ : ∃ b, w.heap.size = b := ⟨_, rfl⟩
  have h1 := h.allocRaw #[.int .i64 p, .int .i64 e, .int .i64 t, .int .i64 s, .slice q l.length cap, .int .i64 u, .int .i64 st] 24
  rw [hvb] at h1
  have c0 := (h1).rawCell 0
  have c1 := (h1).rawCell 1
  have c2 := (h1).rawCell 2
  have c3 := (h1).rawCell 3
  have c4 := (h1).rawCell 4
  have c5 := (h1).rawCell 5
  have c6 := (h1).rawCell 6
  simp at c0 c1 c2 c3 c4 c5 c6
  have H := Lib.hid h1
  clear h h1 hk hf
  by_cases h0 : 0 ≤ p
  · have k0 : ¬ p < 0 := by omega
    by_cases h1 : 0 ≤ e
    · have k1 : ¬ e < 0 := by omega
      by_cases h2 : e ≤ 32767
      · have k2 : ¬ 32767 < e := by omega
        by_cases h3 : 0 ≤ t
        · have k3 : ¬ t < 0 := by omega
          by_cases h4 : t ≤ 2147483647
          · have k4 : ¬ 2147483647 < t := by omega
            by_cases h5 : 0 ≤ u
            · have k5 : ¬ u < 0 := by omega
              by_cases h6 : -1 ≤ st
              · have k6 : ¬ st < -1 := by omega
                exact absurd hrg (by simp [h0, h1, h2, h3, h4, h5, h6])
              · as_aux_lemma =>
                have k6 : st < -1 := by omega
                clear hrg
                go_enter Try.func16, Try.ntmps16
                go_wp2
                go_ret
                exact ⟨rfl, H.out.drop⟩
            · as_aux_lemma =>
              have k5 : u < 0 := by omega
              clear hrg
              go_enter Try.func16, Try.ntmps16
              go_wp2
              go_ret
              exact ⟨rfl, H.out.drop⟩
          · as_aux_lemma =>
            have k4 : 2147483647 < t := by omega
            clear hrg
            go_enter Try.func16, Try.ntmps16
            go_wp2
            go_ret
            exact ⟨rfl, H.out.drop⟩
        · as_aux_lemma =>
          have k3 : t < 0 := by omega
          clear hrg
          go_enter Try.func16, Try.ntmps16
          go_wp2
          go_ret
          exact ⟨rfl, H.out.drop⟩
      · as_aux_lemma =>
        have k2 : 32767 < e := by omega
        clear hrg
        go_enter Try.func16, Try.ntmps16
        go_wp2
        go_ret
        exact ⟨rfl, H.out.drop⟩
    · as_aux_lemma =>
      have k1 : e < 0 := by omega
      clear hrg
      go_enter Try.func16, Try.ntmps16
      go_wp2
      go_ret
      exact ⟨rfl, H.out.drop⟩
  · as_aux_lemma =>
    have k0 : p < 0 := by omega
    clear hrg
    go_enter Try.func16, Try.ntmps16
    go_wp2
    go_ret
    exact ⟨rfl, H.out.drop⟩

set_option maxHeartbeats 2000000 in
set_option maxRecDepth 100000 in
theorem rchk_12 (p e t s u st : Int) (l : List (TopS × Value)) (q : Option Addr) (cap : Nat) (h0 : 0 ≤ p) (h1 : 0 ≤ e) (h2 : e ≤ 32767) (h3 : 0 ≤ t) (h4 : t ≤ 2147483647) (h5 : 0 ≤ u) (h6 : -1 ≤ st) (hs : s < 0 ∨ 7 ≤ s) (hf : FewT l) {W0 w : World} {K : Know} {L : List Res} (hk : K.has (Know.tops (.slice q l.length cap) l)) (h : St W0 w K L) :
    Calls Try.prog 16 #[.agg #[.int .i64 p, .int .i64 e, .int .i64 t, .int .i64 s, .slice q l.length cap, .int .i64 u, .int .i64 st]] w fun en w' => en = .returned (.int .i64 12) ∧ St W0 w' K L := by
  have HK := Lib.hid hk
  have HF := Lib.hid hf
  obtain ⟨vb, hvb⟩ : ∃ b, w.heap.size = b := ⟨_, rfl⟩
  have h1 := h.allocRaw #[.int .i64 p, .int .i64 e, .int .i64 t, .int .i64 s, .slice q l.length cap, .int .i64 u, .int .i64 st] 24
  rw [hvb] at h1
  have c0 := (h1).rawCell 0
  have c1 := (h1).rawCell 1
  have c2 := (h1).rawCell 2
  have c3 := (h1).rawCell 3
  have c4 := (h1).rawCell 4
  have c5 := (h1).rawCell 5
  have c6 := (h1).rawCell 6
  simp at c0 c1 c2 c3 c4 c5 c6
  have H := Lib.hid h1
  clear h h1 hk hf
  have k0 : ¬ p < 0 := by omega
  have k1 : ¬ e < 0 := by omega
  have k2 : ¬ 32767 < e := by omega
  have k3 : ¬ t < 0 := by omega
  have k4 : ¬ 2147483647 < t := by omega
  have k5 : ¬ u < 0 := by omega
  have k6 : ¬ st < -1 := by omega
  rcases hs with hs | hs
  · as_aux_lemma =>
    go_enter Try.func16, Try.ntmps16
    go_wp2
    go_ret
    exact ⟨rfl, H.out.drop⟩
  · as_aux_lemma =>
    have s1 : ¬ s < 0 := by omega
    have s2 : 6 < s := by omega
    go_enter Try.func16, Try.ntmps16
    go_wp2
    go_ret
    exact ⟨rfl, H.out.drop⟩

set_option maxHeartbeats 2000000 in
set_option maxRecDepth 100000 in
theorem rchk_0f (p e t s u st : Int) (l : List (TopS × Value)) (q : Option Addr) (cap : Nat) (h0 : 0 ≤ p) (h1 : 0 ≤ e) (h2 : e ≤ 32767) (h3 : 0 ≤ t) (h4 : t ≤ 2147483647) (h5 : 0 ≤ u) (h6 : -1 ≤ st) (hs : s = 0) (hem : ¬ l = []) (hf : FewT l) {W0 w : World} {K : Know} {L : List Res} (hk : K.has (Know.tops (.slice q l.length cap) l)) (h : St W0 w K L) :
    Calls Try.prog 16 #[.agg #[.int .i64 p, .int .i64 e, .int .i64 t, .int .i64 s, .slice q l.length cap, .int .i64 u, .int .i64 st]] w fun en w' => en = .returned (.int .i64 10) ∧ St W0 w' K L := by
  have HK := Lib.hid hk
  have HF := Lib.hid hf
  obtain ⟨vb, hvb⟩ : ∃ b, w.heap.size = b := ⟨_, rfl⟩
  have h1 := h.allocRaw #[.int .i64 p, .int .i64 e, .int .i64 t, .int .i64 s, .slice q l.length cap, .int .i64 u, .int .i64 st] 24
  rw [hvb] at h1
  have c0 := (h1).rawCell 0
  have c1 := (h1).rawCell 1
  have c2 := (h1).rawCell 2
  have c3 := (h1).rawCell 3
  have c4 := (h1).rawCell 4
  have c5 := (h1).rawCell 5
  have c6 := (h1).rawCell 6
  simp at c0 c1 c2 c3 c4 c5 c6
  have H := Lib.hid h1
  clear h h1 hk hf
  have k0 : ¬ p < 0 := by omega
  have k1 : ¬ e < 0 := by omega
  have k2 : ¬ 32767 < e := by omega
  have k3 : ¬ t < 0 := by omega
  have k4 : ¬ 2147483647 < t := by omega
  have k5 : ¬ u < 0 := by omega
  have k6 : ¬ st < -1 := by omega
  subst hs
  have hl0 : ((l.length : Int) == 0) = false := by rw [beq_eq_false_iff_ne]; intro h; exact hem (List.length_eq_zero_iff.1 (by omega))
  have hl1 : 0 < l.length := List.length_pos_iff.2 hem
  have hl2 : decide ((0 : Int) < (l.length : Int)) = true := decide_eq_true (by omega)
  go_enter Try.func16, Try.ntmps16
  go_wp2
  go_ret
  exact ⟨rfl, H.out.drop⟩

set_option maxHeartbeats 2000000 in
set_option maxRecDepth 100000 in
theorem rchk_0e0 (p e t s u st : Int) (q : Option Addr) (cap : Nat) (h0 : 0 ≤ p) (h1 : 0 ≤ e) (h2 : e ≤ 32767) (h3 : 0 ≤ t) (h4 : t ≤ 2147483647) (h5 : 0 ≤ u) (h6 : -1 ≤ st) (hs : s = 0) (hb : ¬ st = -1) (hf : FewT []) {W0 w : World} {K : Know} {L : List Res} (hk : K.has (Know.tops (.slice q 0 cap) [])) (h : St W0 w K L) :
    Calls Try.prog 16 #[.agg #[.int .i64 p, .int .i64 e, .int .i64 t, .int .i64 s, .slice q 0 cap, .int .i64 u, .int .i64 st]] w fun en w' => en = .returned (.int .i64 10) ∧ St W0 w' K L := by
  have HK := Lib.hid hk
  have HF := Lib.hid hf
  obtain ⟨vb, hvb⟩ : ∃ b, w.heap.size = b := ⟨_, rfl⟩
  have h1 := h.allocRaw #[.int .i64 p, .int .i64 e, .int .i64 t, .int .i64 s, .slice q 0 cap, .int .i64 u, .int .i64 st] 24
  rw [hvb] at h1
  have c0 := (h1).rawCell 0
  have c1 := (h1).rawCell 1
  have c2 := (h1).rawCell 2
  have c3 := (h1).rawCell 3
  have c4 := (h1).rawCell 4
  have c5 := (h1).rawCell 5
  have c6 := (h1).rawCell 6
  simp at c0 c1 c2 c3 c4 c5 c6
  have H := Lib.hid h1
  clear h h1 hk hf
  have k0 : ¬ p < 0 := by omega
  have k1 : ¬ e < 0 := by omega
  have k2 : ¬ 32767 < e := by omega
  have k3 : ¬ t < 0 := by omega
  have k4 : ¬ 2147483647 < t := by omega
  have k5 : ¬ u < 0 := by omega
  have k6 : ¬ st < -1 := by omega
  subst hs
  have sb : (st == -1) = false := by rw [beq_eq_false_iff_ne]; exact hb
  have sb2 : (st != -1) = true := by simp [bne, sb]
  go_enter Try.func16, Try.ntmps16
  go_wp2
  go_ret
  exact ⟨rfl, H.out.drop⟩

set_option maxHeartbeats 2000000 in
set_option maxRecDepth 100000 in
theorem rchk_0e1 (p e t s u st : Int) (q : Option Addr) (cap : Nat) (h0 : 0 ≤ p) (h1 : 0 ≤ e) (h2 : e ≤ 32767) (h3 : 0 ≤ t) (h4 : t ≤ 2147483647) (h5 : 0 ≤ u) (h6 : -1 ≤ st) (hs : s = 0) (hb : st = -1) (htr : tRise (([] : List (TopS × Value)).map (·.1)) = true) (hf : FewT []) {W0 w : World} {K : Know} {L : List Res} (hk : K.has (Know.tops (.slice q 0 cap) [])) (h : St W0 w K L) :
    Calls Try.prog 16 #[.agg #[.int .i64 p, .int .i64 e, .int .i64 t, .int .i64 s, .slice q 0 cap, .int .i64 u, .int .i64 st]] w fun en w' => en = .returned (.int .i64 0) ∧ St W0 w' K L := by
  have HK := Lib.hid hk
  have HF := Lib.hid hf
  obtain ⟨vb, hvb⟩ : ∃ b, w.heap.size = b := ⟨_, rfl⟩
  have h1 := h.allocRaw #[.int .i64 p, .int .i64 e, .int .i64 t, .int .i64 s, .slice q 0 cap, .int .i64 u, .int .i64 st] 24
  rw [hvb] at h1
  have c0 := (h1).rawCell 0
  have c1 := (h1).rawCell 1
  have c2 := (h1).rawCell 2
  have c3 := (h1).rawCell 3
  have c4 := (h1).rawCell 4
  have c5 := (h1).rawCell 5
  have c6 := (h1).rawCell 6
  simp at c0 c1 c2 c3 c4 c5 c6
  have H := Lib.hid h1
  clear h h1 hk hf
  have k0 : ¬ p < 0 := by omega
  have k1 : ¬ e < 0 := by omega
  have k2 : ¬ 32767 < e := by omega
  have k3 : ¬ t < 0 := by omega
  have k4 : ¬ 2147483647 < t := by omega
  have k5 : ¬ u < 0 := by omega
  have k6 : ¬ st < -1 := by omega
  have HTR := Lib.hid htr
  clear htr
  subst hs
  subst hb
  go_enter Try.func16, Try.ntmps16
  go_wp2_with (go_at_call 45; (with_reducible refine (ref14_rise0 _ _ true HTR.out HF.out HK.out H.out).mono ?_); rintro e_ wn ⟨rfl, h⟩; replace H := Lib.hid h; clear h)
  go_ret
  exact ⟨rfl, H.out.drop⟩

set_option maxHeartbeats 2000000 in
set_option maxRecDepth 100000 in
theorem rchk_me (p e t s u st : Int) (q : Option Addr) (cap : Nat) (h0 : 0 ≤ p) (h1 : 0 ≤ e) (h2 : e ≤ 32767) (h3 : 0 ≤ t) (h4 : t ≤ 2147483647) (h5 : 0 ≤ u) (h6 : -1 ≤ st) (hs : 1 ≤ s) (hs2 : s ≤ 3) (hf : FewT []) {W0 w : World} {K : Know} {L : List Res} (hk : K.has (Know.tops (.slice q 0 cap) [])) (h : St W0 w K L) :
    Calls Try.prog 16 #[.agg #[.int .i64 p, .int .i64 e, .int .i64 t, .int .i64 s, .slice q 0 cap, .int .i64 u, .int .i64 st]] w fun en w' => en = .returned (.int .i64 10) ∧ St W0 w' K L := by
  have HK := Lib.hid hk
  have HF := Lib.hid hf
  obtain ⟨vb, hvb⟩ : ∃ b, w.heap.size = b := ⟨_, rfl⟩
  have h1 := h.allocRaw #[.int .i64 p, .int .i64 e, .int .i64 t, .int .i64 s, .slice q 0 cap, .int .i64 u, .int .i64 st] 24
  rw [hvb] at h1
  have c0 := (h1).rawCell 0
  have c1 := (h1).rawCell 1
  have c2 := (h1).rawCell 2
  have c3 := (h1).rawCell 3
  have c4 := (h1).rawCell 4
  have c5 := (h1).rawCell 5
  have c6 := (h1).rawCell 6
  simp at c0 c1 c2 c3 c4 c5 c6
  have H := Lib.hid h1
  clear h h1 hk hf
  have k0 : ¬ p < 0 := by omega
  have k1 : ¬ e < 0 := by omega
  have k2 : ¬ 32767 < e := by omega
  have k3 : ¬ t < 0 := by omega
  have k4 : ¬ 2147483647 < t := by omega
  have k5 : ¬ u < 0 := by omega
  have k6 : ¬ st < -1 := by omega
  have s1 : ¬ s < 0 := by omega
  have s2 : ¬ 6 < s := by omega
  have s3 : 1 ≤ s := by omega
  have s4 : 0 < s := by omega
  have s5 : (s == 0) = false := by rw [beq_eq_false_iff_ne]; omega
  have s6 : s ≤ 3 := by omega
  go_enter Try.func16, Try.ntmps16
  go_wp2
  go_ret
  exact ⟨rfl, H.out.drop⟩

set_option maxHeartbeats 2000000 in
set_option maxRecDepth 100000 in
theorem rchk_mf1 (p e t s u st : Int) (l : List (TopS × Value)) (q : Option Addr) (cap : Nat) (h0 : 0 ≤ p) (h1 : 0 ≤ e) (h2 : e ≤ 32767) (h3 : 0 ≤ t) (h4 : t ≤ 2147483647) (h5 : 0 ≤ u) (h6 : -1 ≤ st) (hs : 1 ≤ s) (hs2 : s ≤ 3) (hem : ¬ l = []) (hb : st = -1) (hf : FewT l) {W0 w : World} {K : Know} {L : List Res} (hk : K.has (Know.tops (.slice q l.length cap) l)) (h : St W0 w K L) :
    Calls Try.prog 16 #[.agg #[.int .i64 p, .int .i64 e, .int .i64 t, .int .i64 s, .slice q l.length cap, .int .i64 u, .int .i64 st]] w fun en w' => en = .returned (.int .i64 10) ∧ St W0 w' K L := by
  have HK := Lib.hid hk
  have HF := Lib.hid hf
  obtain ⟨vb, hvb⟩ : ∃ b, w.heap.size = b := ⟨_, rfl⟩
  have h1 := h.allocRaw #[.int .i64 p, .int .i64 e, .int .i64 t, .int .i64 s, .slice q l.length cap, .int .i64 u, .int .i64 st] 24
  rw [hvb] at h1
  have c0 := (h1).rawCell 0
  have c1 := (h1).rawCell 1
  have c2 := (h1).rawCell 2
  have c3 := (h1).rawCell 3
  have c4 := (h1).rawCell 4
  have c5 := (h1).rawCell 5
  have c6 := (h1).rawCell 6
  simp at c0 c1 c2 c3 c4 c5 c6
  have H := Lib.hid h1
  clear h h1 hk hf
  have k0 : ¬ p < 0 := by omega
  have k1 : ¬ e < 0 := by omega
  have k2 : ¬ 32767 < e := by omega
  have k3 : ¬ t < 0 := by omega
  have k4 : ¬ 2147483647 < t := by omega
  have k5 : ¬ u < 0 := by omega
  have k6 : ¬ st < -1 := by omega
  have s1 : ¬ s < 0 := by omega
  have s2 : ¬ 6 < s := by omega
  have s3 : 1 ≤ s := by omega
  have s4 : 0 < s := by omega
  have s5 : (s == 0) = false := by rw [beq_eq_false_iff_ne]; omega
  have s6 : s ≤ 3 := by omega
  have hl0 : ((l.length : Int) == 0) = false := by rw [beq_eq_false_iff_ne]; intro h; exact hem (List.length_eq_zero_iff.1 (by omega))
  have hl1 : 0 < l.length := List.length_pos_iff.2 hem
  have hl2 : decide ((0 : Int) < (l.length : Int)) = true := decide_eq_true (by omega)
  subst hb
  go_enter Try.func16, Try.ntmps16
  go_wp2
  go_ret
  exact ⟨rfl, H.out.drop⟩

set_option maxHeartbeats 2000000 in
set_option maxRecDepth 100000 in
theorem rchk_mft (p e t s u st : Int) (l : List (TopS × Value)) (q : Option Addr) (cap : Nat) (h0 : 0 ≤ p) (h1 : 0 ≤ e) (h2 : e ≤ 32767) (h3 : 0 ≤ t) (h4 : t ≤ 2147483647) (h5 : 0 ≤ u) (h6 : -1 ≤ st) (hs : 1 ≤ s) (hs2 : s ≤ 3) (hem : ¬ l = []) (hb : ¬ st = -1) (htr : tRise (l.map (·.1)) = true) (hf : FewT l) {W0 w : World} {K : Know} {L : List Res} (hk : K.has (Know.tops (.slice q l.length cap) l)) (h : St W0 w K L) :
    Calls Try.prog 16 #[.agg #[.int .i64 p, .int .i64 e, .int .i64 t, .int .i64 s, .slice q l.length cap, .int .i64 u, .int .i64 st]] w fun en w' => en = .returned (.int .i64 0) ∧ St W0 w' K L := by
  have HK := Lib.hid hk
  have HF := Lib.hid hf
  obtain ⟨vb, hvb⟩ : ∃ b, w.heap.size = b := ⟨_, rfl⟩
  have h1 := h.allocRaw #[.int .i64 p, .int .i64 e, .int .i64 t, .int .i64 s, .slice q l.length cap, .int .i64 u, .int .i64 st] 24
  rw [hvb] at h1
  have c0 := (h1).rawCell 0
  have c1 := (h1).rawCell 1
  have c2 := (h1).rawCell 2
  have c3 := (h1).rawCell 3
  have c4 := (h1).rawCell 4
  have c5 := (h1).rawCell 5
  have c6 := (h1).rawCell 6
  simp at c0 c1 c2 c3 c4 c5 c6
  have H := Lib.hid h1
  clear h h1 hk hf
  have k0 : ¬ p < 0 := by omega
  have k1 : ¬ e < 0 := by omega
  have k2 : ¬ 32767 < e := by omega
  have k3 : ¬ t < 0 := by omega
  have k4 : ¬ 2147483647 < t := by omega
  have k5 : ¬ u < 0 := by omega
  have k6 : ¬ st < -1 := by omega
  have HTR := Lib.hid htr
  clear htr
  have s1 : ¬ s < 0 := by omega
  have s2 : ¬ 6 < s := by omega
  have s3 : 1 ≤ s := by omega
  have s4 : 0 < s := by omega
  have s5 : (s == 0) = false := by rw [beq_eq_false_iff_ne]; omega
  have s6 : s ≤ 3 := by omega
  have hl0 : ((l.length : Int) == 0) = false := by rw [beq_eq_false_iff_ne]; intro h; exact hem (List.length_eq_zero_iff.1 (by omega))
  have hl1 : 0 < l.length := List.length_pos_iff.2 hem
  have hl2 : decide ((0 : Int) < (l.length : Int)) = true := decide_eq_true (by omega)
  have sb : (st == -1) = false := by rw [beq_eq_false_iff_ne]; exact hb
  have sb2 : (st != -1) = true := by simp [bne, sb]
  go_enter Try.func16, Try.ntmps16
  go_wp2_with (go_at_call 45; (with_reducible refine (ref14_rise l _ _ true HTR.out HF.out HK.out H.out).mono ?_); rintro e_ wn ⟨rfl, h⟩; replace H := Lib.hid h; clear h)
  go_ret
  exact ⟨rfl, H.out.drop⟩

set_option maxHeartbeats 2000000 in
set_option maxRecDepth 100000 in
theorem rchk_mfb (p e t s u st : Int) (l : List (TopS × Value)) (q : Option Addr) (cap : Nat) (h0 : 0 ≤ p) (h1 : 0 ≤ e) (h2 : e ≤ 32767) (h3 : 0 ≤ t) (h4 : t ≤ 2147483647) (h5 : 0 ≤ u) (h6 : -1 ≤ st) (hs : 1 ≤ s) (hs2 : s ≤ 3) (hem : ¬ l = []) (hb : ¬ st = -1) (htr : tRise (l.map (·.1)) = false) (hf : FewT l) {W0 w : World} {K : Know} {L : List Res} (hk : K.has (Know.tops (.slice q l.length cap) l)) (h : St W0 w K L) :
    Calls Try.prog 16 #[.agg #[.int .i64 p, .int .i64 e, .int .i64 t, .int .i64 s, .slice q l.length cap, .int .i64 u, .int .i64 st]] w fun en w' => en = .returned (.int .i64 13) ∧ St W0 w' K L := by
  have HK := Lib.hid hk
  have HF := Lib.hid hf
  obtain ⟨vb, hvb⟩ : ∃ b, w.heap.size = b := ⟨_, rfl⟩
  have h1 := h.allocRaw #[.int .i64 p, .int .i64 e, .int .i64 t, .int .i64 s, .slice q l.length cap, .int .i64 u, .int .i64 st] 24
  rw [hvb] at h1
  have c0 := (h1).rawCell 0
  have c1 := (h1).rawCell 1
  have c2 := (h1).rawCell 2
  have c3 := (h1).rawCell 3
  have c4 := (h1).rawCell 4
  have c5 := (h1).rawCell 5
  have c6 := (h1).rawCell 6
  simp at c0 c1 c2 c3 c4 c5 c6
  have H := Lib.hid h1
  clear h h1 hk hf
  have k0 : ¬ p < 0 := by omega
  have k1 : ¬ e < 0 := by omega
  have k2 : ¬ 32767 < e := by omega
  have k3 : ¬ t < 0 := by omega
  have k4 : ¬ 2147483647 < t := by omega
  have k5 : ¬ u < 0 := by omega
  have k6 : ¬ st < -1 := by omega
  have HTR := Lib.hid htr
  clear htr
  have s1 : ¬ s < 0 := by omega
  have s2 : ¬ 6 < s := by omega
  have s3 : 1 ≤ s := by omega
  have s4 : 0 < s := by omega
  have s5 : (s == 0) = false := by rw [beq_eq_false_iff_ne]; omega
  have s6 : s ≤ 3 := by omega
  have hl0 : ((l.length : Int) == 0) = false := by rw [beq_eq_false_iff_ne]; intro h; exact hem (List.length_eq_zero_iff.1 (by omega))
  have hl1 : 0 < l.length := List.length_pos_iff.2 hem
  have hl2 : decide ((0 : Int) < (l.length : Int)) = true := decide_eq_true (by omega)
  have sb : (st == -1) = false := by rw [beq_eq_false_iff_ne]; exact hb
  have sb2 : (st != -1) = true := by simp [bne, sb]
  go_enter Try.func16, Try.ntmps16
  go_wp2_with (go_at_call 45; (with_reducible refine (ref14_rise l _ _ false HTR.out HF.out HK.out H.out).mono ?_); rintro e_ wn ⟨rfl, h⟩; replace H := Lib.hid h; clear h)
  go_ret
  exact ⟨rfl, H.out.drop⟩

set_option maxHeartbeats 2000000 in
set_option maxRecDepth 100000 in
theorem rchk_hf (p e t s u st : Int) (l : List (TopS × Value)) (q : Option Addr) (cap : Nat) (h0 : 0 ≤ p) (h1 : 0 ≤ e) (h2 : e ≤ 32767) (h3 : 0 ≤ t) (h4 : t ≤ 2147483647) (h5 : 0 ≤ u) (h6 : -1 ≤ st) (hs : 4 ≤ s) (hs2 : s ≤ 6) (hem : ¬ l = []) (hf : FewT l) {W0 w : World} {K : Know} {L : List Res} (hk : K.has (Know.tops (.slice q l.length cap) l)) (h : St W0 w K L) :
    Calls Try.prog 16 #[.agg #[.int .i64 p, .int .i64 e, .int .i64 t, .int .i64 s, .slice q l.length cap, .int .i64 u, .int .i64 st]] w fun en w' => en = .returned (.int .i64 10) ∧ St W0 w' K L := by
  have HK := Lib.hid hk
  have HF := Lib.hid hf
  obtain ⟨vb, hvb⟩ : ∃ b, w.heap.size = b := ⟨_, rfl⟩
  have h1 := h.allocRaw #[.int .i64 p, .int .i64 e, .int .i64 t, .int .i64 s, .slice q l.length cap, .int .i64 u, .int .i64 st] 24
  rw [hvb] at h1
  have c0 := (h1).rawCell 0
  have c1 := (h1).rawCell 1
  have c2 := (h1).rawCell 2
  have c3 := (h1).rawCell 3
  have c4 := (h1).rawCell 4
  have c5 := (h1).rawCell 5
  have c6 := (h1).rawCell 6
  simp at c0 c1 c2 c3 c4 c5 c6
  have H := Lib.hid h1
  clear h h1 hk hf
  have k0 : ¬ p < 0 := by omega
  have k1 : ¬ e < 0 := by omega
  have k2 : ¬ 32767 < e := by omega
  have k3 : ¬ t < 0 := by omega
  have k4 : ¬ 2147483647 < t := by omega
  have k5 : ¬ u < 0 := by omega
  have k6 : ¬ st < -1 := by omega
  have s1 : ¬ s < 0 := by omega
  have s2 : ¬ 6 < s := by omega
  have s3 : 1 ≤ s := by omega
  have s4 : 0 < s := by omega
  have s5 : (s == 0) = false := by rw [beq_eq_false_iff_ne]; omega
  have s6 : ¬ s ≤ 3 := by omega
  have hl0 : ((l.length : Int) == 0) = false := by rw [beq_eq_false_iff_ne]; intro h; exact hem (List.length_eq_zero_iff.1 (by omega))
  have hl1 : 0 < l.length := List.length_pos_iff.2 hem
  have hl2 : decide ((0 : Int) < (l.length : Int)) = true := decide_eq_true (by omega)
  go_enter Try.func16, Try.ntmps16
  go_wp2
  go_ret
  exact ⟨rfl, H.out.drop⟩

set_option maxHeartbeats 2000000 in
set_option maxRecDepth 100000 in
theorem rchk_he1 (p e t s u st : Int) (q : Option Addr) (cap : Nat) (h0 : 0 ≤ p) (h1 : 0 ≤ e) (h2 : e ≤ 32767) (h3 : 0 ≤ t) (h4 : t ≤ 2147483647) (h5 : 0 ≤ u) (h6 : -1 ≤ st) (hs : 4 ≤ s) (hs2 : s ≤ 6) (hb : st = -1) (hf : FewT []) {W0 w : World} {K : Know} {L : List Res} (hk : K.has (Know.tops (.slice q 0 cap) [])) (h : St W0 w K L) :
    Calls Try.prog 16 #[.agg #[.int .i64 p, .int .i64 e, .int .i64 t, .int .i64 s, .slice q 0 cap, .int .i64 u, .int .i64 st]] w fun en w' => en = .returned (.int .i64 10) ∧ St W0 w' K L := by
  have HK := Lib.hid hk
  have HF := Lib.hid hf
  obtain ⟨vb, hvb⟩ : ∃ b, w.heap.size = b := ⟨_, rfl⟩
  have h1 := h.allocRaw #[.int .i64 p, .int .i64 e, .int .i64 t, .int .i64 s, .slice q 0 cap, .int .i64 u, .int .i64 st] 24
  rw [hvb] at h1
  have c0 := (h1).rawCell 0
  have c1 := (h1).rawCell 1
  have c2 := (h1).rawCell 2
  have c3 := (h1).rawCell 3
  have c4 := (h1).rawCell 4
  have c5 := (h1).rawCell 5
  have c6 := (h1).rawCell 6
  simp at c0 c1 c2 c3 c4 c5 c6
  have H := Lib.hid h1
  clear h h1 hk hf
  have k0 : ¬ p < 0 := by omega
  have k1 : ¬ e < 0 := by omega
  have k2 : ¬ 32767 < e := by omega
  have k3 : ¬ t < 0 := by omega
  have k4 : ¬ 2147483647 < t := by omega
  have k5 : ¬ u < 0 := by omega
  have k6 : ¬ st < -1 := by omega
  have s1 : ¬ s < 0 := by omega
  have s2 : ¬ 6 < s := by omega
  have s3 : 1 ≤ s := by omega
  have s4 : 0 < s := by omega
  have s5 : (s == 0) = false := by rw [beq_eq_false_iff_ne]; omega
  have s6 : ¬ s ≤ 3 := by omega
  subst hb
  go_enter Try.func16, Try.ntmps16
  go_wp2
  go_ret
  exact ⟨rfl, H.out.drop⟩

set_option maxHeartbeats 2000000 in
set_option maxRecDepth 100000 in
theorem rchk_he0 (p e t s u st : Int) (q : Option Addr) (cap : Nat) (h0 : 0 ≤ p) (h1 : 0 ≤ e) (h2 : e ≤ 32767) (h3 : 0 ≤ t) (h4 : t ≤ 2147483647) (h5 : 0 ≤ u) (h6 : -1 ≤ st) (hs : 4 ≤ s) (hs2 : s ≤ 6) (hb : ¬ st = -1) (htr : tRise (([] : List (TopS × Value)).map (·.1)) = true) (hf : FewT []) {W0 w : World} {K : Know} {L : List Res} (hk : K.has (Know.tops (.slice q 0 cap) [])) (h : St W0 w K L) :
    Calls Try.prog 16 #[.agg #[.int .i64 p, .int .i64 e, .int .i64 t, .int .i64 s, .slice q 0 cap, .int .i64 u, .int .i64 st]] w fun en w' => en = .returned (.int .i64 0) ∧ St W0 w' K L := by
  have HK := Lib.hid hk
  have HF := Lib.hid hf
  obtain ⟨vb, hvb⟩ : ∃ b, w.heap.size = b := ⟨_, rfl⟩
  have h1 := h.allocRaw #[.int .i64 p, .int .i64 e, .int .i64 t, .int .i64 s, .slice q 0 cap, .int .i64 u, .int .i64 st] 24
  rw [hvb] at h1
  have c0 := (h1).rawCell 0
  have c1 := (h1).rawCell 1
  have c2 := (h1).rawCell 2
  have c3 := (h1).rawCell 3
  have c4 := (h1).rawCell 4
  have c5 := (h1).rawCell 5
  have c6 := (h1).rawCell 6
  simp at c0 c1 c2 c3 c4 c5 c6
  have H := Lib.hid h1
  clear h h1 hk hf
  have k0 : ¬ p < 0 := by omega
  have k1 : ¬ e < 0 := by omega
  have k2 : ¬ 32767 < e := by omega
  have k3 : ¬ t < 0 := by omega
  have k4 : ¬ 2147483647 < t := by omega
  have k5 : ¬ u < 0 := by omega
  have k6 : ¬ st < -1 := by omega
  have HTR := Lib.hid htr
  clear htr
  have s1 : ¬ s < 0 := by omega
  have s2 : ¬ 6 < s := by omega
  have s3 : 1 ≤ s := by omega
  have s4 : 0 < s := by omega
  have s5 : (s == 0) = false := by rw [beq_eq_false_iff_ne]; omega
  have s6 : ¬ s ≤ 3 := by omega
  have sb : (st == -1) = false := by rw [beq_eq_false_iff_ne]; exact hb
  have sb2 : (st != -1) = true := by simp [bne, sb]
  go_enter Try.func16, Try.ntmps16
  go_wp2_with (go_at_call 45; (with_reducible refine (ref14_rise0 _ _ true HTR.out HF.out HK.out H.out).mono ?_); rintro e_ wn ⟨rfl, h⟩; replace H := Lib.hid h; clear h)
  go_ret
  exact ⟨rfl, H.out.drop⟩

end Go.Proofs.Ytombolmicfjjpaa

/- Values, checked by definition. -/
namespace Go.Proofs.Ytombolmicfjjpaa
open Go.RowKit

theorem idle_m (s : Int) (h1 : 1 ≤ s) (h2 : s ≤ 3) : idle s = false := by
  rcases (by omega : s = 1 ∨ s = 2 ∨ s = 3) with rfl | rfl | rfl <;> rfl
theorem idle_h (s : Int) (h1 : 4 ≤ s) : idle s = true := by
  unfold idle
  rw [beq_eq_false_iff_ne.2 (show s ≠ 1 by omega), beq_eq_false_iff_ne.2 (show s ≠ 2 by omega), beq_eq_false_iff_ne.2 (show s ≠ 3 by omega)]
  rfl
theorem ref14_check (v : ValS) (l : List (TopS × Value)) (q : Option Addr) (cap : Nat) (hl : l.map (·.1) = v.tops) (E : Int) (he : v.err = E) (hf : FewT l) {W0 w : World} {K : Know} {L : List Res} (hk : K.has (Know.tops (.slice q l.length cap) l)) (h : St W0 w K L) :
    Calls Try.prog 16 #[.agg #[.int .i64 v.prod, .int .i64 v.epoch, .int .i64 v.timeout, .int .i64 v.state, .slice q l.length cap, .int .i64 v.upd, .int .i64 v.started]] w fun en w' => en = .returned (.int .i64 E) ∧ St W0 w' K L := by
  obtain ⟨p, e, t, s, tops, u, st⟩ := v
  simp only at hl ⊢
  subst hl
  unfold ValS.err ValS.ranged at he
  simp only at he
  cases hrg : (decide (0 ≤ p) && (decide (0 ≤ e) && (decide (e ≤ 32767) && (decide (0 ≤ t) && (decide (t ≤ 2147483647) && (decide (0 ≤ u) && decide (-1 ≤ st))))))) with
  | false =>
    rw [if_pos hrg] at he
    subst he
    exact rchk_11 p e t s u st l q cap hrg hf hk h
  | true =>
    rw [if_neg (by rw [hrg]; decide)] at he
    simp only [Bool.and_eq_true, decide_eq_true_eq] at hrg
    obtain ⟨h0, h1, h2, h3, h4, h5, h6⟩ := hrg
    by_cases hs : s < 0 ∨ 7 ≤ s
    · rw [if_pos hs] at he
      subst he
      exact rchk_12 p e t s u st l q cap h0 h1 h2 h3 h4 h5 h6 hs hf hk h
    · rw [if_neg hs] at he
      have hemp : (l.map (·.1)).isEmpty = decide (l = []) := by cases l <;> simp
      rw [hemp] at he
      rcases (by omega : s = 0 ∨ (1 ≤ s ∧ s ≤ 3) ∨ (4 ≤ s ∧ s ≤ 6)) with hs0 | ⟨m1, m2⟩ | ⟨m1, m2⟩
      · have hi : idle s = true := by rw [hs0]; rfl
        by_cases hem : l = []
        · rw [decide_eq_true hem] at he
          by_cases hb : st = -1
          · rw [if_neg (by rw [hi, hs0, hb]; decide)] at he
            have htr : tRise (l.map (·.1)) = true := by rw [hem]; rfl
            rw [if_neg (by rw [htr]; decide)] at he
            subst he
            subst hem
            exact rchk_0e1 p e t s u st q cap h0 h1 h2 h3 h4 h5 h6 hs0 hb htr hf hk h
          · rw [if_pos (.inr (by rw [hs0, beq_eq_false_iff_ne.2 hb]; rfl))] at he
            subst he
            subst hem
            exact rchk_0e0 p e t s u st q cap h0 h1 h2 h3 h4 h5 h6 hs0 hb hf hk h
        · rw [decide_eq_false hem, if_pos (.inl (by rw [hi]; rfl))] at he
          subst he
          exact rchk_0f p e t s u st l q cap h0 h1 h2 h3 h4 h5 h6 hs0 hem hf hk h
      · have hi := idle_m s m1 m2
        have hz : ¬ s = 0 := by omega
        by_cases hem : l = []
        · rw [decide_eq_true hem, if_pos (.inl (by rw [hi]; rfl))] at he
          subst he
          subst hem
          exact rchk_me p e t s u st q cap h0 h1 h2 h3 h4 h5 h6 m1 m2 hf hk h
        · rw [decide_eq_false hem] at he
          by_cases hb : st = -1
          · rw [if_pos (.inr (by rw [hb, beq_eq_false_iff_ne.2 hz]; rfl))] at he
            subst he
            exact rchk_mf1 p e t s u st l q cap h0 h1 h2 h3 h4 h5 h6 m1 m2 hem hb hf hk h
          · rw [if_neg (by rw [hi, beq_eq_false_iff_ne.2 hz, beq_eq_false_iff_ne.2 hb]; decide)] at he
            cases htr : tRise (l.map (·.1)) with
            | true =>
              rw [if_neg (by rw [htr]; decide)] at he
              subst he
              exact rchk_mft p e t s u st l q cap h0 h1 h2 h3 h4 h5 h6 m1 m2 hem hb htr hf hk h
            | false =>
              rw [if_pos htr] at he
              subst he
              exact rchk_mfb p e t s u st l q cap h0 h1 h2 h3 h4 h5 h6 m1 m2 hem hb htr hf hk h
      · have hi := idle_h s m1
        have hz : ¬ s = 0 := by omega
        by_cases hem : l = []
        · rw [decide_eq_true hem] at he
          by_cases hb : st = -1
          · rw [if_pos (.inr (by rw [hb, beq_eq_false_iff_ne.2 hz]; rfl))] at he
            subst he
            subst hem
            exact rchk_he1 p e t s u st q cap h0 h1 h2 h3 h4 h5 h6 m1 m2 hb hf hk h
          · rw [if_neg (by rw [hi, beq_eq_false_iff_ne.2 hz, beq_eq_false_iff_ne.2 hb]; decide)] at he
            have htr : tRise (l.map (·.1)) = true := by rw [hem]; rfl
            rw [if_neg (by rw [htr]; decide)] at he
            subst he
            subst hem
            exact rchk_he0 p e t s u st q cap h0 h1 h2 h3 h4 h5 h6 m1 m2 hb htr hf hk h
        · rw [decide_eq_false hem, if_pos (.inl (by rw [hi]; rfl))] at he
          subst he
          exact rchk_hf p e t s u st l q cap h0 h1 h2 h3 h4 h5 h6 m1 m2 hem hf hk h

end Go.Proofs.Ytombolmicfjjpaa

/- All cells of a block set (arrays). -/
namespace Go.Proofs.Ytombolmicfjjpaa
open Go.RowKit

theorem setAll_getV : ∀ (vs : List Value) (o : Nat) (c : Array Value) (i : Nat), (setAll c o vs)[i]? = if o ≤ i ∧ i < o + vs.length ∧ i < c.size then vs[i - o]? else c[i]?
  | [], o, c, i => by
    show c[i]? = _
    rw [if_neg (by simp; omega)]
  | v :: r, o, c, i => by
    show (setAll (c.setIfInBounds o v) (o + 1) r)[i]? = _
    rw [setAll_getV r (o + 1) _ i]
    simp only [Array.size_setIfInBounds, List.length_cons]
    by_cases h1 : o + 1 ≤ i ∧ i < o + 1 + r.length ∧ i < c.size
    · rw [if_pos h1, if_pos (by omega)]
      obtain ⟨k, rfl⟩ : ∃ k, i = o + 1 + k := ⟨i - (o + 1), by omega⟩
      rw [show o + 1 + k - (o + 1) = k by omega, show o + 1 + k - o = k + 1 by omega]
      rfl
    · rw [if_neg h1, Array.getElem?_setIfInBounds]
      by_cases h2 : o = i
      · subst h2
        rw [if_pos rfl]
        by_cases h3 : o < c.size
        · rw [if_pos h3, if_pos (by omega), Nat.sub_self]; rfl
        · rw [if_neg h3, if_neg (by omega), Array.getElem?_eq_none (by omega)]
      · rw [if_neg h2, if_neg (by omega)]
theorem setAll_allV (c cs : Array Value) (h : c.size = cs.size) : setAll c 0 cs.toList = cs := by
  refine Array.ext_getElem? fun i => ?_
  rw [setAll_getV]
  by_cases h1 : i < cs.size
  · rw [if_pos (by simp; omega), Nat.sub_zero, Array.getElem?_toList]
  · rw [if_neg (by simp; omega), Array.getElem?_eq_none (by omega), Array.getElem?_eq_none (by omega)]

end Go.Proofs.Ytombolmicfjjpaa

/- Values, read by definition: early ends. -/
namespace Go.Proofs.Ytombolmicfjjpaa
open Go.RowKit

theorem ref14_readTopicsT (t X : Bs) (ht : t = X) (hs : X.length ≤ 1000000) (lf : List TopS) (mf : Nat) (ef : Int) (hr : topsR X = (lf, mf, ef)) {W0 w : World} {K : Know} {L : List Res} (h : St W0 w K L) :
    Calls Try.prog 26 #[.string (bb t)] w fun en w' => ∃ (v : Value) (lr : List (TopS × Value)), en = .returned (.tuple #[v, .int .i64 mf, .int .i64 ef]) ∧ lr.map (·.1) = lf ∧ St W0 w' (K.and (Know.tops v lr)) L := by
  subst ht; exact ref14_readTopics t hs lf mf ef hr h

set_option maxHeartbeats 6000000 in
set_option maxRecDepth 100000 in
theorem rd_1 (S : Bs) (hsl : S.length ≤ 1000000) (hl : S.length < 2) {W0 w : World} {K : Know} {L : List Res} (h : St W0 w K L) :
    Calls Try.prog 23 #[.string (bb S)] w fun en w' => en = .returned (.tuple #[.agg #[.int .i64 0, .int .i64 0, .int .i64 0, .int .i64 0, .slice none 0 0, .int .i64 0, .int .i64 0], .int .i64 1]) ∧ St W0 w' K L := by
  obtain ⟨rb, hrb⟩ : ∃ b, w.heap.size = b := ⟨_, rfl⟩
  obtain ⟨nb, hnb⟩ : ∃ b, rb + 1 = b := ⟨_, rfl⟩
  have g1 := (h.allocRaw #[.int .i64 0, .int .i64 0, .int .i64 0, .int .i64 0, .slice none 0 0, .int .i64 0, .int .i64 0] 24).allocRaw #[.int .i64 0, .int .i64 0, .int .i64 0, .int .i64 0, .slice none 0 0, .int .i64 0, .int .i64 0] 24
  simp only [World.size_alloc, hrb, hnb] at g1
  have H := Lib.hid g1
  have HSL := Lib.hid hsl
  have c0 := g1.rawCell 0; have c1 := g1.rawCell 1; have c2 := g1.rawCell 2; have c3 := g1.rawCell 3; have c4 := g1.rawCell 4; have c5 := g1.rawCell 5; have c6 := g1.rawCell 6; simp at c0 c1 c2 c3 c4 c5 c6
  have d0 := g1.p1.rawCell 0; have r0 := g1.p1.rawFree 0; have d1 := g1.p1.rawCell 1; have r1 := g1.p1.rawFree 1; have d2 := g1.p1.rawCell 2; have r2 := g1.p1.rawFree 2; have d3 := g1.p1.rawCell 3; have r3 := g1.p1.rawFree 3; have d4 := g1.p1.rawCell 4; have r4 := g1.p1.rawFree 4; have d5 := g1.p1.rawCell 5; have r5 := g1.p1.rawFree 5; have d6 := g1.p1.rawCell 6; have r6 := g1.p1.rawFree 6; simp at d0 d1 d2 d3 d4 d5 d6
  have hl2 : (S.length : Int) < 2 := by omega
  clear h g1 hsl 
  go_enter Try.func23, Try.ntmps23
  go_wp2_with (fail)
  have hz : St W0 _ _ (.raw rb #[.int .i64 0, .int .i64 0, .int .i64 0, .int .i64 0, .slice none 0 0, .int .i64 0, .int .i64 0] 24 :: _) := St.sets7 _ _ _ _ _ _ _ (H.out.p1)
  refine bodyPost_ret (rc_cell_tmp rfl _ _ rb [.int .i64 0, .int .i64 0, .int .i64 0, .int .i64 0, .slice none 0 0, .int .i64 0, .int .i64 0] _ rfl (rc_range hz) Try.underlying24 rfl (by kernel_rfl)) rfl ?_
  exact ⟨rfl, hz.drop.drop⟩

set_option maxHeartbeats 6000000 in
set_option maxRecDepth 100000 in
theorem rd_2 (S : Bs) (hsl : S.length ≤ 1000000) (hl : 2 ≤ S.length) (a : Int) (ha : sInt (S.take 2) = a) (h0 : a ≠ 0) {W0 w : World} {K : Know} {L : List Res} (h : St W0 w K L) :
    Calls Try.prog 23 #[.string (bb S)] w fun en w' => en = .returned (.tuple #[.agg #[.int .i64 0, .int .i64 0, .int .i64 0, .int .i64 0, .slice none 0 0, .int .i64 0, .int .i64 0], .int .i64 7]) ∧ St W0 w' K L := by
  obtain ⟨rb, hrb⟩ : ∃ b, w.heap.size = b := ⟨_, rfl⟩
  obtain ⟨nb, hnb⟩ : ∃ b, rb + 1 = b := ⟨_, rfl⟩
  have g1 := (h.allocRaw #[.int .i64 0, .int .i64 0, .int .i64 0, .int .i64 0, .slice none 0 0, .int .i64 0, .int .i64 0] 24).allocRaw #[.int .i64 0, .int .i64 0, .int .i64 0, .int .i64 0, .slice none 0 0, .int .i64 0, .int .i64 0] 24
  simp only [World.size_alloc, hrb, hnb] at g1
  have H := Lib.hid g1
  have HSL := Lib.hid hsl
  have c0 := g1.rawCell 0; have c1 := g1.rawCell 1; have c2 := g1.rawCell 2; have c3 := g1.rawCell 3; have c4 := g1.rawCell 4; have c5 := g1.rawCell 5; have c6 := g1.rawCell 6; simp at c0 c1 c2 c3 c4 c5 c6
  have d0 := g1.p1.rawCell 0; have r0 := g1.p1.rawFree 0; have d1 := g1.p1.rawCell 1; have r1 := g1.p1.rawFree 1; have d2 := g1.p1.rawCell 2; have r2 := g1.p1.rawFree 2; have d3 := g1.p1.rawCell 3; have r3 := g1.p1.rawFree 3; have d4 := g1.p1.rawCell 4; have r4 := g1.p1.rawFree 4; have d5 := g1.p1.rawCell 5; have r5 := g1.p1.rawFree 5; have d6 := g1.p1.rawCell 6; have r6 := g1.p1.rawFree 6; simp at d0 d1 d2 d3 d4 d5 d6
  have hl2 : ¬ (S.length : Int) < 2 := by omega
  have hl3 : 2 ≤ (S.length : Int) := by omega
  have g1 : (a == 0) = false := by rw [beq_eq_false_iff_ne]; exact h0
  have g2 : (a != 0) = true := by simp [bne, g1]
  have HA := Lib.hid ha
  have H8 := Lib.hid (show (S.take 2).length ≤ 8 by rw [List.length_take]; omega)
  clear h g1 hsl ha h0
  go_enter Try.func23, Try.ntmps23
  go_wp2_with (go_at_call 76; clear c0 d0 r0 c1 d1 r1 c2 d2 r2 c3 d3 r3 c4 d4 r4 c5 d5 r5 c6 d6 r6; (with_reducible refine (sr_intT _ (S.take 2) (by first | rfl | simp) a HA.out H8.out H.out).mono ?_); rintro e_ wn ⟨rfl, h⟩; have c0 := h.rawCell 0; have c1 := h.rawCell 1; have c2 := h.rawCell 2; have c3 := h.rawCell 3; have c4 := h.rawCell 4; have c5 := h.rawCell 5; have c6 := h.rawCell 6; simp at c0 c1 c2 c3 c4 c5 c6; have d0 := h.p1.rawCell 0; have r0 := h.p1.rawFree 0; have d1 := h.p1.rawCell 1; have r1 := h.p1.rawFree 1; have d2 := h.p1.rawCell 2; have r2 := h.p1.rawFree 2; have d3 := h.p1.rawCell 3; have r3 := h.p1.rawFree 3; have d4 := h.p1.rawCell 4; have r4 := h.p1.rawFree 4; have d5 := h.p1.rawCell 5; have r5 := h.p1.rawFree 5; have d6 := h.p1.rawCell 6; have r6 := h.p1.rawFree 6; simp at d0 d1 d2 d3 d4 d5 d6; replace H := Lib.hid h; clear h)
  have hz : St W0 _ _ (.raw rb #[.int .i64 0, .int .i64 0, .int .i64 0, .int .i64 0, .slice none 0 0, .int .i64 0, .int .i64 0] 24 :: _) := St.sets7 _ _ _ _ _ _ _ (H.out.p1)
  refine bodyPost_ret (rc_cell_tmp rfl _ _ rb [.int .i64 0, .int .i64 0, .int .i64 0, .int .i64 0, .slice none 0 0, .int .i64 0, .int .i64 0] _ rfl (rc_range hz) Try.underlying24 rfl (by kernel_rfl)) rfl ?_
  exact ⟨rfl, hz.drop.drop⟩

set_option maxHeartbeats 6000000 in
set_option maxRecDepth 100000 in
theorem rd_3 (S : Bs) (hsl : S.length ≤ 1000000) (hl : 2 ≤ S.length) (ha : sInt (S.take 2) = 0) (hl17 : S.length < 17) {W0 w : World} {K : Know} {L : List Res} (h : St W0 w K L) :
    Calls Try.prog 23 #[.string (bb S)] w fun en w' => en = .returned (.tuple #[.agg #[.int .i64 0, .int .i64 0, .int .i64 0, .int .i64 0, .slice none 0 0, .int .i64 0, .int .i64 0], .int .i64 1]) ∧ St W0 w' K L := by
  obtain ⟨rb, hrb⟩ : ∃ b, w.heap.size = b := ⟨_, rfl⟩
  obtain ⟨nb, hnb⟩ : ∃ b, rb + 1 = b := ⟨_, rfl⟩
  have g1 := (h.allocRaw #[.int .i64 0, .int .i64 0, .int .i64 0, .int .i64 0, .slice none 0 0, .int .i64 0, .int .i64 0] 24).allocRaw #[.int .i64 0, .int .i64 0, .int .i64 0, .int .i64 0, .slice none 0 0, .int .i64 0, .int .i64 0] 24
  simp only [World.size_alloc, hrb, hnb] at g1
  have H := Lib.hid g1
  have HSL := Lib.hid hsl
  have c0 := g1.rawCell 0; have c1 := g1.rawCell 1; have c2 := g1.rawCell 2; have c3 := g1.rawCell 3; have c4 := g1.rawCell 4; have c5 := g1.rawCell 5; have c6 := g1.rawCell 6; simp at c0 c1 c2 c3 c4 c5 c6
  have d0 := g1.p1.rawCell 0; have r0 := g1.p1.rawFree 0; have d1 := g1.p1.rawCell 1; have r1 := g1.p1.rawFree 1; have d2 := g1.p1.rawCell 2; have r2 := g1.p1.rawFree 2; have d3 := g1.p1.rawCell 3; have r3 := g1.p1.rawFree 3; have d4 := g1.p1.rawCell 4; have r4 := g1.p1.rawFree 4; have d5 := g1.p1.rawCell 5; have r5 := g1.p1.rawFree 5; have d6 := g1.p1.rawCell 6; have r6 := g1.p1.rawFree 6; simp at d0 d1 d2 d3 d4 d5 d6
  have hl2 : ¬ (S.length : Int) < 2 := by omega
  have hl3 : 2 ≤ (S.length : Int) := by omega
  have hl4 : (S.length : Int) < 17 := by omega
  have HA := Lib.hid ha
  have H8 := Lib.hid (show (S.take 2).length ≤ 8 by rw [List.length_take]; omega)
  clear h g1 hsl ha
  go_enter Try.func23, Try.ntmps23
  go_wp2_with (go_at_call 76; clear c0 d0 r0 c1 d1 r1 c2 d2 r2 c3 d3 r3 c4 d4 r4 c5 d5 r5 c6 d6 r6; (with_reducible refine (sr_intT _ (S.take 2) (by first | rfl | simp) 0 HA.out H8.out H.out).mono ?_); rintro e_ wn ⟨rfl, h⟩; have c0 := h.rawCell 0; have c1 := h.rawCell 1; have c2 := h.rawCell 2; have c3 := h.rawCell 3; have c4 := h.rawCell 4; have c5 := h.rawCell 5; have c6 := h.rawCell 6; simp at c0 c1 c2 c3 c4 c5 c6; have d0 := h.p1.rawCell 0; have r0 := h.p1.rawFree 0; have d1 := h.p1.rawCell 1; have r1 := h.p1.rawFree 1; have d2 := h.p1.rawCell 2; have r2 := h.p1.rawFree 2; have d3 := h.p1.rawCell 3; have r3 := h.p1.rawFree 3; have d4 := h.p1.rawCell 4; have r4 := h.p1.rawFree 4; have d5 := h.p1.rawCell 5; have r5 := h.p1.rawFree 5; have d6 := h.p1.rawCell 6; have r6 := h.p1.rawFree 6; simp at d0 d1 d2 d3 d4 d5 d6; replace H := Lib.hid h; clear h)
  have hz : St W0 _ _ (.raw rb #[.int .i64 0, .int .i64 0, .int .i64 0, .int .i64 0, .slice none 0 0, .int .i64 0, .int .i64 0] 24 :: _) := St.sets7 _ _ _ _ _ _ _ (H.out.p1)
  refine bodyPost_ret (rc_cell_tmp rfl _ _ rb [.int .i64 0, .int .i64 0, .int .i64 0, .int .i64 0, .slice none 0 0, .int .i64 0, .int .i64 0] _ rfl (rc_range hz) Try.underlying24 rfl (by kernel_rfl)) rfl ?_
  exact ⟨rfl, hz.drop.drop⟩

end Go.Proofs.Ytombolmicfjjpaa

/- Values, read by definition: topics that are none. -/
namespace Go.Proofs.Ytombolmicfjjpaa
open Go.RowKit

set_option maxHeartbeats 6000000 in
set_option maxRecDepth 100000 in
theorem rd_4 (S : Bs) (hsl : S.length ≤ 1000000) (ha : sInt (S.take 2) = 0) (hl17 : 17 ≤ S.length) (p e t u : Int) (hp : sInt ((S.drop 2).take 8) = p) (he : sInt ((S.drop 10).take 2) = e) (ht : sInt ((S.drop 12).take 4) = t) (hu : sInt ((S.drop 16).take 1) = u) (l : List TopS) (m : Nat) (ef : Int) (hr : topsR (S.drop 17) = (l, m, ef)) (h0 : ef ≠ 0) {W0 w : World} {K : Know} {L : List Res} (h : St W0 w K L) :
    Calls Try.prog 23 #[.string (bb S)] w fun en w' => en = .returned (.tuple #[.agg #[.int .i64 0, .int .i64 0, .int .i64 0, .int .i64 0, .slice none 0 0, .int .i64 0, .int .i64 0], .int .i64 ef]) ∧ St W0 w' K L := by
  obtain ⟨rb, hrb⟩ : ∃ b, w.heap.size = b := ⟨_, rfl⟩
  obtain ⟨nb, hnb⟩ : ∃ b, rb + 1 = b := ⟨_, rfl⟩
  have g1 := (h.allocRaw #[.int .i64 0, .int .i64 0, .int .i64 0, .int .i64 0, .slice none 0 0, .int .i64 0, .int .i64 0] 24).allocRaw #[.int .i64 0, .int .i64 0, .int .i64 0, .int .i64 0, .slice none 0 0, .int .i64 0, .int .i64 0] 24
  simp only [World.size_alloc, hrb, hnb] at g1
  have H := Lib.hid g1
  have HSL := Lib.hid hsl
  have c0 := g1.rawCell 0; have c1 := g1.rawCell 1; have c2 := g1.rawCell 2; have c3 := g1.rawCell 3; have c4 := g1.rawCell 4; have c5 := g1.rawCell 5; have c6 := g1.rawCell 6; simp at c0 c1 c2 c3 c4 c5 c6
  have d0 := g1.p1.rawCell 0; have r0 := g1.p1.rawFree 0; have d1 := g1.p1.rawCell 1; have r1 := g1.p1.rawFree 1; have d2 := g1.p1.rawCell 2; have r2 := g1.p1.rawFree 2; have d3 := g1.p1.rawCell 3; have r3 := g1.p1.rawFree 3; have d4 := g1.p1.rawCell 4; have r4 := g1.p1.rawFree 4; have d5 := g1.p1.rawCell 5; have r5 := g1.p1.rawFree 5; have d6 := g1.p1.rawCell 6; have r6 := g1.p1.rawFree 6; simp at d0 d1 d2 d3 d4 d5 d6
  have hl2 : ¬ (S.length : Int) < 2 := by omega
  have hl3 : 2 ≤ (S.length : Int) := by omega
  have hl4 : ¬ (S.length : Int) < 17 := by omega
  have hl5 : 10 ≤ (S.length : Int) := by omega
  have hl6 : 12 ≤ (S.length : Int) := by omega
  have hl7 : 16 ≤ (S.length : Int) := by omega
  have hl8 : 17 ≤ (S.length : Int) := by omega
  have HA := Lib.hid ha
  have H8 := Lib.hid (show (S.take 2).length ≤ 8 by rw [List.length_take]; omega)
  have HP := Lib.hid hp
  have HP8 := Lib.hid (show ((S.drop 2).take 8).length ≤ 8 by rw [List.length_take]; omega)
  have HE := Lib.hid he
  have HE8 := Lib.hid (show ((S.drop 10).take 2).length ≤ 8 by rw [List.length_take]; omega)
  have HT := Lib.hid ht
  have HT8 := Lib.hid (show ((S.drop 12).take 4).length ≤ 8 by rw [List.length_take]; omega)
  have HU := Lib.hid hu
  have HU8 := Lib.hid (show ((S.drop 16).take 1).length ≤ 8 by rw [List.length_take]; omega)
  have HTE := Lib.hid (takeEnd S 17)
  have HX := Lib.hid (show (S.drop 17).length ≤ 1000000 by rw [List.length_drop]; omega)
  have HR := Lib.hid hr
  have g1 : (ef == 0) = false := by rw [beq_eq_false_iff_ne]; exact h0
  have g2 : (ef != 0) = true := by simp [bne, g1]
  clear h g1 hsl ha hl17 hp he ht hu hr h0
  go_enter Try.func23, Try.ntmps23
  go_upto_region 8 with (go_at_call 76; clear c0 d0 r0 c1 d1 r1 c2 d2 r2 c3 d3 r3 c4 d4 r4 c5 d5 r5 c6 d6 r6; (with_reducible refine (sr_intT _ (S.take 2) (by first | rfl | simp) 0 HA.out H8.out H.out).mono ?_); rintro e_ wn ⟨rfl, h⟩; have c0 := h.rawCell 0; have c1 := h.rawCell 1; have c2 := h.rawCell 2; have c3 := h.rawCell 3; have c4 := h.rawCell 4; have c5 := h.rawCell 5; have c6 := h.rawCell 6; simp at c0 c1 c2 c3 c4 c5 c6; have d0 := h.p1.rawCell 0; have r0 := h.p1.rawFree 0; have d1 := h.p1.rawCell 1; have r1 := h.p1.rawFree 1; have d2 := h.p1.rawCell 2; have r2 := h.p1.rawFree 2; have d3 := h.p1.rawCell 3; have r3 := h.p1.rawFree 3; have d4 := h.p1.rawCell 4; have r4 := h.p1.rawFree 4; have d5 := h.p1.rawCell 5; have r5 := h.p1.rawFree 5; have d6 := h.p1.rawCell 6; have r6 := h.p1.rawFree 6; simp at d0 d1 d2 d3 d4 d5 d6; replace H := Lib.hid h; clear h)
  go_cut [5] (fun s5 wx => ∃ vb : Nat, s5 = .pointer (some ⟨vb, 0, none⟩) ∧ St W0 wx K (.raw vb #[.int .i64 p, .int .i64 e, .int .i64 t, .int .i64 u, .slice none 0 0, .int .i64 0, .int .i64 0] 24 :: .raw nb #[.int .i64 0, .int .i64 0, .int .i64 0, .int .i64 0, .slice none 0 0, .int .i64 0, .int .i64 0] 24 :: .raw rb #[.int .i64 0, .int .i64 0, .int .i64 0, .int .i64 0, .slice none 0 0, .int .i64 0, .int .i64 0] 24 :: L))
  case first =>
    clear c0 d0 r0 c1 d1 r1 c2 d2 r2 c3 d3 r3 c4 d4 r4 c5 d5 r5 c6 d6 r6
    have hs := H.out.drew
    refine wp_region_held_drew (S := fun _ => True) (by kernel_rfl) trivial (fun hHeld => ?_)
    refine wpAnyH_take (i := 0) (oi := { dst := some 25, op := Op.move (Operand.tmp 0), type := 9, pos := "ref.go:133", after := #[], guard := none }) (v := ?_) rfl (by kernel_rfl) (by kernel_rfl) (by kernel_rfl) (fun _ _ _ h => h) (Or.inl ⟨by rfl, ?_⟩) (by assumption) ?_
    rotate_left
    · intro w hSw; (try dsimp only at hSw); go_simp; try with_reducible rfl
    simp only [Act.put, List.setIfInBounds_toArray, List.set_cons_zero, List.set_cons_succ]
    refine wpAnyH_take (i := 1) (oi := { dst := some 26, op := Op.slice 9 (Operand.tmp 25) (some (Operand.const (Value.int IntKind.i64 2))) (some (Operand.const (Value.int IntKind.i64 10))) none, type := 9, pos := "ref.go:133", after := #[{ on := 0, ground := Ground.data }], guard := none }) (v := ?_) rfl (by kernel_rfl) (by kernel_rfl) (by kernel_rfl) (fun _ _ _ h => h) (Or.inl ⟨by rfl, ?_⟩) (by assumption) ?_
    rotate_left
    · intro w hSw; (try dsimp only at hSw); go_simp; try with_reducible rfl
    simp only [Act.put, List.setIfInBounds_toArray, List.set_cons_zero, List.set_cons_succ]
    refine wpAnyH_take (i := 3) (oi := { dst := some 28, op := Op.move (Operand.tmp 0), type := 9, pos := "ref.go:133", after := #[], guard := none }) (v := ?_) rfl (by kernel_rfl) (by kernel_rfl) (by kernel_rfl) (fun _ _ _ h => h) (Or.inl ⟨by rfl, ?_⟩) (by assumption) ?_
    rotate_left
    · intro w hSw; (try dsimp only at hSw); go_simp; try with_reducible rfl
    simp only [Act.put, List.setIfInBounds_toArray, List.set_cons_zero, List.set_cons_succ]
    refine wpAnyH_take (i := 4) (oi := { dst := some 29, op := Op.slice 9 (Operand.tmp 28) (some (Operand.const (Value.int IntKind.i64 10))) (some (Operand.const (Value.int IntKind.i64 12))) none, type := 9, pos := "ref.go:133", after := #[{ on := 3, ground := Ground.data }], guard := none }) (v := ?_) rfl (by kernel_rfl) (by kernel_rfl) (by kernel_rfl) (fun _ _ _ h => h) (Or.inl ⟨by rfl, ?_⟩) (by assumption) ?_
    rotate_left
    · intro w hSw; (try dsimp only at hSw); go_simp; try with_reducible rfl
    simp only [Act.put, List.setIfInBounds_toArray, List.set_cons_zero, List.set_cons_succ]
    refine wpAnyH_take (i := 6) (oi := { dst := some 31, op := Op.move (Operand.tmp 0), type := 9, pos := "ref.go:133", after := #[], guard := none }) (v := ?_) rfl (by kernel_rfl) (by kernel_rfl) (by kernel_rfl) (fun _ _ _ h => h) (Or.inl ⟨by rfl, ?_⟩) (by assumption) ?_
    rotate_left
    · intro w hSw; (try dsimp only at hSw); go_simp; try with_reducible rfl
    simp only [Act.put, List.setIfInBounds_toArray, List.set_cons_zero, List.set_cons_succ]
    refine wpAnyH_take (i := 7) (oi := { dst := some 32, op := Op.slice 9 (Operand.tmp 31) (some (Operand.const (Value.int IntKind.i64 12))) (some (Operand.const (Value.int IntKind.i64 16))) none, type := 9, pos := "ref.go:133", after := #[{ on := 6, ground := Ground.data }], guard := none }) (v := ?_) rfl (by kernel_rfl) (by kernel_rfl) (by kernel_rfl) (fun _ _ _ h => h) (Or.inl ⟨by rfl, ?_⟩) (by assumption) ?_
    rotate_left
    · intro w hSw; (try dsimp only at hSw); go_simp; try with_reducible rfl
    simp only [Act.put, List.setIfInBounds_toArray, List.set_cons_zero, List.set_cons_succ]
    refine wpAnyH_take (i := 9) (oi := { dst := some 34, op := Op.move (Operand.tmp 0), type := 9, pos := "ref.go:133", after := #[], guard := none }) (v := ?_) rfl (by kernel_rfl) (by kernel_rfl) (by kernel_rfl) (fun _ _ _ h => h) (Or.inl ⟨by rfl, ?_⟩) (by assumption) ?_
    rotate_left
    · intro w hSw; (try dsimp only at hSw); go_simp; try with_reducible rfl
    simp only [Act.put, List.setIfInBounds_toArray, List.set_cons_zero, List.set_cons_succ]
    refine wpAnyH_take (i := 10) (oi := { dst := some 35, op := Op.slice 9 (Operand.tmp 34) (some (Operand.const (Value.int IntKind.i64 16))) (some (Operand.const (Value.int IntKind.i64 17))) none, type := 9, pos := "ref.go:133", after := #[{ on := 9, ground := Ground.data }], guard := none }) (v := ?_) rfl (by kernel_rfl) (by kernel_rfl) (by kernel_rfl) (fun _ _ _ h => h) (Or.inl ⟨by rfl, ?_⟩) (by assumption) ?_
    rotate_left
    · intro w hSw; (try dsimp only at hSw); go_simp; try with_reducible rfl
    simp only [Act.put, List.setIfInBounds_toArray, List.set_cons_zero, List.set_cons_succ]
    refine wpAnyH_ready (rs := [2, 13]) (by kernel_rfl) (by simp) (AllReadyH.cons (o := { dst := some 27, op := Op.call { callee := Callee.value (Operand.func 76), args := #[Operand.tmp 26], argTypes := #[9] }, type := 3, pos := "ref.go:133", after := #[{ on := 1, ground := Ground.data }], guard := none }) rfl (fun KK hK => ?_) (AllReadyH.cons (o := { dst := some 5, op := Op.alloc 24, type := 0, pos := "ref.go:133", after := #[], guard := none }) rfl (fun KK hK => ?_) AllReadyH.nil))
    · go_simp
      go_at_call 76
      with_reducible refine (sr_intT _ ((S.drop 2).take 8) (by first | rfl | simp) p HP.out HP8.out hs).mono ?_
      rintro e wq ⟨rfl, hs⟩
      refine hK.out _ _ (trivial) (fun hHeld => ?_)
      clear hK KK
      try simp only [Act.put, List.setIfInBounds_toArray, List.set_cons_zero, List.set_cons_succ]
      refine wpAnyH_ready (rs := [5, 13]) (by kernel_rfl) (by simp) (AllReadyH.cons (o := { dst := some 30, op := Op.call { callee := Callee.value (Operand.func 76), args := #[Operand.tmp 29], argTypes := #[9] }, type := 3, pos := "ref.go:133", after := #[{ on := 4, ground := Ground.data }, { on := 2, ground := Ground.chain }], guard := none }) rfl (fun KK hK => ?_) (AllReadyH.cons (o := { dst := some 5, op := Op.alloc 24, type := 0, pos := "ref.go:133", after := #[], guard := none }) rfl (fun KK hK => ?_) AllReadyH.nil))
      · go_simp
        go_at_call 76
        with_reducible refine (sr_intT _ ((S.drop 10).take 2) (by first | rfl | simp) e HE.out HE8.out hs).mono ?_
        rintro e wq ⟨rfl, hs⟩
        refine hK.out _ _ (trivial) (fun hHeld => ?_)
        clear hK KK
        try simp only [Act.put, List.setIfInBounds_toArray, List.set_cons_zero, List.set_cons_succ]
        refine wpAnyH_ready (rs := [8, 13]) (by kernel_rfl) (by simp) (AllReadyH.cons (o := { dst := some 33, op := Op.call { callee := Callee.value (Operand.func 76), args := #[Operand.tmp 32], argTypes := #[9] }, type := 3, pos := "ref.go:133", after := #[{ on := 7, ground := Ground.data }, { on := 5, ground := Ground.chain }], guard := none }) rfl (fun KK hK => ?_) (AllReadyH.cons (o := { dst := some 5, op := Op.alloc 24, type := 0, pos := "ref.go:133", after := #[], guard := none }) rfl (fun KK hK => ?_) AllReadyH.nil))
        · go_simp
          go_at_call 76
          with_reducible refine (sr_intT _ ((S.drop 12).take 4) (by first | rfl | simp) t HT.out HT8.out hs).mono ?_
          rintro e wq ⟨rfl, hs⟩
          refine hK.out _ _ (trivial) (fun hHeld => ?_)
          clear hK KK
          try simp only [Act.put, List.setIfInBounds_toArray, List.set_cons_zero, List.set_cons_succ]
          refine wpAnyH_ready (rs := [11, 13]) (by kernel_rfl) (by simp) (AllReadyH.cons (o := { dst := some 36, op := Op.call { callee := Callee.value (Operand.func 76), args := #[Operand.tmp 35], argTypes := #[9] }, type := 3, pos := "ref.go:133", after := #[{ on := 10, ground := Ground.data }, { on := 8, ground := Ground.chain }], guard := none }) rfl (fun KK hK => ?_) (AllReadyH.cons (o := { dst := some 5, op := Op.alloc 24, type := 0, pos := "ref.go:133", after := #[], guard := none }) rfl (fun KK hK => ?_) AllReadyH.nil))
          · go_simp
            go_at_call 76
            with_reducible refine (sr_intT _ ((S.drop 16).take 1) (by first | rfl | simp) u HU.out HU8.out hs).mono ?_
            rintro e wq ⟨rfl, hs⟩
            refine hK.out _ _ (trivial) (fun hHeld => ?_)
            clear hK KK
            try simp only [Act.put, List.setIfInBounds_toArray, List.set_cons_zero, List.set_cons_succ]
            refine wpAnyH_take (i := 12) (oi := { dst := some 37, op := Op.build 24 #[(0, Operand.tmp 27), (1, Operand.tmp 30), (2, Operand.tmp 33), (3, Operand.tmp 36)], type := 24, pos := "ref.go:133", after := #[{ on := 2, ground := Ground.data }, { on := 5, ground := Ground.data }, { on := 8, ground := Ground.data }, { on := 11, ground := Ground.data }], guard := none }) (v := ?_) rfl (by kernel_rfl) (by kernel_rfl) (by kernel_rfl) (fun _ _ _ h => h) (Or.inl ⟨by rfl, ?_⟩) (by assumption) ?_
            rotate_left
            · intro w hSw; (try dsimp only at hSw); go_simp; try with_reducible rfl
            simp only [Act.put, List.setIfInBounds_toArray, List.set_cons_zero, List.set_cons_succ]
            refine wpAnyH_ready (rs := [13]) (by kernel_rfl) (by simp) (AllReadyH.cons (o := { dst := some 5, op := Op.alloc 24, type := 0, pos := "ref.go:133", after := #[], guard := none }) rfl (fun KK hK => ?_) AllReadyH.nil)
            · obtain ⟨wy, vb, ey, er, hs⟩ := hs.allocEx #[.int .i64 0, .int .i64 0, .int .i64 0, .int .i64 0, .slice none 0 0, .int .i64 0, .int .i64 0] 24
              go_simp
              try rw [ey]
              try rw [er]
              clear ey er
              refine hK.out _ _ (trivial) (fun hHeld => ?_)
              clear hK KK
              try simp only [Act.put, List.setIfInBounds_toArray, List.set_cons_zero, List.set_cons_succ]
              refine wpAnyH_ready (rs := [14]) (by kernel_rfl) (by simp) (AllReadyH.cons (o := { dst := none, op := Op.store 24 (Operand.tmp 5) (Operand.tmp 37), type := 0, pos := "ref.go:133", after := #[{ on := 13, ground := Ground.data }, { on := 12, ground := Ground.data }, { on := 11, ground := Ground.chain }, { on := 0, ground := Ground.phase }, { on := 1, ground := Ground.phase }, { on := 2, ground := Ground.phase }, { on := 3, ground := Ground.phase }, { on := 4, ground := Ground.phase }, { on := 5, ground := Ground.phase }, { on := 6, ground := Ground.phase }, { on := 7, ground := Ground.phase }, { on := 8, ground := Ground.phase }, { on := 9, ground := Ground.phase }, { on := 10, ground := Ground.phase }, { on := 11, ground := Ground.phase }, { on := 12, ground := Ground.phase }, { on := 13, ground := Ground.phase }], guard := none }) rfl (fun KK hK => ?_) AllReadyH.nil)
              · rw [if_pos (by rfl)]
                refine wp_store_mid 24 (.tmp 5) (.tmp 37) rfl vb 0 #[.int .i64 p, .int .i64 e, .int .i64 t, .int .i64 u, .slice none 0 0, .int .i64 0, .int .i64 0] (by rfl) (by rfl) hs.there (by kernel_rfl) (by simp [Value.oneCell']) ?_
                obtain ⟨wz, ez, hs⟩ := hs.storeEx #[.int .i64 p, .int .i64 e, .int .i64 t, .int .i64 u, .slice none 0 0, .int .i64 0, .int .i64 0]
                rw [ez]
                clear ez
                refine hK.out _ _ (trivial) (fun hHeld => ?_)
                clear hK KK
                try simp only [Act.put, List.setIfInBounds_toArray, List.set_cons_zero, List.set_cons_succ]
                refine wpAnyH_done (by kernel_rfl) ?_ _
                clear hHeld
                rw [setAll_allV] at hs
                rotate_left
                · rfl
                go_wp2_with fail
                go_meet
                exact ⟨vb, rfl, hs⟩
          · obtain ⟨wy, vb, ey, er, hs⟩ := hs.allocEx #[.int .i64 0, .int .i64 0, .int .i64 0, .int .i64 0, .slice none 0 0, .int .i64 0, .int .i64 0] 24
            go_simp
            try rw [ey]
            try rw [er]
            clear ey er
            refine hK.out _ _ (trivial) (fun hHeld => ?_)
            clear hK KK
            try simp only [Act.put, List.setIfInBounds_toArray, List.set_cons_zero, List.set_cons_succ]
            refine wpAnyH_ready (rs := [11]) (by kernel_rfl) (by simp) (AllReadyH.cons (o := { dst := some 36, op := Op.call { callee := Callee.value (Operand.func 76), args := #[Operand.tmp 35], argTypes := #[9] }, type := 3, pos := "ref.go:133", after := #[{ on := 10, ground := Ground.data }, { on := 8, ground := Ground.chain }], guard := none }) rfl (fun KK hK => ?_) AllReadyH.nil)
            · go_simp
              go_at_call 76
              with_reducible refine (sr_intT _ ((S.drop 16).take 1) (by first | rfl | simp) u HU.out HU8.out hs).mono ?_
              rintro e wq ⟨rfl, hs⟩
              refine hK.out _ _ (trivial) (fun hHeld => ?_)
              clear hK KK
              try simp only [Act.put, List.setIfInBounds_toArray, List.set_cons_zero, List.set_cons_succ]
              refine wpAnyH_take (i := 12) (oi := { dst := some 37, op := Op.build 24 #[(0, Operand.tmp 27), (1, Operand.tmp 30), (2, Operand.tmp 33), (3, Operand.tmp 36)], type := 24, pos := "ref.go:133", after := #[{ on := 2, ground := Ground.data }, { on := 5, ground := Ground.data }, { on := 8, ground := Ground.data }, { on := 11, ground := Ground.data }], guard := none }) (v := ?_) rfl (by kernel_rfl) (by kernel_rfl) (by kernel_rfl) (fun _ _ _ h => h) (Or.inl ⟨by rfl, ?_⟩) (by assumption) ?_
              rotate_left
              · intro w hSw; (try dsimp only at hSw); go_simp; try with_reducible rfl
              simp only [Act.put, List.setIfInBounds_toArray, List.set_cons_zero, List.set_cons_succ]
              refine wpAnyH_ready (rs := [14]) (by kernel_rfl) (by simp) (AllReadyH.cons (o := { dst := none, op := Op.store 24 (Operand.tmp 5) (Operand.tmp 37), type := 0, pos := "ref.go:133", after := #[{ on := 13, ground := Ground.data }, { on := 12, ground := Ground.data }, { on := 11, ground := Ground.chain }, { on := 0, ground := Ground.phase }, { on := 1, ground := Ground.phase }, { on := 2, ground := Ground.phase }, { on := 3, ground := Ground.phase }, { on := 4, ground := Ground.phase }, { on := 5, ground := Ground.phase }, { on := 6, ground := Ground.phase }, { on := 7, ground := Ground.phase }, { on := 8, ground := Ground.phase }, { on := 9, ground := Ground.phase }, { on := 10, ground := Ground.phase }, { on := 11, ground := Ground.phase }, { on := 12, ground := Ground.phase }, { on := 13, ground := Ground.phase }], guard := none }) rfl (fun KK hK => ?_) AllReadyH.nil)
              · rw [if_pos (by rfl)]
                refine wp_store_mid 24 (.tmp 5) (.tmp 37) rfl vb 0 #[.int .i64 p, .int .i64 e, .int .i64 t, .int .i64 u, .slice none 0 0, .int .i64 0, .int .i64 0] (by rfl) (by rfl) hs.there (by kernel_rfl) (by simp [Value.oneCell']) ?_
                obtain ⟨wz, ez, hs⟩ := hs.storeEx #[.int .i64 p, .int .i64 e, .int .i64 t, .int .i64 u, .slice none 0 0, .int .i64 0, .int .i64 0]
                rw [ez]
                clear ez
                refine hK.out _ _ (trivial) (fun hHeld => ?_)
                clear hK KK
                try simp only [Act.put, List.setIfInBounds_toArray, List.set_cons_zero, List.set_cons_succ]
                refine wpAnyH_done (by kernel_rfl) ?_ _
                clear hHeld
                rw [setAll_allV] at hs
                rotate_left
                · rfl
                go_wp2_with fail
                go_meet
                exact ⟨vb, rfl, hs⟩
        · obtain ⟨wy, vb, ey, er, hs⟩ := hs.allocEx #[.int .i64 0, .int .i64 0, .int .i64 0, .int .i64 0, .slice none 0 0, .int .i64 0, .int .i64 0] 24
          go_simp
          try rw [ey]
          try rw [er]
          clear ey er
          refine hK.out _ _ (trivial) (fun hHeld => ?_)
          clear hK KK
          try simp only [Act.put, List.setIfInBounds_toArray, List.set_cons_zero, List.set_cons_succ]
          refine wpAnyH_ready (rs := [8]) (by kernel_rfl) (by simp) (AllReadyH.cons (o := { dst := some 33, op := Op.call { callee := Callee.value (Operand.func 76), args := #[Operand.tmp 32], argTypes := #[9] }, type := 3, pos := "ref.go:133", after := #[{ on := 7, ground := Ground.data }, { on := 5, ground := Ground.chain }], guard := none }) rfl (fun KK hK => ?_) AllReadyH.nil)
          · go_simp
            go_at_call 76
            with_reducible refine (sr_intT _ ((S.drop 12).take 4) (by first | rfl | simp) t HT.out HT8.out hs).mono ?_
            rintro e wq ⟨rfl, hs⟩
            refine hK.out _ _ (trivial) (fun hHeld => ?_)
            clear hK KK
            try simp only [Act.put, List.setIfInBounds_toArray, List.set_cons_zero, List.set_cons_succ]
            refine wpAnyH_ready (rs := [11]) (by kernel_rfl) (by simp) (AllReadyH.cons (o := { dst := some 36, op := Op.call { callee := Callee.value (Operand.func 76), args := #[Operand.tmp 35], argTypes := #[9] }, type := 3, pos := "ref.go:133", after := #[{ on := 10, ground := Ground.data }, { on := 8, ground := Ground.chain }], guard := none }) rfl (fun KK hK => ?_) AllReadyH.nil)
            · go_simp
              go_at_call 76
              with_reducible refine (sr_intT _ ((S.drop 16).take 1) (by first | rfl | simp) u HU.out HU8.out hs).mono ?_
              rintro e wq ⟨rfl, hs⟩
              refine hK.out _ _ (trivial) (fun hHeld => ?_)
              clear hK KK
              try simp only [Act.put, List.setIfInBounds_toArray, List.set_cons_zero, List.set_cons_succ]
              refine wpAnyH_take (i := 12) (oi := { dst := some 37, op := Op.build 24 #[(0, Operand.tmp 27), (1, Operand.tmp 30), (2, Operand.tmp 33), (3, Operand.tmp 36)], type := 24, pos := "ref.go:133", after := #[{ on := 2, ground := Ground.data }, { on := 5, ground := Ground.data }, { on := 8, ground := Ground.data }, { on := 11, ground := Ground.data }], guard := none }) (v := ?_) rfl (by kernel_rfl) (by kernel_rfl) (by kernel_rfl) (fun _ _ _ h => h) (Or.inl ⟨by rfl, ?_⟩) (by assumption) ?_
              rotate_left
              · intro w hSw; (try dsimp only at hSw); go_simp; try with_reducible rfl
              simp only [Act.put, List.setIfInBounds_toArray, List.set_cons_zero, List.set_cons_succ]
              refine wpAnyH_ready (rs := [14]) (by kernel_rfl) (by simp) (AllReadyH.cons (o := { dst := none, op := Op.store 24 (Operand.tmp 5) (Operand.tmp 37), type := 0, pos := "ref.go:133", after := #[{ on := 13, ground := Ground.data }, { on := 12, ground := Ground.data }, { on := 11, ground := Ground.chain }, { on := 0, ground := Ground.phase }, { on := 1, ground := Ground.phase }, { on := 2, ground := Ground.phase }, { on := 3, ground := Ground.phase }, { on := 4, ground := Ground.phase }, { on := 5, ground := Ground.phase }, { on := 6, ground := Ground.phase }, { on := 7, ground := Ground.phase }, { on := 8, ground := Ground.phase }, { on := 9, ground := Ground.phase }, { on := 10, ground := Ground.phase }, { on := 11, ground := Ground.phase }, { on := 12, ground := Ground.phase }, { on := 13, ground := Ground.phase }], guard := none }) rfl (fun KK hK => ?_) AllReadyH.nil)
              · rw [if_pos (by rfl)]
                refine wp_store_mid 24 (.tmp 5) (.tmp 37) rfl vb 0 #[.int .i64 p, .int .i64 e, .int .i64 t, .int .i64 u, .slice none 0 0, .int .i64 0, .int .i64 0] (by rfl) (by rfl) hs.there (by kernel_rfl) (by simp [Value.oneCell']) ?_
                obtain ⟨wz, ez, hs⟩ := hs.storeEx #[.int .i64 p, .int .i64 e, .int .i64 t, .int .i64 u, .slice none 0 0, .int .i64 0, .int .i64 0]
                rw [ez]
                clear ez
                refine hK.out _ _ (trivial) (fun hHeld => ?_)
                clear hK KK
                try simp only [Act.put, List.setIfInBounds_toArray, List.set_cons_zero, List.set_cons_succ]
                refine wpAnyH_done (by kernel_rfl) ?_ _
                clear hHeld
                rw [setAll_allV] at hs
                rotate_left
                · rfl
                go_wp2_with fail
                go_meet
                exact ⟨vb, rfl, hs⟩
      · obtain ⟨wy, vb, ey, er, hs⟩ := hs.allocEx #[.int .i64 0, .int .i64 0, .int .i64 0, .int .i64 0, .slice none 0 0, .int .i64 0, .int .i64 0] 24
        go_simp
        try rw [ey]
        try rw [er]
        clear ey er
        refine hK.out _ _ (trivial) (fun hHeld => ?_)
        clear hK KK
        try simp only [Act.put, List.setIfInBounds_toArray, List.set_cons_zero, List.set_cons_succ]
        refine wpAnyH_ready (rs := [5]) (by kernel_rfl) (by simp) (AllReadyH.cons (o := { dst := some 30, op := Op.call { callee := Callee.value (Operand.func 76), args := #[Operand.tmp 29], argTypes := #[9] }, type := 3, pos := "ref.go:133", after := #[{ on := 4, ground := Ground.data }, { on := 2, ground := Ground.chain }], guard := none }) rfl (fun KK hK => ?_) AllReadyH.nil)
        · go_simp
          go_at_call 76
          with_reducible refine (sr_intT _ ((S.drop 10).take 2) (by first | rfl | simp) e HE.out HE8.out hs).mono ?_
          rintro e wq ⟨rfl, hs⟩
          refine hK.out _ _ (trivial) (fun hHeld => ?_)
          clear hK KK
          try simp only [Act.put, List.setIfInBounds_toArray, List.set_cons_zero, List.set_cons_succ]
          refine wpAnyH_ready (rs := [8]) (by kernel_rfl) (by simp) (AllReadyH.cons (o := { dst := some 33, op := Op.call { callee := Callee.value (Operand.func 76), args := #[Operand.tmp 32], argTypes := #[9] }, type := 3, pos := "ref.go:133", after := #[{ on := 7, ground := Ground.data }, { on := 5, ground := Ground.chain }], guard := none }) rfl (fun KK hK => ?_) AllReadyH.nil)
          · go_simp
            go_at_call 76
            with_reducible refine (sr_intT _ ((S.drop 12).take 4) (by first | rfl | simp) t HT.out HT8.out hs).mono ?_
            rintro e wq ⟨rfl, hs⟩
            refine hK.out _ _ (trivial) (fun hHeld => ?_)
            clear hK KK
            try simp only [Act.put, List.setIfInBounds_toArray, List.set_cons_zero, List.set_cons_succ]
            refine wpAnyH_ready (rs := [11]) (by kernel_rfl) (by simp) (AllReadyH.cons (o := { dst := some 36, op := Op.call { callee := Callee.value (Operand.func 76), args := #[Operand.tmp 35], argTypes := #[9] }, type := 3, pos := "ref.go:133", after := #[{ on := 10, ground := Ground.data }, { on := 8, ground := Ground.chain }], guard := none }) rfl (fun KK hK => ?_) AllReadyH.nil)
            · go_simp
              go_at_call 76
              with_reducible refine (sr_intT _ ((S.drop 16).take 1) (by first | rfl | simp) u HU.out HU8.out hs).mono ?_
              rintro e wq ⟨rfl, hs⟩
              refine hK.out _ _ (trivial) (fun hHeld => ?_)
              clear hK KK
              try simp only [Act.put, List.setIfInBounds_toArray, List.set_cons_zero, List.set_cons_succ]
              refine wpAnyH_take (i := 12) (oi := { dst := some 37, op := Op.build 24 #[(0, Operand.tmp 27), (1, Operand.tmp 30), (2, Operand.tmp 33), (3, Operand.tmp 36)], type := 24, pos := "ref.go:133", after := #[{ on := 2, ground := Ground.data }, { on := 5, ground := Ground.data }, { on := 8, ground := Ground.data }, { on := 11, ground := Ground.data }], guard := none }) (v := ?_) rfl (by kernel_rfl) (by kernel_rfl) (by kernel_rfl) (fun _ _ _ h => h) (Or.inl ⟨by rfl, ?_⟩) (by assumption) ?_
              rotate_left
              · intro w hSw; (try dsimp only at hSw); go_simp; try with_reducible rfl
              simp only [Act.put, List.setIfInBounds_toArray, List.set_cons_zero, List.set_cons_succ]
              refine wpAnyH_ready (rs := [14]) (by kernel_rfl) (by simp) (AllReadyH.cons (o := { dst := none, op := Op.store 24 (Operand.tmp 5) (Operand.tmp 37), type := 0, pos := "ref.go:133", after := #[{ on := 13, ground := Ground.data }, { on := 12, ground := Ground.data }, { on := 11, ground := Ground.chain }, { on := 0, ground := Ground.phase }, { on := 1, ground := Ground.phase }, { on := 2, ground := Ground.phase }, { on := 3, ground := Ground.phase }, { on := 4, ground := Ground.phase }, { on := 5, ground := Ground.phase }, { on := 6, ground := Ground.phase }, { on := 7, ground := Ground.phase }, { on := 8, ground := Ground.phase }, { on := 9, ground := Ground.phase }, { on := 10, ground := Ground.phase }, { on := 11, ground := Ground.phase }, { on := 12, ground := Ground.phase }, { on := 13, ground := Ground.phase }], guard := none }) rfl (fun KK hK => ?_) AllReadyH.nil)
              · rw [if_pos (by rfl)]
                refine wp_store_mid 24 (.tmp 5) (.tmp 37) rfl vb 0 #[.int .i64 p, .int .i64 e, .int .i64 t, .int .i64 u, .slice none 0 0, .int .i64 0, .int .i64 0] (by rfl) (by rfl) hs.there (by kernel_rfl) (by simp [Value.oneCell']) ?_
                obtain ⟨wz, ez, hs⟩ := hs.storeEx #[.int .i64 p, .int .i64 e, .int .i64 t, .int .i64 u, .slice none 0 0, .int .i64 0, .int .i64 0]
                rw [ez]
                clear ez
                refine hK.out _ _ (trivial) (fun hHeld => ?_)
                clear hK KK
                try simp only [Act.put, List.setIfInBounds_toArray, List.set_cons_zero, List.set_cons_succ]
                refine wpAnyH_done (by kernel_rfl) ?_ _
                clear hHeld
                rw [setAll_allV] at hs
                rotate_left
                · rfl
                go_wp2_with fail
                go_meet
                exact ⟨vb, rfl, hs⟩
    · obtain ⟨wy, vb, ey, er, hs⟩ := hs.allocEx #[.int .i64 0, .int .i64 0, .int .i64 0, .int .i64 0, .slice none 0 0, .int .i64 0, .int .i64 0] 24
      go_simp
      try rw [ey]
      try rw [er]
      clear ey er
      refine hK.out _ _ (trivial) (fun hHeld => ?_)
      clear hK KK
      try simp only [Act.put, List.setIfInBounds_toArray, List.set_cons_zero, List.set_cons_succ]
      refine wpAnyH_ready (rs := [2]) (by kernel_rfl) (by simp) (AllReadyH.cons (o := { dst := some 27, op := Op.call { callee := Callee.value (Operand.func 76), args := #[Operand.tmp 26], argTypes := #[9] }, type := 3, pos := "ref.go:133", after := #[{ on := 1, ground := Ground.data }], guard := none }) rfl (fun KK hK => ?_) AllReadyH.nil)
      · go_simp
        go_at_call 76
        with_reducible refine (sr_intT _ ((S.drop 2).take 8) (by first | rfl | simp) p HP.out HP8.out hs).mono ?_
        rintro e wq ⟨rfl, hs⟩
        refine hK.out _ _ (trivial) (fun hHeld => ?_)
        clear hK KK
        try simp only [Act.put, List.setIfInBounds_toArray, List.set_cons_zero, List.set_cons_succ]
        refine wpAnyH_ready (rs := [5]) (by kernel_rfl) (by simp) (AllReadyH.cons (o := { dst := some 30, op := Op.call { callee := Callee.value (Operand.func 76), args := #[Operand.tmp 29], argTypes := #[9] }, type := 3, pos := "ref.go:133", after := #[{ on := 4, ground := Ground.data }, { on := 2, ground := Ground.chain }], guard := none }) rfl (fun KK hK => ?_) AllReadyH.nil)
        · go_simp
          go_at_call 76
          with_reducible refine (sr_intT _ ((S.drop 10).take 2) (by first | rfl | simp) e HE.out HE8.out hs).mono ?_
          rintro e wq ⟨rfl, hs⟩
          refine hK.out _ _ (trivial) (fun hHeld => ?_)
          clear hK KK
          try simp only [Act.put, List.setIfInBounds_toArray, List.set_cons_zero, List.set_cons_succ]
          refine wpAnyH_ready (rs := [8]) (by kernel_rfl) (by simp) (AllReadyH.cons (o := { dst := some 33, op := Op.call { callee := Callee.value (Operand.func 76), args := #[Operand.tmp 32], argTypes := #[9] }, type := 3, pos := "ref.go:133", after := #[{ on := 7, ground := Ground.data }, { on := 5, ground := Ground.chain }], guard := none }) rfl (fun KK hK => ?_) AllReadyH.nil)
          · go_simp
            go_at_call 76
            with_reducible refine (sr_intT _ ((S.drop 12).take 4) (by first | rfl | simp) t HT.out HT8.out hs).mono ?_
            rintro e wq ⟨rfl, hs⟩
            refine hK.out _ _ (trivial) (fun hHeld => ?_)
            clear hK KK
            try simp only [Act.put, List.setIfInBounds_toArray, List.set_cons_zero, List.set_cons_succ]
            refine wpAnyH_ready (rs := [11]) (by kernel_rfl) (by simp) (AllReadyH.cons (o := { dst := some 36, op := Op.call { callee := Callee.value (Operand.func 76), args := #[Operand.tmp 35], argTypes := #[9] }, type := 3, pos := "ref.go:133", after := #[{ on := 10, ground := Ground.data }, { on := 8, ground := Ground.chain }], guard := none }) rfl (fun KK hK => ?_) AllReadyH.nil)
            · go_simp
              go_at_call 76
              with_reducible refine (sr_intT _ ((S.drop 16).take 1) (by first | rfl | simp) u HU.out HU8.out hs).mono ?_
              rintro e wq ⟨rfl, hs⟩
              refine hK.out _ _ (trivial) (fun hHeld => ?_)
              clear hK KK
              try simp only [Act.put, List.setIfInBounds_toArray, List.set_cons_zero, List.set_cons_succ]
              refine wpAnyH_take (i := 12) (oi := { dst := some 37, op := Op.build 24 #[(0, Operand.tmp 27), (1, Operand.tmp 30), (2, Operand.tmp 33), (3, Operand.tmp 36)], type := 24, pos := "ref.go:133", after := #[{ on := 2, ground := Ground.data }, { on := 5, ground := Ground.data }, { on := 8, ground := Ground.data }, { on := 11, ground := Ground.data }], guard := none }) (v := ?_) rfl (by kernel_rfl) (by kernel_rfl) (by kernel_rfl) (fun _ _ _ h => h) (Or.inl ⟨by rfl, ?_⟩) (by assumption) ?_
              rotate_left
              · intro w hSw; (try dsimp only at hSw); go_simp; try with_reducible rfl
              simp only [Act.put, List.setIfInBounds_toArray, List.set_cons_zero, List.set_cons_succ]
              refine wpAnyH_ready (rs := [14]) (by kernel_rfl) (by simp) (AllReadyH.cons (o := { dst := none, op := Op.store 24 (Operand.tmp 5) (Operand.tmp 37), type := 0, pos := "ref.go:133", after := #[{ on := 13, ground := Ground.data }, { on := 12, ground := Ground.data }, { on := 11, ground := Ground.chain }, { on := 0, ground := Ground.phase }, { on := 1, ground := Ground.phase }, { on := 2, ground := Ground.phase }, { on := 3, ground := Ground.phase }, { on := 4, ground := Ground.phase }, { on := 5, ground := Ground.phase }, { on := 6, ground := Ground.phase }, { on := 7, ground := Ground.phase }, { on := 8, ground := Ground.phase }, { on := 9, ground := Ground.phase }, { on := 10, ground := Ground.phase }, { on := 11, ground := Ground.phase }, { on := 12, ground := Ground.phase }, { on := 13, ground := Ground.phase }], guard := none }) rfl (fun KK hK => ?_) AllReadyH.nil)
              · rw [if_pos (by rfl)]
                refine wp_store_mid 24 (.tmp 5) (.tmp 37) rfl vb 0 #[.int .i64 p, .int .i64 e, .int .i64 t, .int .i64 u, .slice none 0 0, .int .i64 0, .int .i64 0] (by rfl) (by rfl) hs.there (by kernel_rfl) (by simp [Value.oneCell']) ?_
                obtain ⟨wz, ez, hs⟩ := hs.storeEx #[.int .i64 p, .int .i64 e, .int .i64 t, .int .i64 u, .slice none 0 0, .int .i64 0, .int .i64 0]
                rw [ez]
                clear ez
                refine hK.out _ _ (trivial) (fun hHeld => ?_)
                clear hK KK
                try simp only [Act.put, List.setIfInBounds_toArray, List.set_cons_zero, List.set_cons_succ]
                refine wpAnyH_done (by kernel_rfl) ?_ _
                clear hHeld
                rw [setAll_allV] at hs
                rotate_left
                · rfl
                go_wp2_with fail
                go_meet
                exact ⟨vb, rfl, hs⟩
  obtain ⟨vb, rfl, h⟩ := hcut
  clear c0 d0 r0 c1 d1 r1 c2 d2 r2 c3 d3 r3 c4 d4 r4 c5 d5 r5 c6 d6 r6
  have H := Lib.hid h
  clear h
  have c0 := H.out.p1.rawCell 0; have c1 := H.out.p1.rawCell 1; have c2 := H.out.p1.rawCell 2; have c3 := H.out.p1.rawCell 3; have c4 := H.out.p1.rawCell 4; have c5 := H.out.p1.rawCell 5; have c6 := H.out.p1.rawCell 6; simp at c0 c1 c2 c3 c4 c5 c6; have d0 := H.out.p2.rawCell 0; have r0 := H.out.p2.rawFree 0; have d1 := H.out.p2.rawCell 1; have r1 := H.out.p2.rawFree 1; have d2 := H.out.p2.rawCell 2; have r2 := H.out.p2.rawFree 2; have d3 := H.out.p2.rawCell 3; have r3 := H.out.p2.rawFree 3; have d4 := H.out.p2.rawCell 4; have r4 := H.out.p2.rawFree 4; have d5 := H.out.p2.rawCell 5; have r5 := H.out.p2.rawFree 5; have d6 := H.out.p2.rawCell 6; have r6 := H.out.p2.rawFree 6; simp at d0 d1 d2 d3 d4 d5 d6
  go_wp2_with (go_at_call 26; clear HA; (with_reducible refine (ref14_readTopicsT _ (S.drop 17) HTE.out HX.out l m ef HR.out H.out).mono ?_); rintro e_ wn ⟨v_, lr, rfl, hlr, h⟩; obtain ⟨q, cap, rfl⟩ := tops_form (Know.has_right (Know.has_refl _)) h; have HLR := Lib.hid hlr; clear hlr; clear c0 d0 r0 c1 d1 r1 c2 d2 r2 c3 d3 r3 c4 d4 r4 c5 d5 r5 c6 d6 r6; have c0 := h.p1.rawCell 0; have c1 := h.p1.rawCell 1; have c2 := h.p1.rawCell 2; have c3 := h.p1.rawCell 3; have c4 := h.p1.rawCell 4; have c5 := h.p1.rawCell 5; have c6 := h.p1.rawCell 6; simp at c0 c1 c2 c3 c4 c5 c6; have d0 := h.p2.rawCell 0; have r0 := h.p2.rawFree 0; have d1 := h.p2.rawCell 1; have r1 := h.p2.rawFree 1; have d2 := h.p2.rawCell 2; have r2 := h.p2.rawFree 2; have d3 := h.p2.rawCell 3; have r3 := h.p2.rawFree 3; have d4 := h.p2.rawCell 4; have r4 := h.p2.rawFree 4; have d5 := h.p2.rawCell 5; have r5 := h.p2.rawFree 5; have d6 := h.p2.rawCell 6; have r6 := h.p2.rawFree 6; simp at d0 d1 d2 d3 d4 d5 d6; replace H := Lib.hid h; clear h)
  have hz : St W0 _ _ (.raw rb #[.int .i64 0, .int .i64 0, .int .i64 0, .int .i64 0, .slice none 0 0, .int .i64 0, .int .i64 0] 24 :: _) := St.sets7 _ _ _ _ _ _ _ (H.out.p2)
  refine bodyPost_ret (rc_cell_tmp rfl _ _ rb [.int .i64 0, .int .i64 0, .int .i64 0, .int .i64 0, .slice none 0 0, .int .i64 0, .int .i64 0] _ rfl (rc_range hz) Try.underlying24 rfl (by kernel_rfl)) rfl ?_
  exact ⟨rfl, (hz.drop.drop.drop).know (Know.has_left (Know.has_refl _))⟩

end Go.Proofs.Ytombolmicfjjpaa
