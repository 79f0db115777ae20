/- What the law keeps of journals (pure). -/
import Derived.Test.YtmpehoebgifmnaaDoorGWholeLogCard3
import Derived.Deep.RegionHeld3
import Derived.Deep.DeepCutAuto
import Derived.Test.YtmpehoebgifmnaaDoorBlob1
import Derived.RegionTactic
import Derived.WalkMore
import Derived.Test.YtmpehoebgifmnaaDoorKeyP
import Derived.Test.YtmpehoebgifmnaaDoorGWholeLogCard1
import Derived.Test.YtmpehoebgifmnaaDoorGrow
/- Values, encoded. -/
namespace Go.Proofs.YtmpehoebgifmnaaDoor
open Go.RowKit

set_option maxHeartbeats 2000000 in
set_option maxRecDepth 100000 in
theorem val_encode_bad (p e t s u st : Int) (l : List (TopS × Value)) (q : Option Addr) (cap : Nat) (E : Int) (he : ValS.err ⟨p, e, t, s, l.map (·.1), u, st⟩ = E) (h0 : E ≠ 0) (hf : FewT l) {W0 w : World} {K : Know} {L : List Res} (hk : K.has (Know.tops (.slice q l.length cap) l)) (h : St W0 w K L) :
    Calls Tryd.prog 17 #[.agg #[.int .i64 p, .int .i64 e, .int .i64 t, .int .i64 s, .slice q l.length cap, .int .i64 u, .int .i64 st]] w fun en w' => en = .returned (.tuple #[.string ⟨#[]⟩, .int .i64 E]) ∧ St W0 w' K L := by
  have HK := Lib.hid hk
  have HF := Lib.hid hf
  obtain ⟨vb, hvb⟩ : ∃ b, w.heap.size = b := ⟨_, rfl⟩
  have h1 := h.allocRaw #[.int .i64 p, .int .i64 e, .int .i64 t, .int .i64 s, .slice q l.length cap, .int .i64 u, .int .i64 st] 29
  rw [hvb] at h1
  have c0 := (h1).rawCell 0
  have c1 := (h1).rawCell 1
  have c2 := (h1).rawCell 2
  have c3 := (h1).rawCell 3
  have c4 := (h1).rawCell 4
  have c5 := (h1).rawCell 5
  have c6 := (h1).rawCell 6
  simp at c0 c1 c2 c3 c4 c5 c6
  have H := Lib.hid h1
  have HE := Lib.hid he
  have gz : (E == 0) = false := by rw [beq_eq_false_iff_ne]; exact h0
  have gz3 : (E != 0) = true := by simp [bne, gz]
  clear h h1 hk hf he h0
  go_enter Tryd.func17, Tryd.ntmps17
  go_wp2_with (go_at_call 30; (with_reducible refine (val_checkV p e t s u st l _ _ E HE.out HF.out HK.out H.out).mono ?_); rintro e_ wn ⟨rfl, h⟩; have c0 := (h).rawCell 0; have c1 := (h).rawCell 1; have c2 := (h).rawCell 2; have c3 := (h).rawCell 3; have c4 := (h).rawCell 4; have c5 := (h).rawCell 5; have c6 := (h).rawCell 6; simp at c0 c1 c2 c3 c4 c5 c6; replace H := Lib.hid h; clear h)
  go_ret2
  exact ⟨rfl, H.out.drop⟩

set_option maxHeartbeats 2000000 in
set_option maxRecDepth 100000 in
theorem val_encode_ok (p e t s u st : Int) (l : List (TopS × Value)) (q : Option Addr) (cap : Nat) (he : ValS.err ⟨p, e, t, s, l.map (·.1), u, st⟩ = 0) (hR : ValS.R ⟨p, e, t, s, l.map (·.1), u, st⟩) (hf : FewT l) {W0 w : World} {K : Know} {L : List Res} (hk : K.has (Know.tops (.slice q l.length cap) l)) (h : St W0 w K L) :
    Calls Tryd.prog 17 #[.agg #[.int .i64 p, .int .i64 e, .int .i64 t, .int .i64 s, .slice q l.length cap, .int .i64 u, .int .i64 st]] w fun en w' => en = .returned (.tuple #[.string (bb (ValS.enc ⟨p, e, t, s, l.map (·.1), u, st⟩)), .int .i64 0]) ∧ St W0 w' K L := by
  have HK := Lib.hid hk
  have HF := Lib.hid hf
  obtain ⟨vb, hvb⟩ : ∃ b, w.heap.size = b := ⟨_, rfl⟩
  have h1 := h.allocRaw #[.int .i64 p, .int .i64 e, .int .i64 t, .int .i64 s, .slice q l.length cap, .int .i64 u, .int .i64 st] 29
  rw [hvb] at h1
  have c0 := (h1).rawCell 0
  have c1 := (h1).rawCell 1
  have c2 := (h1).rawCell 2
  have c3 := (h1).rawCell 3
  have c4 := (h1).rawCell 4
  have c5 := (h1).rawCell 5
  have c6 := (h1).rawCell 6
  simp at c0 c1 c2 c3 c4 c5 c6
  have H := Lib.hid h1
  have HE := Lib.hid he
  have hp := ValS.ok_parts _ he
  have hrg := ranged_parts _ hp.1
  have hft := fit_of_rise l hf hp.2.2.2.2
  have hst := hp.2.1
  obtain ⟨r1, r2, r3, r4, r5, r6⟩ := hR
  simp only at hrg hst r1 r2 r3 r4 r5 r6
  have HFT := Lib.hid hft
  obtain ⟨y0, hy0⟩ : ∃ y : Bs, [] = y := ⟨_, rfl⟩
  obtain ⟨y1, hy1⟩ : ∃ y, y0 ++ beBytes 0 2 = y := ⟨_, rfl⟩
  obtain ⟨y2, hy2⟩ : ∃ y, y1 ++ beBytes p 8 = y := ⟨_, rfl⟩
  obtain ⟨y3, hy3⟩ : ∃ y, y2 ++ beBytes e 2 = y := ⟨_, rfl⟩
  obtain ⟨y4, hy4⟩ : ∃ y, y3 ++ beBytes t 4 = y := ⟨_, rfl⟩
  obtain ⟨y5, hy5⟩ : ∃ y, y4 ++ beBytes s 1 = y := ⟨_, rfl⟩
  obtain ⟨y6, hy6⟩ : ∃ y, y5 ++ encTs (l.map (·.1)) = y := ⟨_, rfl⟩
  obtain ⟨y7, hy7⟩ : ∃ y, y6 ++ beBytes u 8 = y := ⟨_, rfl⟩
  obtain ⟨y8, hy8⟩ : ∃ y, y7 ++ beBytes st 8 = y := ⟨_, rfl⟩
  have hye : y8 = ValS.enc ⟨p, e, t, s, l.map (·.1), u, st⟩ := by rw [← hy8, ← hy7, ← hy6, ← hy5, ← hy4, ← hy3, ← hy2, ← hy1, ← hy0]; rfl
  have hl1 := congrArg List.length hy1
  have hl2 := congrArg List.length hy2
  have hl3 := congrArg List.length hy3
  have hl4 := congrArg List.length hy4
  have hl5 := congrArg List.length hy5
  have hl6 := congrArg List.length hy6
  have hl7 := congrArg List.length hy7
  have hl8 := congrArg List.length hy8
  have hl0 := congrArg List.length hy0
  simp only [List.length_append, beBytes_length, List.length_nil] at hl0 hl1 hl2 hl3 hl4 hl5 hl6 hl7 hl8
  have hTl : (encTs (l.map (·.1))).length ≤ 5000000000000 := by rw [← preT_all]; have h1 := preT_le _ hft _ (Nat.le_refl _); have h2 := hft.1; omega
  have Y1 := Lib.hid (show y0 ++ beBytes 0 (2 : Int).toNat = y1 from hy1)
  have G1 := Lib.hid (vfits2 0 (by omega))
  have Q1 := Lib.hid (show y0.length ≤ 100000000000000 by omega)
  have Y2 := Lib.hid (show y1 ++ beBytes p (8 : Int).toNat = y2 from hy2)
  have G2 := Lib.hid (vfits8 p (by omega))
  have Q2 := Lib.hid (show y1.length ≤ 100000000000000 by omega)
  have Y3 := Lib.hid (show y2 ++ beBytes e (2 : Int).toNat = y3 from hy3)
  have G3 := Lib.hid (vfits2 e (by omega))
  have Q3 := Lib.hid (show y2.length ≤ 100000000000000 by omega)
  have Y4 := Lib.hid (show y3 ++ beBytes t (4 : Int).toNat = y4 from hy4)
  have G4 := Lib.hid (vfits4 t (by omega))
  have Q4 := Lib.hid (show y3.length ≤ 100000000000000 by omega)
  have Y5 := Lib.hid (show y4 ++ beBytes s (1 : Int).toNat = y5 from hy5)
  have G5 := Lib.hid (vfits1 s (by omega))
  have Q5 := Lib.hid (show y4.length ≤ 100000000000000 by omega)
  have Y6 := Lib.hid hy6
  have Q6 := Lib.hid (show y5.length ≤ 1000000 by omega)
  have Y7 := Lib.hid (show y6 ++ beBytes u (8 : Int).toNat = y7 from hy7)
  have G7 := Lib.hid (vfits8 u (by omega))
  have Q7 := Lib.hid (show y6.length ≤ 100000000000000 by omega)
  have Y8 := Lib.hid (show y7 ++ beBytes st (8 : Int).toNat = y8 from hy8)
  have G8 := Lib.hid (vfits8 st (by omega))
  have Q8 := Lib.hid (show y7.length ≤ 100000000000000 by omega)
  rw [← hye]
  clear h h1 hk hf he hp hrg hft hst r1 r2 r3 r4 r5 r6 hTl hye hy1 hy2 hy3 hy4 hy5 hy6 hy7 hy8 hl0 hl1 hl2 hl3 hl4 hl5 hl6 hl7 hl8
  go_enter Tryd.func17, Tryd.ntmps17
  go_wp2_with (first
    | (go_at_call 30; (with_reducible refine (val_checkV p e t s u st l _ _ 0 HE.out HF.out HK.out H.out).mono ?_); rintro e_ wn ⟨rfl, h⟩; obtain ⟨po, hpo⟩ : ∃ b, wn.heap.size = b := ⟨_, rfl⟩; have h := h.allocOut; rw [hpo, hy0] at h; have c0 := (h.p1).rawCell 0; have c1 := (h.p1).rawCell 1; have c2 := (h.p1).rawCell 2; have c3 := (h.p1).rawCell 3; have c4 := (h.p1).rawCell 4; have c5 := (h.p1).rawCell 5; have c6 := (h.p1).rawCell 6; simp at c0 c1 c2 c3 c4 c5 c6; replace H := Lib.hid h; clear h)
    | (go_at_call 27; (with_reducible refine (so_intV po y0 y1 0 2 Y1.out G1.out Q1.out H.out).mono ?_); rintro e_ wn ⟨rfl, h⟩; have c0 := (h.p1).rawCell 0; have c1 := (h.p1).rawCell 1; have c2 := (h.p1).rawCell 2; have c3 := (h.p1).rawCell 3; have c4 := (h.p1).rawCell 4; have c5 := (h.p1).rawCell 5; have c6 := (h.p1).rawCell 6; simp at c0 c1 c2 c3 c4 c5 c6; replace H := Lib.hid h; clear h)
    | (go_at_call 27; (with_reducible refine (so_intV po y1 y2 p 8 Y2.out G2.out Q2.out H.out).mono ?_); rintro e_ wn ⟨rfl, h⟩; have c0 := (h.p1).rawCell 0; have c1 := (h.p1).rawCell 1; have c2 := (h.p1).rawCell 2; have c3 := (h.p1).rawCell 3; have c4 := (h.p1).rawCell 4; have c5 := (h.p1).rawCell 5; have c6 := (h.p1).rawCell 6; simp at c0 c1 c2 c3 c4 c5 c6; replace H := Lib.hid h; clear h)
    | (go_at_call 27; (with_reducible refine (so_intV po y2 y3 e 2 Y3.out G3.out Q3.out H.out).mono ?_); rintro e_ wn ⟨rfl, h⟩; have c0 := (h.p1).rawCell 0; have c1 := (h.p1).rawCell 1; have c2 := (h.p1).rawCell 2; have c3 := (h.p1).rawCell 3; have c4 := (h.p1).rawCell 4; have c5 := (h.p1).rawCell 5; have c6 := (h.p1).rawCell 6; simp at c0 c1 c2 c3 c4 c5 c6; replace H := Lib.hid h; clear h)
    | (go_at_call 27; (with_reducible refine (so_intV po y3 y4 t 4 Y4.out G4.out Q4.out H.out).mono ?_); rintro e_ wn ⟨rfl, h⟩; have c0 := (h.p1).rawCell 0; have c1 := (h.p1).rawCell 1; have c2 := (h.p1).rawCell 2; have c3 := (h.p1).rawCell 3; have c4 := (h.p1).rawCell 4; have c5 := (h.p1).rawCell 5; have c6 := (h.p1).rawCell 6; simp at c0 c1 c2 c3 c4 c5 c6; replace H := Lib.hid h; clear h)
    | (go_at_call 27; (with_reducible refine (so_intV po y4 y5 s 1 Y5.out G5.out Q5.out H.out).mono ?_); rintro e_ wn ⟨rfl, h⟩; have c0 := (h.p1).rawCell 0; have c1 := (h.p1).rawCell 1; have c2 := (h.p1).rawCell 2; have c3 := (h.p1).rawCell 3; have c4 := (h.p1).rawCell 4; have c5 := (h.p1).rawCell 5; have c6 := (h.p1).rawCell 6; simp at c0 c1 c2 c3 c4 c5 c6; replace H := Lib.hid h; clear h)
    | (go_at_call 31; (with_reducible refine (val_putTopics po y5 y6 l _ _ Y6.out Q6.out HFT.out HK.out H.out).mono ?_); rintro e_ wn ⟨rfl, h⟩; have c0 := (h.p1).rawCell 0; have c1 := (h.p1).rawCell 1; have c2 := (h.p1).rawCell 2; have c3 := (h.p1).rawCell 3; have c4 := (h.p1).rawCell 4; have c5 := (h.p1).rawCell 5; have c6 := (h.p1).rawCell 6; simp at c0 c1 c2 c3 c4 c5 c6; replace H := Lib.hid h; clear h)
    | (go_at_call 27; (with_reducible refine (so_intV po y6 y7 u 8 Y7.out G7.out Q7.out H.out).mono ?_); rintro e_ wn ⟨rfl, h⟩; have c0 := (h.p1).rawCell 0; have c1 := (h.p1).rawCell 1; have c2 := (h.p1).rawCell 2; have c3 := (h.p1).rawCell 3; have c4 := (h.p1).rawCell 4; have c5 := (h.p1).rawCell 5; have c6 := (h.p1).rawCell 6; simp at c0 c1 c2 c3 c4 c5 c6; replace H := Lib.hid h; clear h)
    | (go_at_call 27; (with_reducible refine (so_intV po y7 y8 st 8 Y8.out G8.out Q8.out H.out).mono ?_); rintro e_ wn ⟨rfl, h⟩; have c0 := (h.p1).rawCell 0; have c1 := (h.p1).rawCell 1; have c2 := (h.p1).rawCell 2; have c3 := (h.p1).rawCell 3; have c4 := (h.p1).rawCell 4; have c5 := (h.p1).rawCell 5; have c6 := (h.p1).rawCell 6; simp at c0 c1 c2 c3 c4 c5 c6; replace H := Lib.hid h; clear h)
    | (go_at_call 29; (with_reducible refine (so_textV po y8 H.out).mono ?_); rintro e_ wn ⟨rfl, h⟩; replace H := Lib.hid h; clear h))
  go_ret2
  exact ⟨rfl, H.out.drop.drop⟩

end Go.Proofs.YtmpehoebgifmnaaDoor
/- How many topics are looked at (pure). -/
namespace Go.Proofs.YtmpehoebgifmnaaDoor
open Go.RowKit

/-- How much of a topic is looked at. -/
def topW (t : TopS) : Nat := t.name.length + 4 * t.parts.length + 6
def topWs (l : List TopS) : Nat := (l.map topW).sum
theorem topWs_take (l : List TopS) (k : Nat) (hk : k < l.length) (t : TopS) (ht : l[k] = t) : topWs (l.take (k + 1)) = topWs (l.take k) + topW t := by
  unfold topWs
  rw [List.take_succ_eq_append_getElem hk, List.map_append, List.sum_append, ht]
  simp
theorem topWs_le (l : List TopS) (k : Nat) : topWs (l.take k) ≤ topWs l := by
  have h : topWs l = topWs (l.take k) + topWs (l.drop k) := by
    unfold topWs
    rw [← List.sum_append, ← List.map_append, List.take_append_drop]
  omega
theorem topWs_len (l : List TopS) : 6 * l.length ≤ topWs l := by
  unfold topWs
  induction l with
  | nil => simp
  | cons x t ih => rw [List.map_cons, List.sum_cons, List.length_cons]; unfold topW at ih ⊢; omega
theorem topWs_mem (l : List TopS) (t : TopS) (h : t ∈ l) : topW t ≤ topWs l := by
  unfold topWs
  induction l with
  | nil => cases h
  | cons x m ih =>
    rw [List.map_cons, List.sum_cons]
    rcases List.mem_cons.1 h with rfl | h
    · omega
    · have := ih h; omega
def few (l : List TopS) : Int := if topWs l ≤ 1000 then 1 else 0
theorem few_one {l : List TopS} (h : few l = 1) : topWs l ≤ 1000 := by
  unfold few at h
  by_cases hh : topWs l ≤ 1000
  · exact hh
  · rw [if_neg hh] at h; cases h
theorem few_T {l : List (TopS × Value)} (h : topWs (l.map (·.1)) ≤ 1000) : FewT l := by
  have h1 := topWs_len (l.map (·.1))
  rw [List.length_map] at h1
  refine ⟨by omega, fun x hx => ?_⟩
  have h2 := topWs_mem (l.map (·.1)) x.1 (List.mem_map_of_mem hx)
  unfold topW at h2
  exact ⟨by omega, by omega⟩

end Go.Proofs.YtmpehoebgifmnaaDoor
/- How many topics are looked at. -/
namespace Go.Proofs.YtmpehoebgifmnaaDoor
open Go.RowKit

set_option maxHeartbeats 2000000 in
set_option maxRecDepth 100000 in
theorem law14_few (l : List (TopS × Value)) (q : Option Addr) (cap : Nat) (hnl : l.length ≤ 140737488351232) (hb : ∀ x ∈ l, x.1.name.length ≤ 140737488351232 ∧ x.1.parts.length ≤ 17592186043904) (r : Int) (hr : few (l.map (·.1)) = r) {W0 w : World} {K : Know} {L : List Res} (hk : K.has (Know.tops (.slice q l.length cap) l)) (h : St W0 w K L) :
    Calls Tryd.prog 6 #[.slice q l.length cap] w fun en w' => en = .returned (.int .i64 r) ∧ St W0 w' K L := by
  have H := Lib.hid h
  have HK := Lib.hid hk
  have HR := Lib.hid hr
  have HB := Lib.hid hb
  clear h hk hr hb
  go_enter Tryd.func6, Tryd.ntmps6
  go_wp2
  go_loopw [3, 8] (fun sv iv wr => ∃ (k m : Nat), k ≤ l.length ∧ iv = .int .i64 k ∧ sv = .int .i64 m ∧ topWs ((l.map (·.1)).take k) = m ∧ m ≤ 1000 ∧ St W0 wr K L) (fun _ iv _ => l.length - (intOf iv).toNat)
  case atStart => exact ⟨0, 0, Nat.zero_le _, rfl, rfl, by simp [topWs], by omega, H.out⟩
  case round =>
    obtain ⟨k, m, hkl, rfl, rfl, hm, hm0, hst⟩ := hrel
    clear H
    have H := Lib.hid hst
    clear hst
    by_cases hlt : k < l.length
    · as_aux_lemma =>
      obtain ⟨b, off, hqq⟩ := tops_at HK.out H.out (by omega)
      subst hqq
      obtain ⟨⟨⟨nm, ps⟩, vx⟩, hx⟩ : ∃ x, l[k] = x := ⟨_, rfl⟩
      obtain ⟨c0, c1⟩ : wr.cell? ⟨b, off + k * 2, none⟩ = some (.string (bb nm)) ∧ wr.cell? ⟨b, off + k * 2 + 1, none⟩ = some vx := tops_cell HK.out H.out k hlt _ hx
      have hmem : ((⟨nm, ps⟩ : TopS), vx) ∈ l := hx ▸ List.getElem_mem hlt
      have hxk : K.has (Know.flat RI vx 1 ps) := tops_parts HK.out hmem
      obtain ⟨qx, capx, hvx⟩ := flat_form hxk H.out
      subst hvx
      have HXK := Lib.hid hxk
      have hmk : k < (l.map (·.1)).length := by rw [List.length_map]; exact hlt
      have hmg : (l.map (·.1))[k] = ⟨nm, ps⟩ := by rw [List.getElem_map, hx]
      have hkn : (k : Int) < (l.length : Int) := by omega
      obtain ⟨hn1, hn2⟩ := HB.out _ hmem
      replace hn1 : nm.length ≤ 140737488351232 := hn1
      replace hn2 : ps.length ≤ 17592186043904 := hn2
      have hst1 := topWs_take (l.map (·.1)) k hmk _ hmg
      rw [hm] at hst1
      replace hst1 : topWs ((l.map (·.1)).take (k + 1)) = m + (nm.length + 4 * ps.length + 6) := hst1
      have hlk := topWs_le (l.map (·.1)) (k + 1)
      obtain ⟨M, hM⟩ : ∃ M : Nat, m + (nm.length + 4 * ps.length + 6) = M := ⟨_, rfl⟩
      have hMi : (m : Int) + ((nm.length : Int) + 4 * (ps.length : Int) + 6) = (M : Int) := by omega
      have hm1 : (m : Int) ≤ 1000 := by omega
      have hMb : M ≤ 1000000000000000 := by omega
      rw [hM] at hst1
      by_cases hMl : M ≤ 1000
      · have g1 : ¬ (1000 < (m : Int) + ((nm.length : Int) + 4 * (ps.length : Int) + 6)) := by omega
        have HST := Lib.hid hst1
        have HMI := Lib.hid hMi
        have HML := Lib.hid hMl
        clear hst1 hx hmem hxk hmk hmg hm hM hMl hlk hm0 hMi hMb
        go_wp2
        go_roundw
        case rel => exact ⟨k + 1, M, hlt, by go_num, by rw [HMI.out], HST.out, HML.out, H.out.alloc _⟩
        case measure => first | (simp [intOf]; done) | (simp [intOf]; omega)
      · have g1 : 1000 < (m : Int) + ((nm.length : Int) + 4 * (ps.length : Int) + 6) := by omega
        have hz : r = 0 := by
          rw [← HR.out]; unfold few
          rw [if_neg (by omega)]
        subst hz
        have HMI := Lib.hid hMi
        clear hst1 hx hmem hxk hmk hmg hm hM hMl hlk hm0 hMi hMb
        go_wp2
        go_ret
        exact ⟨rfl, H.out.alloc _⟩
    · obtain rfl : k = l.length := by omega
      have hz : r = 1 := by
        rw [← HR.out]; unfold few
        rw [List.take_of_length_le (by rw [List.length_map]; exact Nat.le_refl _)] at hm
        rw [if_pos (by omega)]
      subst hz
      go_wp2
      go_ret
      exact ⟨rfl, H.out⟩

end Go.Proofs.YtmpehoebgifmnaaDoor
/- The values of a transaction that did not begin. -/
namespace Go.Proofs.YtmpehoebgifmnaaDoor
open Go.RowKit

theorem val_decode_okV (S : Bs) (hsl : S.length ≤ 1000000) (p e t s u st : Int) (tops : List TopS) (hv : valDec S = (⟨p, e, t, s, tops, u, st⟩, 0)) {W0 w : World} {K : Know} {L : List Res} (h : St W0 w K L) :
    Calls Tryd.prog 22 #[.string (bb S)] w fun en w' => ∃ (qt : Option Addr) (capt : Nat) (lr : List (TopS × Value)), en = .returned (.tuple #[.agg #[.int .i64 p, .int .i64 e, .int .i64 t, .int .i64 s, .slice qt lr.length capt, .int .i64 u, .int .i64 st], .int .i64 0]) ∧ lr.map (·.1) = tops ∧ St W0 w' (K.and (Know.tops (.slice qt lr.length capt) lr)) L := val_decode_ok S hsl ⟨p, e, t, s, tops, u, st⟩ hv h
def vz37 : Bs := ValS.enc ⟨0, 0, 0, 0, [], 0, -1⟩
theorem vz37_len : vz37.length = 37 := by kernel_rfl
theorem vz37_len2 : vz37.length ≤ 1000000 := by rw [vz37_len]; decide
theorem vz37_dec : valDec vz37 = (⟨0, 0, 0, 0, [], 0, -1⟩, 0) := by kernel_rfl
theorem few_nil : FewT [] := ⟨by decide, fun x hx => by cases hx⟩
theorem enc_z1 {W0 w : World} {K : Know} {L : List Res} (h : St W0 w K L) : Calls Tryd.prog 17 #[.agg #[.int .i64 0, .int .i64 0, .int .i64 0, .int .i64 0, .slice none 0 0, .int .i64 0, .int .i64 (-1)]] w fun en w' => en = .returned (.tuple #[.string (bb vz37), .int .i64 0]) ∧ St W0 w' K L := by
  have h2 : St W0 w (K.and (Know.tops (.slice none 0 0) [])) L := h.know (tops_nil K)
  refine (val_encode_ok 0 0 0 0 0 (-1) [] none 0 (by kernel_rfl) (by unfold ValS.R; exact ⟨by decide, by decide, by decide, by decide, by decide, by decide⟩) few_nil (Know.has_right (Know.has_refl _)) h2).mono ?_
  rintro e_ wn ⟨rfl, h3⟩
  exact ⟨rfl, h3.know (Know.has_left (Know.has_refl _))⟩
theorem enc_z2 {W0 w : World} {K : Know} {L : List Res} (h : St W0 w K L) : Calls Tryd.prog 17 #[.agg #[.int .i64 0, .int .i64 0, .int .i64 0, .int .i64 1, .slice none 0 0, .int .i64 0, .int .i64 0]] w fun en w' => en = .returned (.tuple #[.string ⟨#[]⟩, .int .i64 10]) ∧ St W0 w' K L := by
  have h2 : St W0 w (K.and (Know.tops (.slice none 0 0) [])) L := h.know (tops_nil K)
  refine (val_encode_bad 0 0 0 1 0 0 [] none 0 10 (by kernel_rfl) (by decide) few_nil (Know.has_right (Know.has_refl _)) h2).mono ?_
  rintro e_ wn ⟨rfl, h3⟩
  exact ⟨rfl, h3.know (Know.has_left (Know.has_refl _))⟩
end Go.Proofs.YtmpehoebgifmnaaDoor
/- Journals: what is known of one. -/
namespace Go.Proofs.YtmpehoebgifmnaaDoor
open Go.RowKit

set_option maxHeartbeats 4000000 in
set_option maxRecDepth 100000 in
theorem jr_get_some (jb mb n : Nat) (m : Int) (f : JF) (id S : Bs) (hf : f id = some S) (hl : id.length ≤ 1000000) (hs : S.length ≤ 1000000) (p e t s u st : Int) (tops : List TopS) (hv : valDec S = (⟨p, e, t, s, tops, u, st⟩, 0)) {W0 w : World} {K : Know} {L : List Res} (h : St W0 w K (.raw jb #[.map (some mb), .int .i64 m] 57 :: .gen (jmap mb n f) :: L)) :
    Calls Tryd.prog 11 #[.pointer (some ⟨jb, 0, none⟩), .string (bb id)] w fun en w' => ∃ (qt : Option Addr) (capt : Nat) (lr : List (TopS × Value)), en = .returned (.tuple #[.agg #[.int .i64 p, .int .i64 e, .int .i64 t, .int .i64 s, .slice qt lr.length capt, .int .i64 u, .int .i64 st], .bool true]) ∧ lr.map (·.1) = tops ∧ St W0 w' (K.and (Know.tops (.slice qt lr.length capt) lr)) (.raw jb #[.map (some mb), .int .i64 m] 57 :: .gen (jmap mb n f) :: L) := by
  obtain ⟨rb, hrb⟩ : ∃ b, w.heap.size = b := ⟨_, rfl⟩
  have g1 := h.allocRaw #[.int .i64 0, .int .i64 0, .int .i64 0, .int .i64 0, .slice none 0 0, .int .i64 0, .int .i64 0] 29
  rw [hrb] at g1
  have c0 := (g1.p1).rawCell 0; have c1 := (g1.p1).rawCell 1; simp at c0 c1
  have d0 := (g1).rawCell 0; have d1 := (g1).rawCell 1; have d2 := (g1).rawCell 2; have d3 := (g1).rawCell 3; have d4 := (g1).rawCell 4; have d5 := (g1).rawCell 5; have d6 := (g1).rawCell 6; simp at d0 d1 d2 d3 d4 d5 d6; have r0 := (g1).rawFree 0; have r1 := (g1).rawFree 1; have r2 := (g1).rawFree 2; have r3 := (g1).rawFree 3; have r4 := (g1).rawFree 4; have r5 := (g1).rawFree 5; have r6 := (g1).rawFree 6
  have g2 := g1.p2
  have H := Lib.hid g2
  have HF := Lib.hid hf
  have HV := Lib.hid hv
  have HSL := Lib.hid hs
  have HL := Lib.hid (show id.length ≤ 9223372036854775807 by omega)
  have hrun := jlook_some g2 55 mapT id S HL.out hf
  clear h hf hl g1 g2 hv hs
  go_enter Tryd.func11, Tryd.ntmps11
  go_wp2_with (go_at_call 22; (try clear c0 c1 d0 r0 d1 r1 d2 r2 d3 r3 d4 r4 d5 r5 d6 r6); (with_reducible refine (val_decode_okV S HSL.out p e t s u st tops HV.out H.out).mono ?_); rintro e_ wn ⟨qt, capt, lr, rfl, hlr, h⟩; obtain ⟨vb, hvb⟩ : ∃ b, wn.heap.size = b := ⟨_, rfl⟩; have h := h.allocRaw #[.int .i64 p, .int .i64 e, .int .i64 t, .int .i64 s, .slice qt lr.length capt, .int .i64 u, .int .i64 st] 29; rw [hvb] at h; have c0 := (h).rawCell 0; have c1 := (h).rawCell 1; have c2 := (h).rawCell 2; have c3 := (h).rawCell 3; have c4 := (h).rawCell 4; have c5 := (h).rawCell 5; have c6 := (h).rawCell 6; simp at c0 c1 c2 c3 c4 c5 c6; have q0 := (h).rawFree 0; have q1 := (h).rawFree 1; have q2 := (h).rawFree 2; have q3 := (h).rawFree 3; have q4 := (h).rawFree 4; have q5 := (h).rawFree 5; have q6 := (h).rawFree 6; have d0 := (h.p2).rawCell 0; have d1 := (h.p2).rawCell 1; have d2 := (h.p2).rawCell 2; have d3 := (h.p2).rawCell 3; have d4 := (h.p2).rawCell 4; have d5 := (h.p2).rawCell 5; have d6 := (h.p2).rawCell 6; simp at d0 d1 d2 d3 d4 d5 d6; have r0 := (h.p2).rawFree 0; have r1 := (h.p2).rawFree 1; have r2 := (h.p2).rawFree 2; have r3 := (h.p2).rawFree 3; have r4 := (h.p2).rawFree 4; have r5 := (h.p2).rawFree 5; have r6 := (h.p2).rawFree 6; have HLR := Lib.hid hlr; clear hlr; replace H := Lib.hid h; clear h)
  have hz : St W0 _ _ (.raw rb #[.int .i64 p, .int .i64 e, .int .i64 t, .int .i64 s, .slice qt lr.length capt, .int .i64 u, .int .i64 st] 29 :: _) := St.sets7 _ _ _ _ _ _ _ (H.out.p2)
  refine bodyPost_ret (rc_cell_tmp rfl _ _ rb [.int .i64 p, .int .i64 e, .int .i64 t, .int .i64 s, .slice qt lr.length capt, .int .i64 u, .int .i64 st] _ rfl (rc_range hz) Tryd.underlying29 rfl (by kernel_rfl)) rfl ?_
  exact ⟨qt, capt, lr, rfl, HLR.out, hz.drop.drop.p1⟩

theorem jr_right (u : Bool) (d : Bs) (r : Bool) (hr : (⟨u, d⟩ : BlobS).right = r) {W0 w : World} {K : Know} {L : List Res} (h : St W0 w K L) :
    Calls Tryd.prog 37 #[.agg #[.bool u, .string (bb d)]] w fun en w' => en = .returned (.bool r) ∧ St W0 w' K L := hr ▸ blob_right ⟨u, d⟩ h
/-- What an entry's value says, and the error. -/
def learnE (nu : Bool) (d : Bs) : Int := if (⟨nu, d⟩ : BlobS).right = false then 4 else if nu = true then 0 else (valDec d).2
def learnF (f : JF) (id : Bs) (nu : Bool) (d : Bs) : JF := if nu = true then jset f id none else jset f id (some d)
set_option maxHeartbeats 4000000 in
set_option maxRecDepth 100000 in
theorem jr_learn_bad (jb mb n : Nat) (m : Int) (f : JF) (id d : Bs) (nu : Bool) (hl : id.length ≤ 1000000) (hr : (⟨nu, d⟩ : BlobS).right = false) {W0 w : World} {K : Know} {L : List Res} (h : St W0 w K (.raw jb #[.map (some mb), .int .i64 m] 57 :: .gen (jmap mb n f) :: L)) :
    Calls Tryd.prog 21 #[.pointer (some ⟨jb, 0, none⟩), .string (bb id), .agg #[.bool nu, .string (bb d)]] w fun en w' => en = .returned (.int .i64 4) ∧ St W0 w' K (.raw jb #[.map (some mb), .int .i64 m] 57 :: .gen (jmap mb n f) :: L) := by
  obtain ⟨xb, hxb⟩ : ∃ b, w.heap.size = b := ⟨_, rfl⟩
  have g1 := h.allocRaw #[.bool nu, .string (bb d)] 34
  rw [hxb] at g1
  have x0 := (g1).rawCell 0; have x1 := (g1).rawCell 1; simp at x0 x1
  have c0 := (g1.p1).rawCell 0; have c1 := (g1.p1).rawCell 1; simp at c0 c1
  have g2 := g1.p2
  have H := Lib.hid g2
  have HL := Lib.hid (show id.length ≤ 9223372036854775807 by omega)
  have HR := Lib.hid hr
  clear h hl g1 g2 hr
  go_enter Tryd.func21, Tryd.ntmps21
  go_wp2_with (go_at_call 37; (try clear x0 x1 c0 c1); (with_reducible refine (jr_right nu d _ HR.out H.out).mono ?_); rintro e_ wn ⟨rfl, h⟩; have x0 := (h.p1).rawCell 0; have x1 := (h.p1).rawCell 1; simp at x0 x1; have c0 := (h.p2).rawCell 0; have c1 := (h.p2).rawCell 1; simp at c0 c1; replace H := Lib.hid h; clear h)
  go_ret
  exact ⟨rfl, H.out.p1.drop.p1⟩
set_option maxHeartbeats 4000000 in
set_option maxRecDepth 100000 in
theorem jr_learn_drop (jb mb n : Nat) (m : Int) (f : JF) (id : Bs) (hl : id.length ≤ 1000000) {W0 w : World} {K : Know} {L : List Res} (h : St W0 w K (.raw jb #[.map (some mb), .int .i64 m] 57 :: .gen (jmap mb n f) :: L)) :
    Calls Tryd.prog 21 #[.pointer (some ⟨jb, 0, none⟩), .string (bb id), .agg #[.bool true, .string (bb [])]] w fun en w' => en = .returned (.int .i64 0) ∧ St W0 w' K (.raw jb #[.map (some mb), .int .i64 m] 57 :: .gen (jmap mb n (jset f id none)) :: L) := by
  obtain ⟨xb, hxb⟩ : ∃ b, w.heap.size = b := ⟨_, rfl⟩
  have g1 := h.allocRaw #[.bool true, .string (bb [])] 34
  rw [hxb] at g1
  have x0 := (g1).rawCell 0; have x1 := (g1).rawCell 1; simp at x0 x1
  have c0 := (g1.p1).rawCell 0; have c1 := (g1.p1).rawCell 1; simp at c0 c1
  have g2 := g1.p2
  have H := Lib.hid g2
  have HL := Lib.hid (show id.length ≤ 9223372036854775807 by omega)
  clear h hl g1 g2
  go_enter Tryd.func21, Tryd.ntmps21
  go_wp2_with (first
    | (go_at_call 37; (try clear x0 x1 c0 c1); (with_reducible refine (jr_right true [] _ (show (⟨true, []⟩ : BlobS).right = true from rfl) H.out).mono ?_); rintro e_ wn ⟨rfl, h⟩; have x0 := (h.p1).rawCell 0; have x1 := (h.p1).rawCell 1; simp at x0 x1; have c0 := (h.p2).rawCell 0; have c1 := (h.p2).rawCell 1; simp at c0 c1; obtain ⟨w9, hrun, h9⟩ := jdrop_run h 55 0 mapT id HL.out; have h := h9; clear h9; replace H := Lib.hid h; clear h))
  go_ret
  exact ⟨rfl, H.out.p1.drop.p1⟩
set_option maxHeartbeats 4000000 in
set_option maxRecDepth 100000 in
theorem jr_learn_err (jb mb n : Nat) (m : Int) (f : JF) (id d : Bs) (v : ValS) (E : Int) (hv : valDec d = (v, E)) (h0 : E ≠ 0) (hl : id.length ≤ 1000000) (hd : d.length ≤ 1000000) {W0 w : World} {K : Know} {L : List Res} (h : St W0 w K (.raw jb #[.map (some mb), .int .i64 m] 57 :: .gen (jmap mb n f) :: L)) :
    Calls Tryd.prog 21 #[.pointer (some ⟨jb, 0, none⟩), .string (bb id), .agg #[.bool false, .string (bb d)]] w fun en w' => en = .returned (.int .i64 E) ∧ St W0 w' K (.raw jb #[.map (some mb), .int .i64 m] 57 :: .gen (jmap mb n f) :: L) := by
  obtain ⟨xb, hxb⟩ : ∃ b, w.heap.size = b := ⟨_, rfl⟩
  have g1 := h.allocRaw #[.bool false, .string (bb d)] 34
  rw [hxb] at g1
  have x0 := (g1).rawCell 0; have x1 := (g1).rawCell 1; simp at x0 x1
  have c0 := (g1.p1).rawCell 0; have c1 := (g1.p1).rawCell 1; simp at c0 c1
  have g2 := g1.p2
  have H := Lib.hid g2
  have HL := Lib.hid (show id.length ≤ 9223372036854775807 by omega)
  have HV := Lib.hid hv
  have H0 := Lib.hid h0
  have HD := Lib.hid hd
  have e1 : (E == 0) = false := by rw [beq_eq_false_iff_ne]; exact h0
  have e2 : (E != 0) = true := by simp [bne, e1]
  clear h hl g1 g2 hv h0 hd
  go_enter Tryd.func21, Tryd.ntmps21
  go_wp2_with (first
    | (go_at_call 37; (try clear x0 x1 c0 c1); (with_reducible refine (jr_right false d _ (show (⟨false, d⟩ : BlobS).right = true from rfl) H.out).mono ?_); rintro e_ wn ⟨rfl, h⟩; have x0 := (h.p1).rawCell 0; have x1 := (h.p1).rawCell 1; simp at x0 x1; have c0 := (h.p2).rawCell 0; have c1 := (h.p2).rawCell 1; simp at c0 c1; replace H := Lib.hid h; clear h)
    | (go_at_call 22; (try clear x0 x1 c0 c1); (with_reducible refine (val_decode_bad d HD.out v E HV.out H0.out H.out).mono ?_); rintro e_ wn ⟨rfl, h⟩; have h := h.alloc (.cells #[.int .i64 0, .int .i64 0, .int .i64 0, .int .i64 0, .slice none 0 0, .int .i64 0, .int .i64 0] 29 (0, 0)); replace H := Lib.hid h; clear h))
  go_ret
  exact ⟨rfl, H.out.p1.drop.p1⟩
set_option maxHeartbeats 4000000 in
set_option maxRecDepth 100000 in
theorem jr_learn_put (jb mb n : Nat) (m : Int) (f : JF) (id d : Bs) (p e t s u st : Int) (tops : List TopS) (hv : valDec d = (⟨p, e, t, s, tops, u, st⟩, 0)) (hl : id.length ≤ 1000000) (hd : d.length ≤ 1000000) (hn : n < 1000000) {W0 w : World} {K : Know} {L : List Res} (h : St W0 w K (.raw jb #[.map (some mb), .int .i64 m] 57 :: .gen (jmap mb n f) :: L)) :
    Calls Tryd.prog 21 #[.pointer (some ⟨jb, 0, none⟩), .string (bb id), .agg #[.bool false, .string (bb d)]] w fun en w' => en = .returned (.int .i64 0) ∧ St W0 w' K (.raw jb #[.map (some mb), .int .i64 m] 57 :: .gen (jmap mb (n + 1) (jset f id (some d))) :: L) := by
  obtain ⟨xb, hxb⟩ : ∃ b, w.heap.size = b := ⟨_, rfl⟩
  have g1 := h.allocRaw #[.bool false, .string (bb d)] 34
  rw [hxb] at g1
  have x0 := (g1).rawCell 0; have x1 := (g1).rawCell 1; simp at x0 x1
  have c0 := (g1.p1).rawCell 0; have c1 := (g1.p1).rawCell 1; simp at c0 c1
  have g2 := g1.p2
  have H := Lib.hid g2
  have HL := Lib.hid (show id.length ≤ 9223372036854775807 by omega)
  have HV := Lib.hid hv
  have HSL := Lib.hid hd
  have HD := Lib.hid (show d.length ≤ 9223372036854775807 by omega)
  have HN := Lib.hid hn
  clear h hl g1 g2 hv hd hn
  go_enter Tryd.func21, Tryd.ntmps21
  go_upto_region 9 with (first
    | (go_at_call 37; (try clear x0 x1 c0 c1); (with_reducible refine (jr_right false d _ (show (⟨false, d⟩ : BlobS).right = true from rfl) H.out).mono ?_); rintro e_ wn ⟨rfl, h⟩; have x0 := (h.p1).rawCell 0; have x1 := (h.p1).rawCell 1; simp at x0 x1; have c0 := (h.p2).rawCell 0; have c1 := (h.p2).rawCell 1; simp at c0 c1; replace H := Lib.hid h; clear h)
    | (go_at_call 22; (try clear x0 x1 c0 c1); (with_reducible refine (val_decode_okV d HSL.out p e t s u st tops HV.out H.out).mono ?_); rintro e_ wn ⟨qt, capt, lr, rfl, hlr, h⟩; have h := h.know (Know.has_left (Know.has_refl _)); have h := h.alloc (.cells #[.int .i64 p, .int .i64 e, .int .i64 t, .int .i64 s, .slice qt lr.length capt, .int .i64 u, .int .i64 st] 29 (0, 0)); have x0 := (h.p1).rawCell 0; have x1 := (h.p1).rawCell 1; simp at x0 x1; have c0 := (h.p2).rawCell 0; have c1 := (h.p2).rawCell 1; simp at c0 c1; replace H := Lib.hid h; clear h))
  obtain ⟨w2, hrun, h2⟩ := jstore_run H.out.drew HN.out 55 mapT id d HL.out HD.out
  have H2 := Lib.hid h2
  clear h2
  go_region
  go_wp2
  go_ret
  exact ⟨rfl, H2.out.p1.drop.p1⟩

end Go.Proofs.YtmpehoebgifmnaaDoor
/- Contracts of package key. -/
namespace Go.Proofs.YtmpehoebgifmnaaDoor
open Go.RowKit

set_option maxHeartbeats 1000000 in
set_option maxRecDepth 100000 in
theorem key_right (s : Bs) (hs : s.length ≤ 140737488355328) {W0 w : World} {K : Know} {L : List Res} (h : St W0 w K L) :
    Calls Tryd.prog 26 #[.string (bb s)] w fun en w' => en = .returned (.bool (keyRight s)) ∧ St W0 w' K L := by
  have H := Lib.hid h
  clear h
  cases s with
  | nil =>
    go_enter Tryd.func26, Tryd.ntmps26
    go_wp2
    go_ret
    exact ⟨rfl, H.out⟩
  | cons c t =>
    have HS := Lib.hid hs
    clear hs
    go_enter Tryd.func26, Tryd.ntmps26
    go_wp2
    go_ret
    refine ⟨ret_bool ?_, H.out⟩
    unfold keyRight
    rw [Bool.eq_iff_iff]
    simp
    omega

set_option maxHeartbeats 1000000 in
set_option maxRecDepth 100000 in
theorem key_encode (s : Bs) (hs : s.length ≤ 40000) {W0 w : World} {K : Know} {L : List Res} (h : St W0 w K L) :
    Calls Tryd.prog 16 #[.string (bb s)] w fun en w' => en = .returned (.tuple #[.string (bb (keyEnc s).1), .int .i64 (keyEnc s).2]) ∧ St W0 w' K L := by
  have H := Lib.hid h
  have HS := Lib.hid (show s.length ≤ 140737488355328 by omega)
  have HS2 := Lib.hid hs
  clear h hs
  cases hr : keyRight s
  · have e : keyEnc s = ([], 4) := by unfold keyEnc; rw [hr]; rfl
    rw [e]
    have ER := Lib.hid hr
    clear e hr
    go_enter Tryd.func16, Tryd.ntmps16
    go_wp2_with (go_at_call 26; refine (key_right s HS.out (by first | (first | with_reducible exact H.out | with_reducible exact H.out.p1 | with_reducible exact H.out.p2 | with_reducible exact H.out.p3 | with_reducible exact H.out.p4 | with_reducible exact H.out.p5) | ((repeat first | with_reducible refine St.drewN ?_ _ | with_reducible refine St.drew ?_ | with_reducible refine St.alloc ?_ _); first | with_reducible exact H.out | with_reducible exact H.out.p1 | with_reducible exact H.out.p2 | with_reducible exact H.out.p3 | with_reducible exact H.out.p4 | with_reducible exact H.out.p5))).mono ?_; (repeat first | rw [ER.out]); rintro e wn ⟨rfl, h⟩; replace H := Lib.hid h; clear h)
    go_ret2
    exact ⟨rfl, H.out⟩
  · have e : keyEnc s = (keyBytes s, 0) := by unfold keyEnc; rw [hr]; rfl
    rw [e]
    have hle : s.length ≤ 32767 := by unfold keyRight at hr; simp at hr; exact hr.2
    have ER := Lib.hid hr
    have E1 := Lib.hid (show (⟨[], 0⟩ : OutS).int 0 2 = ⟨beBytes 0 2, 0⟩ from by decide +kernel)
    have E2 := Lib.hid (show (⟨beBytes 0 2, 0⟩ : OutS).putText s = ⟨keyBytes s, 0⟩ from by
      unfold OutS.putText OutS.putFixed OutS.int OutS.putData
      rw [if_pos (fits_len2 s hle)]
      show (((⟨beBytes 0 2, 0⟩ : OutS).put _).put s) = _
      rw [OutS.put_put]
      unfold keyBytes
      rw [List.append_assoc]
      rfl)
    have E3 := Lib.hid (show (⟨keyBytes s, 0⟩ : OutS).text = (keyBytes s, 0) from rfl)
    clear e hr hle
    go_enter Tryd.func16, Tryd.ntmps16
    go_wp2_with (first
      | (go_at_call 26; refine (key_right s HS.out (by first | (first | with_reducible exact H.out | with_reducible exact H.out.p1 | with_reducible exact H.out.p2 | with_reducible exact H.out.p3 | with_reducible exact H.out.p4 | with_reducible exact H.out.p5) | ((repeat first | with_reducible refine St.drewN ?_ _ | with_reducible refine St.drew ?_ | with_reducible refine St.alloc ?_ _); first | with_reducible exact H.out | with_reducible exact H.out.p1 | with_reducible exact H.out.p2 | with_reducible exact H.out.p3 | with_reducible exact H.out.p4 | with_reducible exact H.out.p5))).mono ?_; (repeat first | rw [ER.out]); rintro e wn ⟨rfl, h⟩; replace H := Lib.hid h; clear h; replace H := Lib.hid H.out.allocOut)
      | (go_at_call 27; refine (so_int _ _ 0 2 (by decide) (by first | (first | with_reducible exact H.out | with_reducible exact H.out.p1 | with_reducible exact H.out.p2 | with_reducible exact H.out.p3 | with_reducible exact H.out.p4 | with_reducible exact H.out.p5) | ((repeat first | with_reducible refine St.drewN ?_ _ | with_reducible refine St.drew ?_ | with_reducible refine St.alloc ?_ _); first | with_reducible exact H.out | with_reducible exact H.out.p1 | with_reducible exact H.out.p2 | with_reducible exact H.out.p3 | with_reducible exact H.out.p4 | with_reducible exact H.out.p5)) (by simp [OutS.ok])).mono ?_; (repeat first | rw [E1.out]); rintro e wn ⟨rfl, h⟩; replace H := Lib.hid h; clear h)
      | (go_at_call 28; refine (blob_putText _ _ s (by first | (first | with_reducible exact H.out | with_reducible exact H.out.p1 | with_reducible exact H.out.p2 | with_reducible exact H.out.p3 | with_reducible exact H.out.p4 | with_reducible exact H.out.p5) | ((repeat first | with_reducible refine St.drewN ?_ _ | with_reducible refine St.drew ?_ | with_reducible refine St.alloc ?_ _); first | with_reducible exact H.out | with_reducible exact H.out.p1 | with_reducible exact H.out.p2 | with_reducible exact H.out.p3 | with_reducible exact H.out.p4 | with_reducible exact H.out.p5)) (by have := HS2.out; simp only [OutS.ok, beBytes_length]; omega)).mono ?_; (repeat first | rw [E2.out]); rintro e wn ⟨rfl, h⟩; replace H := Lib.hid h; clear h)
      | (go_at_call 29; refine (so_text _ _ (by first | (first | with_reducible exact H.out | with_reducible exact H.out.p1 | with_reducible exact H.out.p2 | with_reducible exact H.out.p3 | with_reducible exact H.out.p4 | with_reducible exact H.out.p5) | ((repeat first | with_reducible refine St.drewN ?_ _ | with_reducible refine St.drew ?_ | with_reducible refine St.alloc ?_ _); first | with_reducible exact H.out | with_reducible exact H.out.p1 | with_reducible exact H.out.p2 | with_reducible exact H.out.p3 | with_reducible exact H.out.p4 | with_reducible exact H.out.p5))).mono ?_; (repeat first | rw [E3.out]); rintro e wn ⟨rfl, h⟩; replace H := Lib.hid h; clear h))
    go_ret2
    exact ⟨rfl, H.out.drop⟩

theorem keyDec_tuple (s : Bs) : Value.tuple #[.string (bb (keyDec s).1), .int .i64 (keyDec s).2] = if (keyJ s).close.err = 0 then .tuple #[.string (bb (keyI s).text.1), .int .i64 0] else .tuple #[.string (bb []), .int .i64 (keyJ s).close.err] := by
  unfold keyDec; split <;> rfl
set_option maxHeartbeats 1000000 in
set_option maxRecDepth 100000 in
theorem key_decode (s : Bs) (hs : s.length ≤ 40100) {W0 w : World} {K : Know} {L : List Res} (h : St W0 w K L) :
    Calls Tryd.prog 20 #[.string (bb s)] w fun en w' => en = .returned (.tuple #[.string (bb (keyDec s).1), .int .i64 (keyDec s).2]) ∧ St W0 w' K L := by
  have H := Lib.hid h
  have HS := Lib.hid (show s.length ≤ 140737488355328 by omega)
  clear h hs
  rw [keyDec_tuple]
  obtain ⟨a, ha⟩ : ∃ a, keyA s = a := ⟨_, rfl⟩
  have hI : keyI s = if a.1 = 0 then a.2 else a.2.fail 7 := by unfold keyI; rw [ha]
  obtain ⟨i, hi⟩ : ∃ i, keyI s = i := ⟨_, rfl⟩
  rw [hi] at hI
  obtain ⟨t, ht⟩ : ∃ t, i.text = t := ⟨_, rfl⟩
  have hJ : keyJ s = if t.1 = [] then t.2.fail 4 else t.2 := by unfold keyJ; rw [hi, ht]
  obtain ⟨j, hj⟩ : ∃ j, keyJ s = j := ⟨_, rfl⟩
  rw [hj] at hJ
  obtain ⟨c, hc⟩ : ∃ c, j.close = c := ⟨_, rfl⟩
  rw [hj, hc, hi, ht]
  have EA := Lib.hid (show (⟨s, 0, 0⟩ : InS).int 2 = a from ha)
  have ET := Lib.hid ht
  have EC := Lib.hid hc
  clear ha hi ht hj hc
  by_cases h1 : a.1 = 0 <;> by_cases h2 : t.1 = [] <;> by_cases h3 : c.err = 0
  all_goals
    first | rw [if_pos h1] at hI | rw [if_neg h1] at hI
    first | rw [if_pos h2] at hJ | rw [if_neg h2] at hJ
    first | rw [if_pos h3] | rw [if_neg h3]
    have b1 : (a.1 != 0) = decide (a.1 ≠ 0) := by by_cases h : a.1 = 0 <;> simp [h]
    have b2 : t.1.isEmpty = decide (t.1 = []) := by cases t.1 <;> simp
    have b3 : (c.err != 0) = decide (c.err ≠ 0) := by by_cases h : c.err = 0 <;> simp [h]
    first | rw [decide_eq_true h1] at b1 | rw [decide_eq_false (not_not_intro h1)] at b1
    first | rw [decide_eq_true h2] at b2 | rw [decide_eq_false h2] at b2
    first | rw [decide_eq_true h3] at b3 | rw [decide_eq_false (not_not_intro h3)] at b3
    have EI := Lib.hid hI.symm
    have EJ := Lib.hid hJ.symm
    clear h1 h2 h3 hI hJ
    go_enter Tryd.func20, Tryd.ntmps20
    go_wp2_with (first
      | (go_at_call 32; refine (s_new s HS.out (by first | (first | with_reducible exact H.out | with_reducible exact H.out.p1 | with_reducible exact H.out.p2 | with_reducible exact H.out.p3 | with_reducible exact H.out.p4 | with_reducible exact H.out.p5) | ((repeat first | with_reducible refine St.drewN ?_ _ | with_reducible refine St.drew ?_ | with_reducible refine St.alloc ?_ _); first | with_reducible exact H.out | with_reducible exact H.out.p1 | with_reducible exact H.out.p2 | with_reducible exact H.out.p3 | with_reducible exact H.out.p4 | with_reducible exact H.out.p5))).mono ?_; rintro e wn ⟨bi, rfl, h⟩; replace H := Lib.hid h; clear h)
      | (go_at_call 33; refine (s_int _ _ 2 (by first | (first | with_reducible exact H.out | with_reducible exact H.out.p1 | with_reducible exact H.out.p2 | with_reducible exact H.out.p3 | with_reducible exact H.out.p4 | with_reducible exact H.out.p5) | ((repeat first | with_reducible refine St.drewN ?_ _ | with_reducible refine St.drew ?_ | with_reducible refine St.alloc ?_ _); first | with_reducible exact H.out | with_reducible exact H.out.p1 | with_reducible exact H.out.p2 | with_reducible exact H.out.p3 | with_reducible exact H.out.p4 | with_reducible exact H.out.p5))).mono ?_; (repeat first | rw [EA.out]); rintro e wn ⟨rfl, h⟩; replace H := Lib.hid h; clear h; (try rw [EI.out] at H))
      | (go_at_call 34; refine (s_fail _ _ _ (by first | (first | with_reducible exact H.out | with_reducible exact H.out.p1 | with_reducible exact H.out.p2 | with_reducible exact H.out.p3 | with_reducible exact H.out.p4 | with_reducible exact H.out.p5) | ((repeat first | with_reducible refine St.drewN ?_ _ | with_reducible refine St.drew ?_ | with_reducible refine St.alloc ?_ _); first | with_reducible exact H.out | with_reducible exact H.out.p1 | with_reducible exact H.out.p2 | with_reducible exact H.out.p3 | with_reducible exact H.out.p4 | with_reducible exact H.out.p5))).mono ?_; (repeat first | rw [EI.out] | rw [EJ.out]); rintro e wn ⟨rfl, h⟩; replace H := Lib.hid h; clear h)
      | (go_at_call 35; refine (blob_text _ _ (by first | (first | with_reducible exact H.out | with_reducible exact H.out.p1 | with_reducible exact H.out.p2 | with_reducible exact H.out.p3 | with_reducible exact H.out.p4 | with_reducible exact H.out.p5) | ((repeat first | with_reducible refine St.drewN ?_ _ | with_reducible refine St.drew ?_ | with_reducible refine St.alloc ?_ _); first | with_reducible exact H.out | with_reducible exact H.out.p1 | with_reducible exact H.out.p2 | with_reducible exact H.out.p3 | with_reducible exact H.out.p4 | with_reducible exact H.out.p5))).mono ?_; (repeat first | rw [ET.out]); rintro e wn ⟨rfl, h⟩; replace H := Lib.hid h; clear h; (try rw [EJ.out] at H))
      | (go_at_call 36; refine (s_close _ _ (by first | (first | with_reducible exact H.out | with_reducible exact H.out.p1 | with_reducible exact H.out.p2 | with_reducible exact H.out.p3 | with_reducible exact H.out.p4 | with_reducible exact H.out.p5) | ((repeat first | with_reducible refine St.drewN ?_ _ | with_reducible refine St.drew ?_ | with_reducible refine St.alloc ?_ _); first | with_reducible exact H.out | with_reducible exact H.out.p1 | with_reducible exact H.out.p2 | with_reducible exact H.out.p3 | with_reducible exact H.out.p4 | with_reducible exact H.out.p5))).mono ?_; (repeat first | rw [EC.out]); rintro e wn ⟨rfl, h⟩; replace H := Lib.hid h; clear h))
    go_ret2
    exact ⟨rfl, H.out.drop⟩

end Go.Proofs.YtmpehoebgifmnaaDoor
/- Layer 13, walked. -/
namespace Go.Proofs.YtmpehoebgifmnaaDoor
open Go.RowKit

theorem kr1 {s : Bs} (h : s.length < 2) : keyRd s = ([], 1) := if_pos h
theorem kr2 {s : Bs} (h : 2 ≤ s.length) (h2 : (!List.take 2 s == [0, 0]) = true) : keyRd s = ([], 7) := by
  have h2' : s.take 2 ≠ [0, 0] := by simpa using h2
  exact (if_neg (by omega)).trans (if_pos h2')
theorem kr3 {s : Bs} (h : 2 ≤ s.length) (h2 : (!List.take 2 s == [0, 0]) = false) (h3 : s.length < 4) : keyRd s = ([], 1) := by
  have h2' : ¬ s.take 2 ≠ [0, 0] := by simpa using h2
  exact (if_neg (by omega)).trans ((if_neg h2').trans (if_pos h3))
theorem kr4 {s : Bs} (h : 4 ≤ s.length) (h2 : (!List.take 2 s == [0, 0]) = false) (h3 : sInt ((s.drop 2).take 2) ≤ 0) : keyRd s = ([], 4) := by
  have h2' : ¬ s.take 2 ≠ [0, 0] := by simpa using h2
  exact (if_neg (by omega)).trans ((if_neg h2').trans ((if_neg (by omega)).trans (if_pos h3)))
theorem kr5 {s : Bs} (h : 4 ≤ s.length) (h2 : (!List.take 2 s == [0, 0]) = false) (h3 : ¬ sInt ((s.drop 2).take 2) ≤ 0) (h4 : (s.length : Int) - 4 < sInt ((s.drop 2).take 2)) : keyRd s = ([], 1) := by
  have h2' : ¬ s.take 2 ≠ [0, 0] := by simpa using h2
  exact (if_neg (by omega)).trans ((if_neg h2').trans ((if_neg (by omega)).trans ((if_neg h3).trans (if_pos h4))))
theorem kr6 {s : Bs} (h : 4 ≤ s.length) (h2 : (!List.take 2 s == [0, 0]) = false) (h3 : ¬ sInt ((s.drop 2).take 2) ≤ 0) (h4 : sInt ((s.drop 2).take 2) < (s.length : Int) - 4) : keyRd s = ([], 2) := by
  have h2' : ¬ s.take 2 ≠ [0, 0] := by simpa using h2
  exact (if_neg (by omega)).trans ((if_neg h2').trans ((if_neg (by omega)).trans ((if_neg h3).trans ((if_neg (by omega)).trans (if_pos h4)))))
theorem kr7 {s : Bs} (_ : 4 ≤ s.length) (h2 : (!List.take 2 s == [0, 0]) = false) (h3 : ¬ sInt ((s.drop 2).take 2) ≤ 0) (h4 : sInt ((s.drop 2).take 2) = (s.length : Int) - 4) : keyRd s = ((s.drop 4).take (s.length - 4), 0) := by
  rw [List.take_of_length_le (by rw [List.length_drop]; omega)]
  have h2' : ¬ s.take 2 ≠ [0, 0] := by simpa using h2
  exact (if_neg (by omega)).trans ((if_neg h2').trans ((if_neg (by omega)).trans ((if_neg h3).trans ((if_neg (by omega)).trans (if_neg (by omega))))))

theorem key_encode' (s x : Bs) (e : Int) (hs : s.length ≤ 40000) (hx : keyEnc s = (x, e)) {W0 w : World} {K : Know} {L : List Res} (h : St W0 w K L) :
    Calls Tryd.prog 16 #[.string (bb s)] w fun en w' => en = .returned (.tuple #[.string (bb x), .int .i64 e]) ∧ St W0 w' K L := by
  have := key_encode s hs h
  rw [hx] at this
  exact this
theorem key_decode' (s x : Bs) (e : Int) (hs : s.length ≤ 40100) (hx : keyRd s = (x, e)) {W0 w : World} {K : Know} {L : List Res} (h : St W0 w K L) :
    Calls Tryd.prog 20 #[.string (bb s)] w fun en w' => en = .returned (.tuple #[.string (bb x), .int .i64 e]) ∧ St W0 w' K L := by
  have := key_decode s hs h
  rw [keyDec_eq, hx] at this
  exact this
theorem keyRd_len (s : Bs) : (keyRd s).1.length ≤ s.length := by
  unfold keyRd
  repeat' split
  all_goals simp
end Go.Proofs.YtmpehoebgifmnaaDoor
/- Journals: an entry applied. -/
namespace Go.Proofs.YtmpehoebgifmnaaDoor
open Go.RowKit

set_option maxHeartbeats 4000000 in
set_option maxRecDepth 100000 in
theorem jr_apply_key (jb mb n : Nat) (m : Int) (f : JF) (key id d : Bs) (nu : Bool) (E : Int) (hky : keyRd key = (id, E)) (h0 : E ≠ 0) (hk1 : key.length ≤ 40100) {W0 w : World} {K : Know} {L : List Res} (h : St W0 w K (.raw jb #[.map (some mb), .int .i64 m] 57 :: .gen (jmap mb n f) :: L)) :
    Calls Tryd.prog 9 #[.pointer (some ⟨jb, 0, none⟩), .agg #[.string (bb key), .bool nu, .string (bb d)]] w fun en w' => en = .returned (.int .i64 E) ∧ St W0 w' K (.raw jb #[.map (some mb), .int .i64 m] 57 :: .gen (jmap mb n f) :: L) := by
  obtain ⟨xb, hxb⟩ : ∃ b, w.heap.size = b := ⟨_, rfl⟩
  have g1 := h.allocRaw #[.string (bb key), .bool nu, .string (bb d)] 36
  rw [hxb] at g1
  have x0 := (g1).rawCell 0; have x1 := (g1).rawCell 1; have x2 := (g1).rawCell 2; simp at x0 x1 x2
  have g2 := g1.p1.p2.p1
  have H := Lib.hid g2
  have HKL := Lib.hid (show key.length ≤ 40100 by omega)
  have HKY := Lib.hid hky
  have e1 : (E == 0) = false := by rw [beq_eq_false_iff_ne]; exact h0
  have e2 : (E != 0) = true := by simp [bne, e1]
  clear h g1 g2 hky h0 hk1
  go_enter Tryd.func9, Tryd.ntmps9
  go_wp2_with (go_at_call 20; (try clear x0 x1 x2); (try clear c1 r1); (with_reducible refine (key_decode' key id E HKL.out HKY.out H.out).mono ?_); rintro e_ wn ⟨rfl, h⟩; have xx := h.p2; have x0 := (xx).rawCell 0; have x1 := (xx).rawCell 1; have x2 := (xx).rawCell 2; simp at x0 x1 x2; clear xx; replace H := Lib.hid h; clear h)
  go_ret
  exact ⟨rfl, H.out.p2.drop⟩
set_option maxHeartbeats 4000000 in
set_option maxRecDepth 100000 in
theorem jr_apply_bad (jb mb n : Nat) (m : Int) (f : JF) (key id d : Bs) (nu : Bool) (hky : keyRd key = (id, 0)) (hr : (⟨nu, d⟩ : BlobS).right = false) (hk1 : key.length ≤ 40100) (hid : id.length ≤ 1000000) {W0 w : World} {K : Know} {L : List Res} (h : St W0 w K (.raw jb #[.map (some mb), .int .i64 m] 57 :: .gen (jmap mb n f) :: L)) :
    Calls Tryd.prog 9 #[.pointer (some ⟨jb, 0, none⟩), .agg #[.string (bb key), .bool nu, .string (bb d)]] w fun en w' => en = .returned (.int .i64 4) ∧ St W0 w' K (.raw jb #[.map (some mb), .int .i64 m] 57 :: .gen (jmap mb n f) :: L) := by
  obtain ⟨xb, hxb⟩ : ∃ b, w.heap.size = b := ⟨_, rfl⟩
  have g1 := h.allocRaw #[.string (bb key), .bool nu, .string (bb d)] 36
  rw [hxb] at g1
  have x0 := (g1).rawCell 0; have x1 := (g1).rawCell 1; have x2 := (g1).rawCell 2; simp at x0 x1 x2
  have g2 := g1.p1.p2.p1
  have H := Lib.hid g2
  have HKL := Lib.hid (show key.length ≤ 40100 by omega)
  have HKY := Lib.hid hky
  have HR := Lib.hid hr
  have HI := Lib.hid (show id.length ≤ 1000000 by omega)
  clear h g1 g2 hky hk1 hr hid
  go_enter Tryd.func9, Tryd.ntmps9
  go_wp2_with (first
    | (go_at_call 20; (try clear x0 x1 x2); (try clear c1 r1); (with_reducible refine (key_decode' key id 0 HKL.out HKY.out H.out).mono ?_); rintro e_ wn ⟨rfl, h⟩; have xx := h.p2; have x0 := (xx).rawCell 0; have x1 := (xx).rawCell 1; have x2 := (xx).rawCell 2; simp at x0 x1 x2; clear xx; replace H := Lib.hid h; clear h)
    | (go_at_call 21; (try clear x0 x1 x2); (try clear c1 r1); (with_reducible refine (jr_learn_bad jb mb n m f id d nu HI.out HR.out H.out).mono ?_); rintro e_ wn ⟨rfl, h⟩; have xx := h.p2; have x0 := (xx).rawCell 0; have x1 := (xx).rawCell 1; have x2 := (xx).rawCell 2; simp at x0 x1 x2; clear xx; have c1 := h.rawCell 1; simp at c1; have r1 := h.rawFree 1; replace H := Lib.hid h; clear h))
  go_ret
  exact ⟨rfl, H.out.p2.drop⟩
set_option maxHeartbeats 4000000 in
set_option maxRecDepth 100000 in
theorem jr_apply_err (jb mb n : Nat) (m : Int) (f : JF) (key id d : Bs) (v : ValS) (E : Int) (hky : keyRd key = (id, 0)) (hv : valDec d = (v, E)) (h0 : E ≠ 0) (hk1 : key.length ≤ 40100) (hid : id.length ≤ 1000000) (hd : d.length ≤ 1000000) {W0 w : World} {K : Know} {L : List Res} (h : St W0 w K (.raw jb #[.map (some mb), .int .i64 m] 57 :: .gen (jmap mb n f) :: L)) :
    Calls Tryd.prog 9 #[.pointer (some ⟨jb, 0, none⟩), .agg #[.string (bb key), .bool false, .string (bb d)]] w fun en w' => en = .returned (.int .i64 E) ∧ St W0 w' K (.raw jb #[.map (some mb), .int .i64 m] 57 :: .gen (jmap mb n f) :: L) := by
  obtain ⟨xb, hxb⟩ : ∃ b, w.heap.size = b := ⟨_, rfl⟩
  have g1 := h.allocRaw #[.string (bb key), .bool false, .string (bb d)] 36
  rw [hxb] at g1
  have x0 := (g1).rawCell 0; have x1 := (g1).rawCell 1; have x2 := (g1).rawCell 2; simp at x0 x1 x2
  have g2 := g1.p1.p2.p1
  have H := Lib.hid g2
  have HKL := Lib.hid (show key.length ≤ 40100 by omega)
  have HKY := Lib.hid hky
  have HV := Lib.hid hv
  have H0 := Lib.hid h0
  have HI := Lib.hid (show id.length ≤ 1000000 by omega)
  have HD := Lib.hid (show d.length ≤ 1000000 by omega)
  have e1 : (E == 0) = false := by rw [beq_eq_false_iff_ne]; exact h0
  have e2 : (E != 0) = true := by simp [bne, e1]
  clear h g1 g2 hky hk1 hv h0 hid hd
  go_enter Tryd.func9, Tryd.ntmps9
  go_wp2_with (first
    | (go_at_call 20; (try clear x0 x1 x2); (try clear c1 r1); (with_reducible refine (key_decode' key id 0 HKL.out HKY.out H.out).mono ?_); rintro e_ wn ⟨rfl, h⟩; have xx := h.p2; have x0 := (xx).rawCell 0; have x1 := (xx).rawCell 1; have x2 := (xx).rawCell 2; simp at x0 x1 x2; clear xx; replace H := Lib.hid h; clear h)
    | (go_at_call 21; (try clear x0 x1 x2); (try clear c1 r1); (with_reducible refine (jr_learn_err jb mb n m f id d v E HV.out H0.out HI.out HD.out H.out).mono ?_); rintro e_ wn ⟨rfl, h⟩; have xx := h.p2; have x0 := (xx).rawCell 0; have x1 := (xx).rawCell 1; have x2 := (xx).rawCell 2; simp at x0 x1 x2; clear xx; have c1 := h.rawCell 1; simp at c1; have r1 := h.rawFree 1; replace H := Lib.hid h; clear h))
  go_ret
  exact ⟨rfl, H.out.p2.drop⟩
set_option maxHeartbeats 4000000 in
set_option maxRecDepth 100000 in
theorem jr_apply_drop (jb mb n : Nat) (m : Int) (f : JF) (key id : Bs) (hky : keyRd key = (id, 0)) (hk1 : key.length ≤ 40100) (hid : id.length ≤ 1000000) (hm : 0 ≤ m) (hm2 : m ≤ 1000000) {W0 w : World} {K : Know} {L : List Res} (h : St W0 w K (.raw jb #[.map (some mb), .int .i64 m] 57 :: .gen (jmap mb n f) :: L)) :
    Calls Tryd.prog 9 #[.pointer (some ⟨jb, 0, none⟩), .agg #[.string (bb key), .bool true, .string (bb [])]] w fun en w' => en = .returned (.int .i64 0) ∧ St W0 w' K (.raw jb #[.map (some mb), .int .i64 (m + 1)] 57 :: .gen (jmap mb n (jset f id none)) :: L) := by
  obtain ⟨xb, hxb⟩ : ∃ b, w.heap.size = b := ⟨_, rfl⟩
  have g1 := h.allocRaw #[.string (bb key), .bool true, .string (bb [])] 36
  rw [hxb] at g1
  have x0 := (g1).rawCell 0; have x1 := (g1).rawCell 1; have x2 := (g1).rawCell 2; simp at x0 x1 x2
  have g2 := g1.p1.p2.p1
  have H := Lib.hid g2
  have HKL := Lib.hid (show key.length ≤ 40100 by omega)
  have HKY := Lib.hid hky
  have HI := Lib.hid (show id.length ≤ 1000000 by omega)
  clear h g1 g2 hky hk1 hid
  go_enter Tryd.func9, Tryd.ntmps9
  go_wp2_with (first
    | (go_at_call 20; (try clear x0 x1 x2); (try clear c1 r1); (with_reducible refine (key_decode' key id 0 HKL.out HKY.out H.out).mono ?_); rintro e_ wn ⟨rfl, h⟩; have xx := h.p2; have x0 := (xx).rawCell 0; have x1 := (xx).rawCell 1; have x2 := (xx).rawCell 2; simp at x0 x1 x2; clear xx; replace H := Lib.hid h; clear h)
    | (go_at_call 21; (try clear x0 x1 x2); (try clear c1 r1); (with_reducible refine (jr_learn_drop jb mb n m f id HI.out H.out).mono ?_); rintro e_ wn ⟨rfl, h⟩; have xx := h.p2; have x0 := (xx).rawCell 0; have x1 := (xx).rawCell 1; have x2 := (xx).rawCell 2; simp at x0 x1 x2; clear xx; have c1 := h.rawCell 1; simp at c1; have r1 := h.rawFree 1; replace H := Lib.hid h; clear h))
  go_ret
  exact ⟨rfl, (H.out.rawSet 1 (.int .i64 (m + 1))).p2.drop⟩
set_option maxHeartbeats 4000000 in
set_option maxRecDepth 100000 in
theorem jr_apply_put (jb mb n : Nat) (m : Int) (f : JF) (key id d : Bs) (p e t s u st : Int) (tops : List TopS) (hky : keyRd key = (id, 0)) (hv : valDec d = (⟨p, e, t, s, tops, u, st⟩, 0)) (hk1 : key.length ≤ 40100) (hid : id.length ≤ 1000000) (hd : d.length ≤ 1000000) (hn : n < 1000000) (hm : 0 ≤ m) (hm2 : m ≤ 1000000) {W0 w : World} {K : Know} {L : List Res} (h : St W0 w K (.raw jb #[.map (some mb), .int .i64 m] 57 :: .gen (jmap mb n f) :: L)) :
    Calls Tryd.prog 9 #[.pointer (some ⟨jb, 0, none⟩), .agg #[.string (bb key), .bool false, .string (bb d)]] w fun en w' => en = .returned (.int .i64 0) ∧ St W0 w' K (.raw jb #[.map (some mb), .int .i64 (m + 1)] 57 :: .gen (jmap mb (n + 1) (jset f id (some d))) :: L) := by
  obtain ⟨xb, hxb⟩ : ∃ b, w.heap.size = b := ⟨_, rfl⟩
  have g1 := h.allocRaw #[.string (bb key), .bool false, .string (bb d)] 36
  rw [hxb] at g1
  have x0 := (g1).rawCell 0; have x1 := (g1).rawCell 1; have x2 := (g1).rawCell 2; simp at x0 x1 x2
  have g2 := g1.p1.p2.p1
  have H := Lib.hid g2
  have HKL := Lib.hid (show key.length ≤ 40100 by omega)
  have HKY := Lib.hid hky
  have HI := Lib.hid (show id.length ≤ 1000000 by omega)
  have HD := Lib.hid (show d.length ≤ 1000000 by omega)
  have HV := Lib.hid hv
  have HN := Lib.hid hn
  clear h g1 g2 hky hk1 hid hd hv hn
  go_enter Tryd.func9, Tryd.ntmps9
  go_wp2_with (first
    | (go_at_call 20; (try clear x0 x1 x2); (try clear c1 r1); (with_reducible refine (key_decode' key id 0 HKL.out HKY.out H.out).mono ?_); rintro e_ wn ⟨rfl, h⟩; have xx := h.p2; have x0 := (xx).rawCell 0; have x1 := (xx).rawCell 1; have x2 := (xx).rawCell 2; simp at x0 x1 x2; clear xx; replace H := Lib.hid h; clear h)
    | (go_at_call 21; (try clear x0 x1 x2); (try clear c1 r1); (with_reducible refine (jr_learn_put jb mb n m f id d p e t s u st tops HV.out HI.out HD.out HN.out H.out).mono ?_); rintro e_ wn ⟨rfl, h⟩; have xx := h.p2; have x0 := (xx).rawCell 0; have x1 := (xx).rawCell 1; have x2 := (xx).rawCell 2; simp at x0 x1 x2; clear xx; have c1 := h.rawCell 1; simp at c1; have r1 := h.rawFree 1; replace H := Lib.hid h; clear h))
  go_ret
  exact ⟨rfl, (H.out.rawSet 1 (.int .i64 (m + 1))).p2.drop⟩

end Go.Proofs.YtmpehoebgifmnaaDoor
/- Values, there and back (pure). -/
namespace Go.Proofs.YtmpehoebgifmnaaDoor
open Go.RowKit

theorem sInt_back (n : Int) (k : Nat) (h1 : 1 ≤ k) (hf : fits n k) (R : Bs) : getIntN k (beBytes n k ++ R) = .ok (n, k) := by
  unfold getIntN
  have h4 := beBytes_length n k
  have hfit := hf.2.2
  rw [Int.toNat_natCast] at hfit
  have h5 := (sInt_beBytes_iff n k h1).2 hfit
  rw [if_neg (by rw [List.length_append]; omega), List.take_append_of_le_length (by omega), List.take_of_length_le (by omega), h5]
theorem cntP_back (each n : Nat) (X : Bs) (he : 0 < each) (hn : n < 2147483648) (hl : each * n ≤ X.length) : cntP each (beBytes n 4 ++ X) = .ok (n, 4) := by
  have h4 := beBytes_length (n : Int) 4
  have h5 : sInt (beBytes (n : Int) 4) = n := (sInt_beBytes_iff n 4 (by decide)).2 (vfits4 n (by omega)).2.2
  have h6 : (beBytes (n : Int) 4 ++ X).take 4 = beBytes (n : Int) 4 := by rw [List.take_append_of_le_length (by omega), List.take_of_length_le (by omega)]
  unfold cntP
  rw [h6, h5, if_neg (by rw [List.length_append]; omega), if_neg (by omega), if_neg (by
    rw [List.length_append, h4]
    have e : ((4 + X.length : Nat) : Int) - 4 = (X.length : Int) := by omega
    rw [e]
    have h7 : (n : Int) ≤ (X.length : Int) / (each : Int) := by
      rw [Int.le_ediv_iff_mul_le (by omega)]
      have h8 : (n : Int) * (each : Int) = ((each * n : Nat) : Int) := by rw [Nat.mul_comm]; exact (Int.natCast_mul _ _).symm
      omega
    omega)]
  simp
theorem intsB_back : ∀ (l : List Int) (R : Bs), (∀ n ∈ l, -2147483648 ≤ n ∧ n < 2147483648) → intsB l.length (be4s l ++ R) = l
  | [], R, _ => rfl
  | n :: l, R, h => by
    have h4 := beBytes_length n 4
    have h5 : sInt (beBytes n 4) = n := (sInt_beBytes_iff n 4 (by decide)).2 (vfits4 n (h n (by simp))).2.2
    have e : be4s (n :: l) ++ R = beBytes n 4 ++ (be4s l ++ R) := by
      show (List.flatMap _ (n :: l)) ++ R = _
      rw [List.flatMap_cons, List.append_assoc]
      rfl
    show sInt ((be4s (n :: l) ++ R).take 4) :: intsB l.length ((be4s (n :: l) ++ R).drop 4) = n :: l
    rw [e, List.take_append_of_le_length (by omega), List.take_of_length_le (by omega), h5, List.drop_append_of_le_length (by omega), List.drop_of_length_le (by omega), List.nil_append, intsB_back l R (fun m hm => h m (by simp [hm]))]
theorem partsP_back (l : List Int) (hn : l.length ≤ 1000000) (h : ∀ n ∈ l, -2147483648 ≤ n ∧ n < 2147483648) (R : Bs) : partsP (beBytes l.length 4 ++ be4s l ++ R) = .ok (l, (beBytes l.length 4 ++ be4s l).length) := by
  unfold partsP
  rw [List.append_assoc, cntP_back 4 l.length _ (by decide) (by omega) (by rw [List.length_append, be4s_len]; omega)]
  simp only
  have h4 := beBytes_length (l.length : Int) 4
  rw [List.drop_append_of_le_length (by omega), List.drop_of_length_le (by omega), List.nil_append, intsB_back l R h, List.length_append, h4, be4s_len]
theorem textP_back (d : Bs) (hd : d.length ≤ 32767) (R : Bs) : textP (encF 2 ⟨false, d⟩ ++ R) = .ok (d, (encF 2 ⟨false, d⟩).length) := by
  unfold textP
  rw [refixed_back 2 ⟨false, d⟩ (by simp [BlobS.right]) (vfits2 _ (by simp [BlobS.len]; omega)) R]
  simp
theorem topP_back (t : TopS) (h : t.Fit) (R : Bs) : topP (encT t ++ R) = .ok (t, (encT t).length) := by
  obtain ⟨nm, ps⟩ := t
  obtain ⟨h1, h2, h3⟩ := h
  unfold topP encT
  simp only
  rw [List.append_assoc, textP_back nm h1]
  simp only
  rw [List.drop_append_of_le_length (by omega), List.drop_of_length_le (by omega), List.nil_append, partsP_back ps h2 h3]
  simp only [List.length_append]
theorem topN_back : ∀ (l : List TopS) (R : Bs), (∀ t ∈ l, t.Fit) → topN l.length (l.flatMap encT ++ R) = .ok (l, (l.flatMap encT).length)
  | [], R, _ => rfl
  | t :: l, R, h => by
    have e : (t :: l).flatMap encT ++ R = encT t ++ (l.flatMap encT ++ R) := by rw [List.flatMap_cons, List.append_assoc]
    rw [e]
    show topN (l.length + 1) (encT t ++ (l.flatMap encT ++ R)) = _
    unfold topN
    rw [topP_back t (h t (by simp))]
    simp only
    rw [List.drop_append_of_le_length (by omega), List.drop_of_length_le (by omega), List.nil_append, topN_back l R (fun m hm => h m (by simp [hm]))]
    simp only [List.flatMap_cons, List.length_append]
theorem flat_least (l : List TopS) : 6 * l.length ≤ (l.flatMap encT).length := by
  induction l with
  | nil => simp
  | cons x m ih => rw [List.flatMap_cons, List.length_append, List.length_cons, encT_len]; omega
theorem topsP_back (l : List TopS) (h : FitTs l) (R : Bs) : topsP (encTs l ++ R) = .ok (l, (encTs l).length) := by
  have h4 := beBytes_length (l.length : Int) 4
  have hn := h.1
  have hl := flat_least l
  unfold topsP encTs
  rw [List.append_assoc, cntP_back 6 l.length _ (by decide) (by omega) (by rw [List.length_append]; omega)]
  simp only
  rw [List.drop_append_of_le_length (by omega), List.drop_of_length_le (by omega), List.nil_append, topN_back l R h.2]
  simp only [List.length_append, h4]
theorem step_back {α : Type} {f : InS → α × InS} {p : Bs → Except Int (α × Nat)} {d : α} (h : Rds f p d) (S A X R : Bs) (hS : S = A ++ X ++ R) (a : α) (k : Nat) (hk : X.length = k) (hp : p (X ++ R) = .ok (a, k)) : f ⟨S, A.length, 0⟩ = (a, ⟨S, (A ++ X).length, 0⟩) := by
  subst hS
  have h2 := (h.ok (A ++ X ++ R) A.length a k (by simp) (by rw [List.append_assoc, List.drop_append_of_le_length (by omega), List.drop_of_length_le (by omega), List.nil_append]; exact hp)).2
  rw [h2, List.length_append, hk]
theorem int_stepV (S A R : Bs) (n : Int) (k : Nat) (h1 : 1 ≤ k) (h8 : k ≤ 8) (hf : fits n k) (hS : S = A ++ beBytes n k ++ R) : (⟨S, A.length, 0⟩ : InS).int k = (n, ⟨S, (A ++ beBytes n k).length, 0⟩) :=
  step_back (rds_intN k h1 h8) S A _ R hS n k (beBytes_length n k) (sInt_back n k h1 hf R)
theorem valDec_back (v : ValS) (he : v.err = 0) (hR : v.R) (hf : FitTs v.tops) : valDec v.enc = (v, 0) := by
  obtain ⟨hp, ⟨hs1, hs2⟩, _⟩ := v.ok_parts he
  obtain ⟨q1, ⟨q2, q3⟩, ⟨q4, q5⟩, q6, q7⟩ := ranged_parts v hp
  obtain ⟨r1, r2, r3, r4, r5, r6⟩ := hR
  obtain ⟨S, hS⟩ : ∃ S, v.enc = S := ⟨_, rfl⟩
  obtain ⟨X0, hX0⟩ : ∃ X, beBytes 0 2 = X := ⟨_, rfl⟩
  obtain ⟨X1, hX1⟩ : ∃ X, beBytes v.prod 8 = X := ⟨_, rfl⟩
  obtain ⟨X2, hX2⟩ : ∃ X, beBytes v.epoch 2 = X := ⟨_, rfl⟩
  obtain ⟨X3, hX3⟩ : ∃ X, beBytes v.timeout 4 = X := ⟨_, rfl⟩
  obtain ⟨X4, hX4⟩ : ∃ X, beBytes v.state 1 = X := ⟨_, rfl⟩
  obtain ⟨X5, hX5⟩ : ∃ X, encTs v.tops = X := ⟨_, rfl⟩
  obtain ⟨X6, hX6⟩ : ∃ X, beBytes v.upd 8 = X := ⟨_, rfl⟩
  obtain ⟨X7, hX7⟩ : ∃ X, beBytes v.started 8 = X := ⟨_, rfl⟩
  obtain ⟨A2, hA2⟩ : ∃ A, X0 ++ X1 = A := ⟨_, rfl⟩
  obtain ⟨A3, hA3⟩ : ∃ A, A2 ++ X2 = A := ⟨_, rfl⟩
  obtain ⟨A4, hA4⟩ : ∃ A, A3 ++ X3 = A := ⟨_, rfl⟩
  obtain ⟨A5, hA5⟩ : ∃ A, A4 ++ X4 = A := ⟨_, rfl⟩
  obtain ⟨A6, hA6⟩ : ∃ A, A5 ++ X5 = A := ⟨_, rfl⟩
  obtain ⟨A7, hA7⟩ : ∃ A, A6 ++ X6 = A := ⟨_, rfl⟩
  obtain ⟨A8, hA8⟩ : ∃ A, A7 ++ X7 = A := ⟨_, rfl⟩
  have hSA : S = A8 := by rw [← hS, ← hA8, ← hA7, ← hA6, ← hA5, ← hA4, ← hA3, ← hA2, ← hX0, ← hX1, ← hX2, ← hX3, ← hX4, ← hX5, ← hX6, ← hX7]; rfl
  have e0 : S = ([] : Bs) ++ X0 ++ (X1 ++ (X2 ++ (X3 ++ (X4 ++ (X5 ++ (X6 ++ (X7))))))) := by rw [hSA, ← hA8, ← hA7, ← hA6, ← hA5, ← hA4, ← hA3, ← hA2]; all_goals simp only [List.append_assoc, List.append_nil, List.nil_append]
  have s0 : (⟨S, ([] : Bs).length, 0⟩ : InS).int 2 = (0, ⟨S, (([] : Bs) ++ X0).length, 0⟩) := by
    rw [← hX0] at e0 ⊢
    exact int_stepV S _ _ _ 2 (by decide) (by decide) (vfits2 _ (by omega)) e0
  have e1 : S = X0 ++ X1 ++ (X2 ++ (X3 ++ (X4 ++ (X5 ++ (X6 ++ (X7)))))) := by rw [hSA, ← hA8, ← hA7, ← hA6, ← hA5, ← hA4, ← hA3, ← hA2]; all_goals simp only [List.append_assoc, List.append_nil, List.nil_append]
  have s1 : (⟨S, X0.length, 0⟩ : InS).int 8 = (v.prod, ⟨S, (X0 ++ X1).length, 0⟩) := by
    rw [← hX1] at e1 ⊢
    exact int_stepV S _ _ _ 8 (by decide) (by decide) (vfits8 _ (by omega)) e1
  rw [hA2] at s1
  have e2 : S = A2 ++ X2 ++ (X3 ++ (X4 ++ (X5 ++ (X6 ++ (X7))))) := by rw [hSA, ← hA8, ← hA7, ← hA6, ← hA5, ← hA4, ← hA3, ← hA2]; all_goals simp only [List.append_assoc, List.append_nil, List.nil_append]
  have s2 : (⟨S, A2.length, 0⟩ : InS).int 2 = (v.epoch, ⟨S, (A2 ++ X2).length, 0⟩) := by
    rw [← hX2] at e2 ⊢
    exact int_stepV S _ _ _ 2 (by decide) (by decide) (vfits2 _ (by omega)) e2
  rw [hA3] at s2
  have e3 : S = A3 ++ X3 ++ (X4 ++ (X5 ++ (X6 ++ (X7)))) := by rw [hSA, ← hA8, ← hA7, ← hA6, ← hA5, ← hA4, ← hA3, ← hA2]; all_goals simp only [List.append_assoc, List.append_nil, List.nil_append]
  have s3 : (⟨S, A3.length, 0⟩ : InS).int 4 = (v.timeout, ⟨S, (A3 ++ X3).length, 0⟩) := by
    rw [← hX3] at e3 ⊢
    exact int_stepV S _ _ _ 4 (by decide) (by decide) (vfits4 _ (by omega)) e3
  rw [hA4] at s3
  have e4 : S = A4 ++ X4 ++ (X5 ++ (X6 ++ (X7))) := by rw [hSA, ← hA8, ← hA7, ← hA6, ← hA5, ← hA4, ← hA3, ← hA2]; all_goals simp only [List.append_assoc, List.append_nil, List.nil_append]
  have s4 : (⟨S, A4.length, 0⟩ : InS).int 1 = (v.state, ⟨S, (A4 ++ X4).length, 0⟩) := by
    rw [← hX4] at e4 ⊢
    exact int_stepV S _ _ _ 1 (by decide) (by decide) (vfits1 _ (by omega)) e4
  rw [hA5] at s4
  have e5 : S = A5 ++ X5 ++ (X6 ++ (X7)) := by rw [hSA, ← hA8, ← hA7, ← hA6, ← hA5, ← hA4, ← hA3, ← hA2]; all_goals simp only [List.append_assoc, List.append_nil, List.nil_append]
  have s5 : (⟨S, A5.length, 0⟩ : InS).tops = (v.tops, ⟨S, (A5 ++ X5).length, 0⟩) := by
    rw [← hX5] at e5 ⊢
    exact step_back rds_tops S _ _ _ e5 _ _ rfl (topsP_back _ hf _)
  rw [hA6] at s5
  have e6 : S = A6 ++ X6 ++ (X7) := by rw [hSA, ← hA8, ← hA7, ← hA6, ← hA5, ← hA4, ← hA3, ← hA2]; all_goals simp only [List.append_assoc, List.append_nil, List.nil_append]
  have s6 : (⟨S, A6.length, 0⟩ : InS).int 8 = (v.upd, ⟨S, (A6 ++ X6).length, 0⟩) := by
    rw [← hX6] at e6 ⊢
    exact int_stepV S _ _ _ 8 (by decide) (by decide) (vfits8 _ (by omega)) e6
  rw [hA7] at s6
  have e7 : S = A7 ++ X7 ++ ([]) := by rw [hSA, ← hA8, ← hA7, ← hA6, ← hA5, ← hA4, ← hA3, ← hA2]; all_goals simp only [List.append_assoc, List.append_nil, List.nil_append]
  have s7 : (⟨S, A7.length, 0⟩ : InS).int 8 = (v.started, ⟨S, (A7 ++ X7).length, 0⟩) := by
    rw [← hX7] at e7 ⊢
    exact int_stepV S _ _ _ 8 (by decide) (by decide) (vfits8 _ (by omega)) e7
  rw [hA8] at s7
  rw [List.nil_append] at s0
  have s0 : (⟨S, 0, 0⟩ : InS).int 2 = (0, ⟨S, X0.length, 0⟩) := s0
  have hI : decI S = ⟨S, X0.length, 0⟩ := by unfold decI; rw [s0]; rfl
  have hV := valF_eq s1 s2 s3 s4 s5 s6 s7
  have hL : (⟨S, A8.length, 0⟩ : InS).left = 0 := by
    subst hSA
    exact Nat.sub_self _
  have hC : (⟨S, A8.length, 0⟩ : InS).close = ⟨S, A8.length, 0⟩ := by unfold InS.close; rw [hL]; rfl
  have hE : decE S = 0 := by unfold decE; rw [hI, hV, hC]
  rw [hS]
  unfold valDec
  rw [hE, hI, hV]
  show (if (v.err ≠ 0) then _ else _) = _
  rw [he]
  rfl

end Go.Proofs.YtmpehoebgifmnaaDoor
/- Whether two rows of topics are one (pure). -/
namespace Go.Proofs.YtmpehoebgifmnaaDoor
open Go.RowKit

theorem tmap_take_succ (l : List (TopS × Value)) (k : Nat) (h : k < l.length) (x : TopS) (hx : l[k].1 = x) : (l.map (·.1)).take (k + 1) = (l.map (·.1)).take k ++ [x] := by
  have h2 : k < (l.map (·.1)).length := by simpa using h
  rw [List.take_succ_eq_append_getElem h2, List.getElem_map, hx]
theorem tmap_ne_of_get (l m : List (TopS × Value)) (k : Nat) (h1 : k < l.length) (h2 : k < m.length) (x y : TopS) (hx : l[k].1 = x) (hy : m[k].1 = y) (h : x ≠ y) : l.map (·.1) ≠ m.map (·.1) := by
  intro he
  apply h
  have e1 : (l.map (·.1))[k]? = some x := by rw [List.getElem?_map, List.getElem?_eq_getElem h1]; simp [hx]
  have e2 : (m.map (·.1))[k]? = some y := by rw [List.getElem?_map, List.getElem?_eq_getElem h2]; simp [hy]
  rw [he, e2] at e1
  simpa using e1.symm
theorem tmap_len_ne (l m : List (TopS × Value)) (h : l.length ≠ m.length) : l.map (·.1) ≠ m.map (·.1) := fun hh => h (by have := congrArg List.length hh; simpa using this)
/-- What is asked of topics that are laid beside others. -/
def LenT (l : List (TopS × Value)) : Prop := l.length ≤ 140737488355328 ∧ ∀ x ∈ l, x.1.parts.length ≤ 9223372036854775807

end Go.Proofs.YtmpehoebgifmnaaDoor
/- Values, there and back (pure). -/
namespace Go.Proofs.YtmpehoebgifmnaaDoor
open Go.RowKit

theorem flat_topWs (l : List TopS) : (l.flatMap encT).length = topWs l := by
  unfold topWs
  induction l with
  | nil => rfl
  | cons x m ih => rw [List.flatMap_cons, List.length_append, List.map_cons, List.sum_cons, ih, encT_len]; unfold topW; omega
theorem enc_lenV (v : ValS) : v.enc.length = 37 + topWs v.tops := by
  unfold ValS.enc encTs
  simp only [List.length_append, beBytes_length, flat_topWs]
  omega
theorem fewL_map {l : List (TopS × Value)} (h : FewT l) : FewL (l.map (·.1)) := by
  refine ⟨by rw [List.length_map]; exact h.1, fun x hx => ?_⟩
  obtain ⟨y, hy, rfl⟩ := List.mem_map.1 hx
  exact h.2 y hy
theorem fewT_map {l m : List (TopS × Value)} (h : FewT l) (he : m.map (·.1) = l.map (·.1)) : FewT m := fewT_of (by rw [he]; exact fewL_map h)
theorem lenT_of {l : List (TopS × Value)} (h : FewT l) : LenT l := ⟨by have := h.1; omega, fun x hx => by have := (h.2 x hx).2; omega⟩

end Go.Proofs.YtmpehoebgifmnaaDoor
/- Topics, written by definition. -/
namespace Go.Proofs.YtmpehoebgifmnaaDoor
open Go.RowKit

theorem preT_le2 (l : List TopS) (h : FitTs l) (k : Nat) (hk : k ≤ l.length) : (preT l k).length ≤ 100000000000000 := by
  have h1 := preT_le l h k hk
  have h2 := h.1
  omega
end Go.Proofs.YtmpehoebgifmnaaDoor
/- Values, encoded by definition. -/
namespace Go.Proofs.YtmpehoebgifmnaaDoor
open Go.RowKit

end Go.Proofs.YtmpehoebgifmnaaDoor
/- Values, checked by definition: the ways. -/
namespace Go.Proofs.YtmpehoebgifmnaaDoor
open Go.RowKit

end Go.Proofs.YtmpehoebgifmnaaDoor
/- Values, checked by definition. -/
namespace Go.Proofs.YtmpehoebgifmnaaDoor
open Go.RowKit

theorem idle_m (s : Int) (h1 : 1 ≤ s) (h2 : s ≤ 3) : idle s = false := by
  rcases (by omega : s = 1 ∨ s = 2 ∨ s = 3) with rfl | rfl | rfl <;> rfl
theorem idle_h (s : Int) (h1 : 4 ≤ s) : idle s = true := by
  unfold idle
  rw [beq_eq_false_iff_ne.2 (show s ≠ 1 by omega), beq_eq_false_iff_ne.2 (show s ≠ 2 by omega), beq_eq_false_iff_ne.2 (show s ≠ 3 by omega)]
  rfl
end Go.Proofs.YtmpehoebgifmnaaDoor
/- Values, for the law. -/
namespace Go.Proofs.YtmpehoebgifmnaaDoor
open Go.RowKit

theorem val_encode_okS (p e t s u st : Int) (l : List (TopS × Value)) (q : Option Addr) (cap : Nat) (tl : List TopS) (htl : l.map (·.1) = tl) (S : Bs) (hS : ValS.enc ⟨p, e, t, s, tl, u, st⟩ = S) (he : ValS.err ⟨p, e, t, s, tl, u, st⟩ = 0) (hR : ValS.R ⟨p, e, t, s, tl, u, st⟩) (hf : FewT l) {W0 w : World} {K : Know} {L : List Res} (hk : K.has (Know.tops (.slice q l.length cap) l)) (h : St W0 w K L) :
    Calls Tryd.prog 17 #[.agg #[.int .i64 p, .int .i64 e, .int .i64 t, .int .i64 s, .slice q l.length cap, .int .i64 u, .int .i64 st]] w fun en w' => en = .returned (.tuple #[.string (bb S), .int .i64 0]) ∧ St W0 w' K L := by
  subst hS; subst htl; exact val_encode_ok p e t s u st l q cap he hR hf hk h
theorem val_encode_badS (p e t s u st : Int) (l : List (TopS × Value)) (q : Option Addr) (cap : Nat) (tl : List TopS) (htl : l.map (·.1) = tl) (E : Int) (he : ValS.err ⟨p, e, t, s, tl, u, st⟩ = E) (h0 : E ≠ 0) (hf : FewT l) {W0 w : World} {K : Know} {L : List Res} (hk : K.has (Know.tops (.slice q l.length cap) l)) (h : St W0 w K L) :
    Calls Tryd.prog 17 #[.agg #[.int .i64 p, .int .i64 e, .int .i64 t, .int .i64 s, .slice q l.length cap, .int .i64 u, .int .i64 st]] w fun en w' => en = .returned (.tuple #[.string ⟨#[]⟩, .int .i64 E]) ∧ St W0 w' K L := by
  subst htl; exact val_encode_bad p e t s u st l q cap E he h0 hf hk h
theorem val_checkS (p e t s u st : Int) (l : List (TopS × Value)) (q : Option Addr) (cap : Nat) (tl : List TopS) (htl : l.map (·.1) = tl) (E : Int) (he : ValS.err ⟨p, e, t, s, tl, u, st⟩ = E) (hf : FewT l) {W0 w : World} {K : Know} {L : List Res} (hk : K.has (Know.tops (.slice q l.length cap) l)) (h : St W0 w K L) :
    Calls Tryd.prog 30 #[.agg #[.int .i64 p, .int .i64 e, .int .i64 t, .int .i64 s, .slice q l.length cap, .int .i64 u, .int .i64 st]] w fun en w' => en = .returned (.int .i64 E) ∧ St W0 w' K L := by
  subst htl; exact val_check ⟨p, e, t, s, l.map (·.1), u, st⟩ l q cap rfl E he hf hk h
end Go.Proofs.YtmpehoebgifmnaaDoor
/- Journals: entries made. -/
namespace Go.Proofs.YtmpehoebgifmnaaDoor
open Go.RowKit

theorem jr_bof (s : Bs) {W0 w : World} {K : Know} {L : List Res} (h : St W0 w K L) : Calls Tryd.prog 18 #[.string (bb s)] w fun en w' => en = .returned (.agg #[.bool false, .string (bb s)]) ∧ St W0 w' K L := blob_of s h
theorem jr_bno {W0 w : World} {K : Know} {L : List Res} (h : St W0 w K L) : Calls Tryd.prog 19 #[] w fun en w' => en = .returned (.agg #[.bool true, .string (bb [])]) ∧ St W0 w' K L := blob_none h
set_option maxHeartbeats 4000000 in
set_option maxRecDepth 100000 in
theorem jr_put (id key S : Bs) (hke : keyEnc id = (key, 0)) (hil : id.length ≤ 40000) (p e t s u st : Int) (l : List (TopS × Value)) (q : Option Addr) (cap : Nat) (tl : List TopS) (htl : l.map (·.1) = tl) (hS : ValS.enc ⟨p, e, t, s, tl, u, st⟩ = S) (he : ValS.err ⟨p, e, t, s, tl, u, st⟩ = 0) (hR : ValS.R ⟨p, e, t, s, tl, u, st⟩) (hf : FewT l) {W0 w : World} {K : Know} {L : List Res} (hk : K.has (Know.tops (.slice q l.length cap) l)) (h : St W0 w K L) :
    Calls Tryd.prog 7 #[.string (bb id), .agg #[.int .i64 p, .int .i64 e, .int .i64 t, .int .i64 s, .slice q l.length cap, .int .i64 u, .int .i64 st]] w fun en w' => en = .returned (.tuple #[.agg #[.string (bb key), .bool false, .string (bb S)], .int .i64 0]) ∧ St W0 w' K L := by
  obtain ⟨vb, hvb⟩ : ∃ b, w.heap.size = b := ⟨_, rfl⟩
  obtain ⟨rb, hrb⟩ : ∃ b, vb + 1 = b := ⟨_, rfl⟩
  have g1 := (h.allocRaw #[.int .i64 p, .int .i64 e, .int .i64 t, .int .i64 s, .slice q l.length cap, .int .i64 u, .int .i64 st] 29).allocRaw #[.string ⟨#[]⟩, .bool false, .string ⟨#[]⟩] 36
  simp only [World.size_alloc, hvb, hrb] at g1
  have c0 := (g1.p1).rawCell 0; have c1 := (g1.p1).rawCell 1; have c2 := (g1.p1).rawCell 2; have c3 := (g1.p1).rawCell 3; have c4 := (g1.p1).rawCell 4; have c5 := (g1.p1).rawCell 5; have c6 := (g1.p1).rawCell 6; simp at c0 c1 c2 c3 c4 c5 c6
  have d0 := (g1).rawCell 0; have d1 := (g1).rawCell 1; have d2 := (g1).rawCell 2; simp at d0 d1 d2; have r0 := (g1).rawFree 0; have r1 := (g1).rawFree 1; have r2 := (g1).rawFree 2
  have H := Lib.hid g1
  have HKE := Lib.hid hke
  have HIL := Lib.hid hil
  have HT := Lib.hid htl
  have HS := Lib.hid hS
  have HE := Lib.hid he
  have HR := Lib.hid hR
  have HF := Lib.hid hf
  have HK := Lib.hid hk
  clear h g1 hke hil htl hS he hR hf hk
  go_enter Tryd.func7, Tryd.ntmps7
  go_wp2_with (first
    | (go_at_call 16; clear c0 c1 c2 c3 c4 c5 c6 d0 d1 d2 r0 r1 r2; (with_reducible refine (key_encode' id key 0 HIL.out HKE.out H.out).mono ?_); rintro e_ wn ⟨rfl, h⟩; have c0 := (h.p1).rawCell 0; have c1 := (h.p1).rawCell 1; have c2 := (h.p1).rawCell 2; have c3 := (h.p1).rawCell 3; have c4 := (h.p1).rawCell 4; have c5 := (h.p1).rawCell 5; have c6 := (h.p1).rawCell 6; simp at c0 c1 c2 c3 c4 c5 c6; have d0 := (h).rawCell 0; have d1 := (h).rawCell 1; have d2 := (h).rawCell 2; simp at d0 d1 d2; have r0 := (h).rawFree 0; have r1 := (h).rawFree 1; have r2 := (h).rawFree 2; replace H := Lib.hid h; clear h)
    | (go_at_call 17; clear c0 c1 c2 c3 c4 c5 c6 d0 d1 d2 r0 r1 r2; (with_reducible refine (val_encode_okS p e t s u st l q cap tl HT.out S HS.out HE.out HR.out HF.out HK.out H.out).mono ?_); rintro e_ wn ⟨rfl, h⟩; have d0 := (h).rawCell 0; have d1 := (h).rawCell 1; have d2 := (h).rawCell 2; simp at d0 d1 d2; have r0 := (h).rawFree 0; have r1 := (h).rawFree 1; have r2 := (h).rawFree 2; replace H := Lib.hid h; clear h)
    | (go_at_call 18; clear d0 d1 d2 r0 r1 r2; (with_reducible refine (jr_bof S H.out).mono ?_); rintro e_ wn ⟨rfl, h⟩; have d0 := (h).rawCell 0; have d1 := (h).rawCell 1; have d2 := (h).rawCell 2; simp at d0 d1 d2; have r0 := (h).rawFree 0; have r1 := (h).rawFree 1; have r2 := (h).rawFree 2; replace H := Lib.hid h; clear h))
  have hz : St W0 _ K (.raw rb #[.string (bb key), .bool false, .string (bb S)] 36 :: _) := ((H.out.rawSet 0 (.string (bb key))).rawSet 1 (.bool false)).rawSet 2 (.string (bb S))
  refine bodyPost_ret (rc_cell_tmp rfl _ _ rb [.string (bb key), .bool false, .string (bb S)] _ rfl (rc_range hz) Tryd.underlying36 rfl (by kernel_rfl)) rfl ?_
  exact ⟨rfl, hz.drop.drop⟩
set_option maxHeartbeats 4000000 in
set_option maxRecDepth 100000 in
theorem jr_drop (id key : Bs) (hke : keyEnc id = (key, 0)) (hil : id.length ≤ 40000) {W0 w : World} {K : Know} {L : List Res} (h : St W0 w K L) :
    Calls Tryd.prog 8 #[.string (bb id)] w fun en w' => en = .returned (.tuple #[.agg #[.string (bb key), .bool true, .string (bb [])], .int .i64 0]) ∧ St W0 w' K L := by
  obtain ⟨rb, hrb⟩ : ∃ b, w.heap.size = b := ⟨_, rfl⟩
  have g1 := h.allocRaw #[.string ⟨#[]⟩, .bool false, .string ⟨#[]⟩] 36
  rw [hrb] at g1
  have d0 := (g1).rawCell 0; have d1 := (g1).rawCell 1; have d2 := (g1).rawCell 2; simp at d0 d1 d2; have r0 := (g1).rawFree 0; have r1 := (g1).rawFree 1; have r2 := (g1).rawFree 2
  have H := Lib.hid g1
  have HKE := Lib.hid hke
  have HIL := Lib.hid hil
  clear h g1 hke hil
  go_enter Tryd.func8, Tryd.ntmps8
  go_wp2_with (first
    | (go_at_call 16; clear d0 d1 d2 r0 r1 r2; (with_reducible refine (key_encode' id key 0 HIL.out HKE.out H.out).mono ?_); rintro e_ wn ⟨rfl, h⟩; have d0 := (h).rawCell 0; have d1 := (h).rawCell 1; have d2 := (h).rawCell 2; simp at d0 d1 d2; have r0 := (h).rawFree 0; have r1 := (h).rawFree 1; have r2 := (h).rawFree 2; replace H := Lib.hid h; clear h)
    | (go_at_call 19; clear d0 d1 d2 r0 r1 r2; (with_reducible refine (jr_bno H.out).mono ?_); rintro e_ wn ⟨rfl, h⟩; have d0 := (h).rawCell 0; have d1 := (h).rawCell 1; have d2 := (h).rawCell 2; simp at d0 d1 d2; have r0 := (h).rawFree 0; have r1 := (h).rawFree 1; have r2 := (h).rawFree 2; replace H := Lib.hid h; clear h))
  have hz : St W0 _ K (.raw rb #[.string (bb key), .bool true, .string (bb [])] 36 :: _) := ((H.out.rawSet 0 (.string (bb key))).rawSet 1 (.bool true)).rawSet 2 (.string (bb []))
  refine bodyPost_ret (rc_cell_tmp rfl _ _ rb [.string (bb key), .bool true, .string (bb [])] _ rfl (rc_range hz) Tryd.underlying36 rfl (by kernel_rfl)) rfl ?_
  exact ⟨rfl, hz.drop⟩

end Go.Proofs.YtmpehoebgifmnaaDoor
/- What the law keeps of journals (pure). -/
namespace Go.Proofs.YtmpehoebgifmnaaDoor
open Go.RowKit

/-- What is known of one, as the law keeps it. -/
structure KnR where
  id : Bs
  p : Int
  e : Int
  t : Int
  s : Int
  u : Int
  st : Int
  tl : List (TopS × Value)
  q : Option Addr
  cap : Nat
def kcells (x : KnR) : List Value := [.string (bb x.id), .int .i64 x.p, .int .i64 x.e, .int .i64 x.t, .int .i64 x.s, .slice x.q x.tl.length x.cap, .int .i64 x.u, .int .i64 x.st]
def RKn (cs : List Value) (x : KnR) : Prop := cs = kcells x
def Know.kns (v : Value) (l : List KnR) : Know := (Know.flat RKn v 8 l).and (Know.all l fun x => Know.tops (.slice x.q x.tl.length x.cap) x.tl)
theorem kns_flat {K : Know} {v : Value} {l : List KnR} (h : K.has (Know.kns v l)) : K.has (Know.flat RKn v 8 l) := fun w F x => (h w F x).1
theorem kns_tops {K : Know} {v : Value} {l : List KnR} (h : K.has (Know.kns v l)) {x : KnR} (hx : x ∈ l) : K.has (Know.tops (.slice x.q x.tl.length x.cap) x.tl) := fun w F y => (h w F y).2 x hx
theorem St.freezeKns {W0 w : World} {K : Know} {L : List Res} {v : Value} {T : TypeId} {l : List KnR} (h : St W0 w K (.row v T 8 l.length (l.flatMap kcells) :: L)) (ht : ∀ x ∈ l, K.has (Know.tops (.slice x.q x.tl.length x.cap) x.tl)) : St W0 w (K.and (Know.kns v l)) L := by
  have hf := h.freezeRow (R := RKn) (fun x _ => ⟨rfl, rfl⟩)
  exact hf.know (K' := K.and (Know.kns v l)) (fun w F hh => ⟨hh.1, hh.2, fun x hx => ht x hx _ _ hh.1⟩)
theorem kns_at {W0 w : World} {K : Know} {L : List Res} {q : Option Addr} {n cap : Nat} {l : List KnR} (hk : K.has (Know.kns (.slice q n cap) l)) (h : St W0 w K L) (h0 : 0 < l.length) : ∃ b off, q = some ⟨b, off, none⟩ := by
  obtain ⟨F, hF, _⟩ := h.get
  obtain ⟨q2, cap2, hv, hr⟩ := (kns_flat hk _ _ hF).at
  obtain ⟨b, off, hq, _⟩ := hr h0
  simp at hv
  exact ⟨b, off, hv.1.trans hq⟩
theorem kns_cell {W0 w : World} {K : Know} {L : List Res} {b off n cap : Nat} {l : List KnR} (hk : K.has (Know.kns (.slice (some ⟨b, off, none⟩) n cap) l)) (h : St W0 w K L) (i : Nat) (hi : i < l.length) (x : KnR) (hx : l[i] = x) :
    w.cell? ⟨b, off + i * 8, none⟩ = some (.string (bb x.id)) ∧ w.cell? ⟨b, off + i * 8 + 1, none⟩ = some (.int .i64 x.p) ∧ w.cell? ⟨b, off + i * 8 + 2, none⟩ = some (.int .i64 x.e) ∧ w.cell? ⟨b, off + i * 8 + 3, none⟩ = some (.int .i64 x.t) ∧ w.cell? ⟨b, off + i * 8 + 4, none⟩ = some (.int .i64 x.s) ∧ w.cell? ⟨b, off + i * 8 + 5, none⟩ = some (.slice x.q x.tl.length x.cap) ∧ w.cell? ⟨b, off + i * 8 + 6, none⟩ = some (.int .i64 x.u) ∧ w.cell? ⟨b, off + i * 8 + 7, none⟩ = some (.int .i64 x.st) := by
  subst hx
  obtain ⟨F, hF, _⟩ := h.get
  obtain ⟨q2, cap2, hv, hr⟩ := (kns_flat hk _ _ hF).at
  obtain ⟨b2, off2, hq, hc⟩ := hr (by omega)
  rw [hq] at hv
  simp at hv
  obtain ⟨⟨rfl, rfl⟩, _, _⟩ := hv
  obtain ⟨cs, _, hR, hcs⟩ := hc i hi
  unfold RKn at hR
  subst hR
  exact ⟨hcs 0 _ rfl, by rw [Nat.add_assoc]; exact hcs 1 _ rfl, by rw [Nat.add_assoc]; exact hcs 2 _ rfl, by rw [Nat.add_assoc]; exact hcs 3 _ rfl, by rw [Nat.add_assoc]; exact hcs 4 _ rfl, by rw [Nat.add_assoc]; exact hcs 5 _ rfl, by rw [Nat.add_assoc]; exact hcs 6 _ rfl, by rw [Nat.add_assoc]; exact hcs 7 _ rfl⟩
theorem elem_je : ElemT Tryd.prog 36 (.agg #[.string ⟨#[]⟩, .bool false, .string ⟨#[]⟩]) 3 40 := elemT_of (by kernel_rfl) rfl (by decide)
/-- Without one. -/
def kout (l : List KnR) (id : Bs) : List KnR := l.filter fun x => !(x.id == id)
theorem kout_step (l : List KnR) (id : Bs) (k : Nat) (hk : k < l.length) (x : KnR) (hx : l[k] = x) : kout (l.take (k + 1)) id = kout (l.take k) id ++ (if x.id == id then [] else [x]) := by
  unfold kout
  rw [List.take_succ_eq_append_getElem hk, List.filter_append, hx]
  cases hb : x.id == id <;> simp [List.filter, hb]
theorem kout_le (l : List KnR) (id : Bs) : (kout l id).length ≤ l.length := List.length_filter_le _ _

end Go.Proofs.YtmpehoebgifmnaaDoor
